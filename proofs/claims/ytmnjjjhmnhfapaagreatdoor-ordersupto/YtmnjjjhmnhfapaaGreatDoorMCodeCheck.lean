import Derived.Test.YtmnjjjhmnhfapaaGreatDoorMCodeWeigh
import Derived.Test.YtmnjjjhmnhfapaaGreatDoorMCodeMakeup
import Derived.Test.YtmnjjjhmnhfapaaGreatDoorMSortMem
namespace Go.Proofs.YtmnjjjhmnhfapaaGreatDoor
open Go.RowKit

theorem lineAns.since {r : Option Tm.Ln} {lns : List Tm.Ln} {base bd bm : Nat} {line : Int} {w w1 : World} {e : Ending} {w' : World} (h : lineAns r lns base bd bm line w1 e w') (hb : Below w.heap.size w w1) (hB : base ≤ w.heap.size) : lineAns r lns base bd bm line w e w' := by
  unfold lineAns at *
  have hs := hb.size
  split
  · exact ⟨h.1, hb.trans (h.2.mono hs)⟩
  · simp only at h
    split
    · rename_i ht; rw [if_pos ht] at h; exact ⟨h.1, hb.trans (h.2.mono hs)⟩
    · rename_i ht
      rw [if_neg ht] at h
      split
      · rename_i hg; rw [if_pos hg] at h; exact ⟨h.1, hb.trans (h.2.mono hs)⟩
      · rename_i hg; rw [if_neg hg] at h; exact ⟨h.1, (Sole.of (hb.mono hB)).trans h.2.1, h.2.2⟩

theorem lineAns_ends {r : Option Tm.Ln} {lns : List Tm.Ln} {base bd bm : Nat} {line : Int} {w : World} {e : Ending} {w' : World} (h : lineAns r lns base bd bm line w e w') : e = .returned (.tuple #[]) ∨ ∃ q, tells e q := by
  unfold lineAns at h
  split at h
  · exact .inr ⟨1, h.1⟩
  · split at h
    · exact .inr ⟨2, h.1⟩
    · split at h
      · exact .inr ⟨4, h.1⟩
      · exact .inl h.1

/-- What stands behind the first word. -/
theorem Reads.rest {w : World} {g off n cap : Nat} {b : ByteArray} {bs : List ByteArray} (h : Reads w (.slice (some ⟨g, off, none⟩) n cap) 1 (b :: bs).length ((b :: bs).map Value.string)) :
    Reads w (.slice (if cap = 1 then some ⟨g, off, none⟩ else some ⟨g, off + 1, none⟩) ((b :: bs).length - 1) (cap - 1)) 1 bs.length (bs.map Value.string) := by
  by_cases hc : cap = 1
  · rw [if_pos hc]
    have hf := h.fits
    have h0 : bs = [] := List.eq_nil_of_length_eq_zero (by have := hf.2.1; simp at this; omega)
    subst h0
    subst hc
    exact ⟨rfl, fun g' hg' => h.2.1 g' (by simpa [Value.ownBlock] using hg'), _, _, rfl, ⟨Nat.le_refl _, Nat.zero_le _⟩, by simp⟩
  · rw [if_neg hc]
    exact h.behind (k := 1) (by simp)

/-- Does a line say nothing? -/
def quietLine (x : List UInt8) : Bool := decide (x.head? = none ∨ x.head? = some 35)
/-- What reading a line that may say nothing comes to. -/
def lineAns2 (x : List UInt8) (lns : List Tm.Ln) (base bd bm : Nat) (line : Int) (w : World) (e : Ending) (w' : World) : Prop :=
  if quietLine x = true then e = .returned (.tuple #[]) ∧ w' = w else lineAns (Tm.parse x line) lns base bd bm line w e w'

theorem parse_other {n : Int} {k : List UInt8} {ws : List (List UInt8)} (h1 : k ≠ [99]) (h2 : k ≠ [100]) (h3 : k ≠ [119]) : Tm.parseWords n (k :: ws) = none := by
  rw [Tm.parse_nosign h3]
  have : Tm.fits k (ws.map Tm.num) 0 false = false := by
    unfold Tm.fits
    rw [if_neg h1, if_neg h2, if_neg h3]
  rw [this]; simp
theorem kind_yes {b : ByteArray} {c : UInt8} (h : (b.toList == [c]) = true) : b.data.toList = [c] := by
  rw [ByteArray.toList_eq] at h; simpa using h
theorem kind_no {b : ByteArray} {c : UInt8} (h : (b.toList == [c]) = false) : b.data.toList ≠ [c] := by
  rw [ByteArray.toList_eq] at h; simpa using h

set_option maxRecDepth 100000 in
set_option maxHeartbeats 2000000 in
theorem readLine_any (s : ByteArray) (col : Nat → Int) (base bd bm : Nat) (line : Int) (vp vw : Value) (lns : List Tm.Ln) (w : World) (hs : s.size ≤ 8192)
    (hrep : Rep w col base bd bm line vp vw lns) (hn : lns.length ≤ 8192) :
    Calls Tryz.prog 153 #[.pointer (some ⟨bd, 0, none⟩), .string s] w fun e w' => lineAns2 s.data.toList lns base bd bm line w e w' := by
  by_cases h0 : s.size = 0
  · have he : s = ⟨#[]⟩ := by
      cases s with
      | mk a => congr 1; exact Array.eq_empty_of_size_eq_zero h0
    subst he
    clear hrep
    go_enter Tryz.func153, Tryz.ntmps153
    go_wp2
    go_end0
    exact ⟨rfl, rfl⟩
  have hpos : 0 < s.size := by omega
  have hh := head_of s hpos
  have hne : (s.toList == []) = false := by
    rw [ByteArray.toList_eq, beq_eq_false_iff_ne]
    intro e
    have := len_bytes s
    rw [e] at this
    simp at this; omega
  cases hx : ((s[0].toNat : Int) == 35)
  case true =>
    have HQ : Hid (quietLine s.data.toList = true) := by
      unfold Hid quietLine
      rw [hh, decide_eq_true_iff]
      right
      congr 1
      apply UInt8.toNat_inj.1
      have : (s[0].toNat : Int) = 35 := by simpa using hx
      have : s[0].toNat = 35 := by omega
      rw [this]; rfl
    clear hrep hh
    go_enter Tryz.func153, Tryz.ntmps153
    go_wp2
    go_end0
    unfold lineAns2
    rw [if_pos HQ.out]
    exact ⟨rfl, rfl⟩
  have HQ : Hid (quietLine s.data.toList = false) := by
    unfold Hid quietLine
    rw [hh, decide_eq_false_iff_not]
    rintro (h | h)
    · cases h
    · have e := Option.some.inj h
      rw [e] at hx
      exact absurd hx (by decide)
  have HREP := hide hrep
  clear hrep hh
  go_enter Tryz.func153, Tryz.ntmps153
  go_wp2_with fail
  refine (Split_one s 32 _ hs).mono ?_
  rintro e w1 ⟨v, bs, rfl, hrd, hsp, hbl, hb1⟩
  have hsz := word_sizes hsp (by omega)
  have hlen : bs.length ≤ 8193 := by
    have h1 := Tm.split_count 32 s.data.toList
    rw [← hsp, List.length_map, len_bytes] at h1
    omega
  have hne2 : bs ≠ [] := by
    intro e
    subst e
    exact Tm.split_ne 32 s.data.toList hsp.symm
  obtain ⟨b0, rest, rfl⟩ : ∃ b r, bs = b :: r := by
    cases bs with
    | nil => exact absurd rfl hne2
    | cons b r => exact ⟨b, r, rfl⟩
  have HP : Hid (Tm.parse s.data.toList line = Tm.parseWords line (b0.data.toList :: lets rest)) := by
    unfold Hid Tm.parse
    rw [← hsp]; rfl
  have HR1 : Hid (Rep w1 col base bd bm line vp vw lns) := HREP.out.below hb1
  have HB1 := hide hb1
  have HBW : Hid (base ≤ w.heap.size) := by have h1 := HREP.out.dr.from_; have h2 := HREP.out.dr.lt; unfold Hid; omega
  obtain ⟨g, off, cap, rfl, hg, hc⟩ := hrd.form (by simp)
  have c0 := hc 0 _ rfl
  rw [Nat.add_zero] at c0
  have hfit := hrd.fits
  have hc1 : 1 ≤ cap := by have := hfit.2.1; simp at this; omega
  have hc2 : cap ≤ 9223372036854775807 := by have := hfit.2.2; unfold maxLen at this; omega
  have hc3 : rest.length + 1 ≤ cap := by have := hfit.2.1; simpa using this
  have HRD := hide hrd.rest
  have HZR : Hid (∀ b ∈ rest, b.size ≤ 8192) := fun b hb => Nat.le_trans (hsz b (by simp [hb])) (by omega)
  have hrl : rest.length ≤ 8193 := by simp at hlen; omega
  clear hrd hsp hbl hsz hlen hne2 hc hfit hb1
  have HFIN : Hid (∀ (e : Ending) (w' : World), lineAns (Tm.parseWords line (b0.data.toList :: lets rest)) lns base bd bm line w1 e w' → lineAns2 s.data.toList lns base bd bm line w e w') := by
    intro e w' h
    unfold lineAns2
    rw [if_neg (by rw [HQ.out]; simp), HP.out]
    exact h.since HB1.out HBW.out
  cases k1 : (b0.toList == [99])
  case true =>
    have hk := kind_yes k1
    rw [hk] at HFIN
    go_wp2_with fail
    all_goals
      refine (readRank_any _ rest col base bd bm line vp vw lns _ (by have h := HRD.out; simpa [*] using h) HZR.out HR1.out hn).mono ?_
      rintro e w2 hans
      have HA := hide (HFIN.out _ _ hans)
      rcases lineAns_ends hans with rfl | ⟨q, ht⟩
      · clear hans
        go_wp2
        go_end0
        exact HA.out
      · obtain rfl : e = _ := ht
        clear hans
        go_wp2
        exact ⟨rfl, HA.out⟩
  cases k2 : (b0.toList == [100])
  case true =>
    have hk := kind_yes k2
    rw [hk] at HFIN
    go_wp2_with fail
    all_goals
      refine (readMakeup_any _ rest col base bd bm line vp vw lns _ (by have h := HRD.out; simpa [*] using h) hrl HZR.out HR1.out hn).mono ?_
      rintro e w2 hans
      have HA := hide (HFIN.out _ _ hans)
      rcases lineAns_ends hans with rfl | ⟨q, ht⟩
      · clear hans
        go_wp2
        go_end0
        exact HA.out
      · obtain rfl : e = _ := ht
        clear hans
        go_wp2
        exact ⟨rfl, HA.out⟩
  cases k3 : (b0.toList == [119])
  case true =>
    have hk := kind_yes k3
    rw [hk] at HFIN
    go_wp2_with fail
    all_goals
      refine (readWeighing_any _ rest col base bd bm line vp vw lns _ (by have h := HRD.out; simpa [*] using h) hrl HZR.out HR1.out hn).mono ?_
      rintro e w2 hans
      have HA := hide (HFIN.out _ _ hans)
      rcases lineAns_ends hans with rfl | ⟨q, ht⟩
      · clear hans
        go_wp2
        go_end0
        exact HA.out
      · obtain rfl : e = _ := ht
        clear hans
        go_wp2
        exact ⟨rfl, HA.out⟩
  have HN := hide (parse_other (n := line) (ws := lets rest) (kind_no k1) (kind_no k2) (kind_no k3))
  go_wp2
  exact ⟨rfl, HFIN.out _ _ (lineAns_none HN.out rfl (Below.refl _ _))⟩
end Go.Proofs.YtmnjjjhmnhfapaaGreatDoor
namespace Go.Proofs.YtmnjjjhmnhfapaaGreatDoor
open Go.RowKit

/-- The draft stands at another line. -/
theorem Rep.at_line {w : World} {col : Nat → Int} {base bd bm : Nat} {line : Int} {vp vw : Value} {lns : List Tm.Ln} (h : Rep w col base bd bm line vp vw lns) (n : Int) : Rep (w.setCell ⟨bd, 1, none⟩ (.int .i64 n)) col base bd bm n vp vw lns := by
  have k : Keeps w (w.setCell ⟨bd, 1, none⟩ (.int .i64 n)) col col (· ≠ -3) :=
    ⟨by simp [World.setCell], fun g hg hc => Below.heap_setCell _ _ _ _ (by simp only; intro e; subst e; exact hc h.dr.hue), fun _ _ => rfl⟩
  refine ⟨⟨h.dr.hue, h.dr.from_, by simpa [World.setCell] using h.dr.lt, ?_, ?_, ?_, ?_, fun q => ?_⟩, h.nd.keep k (by decide) (by decide) (fun r hr => by omega), h.pt.keep k (by decide), h.wt.keep k (by decide) (by decide), h.fit, h.low⟩
  · rw [World.cell?_setCell_other _ _ _ _ (by simp)]; exact h.dr.c0
  · exact World.cell?_setCell_same _ _ _ h.dr.c1
  · rw [World.cell?_setCell_other _ _ _ _ (by simp)]; exact h.dr.c2
  · rw [World.cell?_setCell_other _ _ _ _ (by simp)]; exact h.dr.c3
  · rw [World.frozen?_setCell]; exact h.dr.free q

theorem lineAns2_cases {x : List UInt8} {lns : List Tm.Ln} {col : Nat → Int} {base bd bm : Nat} {line : Int} {vp vw : Value} {w : World} {e : Ending} {w' : World} (hrep : Rep w col base bd bm line vp vw lns) (h : lineAns2 x lns base bd bm line w e w') :
    (e = .returned (.tuple #[]) ∧ ∃ lns', (∀ r, Tm.readLines lns line (x :: r) = Tm.readLines lns' (line + 1) r) ∧ lns'.length ≤ lns.length + 1 ∧ Sole base bm w w' ∧ ∃ col vp vw, Rep w' col base bd bm line vp vw lns') ∨
    (∃ q, tells e q ∧ (∀ r, Tm.readLines lns line (x :: r) = (lns, some (line, q))) ∧ Below w.heap.size w w') := by
  unfold lineAns2 at h
  by_cases hq : quietLine x = true
  · rw [if_pos hq] at h
    obtain ⟨rfl, rfl⟩ := h
    exact .inl ⟨rfl, lns, fun r => Tm.readLines_skip (by simpa [quietLine] using hq), by omega, Sole.refl _ _ _, _, _, _, hrep⟩
  · rw [if_neg hq] at h
    have hq' : ¬ (x.head? = none ∨ x.head? = some 35) := by simpa [quietLine] using hq
    unfold lineAns at h
    cases hp : Tm.parse x line with
    | none =>
      rw [hp] at h
      exact .inr ⟨1, h.1, fun r => Tm.readLines_bad hq' hp, h.2⟩
    | some l =>
      rw [hp] at h
      simp only at h
      by_cases ht : Tm.twice lns l = true
      · rw [if_pos ht] at h
        exact .inr ⟨2, h.1, fun r => Tm.readLines_twice hq' hp ht, h.2⟩
      · rw [if_neg ht] at h
        have ht' : Tm.twice lns l = false := by simpa using ht
        by_cases hg : l.els.any Tm.lightEl = true
        · rw [if_pos hg] at h
          exact .inr ⟨4, h.1, fun r => Tm.readLines_light hq' hp ht' hg, h.2⟩
        · rw [if_neg hg] at h
          exact .inl ⟨h.1, lns ++ [l], fun r => Tm.readLines_ok hq' hp ht' (by simpa using hg), by simp, h.2.1, h.2.2⟩

/-- What reading all lines comes to. -/
def linesAns (r : List Tm.Ln × Option (Int × Int)) (base bd bm : Nat) (w : World) (e : Ending) (w' : World) : Prop := match r with
  | (lns, none) => e = .returned (.tuple #[]) ∧ Sole base bm w w' ∧ lns.length ≤ 8192 ∧ ∃ col line vp vw, Rep w' col base bd bm line vp vw lns
  | (_, some (n, q)) => tells e q ∧ Sole base bm w w' ∧ w'.cell? ⟨bd, 1, none⟩ = some (.int .i64 n)
theorem linesAns_ok {r : List Tm.Ln × Option (Int × Int)} {lns : List Tm.Ln} {base bd bm : Nat} {w : World} {e : Ending} {w' : World} (h : r = (lns, none)) (he : e = .returned (.tuple #[])) (hb : Sole base bm w w') (hl : lns.length ≤ 8192) (hr : ∃ col line vp vw, Rep w' col base bd bm line vp vw lns) : linesAns r base bd bm w e w' := by
  subst h; exact ⟨he, hb, hl, hr⟩
theorem linesAns_no {r : List Tm.Ln × Option (Int × Int)} {lns : List Tm.Ln} {n q : Int} {base bd bm : Nat} {w : World} {e : Ending} {w' : World} (h : r = (lns, some (n, q))) (he : tells e q) (hb : Sole base bm w w') (hc : w'.cell? ⟨bd, 1, none⟩ = some (.int .i64 n)) : linesAns r base bd bm w e w' := by
  subst h; exact ⟨he, hb, hc⟩

theorem bytes_empty {s : ByteArray} (h : s.size = 0) : s = ⟨#[]⟩ := by
  cases s with
  | mk a => congr 1; exact Array.eq_empty_of_size_eq_zero h
theorem some_of {s : ByteArray} (h : 0 < s.size) : (s.toList == []) = false := by
  rw [ByteArray.toList_eq, beq_eq_false_iff_ne]
  intro e
  have := len_bytes s
  rw [e] at this
  simp at this; omega

set_option maxRecDepth 100000 in
set_option maxHeartbeats 2000000 in
theorem readLines_any (s : ByteArray) (col : Nat → Int) (base bd bm : Nat) (vp vw : Value) (w : World) (hs : s.size ≤ 8192) (hrep : Rep w col base bd bm 0 vp vw []) :
    Calls Tryz.prog 120 #[.pointer (some ⟨bd, 0, none⟩), .string s] w fun e w' => linesAns (Tm.readLines [] 1 (Tm.split 10 s.data.toList)) base bd bm w e w' := by
  have HREP := hide hrep
  clear hrep
  go_enter Tryz.func120, Tryz.ntmps120
  go_wp2
  go_loopw [4] (fun v wr => ∃ (s' : ByteArray) (k : Nat) (lns : List Tm.Ln) (col : Nat → Int) (vp vw : Value), v = .string s' ∧ k + s'.size ≤ s.size ∧ lns.length ≤ k ∧ Tm.readLines [] 1 (Tm.split 10 s.data.toList) = Tm.readLines lns ((k : Int) + 1) (Tm.split 10 s'.data.toList) ∧ Rep wr col base bd bm (k : Int) vp vw lns ∧ Sole base bm w wr) (fun v _ => match v with | .string b => b.size | _ => 0)
  case atStart => exact ⟨s, 0, [], _, _, _, rfl, by omega, by simp, rfl, HREP.out, Sole.refl _ _ _⟩
  case round =>
    obtain ⟨s', k, lns, col', vp', vw', rfl, hk, hln, hread, hrep, hb⟩ := hrel
    have HRD := hide hread
    have HR := hide hrep
    have HB := hide hb
    clear hread hrep hb
    by_cases h0 : s'.size = 0
    · obtain rfl := bytes_empty h0
      have HF : Hid (Tm.readLines [] 1 (Tm.split 10 s.data.toList) = (lns, none)) := by
        unfold Hid
        rw [HRD.out]
        rfl
      go_wp2
      go_end0
      exact linesAns_ok HF.out rfl HB.out (by omega) ⟨_, _, _, _, HR.out⟩
    have hne := some_of (s := s') (by omega)
    go_wp2_with fail
    refine (Cut_one s' 10 _ (by omega)).mono ?_
    rintro e w1 ⟨hans, nd, rfl⟩
    have d1 := HR.out.dr.c1
    have df := HR.out.dr.free 1
    have HBD : Hid (Below wr.heap.size wr (wr.drewN nd)) := ⟨rfl, rfl, rfl, Nat.le_refl _, fun _ _ => rfl⟩
    have HR1 := hide (HR.out.below HBD.out)
    have e1 := HR1.out.dr.c1
    have ef := HR1.out.dr.free 1
    have HB1 : Hid (Sole base bm w (wr.drewN nd)) := HB.out.then ⟨rfl, rfl, rfl, Nat.le_refl _, fun _ _ => rfl⟩
    generalize wr.drewN nd = w1 at *
    have hkk : (k : Int) + 1 ≤ 9223372036854775807 := by omega
    rcases hans with ⟨m, hm, rfl, hsp⟩ | ⟨rfl, hsp⟩
    · have HSP := hide hsp
      have hx1 : (s'.extract 0 m).size ≤ 8192 := by rw [ByteArray.size_extract]; omega
      have hx2 : (s'.extract (m + 1) s'.size).size < s'.size := by rw [ByteArray.size_extract]; omega
      have HX2 := hide hx2
      generalize s'.extract 0 m = text at *
      generalize s'.extract (m + 1) s'.size = rest at *
      clear hsp hx2
      go_wp2_with fail
      have HR2 := hide (HR1.out.at_line ((k : Int) + 1))
      refine (readLine_any text _ base bd bm ((k : Int) + 1) _ _ lns _ hx1 HR2.out (by omega)).mono ?_
      rintro e w2 hans
      rcases lineAns2_cases HR2.out hans with ⟨rfl, lns', hstep, hl', hb2, col2, vp2, vw2, hrep2⟩ | ⟨q, ht, hstep, hb2⟩
      · have HST := hide (hstep (Tm.split 10 rest.data.toList))
        have HB2 : Hid (Sole base bm w w2) := (HB1.out.setCell (p := ⟨bd, 1, none⟩) HR1.out.dr.from_ _).trans hb2
        have HR3 := hide hrep2
        clear hans hstep hb2 hrep2
        go_wp2
        go_roundw
        case rel => exact ⟨rest, k + 1, lns', col2, vp2, vw2, rfl, by have := HX2.out; omega, by omega, by rw [HRD.out, HSP.out, HST.out]; rfl, HR3.out, HB2.out⟩
        case measure => exact HX2.out
      · obtain rfl : e = _ := ht
        have HST := hide (hstep (Tm.split 10 rest.data.toList))
        have HB2 : Hid (Sole base bm w w2) := (HB1.out.setCell (p := ⟨bd, 1, none⟩) HR1.out.dr.from_ _).then (hb2.mono (by have h1 := HR2.out.dr.lt; have h2 := HR2.out.dr.from_; omega))
        have HC : Hid (w2.cell? ⟨bd, 1, none⟩ = some (.int .i64 ((k : Int) + 1))) := by unfold Hid; rw [hb2.cell (p := ⟨bd, 1, none⟩) HR2.out.dr.lt]; exact HR2.out.dr.c1
        clear hans hstep hb2
        go_wp2
        exact ⟨rfl, linesAns_no (by rw [HRD.out, HSP.out]; exact HST.out) rfl HB2.out HC.out⟩
    · have HSP := hide hsp
      clear hsp
      go_wp2_with fail
      have HR2 := hide (HR1.out.at_line ((k : Int) + 1))
      refine (readLine_any s' _ base bd bm ((k : Int) + 1) _ _ lns _ (by omega) HR2.out (by omega)).mono ?_
      rintro e w2 hans
      rcases lineAns2_cases HR2.out hans with ⟨rfl, lns', hstep, hl', hb2, col2, vp2, vw2, hrep2⟩ | ⟨q, ht, hstep, hb2⟩
      · have HST := hide (hstep [])
        have HB2 : Hid (Sole base bm w w2) := (HB1.out.setCell (p := ⟨bd, 1, none⟩) HR1.out.dr.from_ _).trans hb2
        have HR3 := hide hrep2
        clear hans hstep hb2 hrep2
        go_wp2
        go_roundw
        case rel => exact ⟨⟨#[]⟩, k + 1, lns', col2, vp2, vw2, rfl, by show k + 1 + 0 ≤ s.size; omega, by omega, by rw [HRD.out, HSP.out, HST.out]; rfl, HR3.out, HB2.out⟩
        case measure => show 0 < s'.size; omega
      · obtain rfl : e = _ := ht
        have HST := hide (hstep [])
        have HB2 : Hid (Sole base bm w w2) := (HB1.out.setCell (p := ⟨bd, 1, none⟩) HR1.out.dr.from_ _).then (hb2.mono (by have h1 := HR2.out.dr.lt; have h2 := HR2.out.dr.from_; omega))
        have HC : Hid (w2.cell? ⟨bd, 1, none⟩ = some (.int .i64 ((k : Int) + 1))) := by unfold Hid; rw [hb2.cell (p := ⟨bd, 1, none⟩) HR2.out.dr.lt]; exact HR2.out.dr.c1
        clear hans hstep hb2
        go_wp2
        exact ⟨rfl, linesAns_no (by rw [HRD.out, HSP.out]; exact HST.out) rfl HB2.out HC.out⟩
end Go.Proofs.YtmnjjjhmnhfapaaGreatDoor
namespace Go.Proofs.YtmnjjjhmnhfapaaGreatDoor
open Go.RowKit

/-- What a check of all lines comes to. -/
def checkAns (r : Option Tm.Ln) (q : Int) (lns : List Tm.Ln) (base bd bm : Nat) (w : World) (e : Ending) (w' : World) : Prop := match r with
  | none => e = .returned (.tuple #[]) ∧ Sole base bm w w' ∧ ∃ col line vp vw, Rep w' col base bd bm line vp vw lns
  | some o => tells e q ∧ Sole base bm w w' ∧ w'.cell? ⟨bd, 1, none⟩ = some (.int .i64 o.num)
theorem checkAns_ok {r : Option Tm.Ln} {q : Int} {lns : List Tm.Ln} {base bd bm : Nat} {w : World} {e : Ending} {w' : World} (h : r = none) (he : e = .returned (.tuple #[])) (hb : Sole base bm w w') (hr : ∃ col line vp vw, Rep w' col base bd bm line vp vw lns) : checkAns r q lns base bd bm w e w' := by
  subst h; exact ⟨he, hb, hr⟩
theorem checkAns_no {r : Option Tm.Ln} {o : Tm.Ln} {q : Int} {lns : List Tm.Ln} {base bd bm : Nat} {w : World} {e : Ending} {w' : World} (h : r = some o) (he : tells e q) (hb : Sole base bm w w') (hc : w'.cell? ⟨bd, 1, none⟩ = some (.int .i64 o.num)) : checkAns r q lns base bd bm w e w' := by
  subst h; exact ⟨he, hb, hc⟩

theorem find_more {l : List Tm.Ln} {p : Tm.Ln → Bool} {k : Nat} (h : (l.take k).find? p = none) (hk : k < l.length) (hx : p l[k] = false) : (l.take (k + 1)).find? p = none := by
  rw [List.take_succ_eq_append_getElem hk, List.find?_append, h]; simp [hx]
theorem find_here {l : List Tm.Ln} {p : Tm.Ln → Bool} {k : Nat} (h : (l.take k).find? p = none) (hk : k < l.length) (hx : p l[k] = true) : l.find? p = some l[k] := by
  have e : l.find? p = (l.take k ++ l.drop k).find? p := by rw [List.take_append_drop]
  rw [e, List.find?_append, h, List.drop_eq_getElem_cons hk, List.find?_cons, hx]; rfl

theorem parted_at {w : World} {col : Nat → Int} {base : Nat} {a : Option Addr} {m cap : Nat} {lns : List Tm.Ln} (h : Pt w col base (.slice a m cap) lns) {k : Nat} (hk : k < (Tm.dLines lns).length) :
    ∃ g off, a = some ⟨g, off, none⟩ ∧ g < w.heap.size ∧ w.cell? ⟨g, off + k * 2, none⟩ = some (.int .i64 (Tm.dLines lns)[k].num) ∧ w.cell? ⟨g, off + k * 2 + 1, none⟩ = some (.int .i64 ((Tm.dLines lns)[k].runes.getD 0 0)) := by
  have hlen : (partCells (Tm.dLines lns)).length = (Tm.dLines lns).length * 2 := h.1.1
  obtain ⟨g, off, cap', he, hg, hc⟩ := (Reads.of_owns h.1).form (by omega)
  cases he
  refine ⟨g, off, rfl, hg, ?_, ?_⟩
  · exact hc (k * 2) _ (by have := partCells_get hk (f := 0) (by omega); simpa using this)
  · exact hc (k * 2 + 1) _ (by have := partCells_get hk (f := 1) (by omega); simpa using this)

/-- Does a line's parts not end? -/
def loops (lns : List Tm.Ln) (o : Tm.Ln) : Bool := !Tm.ends lns 4 (o.runes.getD 0 0)
theorem loops_find (lns : List Tm.Ln) : (Tm.dLines lns).find? (loops lns) = lns.find? (Tm.badLoop lns) := by
  unfold Tm.dLines
  rw [List.find?_filter]
  congr 1
  funext o
  rw [Tm.badLoop_ends, loops]
  simp

set_option maxRecDepth 100000 in
set_option maxHeartbeats 2000000 in
theorem checkParts_any (lns : List Tm.Ln) (col : Nat → Int) (base bd bm : Nat) (line : Int) (vp vw : Value) (w : World) (hrep : Rep w col base bd bm line vp vw lns) (hn : lns.length ≤ 8192) :
    Calls Tryz.prog 121 #[.pointer (some ⟨bd, 0, none⟩)] w fun e w' => checkAns (lns.find? (Tm.badLoop lns)) 3 lns base bd bm w e w' := by
  obtain ⟨a, cap, rfl⟩ := (Reads.of_owns hrep.pt.1).shape
  have hdl := dLines_le lns
  have d2 := hrep.dr.c2
  have HREP := hide hrep
  clear hrep
  go_enter Tryz.func121, Tryz.ntmps121
  go_wp2
  go_loopw [9] (fun i wr => ∃ (k : Nat) (line' : Int), k ≤ (Tm.dLines lns).length ∧ i = .int .i64 k ∧ ((Tm.dLines lns).take k).find? (loops lns) = none ∧ Rep wr col base bd bm line' (.slice a (Tm.dLines lns).length cap) vw lns ∧ Sole base bm w wr) (fun i _ => (Tm.dLines lns).length - (intOf i).toNat)
  case atStart => exact ⟨0, line, Nat.zero_le _, rfl, by simp, HREP.out, Sole.refl _ _ _⟩
  case round =>
    obtain ⟨k, line', hk, rfl, hfind, hrep, hb⟩ := hrel
    have HR := hide hrep
    have HB := hide hb
    by_cases hlt : k < (Tm.dLines lns).length
    · obtain ⟨g, off, rfl, hg, c0, c1⟩ := parted_at hrep.pt hlt
      have HMORE := hide (fun hx => find_more (p := loops lns) hfind hlt hx)
      have HHERE := hide (fun hx => find_here (p := loops lns) hfind hlt hx)
      have hmem : (Tm.dLines lns)[k] ∈ lns := (List.mem_filter.1 (List.getElem_mem hlt)).1
      have hfit := hrep.fit _ hmem
      have hrr : 0 ≤ (Tm.dLines lns)[k].runes.getD 0 0 ∧ (Tm.dLines lns)[k].runes.getD 0 0 ≤ 1114111 := by
        cases hr : (Tm.dLines lns)[k].runes with
        | nil => exact absurd hr hfit.some
        | cons x y => exact hfit.rune x (by rw [hr]; simp)
      have e1 := hrep.dr.c1
      have ef := hrep.dr.free
      have e0 := hrep.dr.c0
      have el := hrep.dr.lt
      have bn : ¬ bd = wr.heap.size := by omega
      have bn' : ¬ wr.heap.size = bd := by omega
      have gn : ¬ g = wr.heap.size := by omega
      have HW : Hid (∀ n t : Int, Rep ((wr.setCell ⟨bd, 1, none⟩ (.int .i64 n)).alloc (.cells #[.int .i64 n, .int .i64 t] 234)) col base bd bm n (.slice (some ⟨g, off, none⟩) (Tm.dLines lns).length cap) vw lns) := fun n t => (HR.out.at_line n).below ((Below.refl _ _).alloc (Nat.le_refl _) _)
      have HWB : Hid (∀ n t : Int, Sole base bm w ((wr.setCell ⟨bd, 1, none⟩ (.int .i64 n)).alloc (.cells #[.int .i64 n, .int .i64 t] 234))) := fun n t => (HB.out.setCell (p := ⟨bd, 1, none⟩) HR.out.dr.from_ _).alloc (by have := HR.out.dr.from_; simp [World.setCell]; omega) _
      have hlo : loops lns (Tm.dLines lns)[k] = !Tm.ends lns 4 ((Tm.dLines lns)[k].runes.getD 0 0) := rfl
      rw [hlo] at HMORE HHERE
      generalize hnum : (Tm.dLines lns)[k].num = num at *
      generalize (Tm.dLines lns)[k].runes.getD 0 0 = top at *
      have HNUM := hide hnum
      clear hfind hrep hb hmem hfit hlo hnum
      go_wp2_with fail
      have HRW := hide (HW.out num top)
      have HBW := hide (HWB.out num top)
      have y0 := HRW.out.dr.c0
      have y1 := HRW.out.dr.c1
      have x1 : ((wr.setCell ⟨bd, 1, none⟩ (.int .i64 num)).alloc (.cells #[.int .i64 num, .int .i64 top] 234)).cell? ⟨wr.heap.size, 1, none⟩ = some (.int .i64 top) := by
        rw [cell_new (by simp [World.setCell])]; rfl
      generalize ((wr.setCell ⟨bd, 1, none⟩ (.int .i64 num)).alloc (.cells #[.int .i64 num, .int .i64 top] 234)) = wx at *
      cases hends : Tm.ends lns 4 top
      · have HN : Hid (lns.find? (Tm.badLoop lns) = some (Tm.dLines lns)[k]) := by unfold Hid; rw [← loops_find]; exact HHERE.out (by rw [hends]; rfl)
        clear HMORE HHERE
        go_region_dies
        all_goals go_wp2_with (go_at_call 155; refine (endsWithin_any lns HRW.out.fit bm 4 top _ (Nat.le_refl _) (HRW.out.nd.rd.below (Below.refl _ _).drew) hrr).mono ?_; rintro e w' ⟨rfl, rfl⟩)
        all_goals (refine wpAny_ready (rs := [7]) (by decide +kernel) (by simp) ?_; refine AllReady.cons rfl (fun K hK => ?_) ?_; go_simp; refine hK _ _ ?_; clear hK K; rotate_left; exact AllReady.nil)
        all_goals (refine wpAny_ready (rs := [8]) (by decide +kernel) (by simp) ?_; refine AllReady.cons rfl (fun K hK => ?_) ?_; go_simp; rotate_left; exact AllReady.nil)
        all_goals (go_at_call 154; refine (refuse_yes 3 _).mono ?_; rintro e w' ⟨rfl, rfl⟩; exact ⟨rfl, checkAns_no HN.out rfl HBW.out.drew (by rw [HNUM.out]; exact y1)⟩)
      · have HS := hide (HMORE.out (by rw [hends]; rfl))
        clear HMORE HHERE
        go_quiet (first | (go_at_call 155; refine Calls.quiet_of_same ((endsWithin_any lns HRW.out.fit bm 4 top _ (Nat.le_refl _) (HRW.out.nd.rd.below ⟨rfl, rfl, rfl, Nat.le_refl _, fun _ _ => rfl⟩) hrr))) | (go_at_call 154; refine Calls.quiet_of_same (refuse_no 3 _)))
        go_wp2
        go_roundw
        case rel => exact ⟨k + 1, num, by omega, by go_num, HS.out, HRW.out.below ⟨rfl, rfl, rfl, Nat.le_refl _, fun _ _ => rfl⟩, HBW.out.then ⟨rfl, rfl, rfl, Nat.le_refl _, fun _ _ => rfl⟩⟩
        case measure => simp [intOf]; omega
    · have HN : Hid (lns.find? (Tm.badLoop lns) = none) := by
        rw [List.take_of_length_le (by omega)] at hfind
        unfold Hid; rw [← loops_find]; exact hfind
      clear hfind hrep hb
      go_wp2
      go_end0
      exact checkAns_ok HN.out rfl HB.out ⟨_, _, _, _, HR.out⟩
end Go.Proofs.YtmnjjjhmnhfapaaGreatDoor
