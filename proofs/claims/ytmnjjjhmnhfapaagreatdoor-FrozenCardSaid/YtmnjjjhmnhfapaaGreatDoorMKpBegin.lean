import Derived.Laws.RangeAny
import Derived.Test.YtmnjjjhmnhfapaaGreatDoorMKpRise
import Derived.Test.YtmnjjjhmnhfapaaGreatDoorMRefNum
namespace Go.Proofs.YtmnjjjhmnhfapaaGreatDoor
open Go.RowKit

theorem below_dn {B : Nat} {u w : World} (h : Below B u w) (q : Nat) : Below B u (w.drewN q) := ⟨h.os, h.tape, h.output, h.size, h.block⟩
theorem toList_same {a b : ByteArray} : (a.toList == b.toList) = true ↔ a = b := by
  rw [Go.ByteArray.toList_eq, Go.ByteArray.toList_eq, beq_iff_eq]
  constructor
  · intro h
    obtain ⟨⟨x⟩⟩ := a
    obtain ⟨⟨y⟩⟩ := b
    simp at h
    rw [h]
  · rintro rfl; rfl
theorem toList_other {a b : ByteArray} : (a.toList == b.toList) = false ↔ a ≠ b := by
  rw [← Bool.not_eq_true, toList_same]
theorem within_parts (c : ByteArray → ByteArray → Int) (lo hi k v : ByteArray) : Tm.within c lo hi (k, v) = (!decide (c k lo < 0) && (decide (hi.size = 0) || decide (c k hi < 0))) := by
  unfold Tm.within
  congr 1
  by_cases h : c k lo < 0
  · have h2 : ¬ 0 ≤ c k lo := by omega
    simp [h, h2]
  · have h2 : 0 ≤ c k lo := by omega
    simp [h, h2]
theorem count_step {fs : List Tm.Fact} {p : Tm.Fact → Bool} {j : Nat} (hj : j < fs.length) : ((fs.take (j + 1)).filter p).length = ((fs.take j).filter p).length + (if p fs[j] then 1 else 0) := by
  rw [List.take_add_one, List.getElem?_eq_getElem hj, List.filter_append, List.length_append]
  cases h : p fs[j] <;> simp [h]

set_option maxRecDepth 100000 in
set_option maxHeartbeats 8000000 in
theorem keepTold_any {X : Nat} {F S : Nat → Prop} {vf : Value} {bb bx bc bm : Nat} {st : Int} {sh : Bool} {lns : List Tm.Ln} {fs : List Tm.Fact} {s : IxSt} (l : Tm.Ents) (vl : Value) (lo hi : ByteArray) (w : World) (hB : Bk w X F S vf bb bx bc bm st sh lns fs s) (hl : Reads w vl 2 l.length (entCells l)) (hlo : lo.size ≤ 64) (hhi : hi.size ≤ 64) (hin : ∀ f ∈ fs, f.2.2 = true → Tm.within (cmpOf lns st sh) lo hi (f.1, f.2.1) = true → (f.1, f.2.1) ∈ l) (hcnt : (fs.filter (fun f => f.2.2 && Tm.within (cmpOf lns st sh) lo hi (f.1, f.2.1))).length = l.length) (hfew : l.length ≤ 1000000) (hfew2 : fs.length ≤ 1000000) :
    Calls Tryz.prog 23 #[.pointer (some ⟨bb, 0, none⟩), vl, .string lo, .string hi] w fun e w' => e = .returned (.bool true) ∧ Below w.heap.size w w' := by
  obtain ⟨a, cap, rfl⟩ := hl.shape
  obtain ⟨af, capf, rfl⟩ := (Reads.of_owns hB.row).shape
  have HL := hide hl
  have HBK := hide hB
  have HIN := hide hin
  have HCNT := hide hcnt
  have HSH := hide hB.short
  obtain ⟨n, hn⟩ : ∃ n, l.length = n := ⟨_, rfl⟩
  rw [hn] at HL hfew HCNT ⊢
  have HN := hide hn
  obtain ⟨m, hm⟩ : ∃ m, fs.length = m := ⟨_, rfl⟩
  rw [hm] at hfew2 HBK
  have HM := hide hm
  clear hl hB hin hcnt hn hm
  go_enter Tryz.func23, Tryz.ntmps23
  go_wp2_with fail
  go_loopw [9, 10] (fun x i wr => ∃ j : Nat, j ≤ m ∧ i = .int .i64 j ∧ x = .int .i64 (((fs.take j).filter (fun f => f.2.2 && Tm.within (cmpOf lns st sh) lo hi (f.1, f.2.1))).length : Nat) ∧ Hid (Below w.heap.size w wr)) (fun _ i _ => m - (intOf i).toNat)
  case atStart => exact ⟨0, Nat.zero_le _, rfl, rfl, Below.refl _ _⟩
  case round =>
    obtain ⟨j, hj, rfl, rfl, HB⟩ := hrel
    have hbk := HBK.out.below HB.out
    have HBK' := hide hbk
    have c0 := hbk.c0
    have c2 := hbk.c2
    have hlb := (hbk.from_ bb hbk.own).2
    have hrd := HL.out.below HB.out HL.out.2.1
    have HRD := hide hrd
    by_cases hlt : j < m
    · have hjl : j < fs.length := by rw [HM.out]; exact hlt
      obtain ⟨g, off, rfl, hg, k0, k1, k2⟩ := facts_at (Reads.of_owns hbk.row) hjl
      have hfs := HSH.out fs[j] (List.getElem_mem hjl)
      have HCS : Hid (((fs.take (j + 1)).filter (fun f : Tm.Fact => f.2.2 && Tm.within (cmpOf lns st sh) lo hi (f.1, f.2.1))).length = ((fs.take j).filter (fun f : Tm.Fact => f.2.2 && Tm.within (cmpOf lns st sh) lo hi (f.1, f.2.1))).length + (if ((fs[j]).2.2 && Tm.within (cmpOf lns st sh) lo hi ((fs[j]).1, (fs[j]).2.1)) = true then 1 else 0)) := count_step (p := fun f => f.2.2 && Tm.within (cmpOf lns st sh) lo hi (f.1, f.2.1)) hjl
      have HIJ := hide (HIN.out fs[j] (List.getElem_mem hjl))
      have hcle := List.length_filter_le (fun f : Tm.Fact => f.2.2 && Tm.within (cmpOf lns st sh) lo hi (f.1, f.2.1)) (fs.take j)
      generalize fs[j] = f at *
      obtain ⟨fk, fv, ft⟩ := f
      simp only at k0 k1 k2 hfs HCS HIJ
      rw [within_parts] at HCS HIJ
      have hcle2 : ((fs.take j).filter (fun f : Tm.Fact => f.2.2 && Tm.within (cmpOf lns st sh) lo hi (f.1, f.2.1))).length ≤ 1000000 := by
        have h1 : (fs.take j).length ≤ fs.length := by rw [List.length_take]; omega
        have h2 := HM.out
        omega
      have i1 : (0 : Int) ≤ (j : Int) := by omega
      have i2 : (j : Int) < (m : Int) := by omega
      clear hrd hbk
      have HW0 : Hid (Below wr.heap.size wr (wr.alloc (.cells #[.string fk, .string fv, .bool ft] 127))) := (Below.refl _ _).alloc (Nat.le_refl _) _
      have HK : Hid (∀ W, Below (wr.heap.size + 1) (wr.alloc (.cells #[.string fk, .string fv, .bool ft] 127)) W → W.cell? ⟨bb, 0, none⟩ = some (.pointer (some ⟨bc, 0, none⟩)) ∧ W.cell? ⟨wr.heap.size, 0, none⟩ = some (.string fk) ∧ W.cell? ⟨wr.heap.size, 1, none⟩ = some (.string fv) ∧ W.cell? ⟨wr.heap.size, 2, none⟩ = some (.bool ft) ∧ Below wr.heap.size wr W) := fun W hW => by
        have hWr : Below wr.heap.size wr W := HW0.out.trans (hW.mono (by omega))
        refine ⟨by rw [hWr.cell (p := ⟨bb, 0, none⟩) hlb]; exact c0, ?_, ?_, ?_, hWr⟩
        · rw [hW.cell (p := ⟨wr.heap.size, 0, none⟩) (by simp), cell_new rfl]; rfl
        · rw [hW.cell (p := ⟨wr.heap.size, 1, none⟩) (by simp), cell_new rfl]; rfl
        · rw [hW.cell (p := ⟨wr.heap.size, 2, none⟩) (by simp), cell_new rfl]; rfl
      have HC : Hid (∀ W q, q.size ≤ 64 → Below (wr.heap.size + 1) (wr.alloc (.cells #[.string fk, .string fv, .bool ft] 127)) W → Calls Tryz.prog 64 #[.pointer (some ⟨bc, 0, none⟩), .string fk, .string q] W fun e w' => e = .returned (.bool (decide (cmpOf lns st sh fk q < 0))) ∧ Below (wr.heap.size + 1) (wr.alloc (.cells #[.string fk, .string fv, .bool ft] 127)) w' ∧ w'.cell? ⟨bb, 0, none⟩ = some (.pointer (some ⟨bc, 0, none⟩)) ∧ w'.cell? ⟨wr.heap.size, 0, none⟩ = some (.string fk)) := fun W q hq hW => by
        obtain ⟨_, _, _, _, hWr⟩ := HK.out W hW
        refine (keepLess_any lns bc bm st sh fk q W (HBK'.out.coll.below hWr) HBK'.out.ok hfs hq).mono ?_
        rintro e w' ⟨rfl, hb⟩
        have hz := hW.size
        have hz' : wr.heap.size + 1 ≤ W.heap.size := by simpa using hz
        have hb2 := hW.trans (hb.mono hz')
        obtain ⟨d0, d1, _, _, _⟩ := HK.out w' hb2
        exact ⟨rfl, hb2, d0, d1⟩
      clear c0
      go_upto_region 6 with fail
      obtain ⟨W0, hW0⟩ : ∃ W0, wr.alloc (.cells #[.string fk, .string fv, .bool ft] 127) = W0 := ⟨_, rfl⟩
      rw [hW0] at HK HC HW0 ⊢
      obtain ⟨c0, d0, d1, d2, _⟩ := HK.out W0 (Below.refl _ _)
      have hzW : W0.heap.size = wr.heap.size + 1 := by rw [← hW0]; simp
      clear hW0
      go_cut [12] from 32 to 39 (fun t wx => t = .bool (decide (cmpOf lns st sh fk lo < 0)) ∧ Hid (Below (wr.heap.size + 1) W0 wx))
      case first =>
        go_region_held3 (fun wx => wx.cell? ⟨bb, 0, none⟩ = some (.pointer (some ⟨bc, 0, none⟩)) ∧ wx.cell? ⟨wr.heap.size, 0, none⟩ = some (.string fk)) (go_keep)
          (first | (go_at_call 64; refine (HC.out _ lo hlo (Below.refl _ _).drew).mono ?_; rintro e w1 ⟨rfl, hb1, e0, e1⟩; have HB1 := hide hb1; clear hb1))
        all_goals (go_wp2_with fail; go_meet; exact ⟨rfl, HB1.out⟩)
      case rest =>
        obtain ⟨rfl, HBC⟩ := hcut
        obtain ⟨c01, d01, d11, d21, _⟩ := HK.out wc HBC.out
        clear c0 d0 d1 d2
        go_upto_region 7 with fail
        go_cut [13] from 40 to 51 (fun t wx => t = .bool (decide (hi.size = 0) || decide (cmpOf lns st sh fk hi < 0)) ∧ Hid (Below (wr.heap.size + 1) W0 wx))
        case first =>
          by_cases h0 : hi.size = 0
          · have he : (hi.toList == []) = true := by
              obtain ⟨⟨q⟩⟩ := hi
              simp [ByteArray.size] at h0
              subst h0
              rw [Go.ByteArray.toList_eq]
              rfl
            go_quiet (fail)
            all_goals (go_wp2_with fail; go_meet; exact ⟨by rw [decide_eq_true h0]; rfl, by first | exact HBC.out | exact HBC.out.drew | exact below_dn HBC.out _⟩)
          · have he : (hi.toList == []) = false := by
              obtain ⟨⟨q⟩⟩ := hi
              rw [Go.ByteArray.toList_eq]
              cases q with
              | nil => simp [ByteArray.size] at h0
              | cons x r => rfl
            go_region_held3 (fun wx => wx.cell? ⟨bb, 0, none⟩ = some (.pointer (some ⟨bc, 0, none⟩)) ∧ wx.cell? ⟨wr.heap.size, 0, none⟩ = some (.string fk)) (go_keep)
              (first | (go_at_call 64; refine (HC.out _ hi hhi HBC.out.drew).mono ?_; rintro e w1 ⟨rfl, hb1, e0, e1⟩; have HB1 := hide hb1; clear hb1))
            all_goals (go_wp2_with fail; go_meet; exact ⟨by rw [decide_eq_false h0]; rfl, HB1.out⟩)
        case rest =>
          obtain ⟨rfl, HBD⟩ := hcut
          obtain ⟨c02, d02, d12, d22, hbwc⟩ := HK.out wc HBD.out
          have HWD := hide (HB.out.trans (hbwc.mono HB.out.size))
          clear c01 d01 d11 d21 hbwc
          generalize decide (cmpOf lns st sh fk lo < 0) = low at *
          generalize (decide (hi.size = 0) || decide (cmpOf lns st sh fk hi < 0)) = high at *
          generalize hcn : ((fs.take j).filter (fun f : Tm.Fact => f.2.2 && Tm.within (cmpOf lns st sh) lo hi (f.1, f.2.1))).length = cn at *
          have HCN := hide hcn
          clear hcn
          by_cases htake : (ft && (!low && high)) = true
          · have hft : ft = true := by cases ft <;> simp_all
            have hlow : low = false := by cases low <;> simp_all
            have hhigh : high = true := by cases high <;> simp_all
            subst hft
            subst hlow
            subst hhigh
            have HMEM : Hid ((fk, fv) ∈ l) := HIJ.out rfl rfl
            have HCS' : Hid (((fs.take (j + 1)).filter (fun f : Tm.Fact => f.2.2 && Tm.within (cmpOf lns st sh) lo hi (f.1, f.2.1))).length = cn + 1) := by
              have := HCS.out
              rw [if_pos htake] at this
              exact this
            have HRDC : Hid (∀ W, Below (wr.heap.size + 1) W0 W → Reads W (.slice a n cap) 2 n (entCells l)) := fun W hW => HRD.out.below (HK.out W hW).2.2.2.2 HRD.out.2.1
            go_wp2_with fail
            go_loopw [14, 15] (fun x i wx => ∃ k : Nat, k ≤ n ∧ i = .int .i64 k ∧ (∃ b : Bool, x = .bool b ∧ Hid (b = true ↔ (fk, fv) ∈ l.take k)) ∧ Hid (Below (wr.heap.size + 1) W0 wx)) (fun _ i _ => n - (intOf i).toNat)
            case atStart => exact ⟨0, Nat.zero_le _, rfl, ⟨false, rfl, (by simp : false = true ↔ (fk, fv) ∈ l.take 0)⟩, HBD.out⟩
            case round =>
              obtain ⟨k, hk, rfl, ⟨b, rfl, HBI⟩, HBX⟩ := hrel
              obtain ⟨_, q0, q1, _, _⟩ := HK.out _ HBX.out
              clear c02 d02 d12 d22
              by_cases hkn : k < n
              · have hkl : k < l.length := by rw [HN.out]; exact hkn
                obtain ⟨g', off', rfl, hg', y0, y1⟩ := ents_at (es := l) (by rw [HN.out]; exact HRDC.out _ HBX.out) hkl
                have HTK : Hid ((fk, fv) ∈ l.take (k + 1) ↔ (fk, fv) ∈ l.take k ∨ l[k] = (fk, fv)) := by
                  unfold Hid
                  rw [List.take_add_one, List.getElem?_eq_getElem hkl, List.mem_append]
                  simp [eq_comm]
                generalize l[k] = y at *
                obtain ⟨yk, yv⟩ := y
                simp only at y0 y1
                have j1 : (0 : Int) ≤ (k : Int) := by omega
                have j2 : (k : Int) < (n : Int) := by omega
                cases b
                · by_cases h1 : yk = fk
                  · have hd1 : (yk.toList == fk.toList) = true := toList_same.2 h1
                    by_cases h2 : yv = fv
                    · have hd2 : (yv.toList == fv.toList) = true := toList_same.2 h2
                      have HNB : Hid (true = true ↔ (fk, fv) ∈ l.take (k + 1)) := ⟨fun _ => HTK.out.2 (.inr (by rw [h1, h2])), fun _ => rfl⟩
                      go_upto_region 14 with fail
                      go_quiet (fail)
                      all_goals
                        go_wp2
                        go_roundw
                        case rel => exact ⟨k + 1, by omega, by go_num, ⟨true, rfl, HNB.out⟩, below_dn HBX.out _⟩
                        case measure => simp [intOf]; omega
                    · have hd2 : (yv.toList == fv.toList) = false := toList_other.2 h2
                      have HNB : Hid (false = true ↔ (fk, fv) ∈ l.take (k + 1)) := ⟨fun h => (by cases h), fun h => by
                        rcases HTK.out.1 h with h | h
                        · exact HBI.out.2 h
                        · cases h; exact absurd rfl h2⟩
                      go_upto_region 14 with fail
                      go_quiet (fail)
                      all_goals
                        go_wp2
                        go_roundw
                        case rel => exact ⟨k + 1, by omega, by go_num, ⟨false, rfl, HNB.out⟩, below_dn HBX.out _⟩
                        case measure => simp [intOf]; omega
                  · have hd1 : (yk.toList == fk.toList) = false := toList_other.2 h1
                    have HNB : Hid (false = true ↔ (fk, fv) ∈ l.take (k + 1)) := ⟨fun h => (by cases h), fun h => by
                      rcases HTK.out.1 h with h | h
                      · exact HBI.out.2 h
                      · cases h; exact absurd rfl h1⟩
                    go_upto_region 14 with fail
                    go_quiet (fail)
                    all_goals
                      go_wp2
                      go_roundw
                      case rel => exact ⟨k + 1, by omega, by go_num, ⟨false, rfl, HNB.out⟩, below_dn HBX.out _⟩
                      case measure => simp [intOf]; omega
                · have HNB : Hid (true = true ↔ (fk, fv) ∈ l.take (k + 1)) := ⟨fun _ => HTK.out.2 (.inl (HBI.out.1 rfl)), fun _ => rfl⟩
                  go_upto_region 14 with fail
                  go_quiet (fail)
                  all_goals
                    go_wp2
                    go_roundw
                    case rel => exact ⟨k + 1, by omega, by go_num, ⟨true, rfl, HNB.out⟩, below_dn HBX.out _⟩
                    case measure => simp [intOf]; omega
              · have hb : b = true := HBI.out.2 (by rw [List.take_of_length_le (by rw [HN.out]; omega)]; exact HMEM.out)
                subst hb
                have HWX : Hid (Below w.heap.size w _) := HB.out.trans ((HK.out _ HBX.out).2.2.2.2.mono HB.out.size)
                go_wp2
                go_roundw
                case rel => exact ⟨j + 1, by omega, by go_num, by rw [HCS'.out]; go_num, HWX.out⟩
                case measure => simp [intOf]; omega
          · have HCS' : Hid (((fs.take (j + 1)).filter (fun f : Tm.Fact => f.2.2 && Tm.within (cmpOf lns st sh) lo hi (f.1, f.2.1))).length = cn) := by
              have := HCS.out
              rw [if_neg htake] at this
              exact this
            cases ft
            · go_wp2
              go_roundw
              case rel => exact ⟨j + 1, by omega, by go_num, by rw [HCS'.out], HWD.out⟩
              case measure => simp [intOf]; omega
            · cases low
              · cases high
                · go_wp2
                  go_roundw
                  case rel => exact ⟨j + 1, by omega, by go_num, by rw [HCS'.out], HWD.out⟩
                  case measure => simp [intOf]; omega
                · exact absurd rfl htake
              · go_wp2
                go_roundw
                case rel => exact ⟨j + 1, by omega, by go_num, by rw [HCS'.out], HWD.out⟩
                case measure => simp [intOf]; omega
    · have hjm : j = m := by omega
      subst hjm
      have hcnt : ((fs.take j).filter (fun f : Tm.Fact => f.2.2 && Tm.within (cmpOf lns st sh) lo hi (f.1, f.2.1))).length = n := by
        rw [← HM.out, List.take_length]
        exact HCNT.out
      rw [hcnt]
      go_wp2
      go_ret
      exact ⟨rfl, HB.out⟩
end Go.Proofs.YtmnjjjhmnhfapaaGreatDoor
/-
  The first rune of a text: the reference's own decoding is the model's.
-/
namespace Go.Proofs.YtmnjjjhmnhfapaaGreatDoor
open Go.RowKit

/-- A byte of a text, as a number; 0 behind its end. -/
def byteAt (s : ByteArray) (k : Nat) : Nat := (s.get! k).toNat
theorem byteAt_get {s : ByteArray} {k : Nat} (h : k < s.size) : s[k].toNat = byteAt s k := by
  unfold byteAt
  rw [show s.get! k = s.get! (k + 0) from rfl, get_at s k h]
theorem byteAt_lt (s : ByteArray) (k : Nat) : byteAt s k < 256 := (s.get! k).toNat_lt
theorem byteAt_off {s : ByteArray} {k : Nat} (h : s.size ≤ k) : byteAt s k = 0 := by
  have h1 : s.data.size ≤ k := h
  show (s.data[k]!).toNat = 0
  rw [getElem!_neg _ _ (by omega)]
  rfl

/-- Decoding, on numbers: how many bytes are there, and the first four. -/
def decB (n b0 b1 b2 b3 : Nat) : Nat × Nat :=
  if b0 < 128 then (b0, 1)
  else if b0 / 32 = 6 ∧ 1 < n ∧ b1 / 64 = 2 then
    if 128 ≤ b0 % 32 * 64 + b1 % 64 then (b0 % 32 * 64 + b1 % 64, 2) else (65533, 1)
  else if b0 / 16 = 14 ∧ (1 < n ∧ b1 / 64 = 2) ∧ 2 < n ∧ b2 / 64 = 2 then
    if 2048 ≤ b0 % 16 * 4096 + b1 % 64 * 64 + b2 % 64 ∧ (b0 % 16 * 4096 + b1 % 64 * 64 + b2 % 64 < 55296 ∨ 57344 ≤ b0 % 16 * 4096 + b1 % 64 * 64 + b2 % 64 ∧ b0 % 16 * 4096 + b1 % 64 * 64 + b2 % 64 ≤ 1114111) then (b0 % 16 * 4096 + b1 % 64 * 64 + b2 % 64, 3) else (65533, 1)
  else if b0 / 8 = 30 ∧ (1 < n ∧ b1 / 64 = 2) ∧ (2 < n ∧ b2 / 64 = 2) ∧ 3 < n ∧ b3 / 64 = 2 then
    if 65536 ≤ b0 % 8 * 262144 + b1 % 64 * 4096 + b2 % 64 * 64 + b3 % 64 ∧ (b0 % 8 * 262144 + b1 % 64 * 4096 + b2 % 64 * 64 + b3 % 64 < 55296 ∨ 57344 ≤ b0 % 8 * 262144 + b1 % 64 * 4096 + b2 % 64 * 64 + b3 % 64 ∧ b0 % 8 * 262144 + b1 % 64 * 4096 + b2 % 64 * 64 + b3 % 64 ≤ 1114111) then (b0 % 8 * 262144 + b1 % 64 * 4096 + b2 % 64 * 64 + b3 % 64, 4) else (65533, 1)
  else (65533, 1)

theorem decode_decB (s : ByteArray) (i : Nat) : Utf8.decode s i = decB (s.size - i) (byteAt s i) (byteAt s (i + 1)) (byteAt s (i + 2)) (byteAt s (i + 3)) := by
  have e : ∀ k, (s.get! k).toNat = byteAt s k := fun k => rfl
  have e1 : ∀ k, i + k < s.size ↔ k < s.size - i := fun k => by omega
  simp only [Utf8.decode, e, e1, Utf8.valid, Utf8.runeError, Nat.add_zero]
  generalize byteAt s i = b0
  generalize byteAt s (i + 1) = b1
  generalize byteAt s (i + 2) = b2
  generalize byteAt s (i + 3) = b3
  generalize s.size - i = n
  unfold decB
  by_cases h0 : b0 < 128
  · rw [if_pos h0, if_pos h0]
  rw [if_neg h0, if_neg h0]
  by_cases h1 : b0 / 32 = 6 ∧ 1 < n ∧ b1 / 64 = 2
  · rw [if_pos h1, if_pos (by simp [h1])]
  rw [if_neg h1, if_neg (by simpa using h1)]
  by_cases h2 : b0 / 16 = 14 ∧ (1 < n ∧ b1 / 64 = 2) ∧ 2 < n ∧ b2 / 64 = 2
  · rw [if_pos h2, if_pos (by simp [h2])]
    generalize b0 % 16 * 4096 + b1 % 64 * 64 + b2 % 64 = c
    by_cases h3 : 2048 ≤ c ∧ (c < 55296 ∨ 57344 ≤ c ∧ c ≤ 1114111)
    · rw [if_pos h3, if_pos (by simp; omega)]
    · rw [if_neg h3, if_neg (by simp; omega)]
  rw [if_neg h2, if_neg (by simp; omega)]
  by_cases h3 : b0 / 8 = 30 ∧ (1 < n ∧ b1 / 64 = 2) ∧ (2 < n ∧ b2 / 64 = 2) ∧ 3 < n ∧ b3 / 64 = 2
  · rw [if_pos h3, if_pos (by simp [h3])]
    generalize b0 % 8 * 262144 + b1 % 64 * 4096 + b2 % 64 * 64 + b3 % 64 = c
    by_cases h3 : 65536 ≤ c ∧ (c < 55296 ∨ 57344 ≤ c ∧ c ≤ 1114111)
    · rw [if_pos h3, if_pos (by simp; omega)]
    · rw [if_neg h3, if_neg (by simp; omega)]
  rw [if_neg h3, if_neg (by simp; omega)]

theorem extract_size (s : ByteArray) {i : Nat} (_ : i ≤ s.size) : (s.extract i s.size).size = s.size - i := by simp [ByteArray.size_extract]
theorem byteAt_extract (s : ByteArray) {i : Nat} (h : i ≤ s.size) (k : Nat) : byteAt (s.extract i s.size) k = byteAt s (i + k) := by
  by_cases hk : i + k < s.size
  · have h1 : k < (s.extract i s.size).size := by rw [extract_size s h]; omega
    rw [← byteAt_get h1, ← byteAt_get hk]
    congr 1
    simp [ByteArray.getElem_extract]
  · rw [byteAt_off (by rw [extract_size s h]; omega), byteAt_off (by omega)]
theorem decode_extract (s : ByteArray) {i : Nat} (h : i ≤ s.size) : Utf8.decode (s.extract i s.size) 0 = Utf8.decode s i := by
  rw [decode_decB, decode_decB, extract_size s h]
  simp only [byteAt_extract s h, Nat.sub_zero, Nat.zero_add, Nat.add_zero]

/-- The number that the following bytes make. -/
def foldR (s : ByteArray) (r0 : Int) : Nat → Int
  | 0 => r0
  | 1 => r0
  | k + 2 => 64 * foldR s r0 (k + 1) + (byteAt s (k + 1) : Int) - 128
theorem foldR_step (s : ByteArray) (r0 : Int) {k : Nat} (h : 1 ≤ k) : foldR s r0 (k + 1) = 64 * foldR s r0 k + (byteAt s k : Int) - 128 := by
  cases k with
  | zero => omega
  | succ k => rfl

theorem foldR1 (s : ByteArray) (r0 : Int) : foldR s r0 1 = r0 := rfl
theorem foldR2 (s : ByteArray) (r0 : Int) : foldR s r0 2 = 64 * r0 + (byteAt s 1 : Int) - 128 := rfl
theorem foldR3 (s : ByteArray) (r0 : Int) : foldR s r0 3 = 64 * (64 * r0 + (byteAt s 1 : Int) - 128) + (byteAt s 2 : Int) - 128 := rfl
theorem foldR4 (s : ByteArray) (r0 : Int) : foldR s r0 4 = 64 * (64 * (64 * r0 + (byteAt s 1 : Int) - 128) + (byteAt s 2 : Int) - 128) + (byteAt s 3 : Int) - 128 := rfl

/-- The first byte's kinds. -/
def Lead (s : ByteArray) (n : Nat) (least r0 : Int) : Prop :=
  (n = 2 ∧ least = 128 ∧ 192 ≤ byteAt s 0 ∧ byteAt s 0 < 224 ∧ r0 = (byteAt s 0 : Int) - 192) ∨
  (n = 3 ∧ least = 2048 ∧ 224 ≤ byteAt s 0 ∧ byteAt s 0 < 240 ∧ r0 = (byteAt s 0 : Int) - 224) ∨
  (n = 4 ∧ least = 65536 ∧ 240 ≤ byteAt s 0 ∧ byteAt s 0 < 248 ∧ r0 = (byteAt s 0 : Int) - 240)
theorem Lead.bound {s : ByteArray} {n : Nat} {least r0 : Int} (h : Lead s n least r0) (k : Nat) (hk : k ≤ n) (hc : ∀ j, 1 ≤ j → j < k → 128 ≤ byteAt s j ∧ byteAt s j < 192) : 0 ≤ foldR s r0 k ∧ foldR s r0 k ≤ 8388607 := by
  have b0 : 0 ≤ r0 ∧ r0 ≤ 31 := by unfold Lead at h; omega
  have hn : n ≤ 4 := by unfold Lead at h; omega
  clear h
  rcases (by omega : k = 0 ∨ k = 1 ∨ k = 2 ∨ k = 3 ∨ k = 4) with rfl | rfl | rfl | rfl | rfl
  · rw [show foldR s r0 0 = r0 from rfl]; omega
  · rw [foldR1]; omega
  · have := hc 1 (by omega) (by omega)
    rw [foldR2]; omega
  · have := hc 1 (by omega) (by omega)
    have := hc 2 (by omega) (by omega)
    rw [foldR3]; omega
  · have := hc 1 (by omega) (by omega)
    have := hc 2 (by omega) (by omega)
    have := hc 3 (by omega) (by omega)
    rw [foldR4]; omega
theorem Lead.yes {s : ByteArray} {n : Nat} {least r0 : Int} (h : Lead s n least r0) (hs : n ≤ s.size) (hc : ∀ j, 1 ≤ j → j < n → 128 ≤ byteAt s j ∧ byteAt s j < 192) (h1 : least ≤ foldR s r0 n) (h2 : foldR s r0 n ≤ 1114111) (h3 : foldR s r0 n < 55296 ∨ 57344 ≤ foldR s r0 n) :
    ((Utf8.decode s 0).1 : Int) = foldR s r0 n ∧ ((Utf8.decode s 0).2 : Int) = n := by
  rw [decode_decB]
  simp only [Nat.zero_add, Nat.sub_zero]
  rcases h with ⟨rfl, rfl, h4, h5, rfl⟩ | ⟨rfl, rfl, h4, h5, rfl⟩ | ⟨rfl, rfl, h4, h5, rfl⟩
  · have c1 := hc 1 (by omega) (by omega)
    rw [foldR2] at h1 h2 h3 ⊢
    unfold decB
    rw [if_neg (by omega), if_pos (by omega), if_pos (by omega)]
    refine ⟨?_, rfl⟩
    show ((byteAt s 0 % 32 * 64 + byteAt s 1 % 64 : Nat) : Int) = _
    omega
  · have c1 := hc 1 (by omega) (by omega)
    have c2 := hc 2 (by omega) (by omega)
    rw [foldR3] at h1 h2 h3 ⊢
    unfold decB
    rw [if_neg (by omega), if_neg (by omega), if_pos (by omega), if_pos (by omega)]
    refine ⟨?_, rfl⟩
    show ((byteAt s 0 % 16 * 4096 + byteAt s 1 % 64 * 64 + byteAt s 2 % 64 : Nat) : Int) = _
    omega
  · have c1 := hc 1 (by omega) (by omega)
    have c2 := hc 2 (by omega) (by omega)
    have c3 := hc 3 (by omega) (by omega)
    rw [foldR4] at h1 h2 h3 ⊢
    unfold decB
    rw [if_neg (by omega), if_neg (by omega), if_neg (by omega), if_pos (by omega), if_pos (by omega)]
    refine ⟨?_, rfl⟩
    show ((byteAt s 0 % 8 * 262144 + byteAt s 1 % 64 * 4096 + byteAt s 2 % 64 * 64 + byteAt s 3 % 64 : Nat) : Int) = _
    omega
theorem Lead.short {s : ByteArray} {n : Nat} {least r0 : Int} (h : Lead s n least r0) (hs : s.size < n) : Utf8.decode s 0 = (65533, 1) := by
  rw [decode_decB]
  simp only [Nat.zero_add, Nat.sub_zero]
  unfold decB
  unfold Lead at h
  rw [if_neg (by omega), if_neg (by omega), if_neg (by omega), if_neg (by omega)]
theorem Lead.odd {s : ByteArray} {n : Nat} {least r0 : Int} (h : Lead s n least r0) {j : Nat} (h1 : 1 ≤ j) (h2 : j < n) (h3 : byteAt s j < 128 ∨ 192 ≤ byteAt s j) : Utf8.decode s 0 = (65533, 1) := by
  rw [decode_decB]
  simp only [Nat.zero_add, Nat.sub_zero]
  unfold decB
  unfold Lead at h
  have hj : j = 1 ∨ j = 2 ∨ j = 3 := by omega
  have := byteAt_lt s j
  rcases hj with rfl | rfl | rfl
  all_goals rw [if_neg (by omega), if_neg (by omega), if_neg (by omega), if_neg (by omega)]
theorem Lead.no {s : ByteArray} {n : Nat} {least r0 : Int} (h : Lead s n least r0) (hs : n ≤ s.size) (hc : ∀ j, 1 ≤ j → j < n → 128 ≤ byteAt s j ∧ byteAt s j < 192) (h1 : foldR s r0 n < least ∨ 1114111 < foldR s r0 n ∨ (55296 ≤ foldR s r0 n ∧ foldR s r0 n < 57344)) : Utf8.decode s 0 = (65533, 1) := by
  rw [decode_decB]
  simp only [Nat.zero_add, Nat.sub_zero]
  rcases h with ⟨rfl, rfl, h4, h5, rfl⟩ | ⟨rfl, rfl, h4, h5, rfl⟩ | ⟨rfl, rfl, h4, h5, rfl⟩
  · have c1 := hc 1 (by omega) (by omega)
    rw [foldR2] at h1
    unfold decB
    rw [if_neg (by omega), if_pos (by omega), if_neg (by omega)]
  · have c1 := hc 1 (by omega) (by omega)
    have c2 := hc 2 (by omega) (by omega)
    rw [foldR3] at h1
    unfold decB
    rw [if_neg (by omega), if_neg (by omega), if_pos (by omega), if_neg (by omega)]
  · have c1 := hc 1 (by omega) (by omega)
    have c2 := hc 2 (by omega) (by omega)
    have c3 := hc 3 (by omega) (by omega)
    rw [foldR4] at h1
    unfold decB
    rw [if_neg (by omega), if_neg (by omega), if_neg (by omega), if_pos (by omega), if_neg (by omega)]
theorem decode_default {s : ByteArray} (h : (128 ≤ byteAt s 0 ∧ byteAt s 0 < 192) ∨ 248 ≤ byteAt s 0) : Utf8.decode s 0 = (65533, 1) := by
  rw [decode_decB]
  simp only [Nat.zero_add, Nat.sub_zero]
  unfold decB
  have := byteAt_lt s 0
  rw [if_neg (by omega), if_neg (by omega), if_neg (by omega), if_neg (by omega)]
theorem decode_small {s : ByteArray} (h : byteAt s 0 < 128) : Utf8.decode s 0 = (byteAt s 0, 1) := by
  rw [decode_decB]
  unfold decB
  rw [if_pos h]
theorem decode_fits (s : ByteArray) (pos : Nat) (h : pos < s.size) : pos + (Utf8.decode s pos).2 ≤ s.size := by
  rw [decode_decB]
  unfold decB
  repeat' split
  all_goals (simp only; omega)
end Go.Proofs.YtmnjjjhmnhfapaaGreatDoor
/-
  The ways in which the statement writes a text: pieces that end where a rune ends, and come to one normal form.
-/
namespace Go.Proofs.YtmnjjjhmnhfapaaGreatDoor

def decL (l : List UInt8) : Nat × Nat := decB l.length (l.getD 0 0).toNat (l.getD 1 0).toNat (l.getD 2 0).toNat (l.getD 3 0).toNat
def runesL : Nat → List UInt8 → List Int
  | 0, _ => []
  | f + 1, l => if l = [] then [] else ((decL l).1 : Int) :: runesL f (l.drop (decL l).2)
theorem byteAt_list (s : ByteArray) (k : Nat) : byteAt s k = (s.data.toList.getD k 0).toNat := by
  by_cases h : k < s.size
  · rw [← byteAt_get h]
    have h' : k < s.data.toList.length := by simpa using h
    rw [List.getD_eq_getElem?_getD, List.getElem?_eq_getElem h']
    simp [ByteArray.getElem_eq_getElem_data]
  · rw [byteAt_off (by omega)]
    rw [List.getD_eq_getElem?_getD, List.getElem?_eq_none (by rw [len_bytes]; omega)]
    rfl
theorem decode_list (s : ByteArray) (i : Nat) : Utf8.decode s i = decL (s.data.toList.drop i) := by
  rw [decode_decB]
  unfold decL
  simp only [byteAt_list, List.getD_eq_getElem?_getD, List.getElem?_drop, List.length_drop, Nat.add_zero]
  rw [len_bytes]
theorem decB_pos (n b0 b1 b2 b3 : Nat) : 1 ≤ (decB n b0 b1 b2 b3).2 := by
  unfold decB
  repeat' split
  all_goals (simp only; omega)
theorem runesL_more : ∀ (f g : Nat) (l : List UInt8), l.length ≤ f → l.length ≤ g → runesL f l = runesL g l
  | 0, g, l, h, _ => by
    have : l = [] := List.eq_nil_of_length_eq_zero (by omega)
    subst this
    cases g <;> simp [runesL]
  | f + 1, 0, l, _, h => by
    have : l = [] := List.eq_nil_of_length_eq_zero (by omega)
    subst this
    simp [runesL]
  | f + 1, g + 1, l, h, h' => by
    unfold runesL
    by_cases e : l = []
    · simp [e]
    · rw [if_neg e, if_neg e]
      have h1 : 1 ≤ (decL l).2 := decB_pos _ _ _ _ _
      have h2 : 0 < l.length := List.length_pos_iff.2 e
      rw [runesL_more f g _ (by rw [List.length_drop]; omega) (by rw [List.length_drop]; omega)]
def bytesRunes (l : List UInt8) : List Int := runesL l.length l
theorem runesFrom_list (s : ByteArray) : ∀ (f pos : Nat), runesFrom s f pos = runesL f (s.data.toList.drop pos)
  | 0, _ => rfl
  | f + 1, pos => by
    rw [runesFrom, runesL]
    by_cases h : pos < s.size
    · rw [if_pos h, if_neg (by rw [List.drop_eq_nil_iff]; rw [len_bytes]; omega), decode_list, runesFrom_list s f, List.drop_drop]
    · rw [if_neg h, if_pos (by rw [List.drop_eq_nil_iff]; rw [len_bytes]; omega)]
theorem runesOf_list (s : ByteArray) : runesOf s = bytesRunes s.data.toList := by
  unfold runesOf bytesRunes
  rw [runesFrom_list, List.drop_zero, len_bytes]

/-- A piece that ends where a rune ends. -/
def Closed (p : List UInt8) : Prop := ∀ y, bytesRunes (p ++ y) = bytesRunes p ++ bytesRunes y
theorem closed_nil : Closed [] := fun _ => rfl
theorem Closed.append {p q : List UInt8} (hp : Closed p) (hq : Closed q) : Closed (p ++ q) := fun y => by
  rw [List.append_assoc, hp, hq, hp q, List.append_assoc]
theorem piece {p : List UInt8} {r : Nat} (hp : p ≠ []) (h : ∀ y, decL (p ++ y) = (r, p.length)) : Closed p ∧ bytesRunes p = [(r : Int)] := by
  have key : ∀ y, bytesRunes (p ++ y) = (r : Int) :: bytesRunes y := fun y => by
    unfold bytesRunes
    obtain ⟨n, hn⟩ : ∃ n, (p ++ y).length = n + 1 := ⟨(p ++ y).length - 1, by have := List.length_pos_iff.2 hp; simp; omega⟩
    have hn' := hn
    rw [List.length_append] at hn'
    have hpp := List.length_pos_iff.2 hp
    rw [hn, runesL, if_neg (by simp [hp]), h y]
    simp only [List.drop_left]
    rw [runesL_more n y.length y (by omega) (Nat.le_refl _)]
  have h0 := key []
  rw [List.append_nil] at h0
  refine ⟨fun y => ?_, h0⟩
  rw [key y, h0]
  rfl
theorem p_97 : Closed [97] ∧ bytesRunes [97] = [97] := piece (r := 97) (by simp) (fun y => by simp [decL, decB])
theorem p_98 : Closed [98] ∧ bytesRunes [98] = [98] := piece (r := 98) (by simp) (fun y => by simp [decL, decB])
theorem p_45 : Closed [45] ∧ bytesRunes [45] = [45] := piece (r := 45) (by simp) (fun y => by simp [decL, decB])
theorem p_195_161 : Closed [195, 161] ∧ bytesRunes [195, 161] = [225] := piece (r := 225) (by simp) (fun y => by simp [decL, decB])
theorem p_195_162 : Closed [195, 162] ∧ bytesRunes [195, 162] = [226] := piece (r := 226) (by simp) (fun y => by simp [decL, decB])
theorem p_204_129 : Closed [204, 129] ∧ bytesRunes [204, 129] = [769] := piece (r := 769) (by simp) (fun y => by simp [decL, decB])
theorem p_204_163 : Closed [204, 163] ∧ bytesRunes [204, 163] = [803] := piece (r := 803) (by simp) (fun y => by simp [decL, decB])
theorem p_225_186_161 : Closed [225, 186, 161] ∧ bytesRunes [225, 186, 161] = [7841] := piece (r := 7841) (by simp) (fun y => by simp [decL, decB])
theorem p_99 : Closed [99] ∧ bytesRunes [99] = [99] := piece (r := 99) (by simp) (fun y => by simp [decL, decB])
theorem p_104 : Closed [104] ∧ bytesRunes [104] = [104] := piece (r := 104) (by simp) (fun y => by simp [decL, decB])
theorem p_100 : Closed [100] ∧ bytesRunes [100] = [100] := piece (r := 100) (by simp) (fun y => by simp [decL, decB])
theorem p_65 : Closed [65] ∧ bytesRunes [65] = [65] := piece (r := 65) (by simp) (fun y => by simp [decL, decB])
theorem p_255 : Closed [255] ∧ bytesRunes [255] = [65533] := piece (r := 65533) (by simp) (fun y => by simp [decL, decB])
theorem p_239_191_189 : Closed [239, 191, 189] ∧ bytesRunes [239, 191, 189] = [65533] := piece (r := 65533) (by simp) (fun y => by simp [decL, decB])

namespace Tm
/-- What the tables say of the runes that are written so. -/
def keepWays (lns : List Ln) : Bool := decide (parts lns 225 = [97, 769]) && decide (parts lns 7841 = [97, 803]) && decide (parts lns 226 = [225, 803]) && [97, 98, 45, 99, 104, 100, 65, 65533, 769, 803].all (fun r => decide (parts lns r = [])) && decide (classOf lns 769 = 230) && decide (classOf lns 803 = 220)
theorem keep_ways_a : ((List.range 128).all fun n => keepWays (keepLines n)) = true := by decide +kernel
theorem keep_ways_b : ((List.range 128).all fun n => keepWays (keepLines (n + 128))) = true := by decide +kernel
theorem keep_ways {n : Nat} (h : n < 256) : keepWays (keepLines n) = true := by
  by_cases h1 : n < 128
  · exact List.all_eq_true.1 keep_ways_a n (List.mem_range.2 h1)
  · have := List.all_eq_true.1 keep_ways_b (n - 128) (List.mem_range.2 (by omega))
    simpa [show n - 128 + 128 = n by omega] using this
structure Ways (lns : List Ln) : Prop where
  e1 : parts lns 225 = [97, 769]
  e2 : parts lns 7841 = [97, 803]
  e3 : parts lns 226 = [225, 803]
  no : ∀ r ∈ ([97, 98, 45, 99, 104, 100, 65, 65533, 769, 803] : List Int), parts lns r = []
  c1 : classOf lns 769 = 230
  c2 : classOf lns 803 = 220
theorem Ways.of {lns : List Ln} (h : keepWays lns = true) : Ways lns := by
  unfold keepWays at h
  simp only [Bool.and_eq_true, decide_eq_true_eq, List.all_eq_true] at h
  obtain ⟨⟨⟨⟨⟨h1, h2⟩, h3⟩, h4⟩, h5⟩, h6⟩ := h
  exact ⟨h1, h2, h3, h4, h5, h6⟩
theorem Ways.one {lns : List Ln} (h : Ways lns) {r : Int} (hr : r ∈ ([97, 98, 45, 99, 104, 100, 65, 65533, 769, 803] : List Int)) (n : Nat) : expand lns n r = [r] := expand_leaf (by rw [h.no r hr]; rfl)
theorem Ways.x1 {lns : List Ln} (h : Ways lns) (n : Nat) : expand lns (n + 1) 225 = [97, 769] := by
  rw [expand_part (by rw [h.e1]; simp), h.e1]
  simp [h.one (r := 97) (by simp), h.one (r := 769) (by simp)]
theorem Ways.x2 {lns : List Ln} (h : Ways lns) (n : Nat) : expand lns (n + 1) 7841 = [97, 803] := by
  rw [expand_part (by rw [h.e2]; simp), h.e2]
  simp [h.one (r := 97) (by simp), h.one (r := 803) (by simp)]
theorem Ways.x3 {lns : List Ln} (h : Ways lns) (n : Nat) : expand lns (n + 2) 226 = [97, 769, 803] := by
  rw [expand_part (by rw [h.e3]; simp), h.e3]
  simp [h.x1, h.one (r := 803) (by simp)]
end Tm

/-- What a piece is made of. -/
def madeOf (lns : List Tm.Ln) (p : List UInt8) : List Int := (bytesRunes p).flatMap (Tm.expand lns 4)
/-- Two runs that come to one order wherever they stand. -/
def Alike (lns : List Tm.Ln) (a b : List Int) : Prop := ∀ p q, Tm.ord (Tm.classOf lns) (p ++ a ++ q) = Tm.ord (Tm.classOf lns) (p ++ b ++ q)
theorem Alike.refl {lns : List Tm.Ln} (a : List Int) : Alike lns a a := fun _ _ => rfl
/-- A way to write the run c. -/
structure Way (lns : List Tm.Ln) (c : List Int) (p : List UInt8) : Prop where
  closed : Closed p
  alike : Alike lns (madeOf lns p) c
  short : p.length ≤ 5
theorem swapped {lns : List Tm.Ln} (h : Tm.Ways lns) (x : Int) : Alike lns [x, 803, 769] [x, 769, 803] := fun p q => by
  have := Tm.ord_swap (k := Tm.classOf lns) (a := 769) (b := 803) (by rw [h.c2]; decide) (by rw [h.c1, h.c2]; decide) (p ++ [x]) q
  simpa using this.symm
theorem way_0_0 {lns : List Tm.Ln} (h : Tm.Ways lns) : Way lns [97] [97] := by
  have hr : bytesRunes [97] = [97] := p_97.2
  have hm : madeOf lns [97] = [97] := by unfold madeOf; rw [hr]; simp [h.one (r := 97) (by simp)]
  exact ⟨p_97.1, by rw [hm]; exact Alike.refl _, by decide⟩
theorem way_1_0 {lns : List Tm.Ln} (h : Tm.Ways lns) : Way lns [98] [98] := by
  have hr : bytesRunes [98] = [98] := p_98.2
  have hm : madeOf lns [98] = [98] := by unfold madeOf; rw [hr]; simp [h.one (r := 98) (by simp)]
  exact ⟨p_98.1, by rw [hm]; exact Alike.refl _, by decide⟩
theorem way_2_0 {lns : List Tm.Ln} (h : Tm.Ways lns) : Way lns [45] [45] := by
  have hr : bytesRunes [45] = [45] := p_45.2
  have hm : madeOf lns [45] = [45] := by unfold madeOf; rw [hr]; simp [h.one (r := 45) (by simp)]
  exact ⟨p_45.1, by rw [hm]; exact Alike.refl _, by decide⟩
theorem way_3_0 {lns : List Tm.Ln} (h : Tm.Ways lns) : Way lns [97, 769] [195, 161] := by
  have hr : bytesRunes [195, 161] = [225] := p_195_161.2
  have hm : madeOf lns [195, 161] = [97, 769] := by unfold madeOf; rw [hr]; simp [h.x1]
  exact ⟨p_195_161.1, by rw [hm]; exact Alike.refl _, by decide⟩
theorem way_3_1 {lns : List Tm.Ln} (h : Tm.Ways lns) : Way lns [97, 769] [97, 204, 129] := by
  have hr : bytesRunes [97, 204, 129] = [97, 769] := by show bytesRunes (([97] : List UInt8) ++ [204, 129]) = _; rw [p_97.1, p_97.2, p_204_129.2]; rfl
  have hm : madeOf lns [97, 204, 129] = [97, 769] := by unfold madeOf; rw [hr]; simp [h.one (r := 769) (by simp), h.one (r := 97) (by simp)]
  exact ⟨(p_97.1.append p_204_129.1), by rw [hm]; exact Alike.refl _, by decide⟩
theorem way_4_0 {lns : List Tm.Ln} (h : Tm.Ways lns) : Way lns [97, 803] [225, 186, 161] := by
  have hr : bytesRunes [225, 186, 161] = [7841] := p_225_186_161.2
  have hm : madeOf lns [225, 186, 161] = [97, 803] := by unfold madeOf; rw [hr]; simp [h.x2]
  exact ⟨p_225_186_161.1, by rw [hm]; exact Alike.refl _, by decide⟩
theorem way_4_1 {lns : List Tm.Ln} (h : Tm.Ways lns) : Way lns [97, 803] [97, 204, 163] := by
  have hr : bytesRunes [97, 204, 163] = [97, 803] := by show bytesRunes (([97] : List UInt8) ++ [204, 163]) = _; rw [p_97.1, p_97.2, p_204_163.2]; rfl
  have hm : madeOf lns [97, 204, 163] = [97, 803] := by unfold madeOf; rw [hr]; simp [h.one (r := 803) (by simp), h.one (r := 97) (by simp)]
  exact ⟨(p_97.1.append p_204_163.1), by rw [hm]; exact Alike.refl _, by decide⟩
theorem way_5_0 {lns : List Tm.Ln} (h : Tm.Ways lns) : Way lns [97, 769, 803] [195, 162] := by
  have hr : bytesRunes [195, 162] = [226] := p_195_162.2
  have hm : madeOf lns [195, 162] = [97, 769, 803] := by unfold madeOf; rw [hr]; simp [h.x3]
  exact ⟨p_195_162.1, by rw [hm]; exact Alike.refl _, by decide⟩
theorem way_5_1 {lns : List Tm.Ln} (h : Tm.Ways lns) : Way lns [97, 769, 803] [97, 204, 129, 204, 163] := by
  have hr : bytesRunes [97, 204, 129, 204, 163] = [97, 769, 803] := by show bytesRunes (([97] : List UInt8) ++ [204, 129] ++ [204, 163]) = _; rw [(p_97.1.append p_204_129.1), p_97.1, p_97.2, p_204_129.2, p_204_163.2]; rfl
  have hm : madeOf lns [97, 204, 129, 204, 163] = [97, 769, 803] := by unfold madeOf; rw [hr]; simp [h.one (r := 769) (by simp), h.one (r := 803) (by simp), h.one (r := 97) (by simp)]
  exact ⟨((p_97.1.append p_204_129.1).append p_204_163.1), by rw [hm]; exact Alike.refl _, by decide⟩
theorem way_5_2 {lns : List Tm.Ln} (h : Tm.Ways lns) : Way lns [97, 769, 803] [97, 204, 163, 204, 129] := by
  have hr : bytesRunes [97, 204, 163, 204, 129] = [97, 803, 769] := by show bytesRunes (([97] : List UInt8) ++ [204, 163] ++ [204, 129]) = _; rw [(p_97.1.append p_204_163.1), p_97.1, p_97.2, p_204_163.2, p_204_129.2]; rfl
  have hm : madeOf lns [97, 204, 163, 204, 129] = [97, 803, 769] := by unfold madeOf; rw [hr]; simp [h.one (r := 769) (by simp), h.one (r := 803) (by simp), h.one (r := 97) (by simp)]
  exact ⟨((p_97.1.append p_204_163.1).append p_204_129.1), by rw [hm]; exact swapped h 97, by decide⟩
theorem way_5_3 {lns : List Tm.Ln} (h : Tm.Ways lns) : Way lns [97, 769, 803] [195, 161, 204, 163] := by
  have hr : bytesRunes [195, 161, 204, 163] = [225, 803] := by show bytesRunes (([195, 161] : List UInt8) ++ [204, 163]) = _; rw [p_195_161.1, p_195_161.2, p_204_163.2]; rfl
  have hm : madeOf lns [195, 161, 204, 163] = [97, 769, 803] := by unfold madeOf; rw [hr]; simp [h.one (r := 803) (by simp), h.x1]
  exact ⟨(p_195_161.1.append p_204_163.1), by rw [hm]; exact Alike.refl _, by decide⟩
theorem way_5_4 {lns : List Tm.Ln} (h : Tm.Ways lns) : Way lns [97, 769, 803] [225, 186, 161, 204, 129] := by
  have hr : bytesRunes [225, 186, 161, 204, 129] = [7841, 769] := by show bytesRunes (([225, 186, 161] : List UInt8) ++ [204, 129]) = _; rw [p_225_186_161.1, p_225_186_161.2, p_204_129.2]; rfl
  have hm : madeOf lns [225, 186, 161, 204, 129] = [97, 803, 769] := by unfold madeOf; rw [hr]; simp [h.one (r := 769) (by simp), h.x2]
  exact ⟨(p_225_186_161.1.append p_204_129.1), by rw [hm]; exact swapped h 97, by decide⟩
theorem way_6_0 {lns : List Tm.Ln} (h : Tm.Ways lns) : Way lns [99, 104] [99, 104] := by
  have hr : bytesRunes [99, 104] = [99, 104] := by show bytesRunes (([99] : List UInt8) ++ [104]) = _; rw [p_99.1, p_99.2, p_104.2]; rfl
  have hm : madeOf lns [99, 104] = [99, 104] := by unfold madeOf; rw [hr]; simp [h.one (r := 104) (by simp), h.one (r := 99) (by simp)]
  exact ⟨(p_99.1.append p_104.1), by rw [hm]; exact Alike.refl _, by decide⟩
theorem way_7_0 {lns : List Tm.Ln} (h : Tm.Ways lns) : Way lns [99, 769, 803] [99, 204, 129, 204, 163] := by
  have hr : bytesRunes [99, 204, 129, 204, 163] = [99, 769, 803] := by show bytesRunes (([99] : List UInt8) ++ [204, 129] ++ [204, 163]) = _; rw [(p_99.1.append p_204_129.1), p_99.1, p_99.2, p_204_129.2, p_204_163.2]; rfl
  have hm : madeOf lns [99, 204, 129, 204, 163] = [99, 769, 803] := by unfold madeOf; rw [hr]; simp [h.one (r := 769) (by simp), h.one (r := 803) (by simp), h.one (r := 99) (by simp)]
  exact ⟨((p_99.1.append p_204_129.1).append p_204_163.1), by rw [hm]; exact Alike.refl _, by decide⟩
theorem way_7_1 {lns : List Tm.Ln} (h : Tm.Ways lns) : Way lns [99, 769, 803] [99, 204, 163, 204, 129] := by
  have hr : bytesRunes [99, 204, 163, 204, 129] = [99, 803, 769] := by show bytesRunes (([99] : List UInt8) ++ [204, 163] ++ [204, 129]) = _; rw [(p_99.1.append p_204_163.1), p_99.1, p_99.2, p_204_163.2, p_204_129.2]; rfl
  have hm : madeOf lns [99, 204, 163, 204, 129] = [99, 803, 769] := by unfold madeOf; rw [hr]; simp [h.one (r := 769) (by simp), h.one (r := 803) (by simp), h.one (r := 99) (by simp)]
  exact ⟨((p_99.1.append p_204_163.1).append p_204_129.1), by rw [hm]; exact swapped h 99, by decide⟩
theorem way_8_0 {lns : List Tm.Ln} (h : Tm.Ways lns) : Way lns [100] [100] := by
  have hr : bytesRunes [100] = [100] := p_100.2
  have hm : madeOf lns [100] = [100] := by unfold madeOf; rw [hr]; simp [h.one (r := 100) (by simp)]
  exact ⟨p_100.1, by rw [hm]; exact Alike.refl _, by decide⟩
theorem way_9_0 {lns : List Tm.Ln} (h : Tm.Ways lns) : Way lns [65] [65] := by
  have hr : bytesRunes [65] = [65] := p_65.2
  have hm : madeOf lns [65] = [65] := by unfold madeOf; rw [hr]; simp [h.one (r := 65) (by simp)]
  exact ⟨p_65.1, by rw [hm]; exact Alike.refl _, by decide⟩
theorem way_10_0 {lns : List Tm.Ln} (h : Tm.Ways lns) : Way lns [65533] [255] := by
  have hr : bytesRunes [255] = [65533] := p_255.2
  have hm : madeOf lns [255] = [65533] := by unfold madeOf; rw [hr]; simp [h.one (r := 65533) (by simp)]
  exact ⟨p_255.1, by rw [hm]; exact Alike.refl _, by decide⟩
theorem way_10_1 {lns : List Tm.Ln} (h : Tm.Ways lns) : Way lns [65533] [239, 191, 189] := by
  have hr : bytesRunes [239, 191, 189] = [65533] := p_239_191_189.2
  have hm : madeOf lns [239, 191, 189] = [65533] := by unfold madeOf; rw [hr]; simp [h.one (r := 65533) (by simp)]
  exact ⟨p_239_191_189.1, by rw [hm]; exact Alike.refl _, by decide⟩
end Go.Proofs.YtmnjjjhmnhfapaaGreatDoor
namespace Go.Proofs.YtmnjjjhmnhfapaaGreatDoor
open Go.RowKit

theorem runes_none : runesOf ⟨#[]⟩ = [] := by decide +kernel
theorem runes_aacute : runesOf ⟨#[195, 161]⟩ = [225] := by decide +kernel
theorem runes_a301 : runesOf ⟨#[97, 204, 129]⟩ = [97, 769] := by decide +kernel
namespace Tm
theorem cmpLL_none : ∀ (A B : List (List Int)), A.length = B.length → (∀ b ∈ B, b = []) → 0 ≤ cmpLL A B
  | [], [], _, _ => by simp [cmpLL]
  | [], _ :: _, h, _ => by simp at h
  | _ :: _, [], h, _ => by simp at h
  | a :: r, b :: t, h, hb => by
    have h1 : b = [] := hb b (by simp)
    subst h1
    have ih := cmpLL_none r t (by simpa using h) (fun x hx => hb x (by simp [hx]))
    rw [cmpLL]
    split
    · exact ih
    · cases a with
      | nil => rename_i h2; exact absurd rfl h2
      | cons x y => simp [cmpL]
end Tm
/-- No text stands below the empty one. -/
theorem cmpOf_none (lns : List Tm.Ln) {st : Int} (hst : 1 ≤ st ∧ st ≤ 4) (sh : Bool) (a : ByteArray) : 0 ≤ cmpOf lns st sh a ⟨#[]⟩ := by
  have hn : normOf lns ⟨#[]⟩ = [] := by unfold normOf; rw [runes_none]; rfl
  unfold cmpOf
  rw [hn]
  refine Tm.cmpLL_none _ _ ?_ (fun b hb => ?_)
  · unfold stands
    rw [List.length_append, List.length_append, levels_length hst, levels_length hst]
    rfl
  · rcases List.mem_append.1 hb with h | h
    · obtain ⟨k, _, rfl⟩ := List.mem_map.1 (List.mem_of_mem_take h)
      rw [Tm.elements_nil]
      rfl
    · exact List.mem_singleton.1 h
theorem Tm.Ways.acute {lns : List Tm.Ln} (h : Tm.Ways lns) (st : Int) (sh : Bool) : cmpOf lns st sh ⟨#[195, 161]⟩ ⟨#[97, 204, 129]⟩ = 0 := by
  rw [cmpOf_zero]
  unfold normOf
  rw [runes_aacute, runes_a301]
  simp [h.x1, h.one (r := 97) (by simp), h.one (r := 769) (by simp)]

/-- What begin answers: a book of nothing. -/
def BeginAns (sh : Bool) (w : World) (e : Ending) (w' : World) : Prop :=
  ∃ (X : Nat) (F S : Nat → Prop) (bb bx bc bm : Nat) (st : Int) (lns : List Tm.Ln) (s : IxSt), e = .returned (.pointer (some ⟨bb, 0, none⟩)) ∧ Bk w' X F S (.slice none 0 0) bb bx bc bm st sh lns [] s ∧ (nowOf s = [] ∧ s.held = [] ∧ s.given = 0) ∧ w.heap.size ≤ X ∧ Below w.heap.size w w'

set_option maxRecDepth 100000 in
set_option maxHeartbeats 8000000 in
theorem begin_any (n st : Int) (sh : Bool) (w : World) (hn : -9223372036854775808 ≤ n ∧ n ≤ 9223372036854775807) (hst : -9223372036854775808 ≤ st ∧ st ≤ 9223372036854775807) :
    Calls Tryz.prog 18 #[.int .i64 n, .int .i64 st, .bool sh] w fun e w' => BeginAns sh w e w' := by
  have HN := hide hn
  have HST := hide hst
  clear hn hst
  go_enter Tryz.func18, Tryz.ntmps18
  go_wp2_with fail
  refine (opened_any n st sh _ HN.out HST.out).mono ?_
  rintro e w1 ⟨k, t, hk, bc, bm, lns, rfl, hc1, hok, hkt, hnt, hb1⟩
  have HWY : Hid (Tm.Ways lns) := by
    have h := Tm.keep_ways hk
    have hl : lns = Tm.keepLines k := by
      have hst := (Tm.newTable_heavy hnt).2
      unfold Tm.newTable at hnt
      rw [if_neg (by omega)] at hnt
      split at hnt
      · simp at hnt
      · unfold Tm.keepLines
        generalize Tm.readLines [] 1 (Tm.split 10 (Tm.keepTable k)) = p at hnt ⊢
        obtain ⟨l, o⟩ := p
        cases o with
        | none => simp at hnt; exact hnt.1.symm
        | some q => obtain ⟨m, e⟩ := q; simp at hnt; exact hnt.1.symm
    rw [hl]
    exact Tm.Ways.of h
  have HC1 := hide hc1
  have HOK := hide hok
  have HKT := hide hkt
  have HB1 := hide hb1
  have hz1 := hb1.size
  clear hc1 hok hkt hb1 hnt
  go_wp2_with fail
  refine (works_any lns bc bm t sh _ HC1.out HOK.out HKT.out).mono ?_
  rintro e w2 ⟨rfl, hb2⟩
  have hz2 := hb2.size
  have HB2 := hide (HB1.out.trans (hb2.mono hz1))
  have HC2 := hide (HC1.out.below hb2)
  clear hb2
  go_wp2_with fail
  refine (IxNew_any lns bc bm t sh w2 w2.heap.size HC2.out (Nat.le_refl _)).mono ?_
  rintro e w3 ⟨bx, S3, rfl, hx3, hb3, hS3⟩
  have HX3 := hide hx3
  have HB3 := hide hb3
  have hz3 := hb3.size
  clear hx3 hb3
  -- the key is put
  have hput0 : putErr (cmpOf lns t sh) ixNil ⟨#[195, 161]⟩ ⟨#[49]⟩ = 0 := by
    unfold putErr
    rw [if_neg (by decide), if_neg (by rw [nowOf_nil]; simp)]
  have hnow : nowOf (putSt (cmpOf lns t sh) ixNil ⟨#[195, 161]⟩ ⟨#[49]⟩) = [(⟨#[195, 161]⟩, ⟨#[49]⟩)] := by
    rw [nowOf_put hput0, nowOf_nil]; rfl
  have HNOW := hide hnow
  have hac := HWY.out.acute t sh
  have HHAS : Hid (Tm.ixHas (cmpOf lns t sh) (nowOf (putSt (cmpOf lns t sh) ixNil ⟨#[195, 161]⟩ ⟨#[49]⟩)) ⟨#[97, 204, 129]⟩ = true) := by
    unfold Hid
    rw [hnow]
    simp [Tm.ixHas, hac]
  have HGET : Hid ((Tm.ixGet (cmpOf lns t sh) (nowOf (putSt (cmpOf lns t sh) ixNil ⟨#[195, 161]⟩ ⟨#[49]⟩)) ⟨#[97, 204, 129]⟩).getD ⟨#[]⟩ = ⟨#[49]⟩) := by
    unfold Hid
    rw [hnow]
    simp [Tm.ixGet, hac]
  have HSCAN : Hid ((Tm.ixScan (cmpOf lns t sh) (nowOf (putSt (cmpOf lns t sh) ixNil ⟨#[195, 161]⟩ ⟨#[49]⟩)) ⟨#[]⟩ ⟨#[]⟩).take (5 : Int).toNat = [(⟨#[195, 161]⟩, ⟨#[49]⟩)]) := by
    unfold Hid
    rw [hnow]
    have := cmpOf_none lns HOK.out.st sh ⟨#[195, 161]⟩
    unfold Tm.ixScan
    rw [List.filter_cons_of_pos (by unfold Tm.within; rw [decide_eq_true this, decide_eq_true (show (ByteArray.mk #[]).size = 0 from rfl)]; rfl)]
    rfl
  have HDROP : Hid (nowOf (dropSt (cmpOf lns t sh) (putSt (cmpOf lns t sh) ixNil ⟨#[195, 161]⟩ ⟨#[49]⟩) ⟨#[97, 204, 129]⟩) = []) := by
    unfold Hid
    rw [nowOf_drop (by decide), hnow]
    simp [Tm.ixDrop, hac]
  have HHELD : Hid ((dropSt (cmpOf lns t sh) (putSt (cmpOf lns t sh) ixNil ⟨#[195, 161]⟩ ⟨#[49]⟩) ⟨#[97, 204, 129]⟩).held = [] ∧ (dropSt (cmpOf lns t sh) (putSt (cmpOf lns t sh) ixNil ⟨#[195, 161]⟩ ⟨#[49]⟩) ⟨#[97, 204, 129]⟩).given = 0) := by
    unfold Hid
    rw [(dropSt_held _ _ _).1, (dropSt_held _ _ _).2, (putSt_held _ _ _ _).1, (putSt_held _ _ _ _).2]
    exact ⟨rfl, rfl⟩
  clear hnow hac
  go_wp2_with fail
  refine (IxPut_any lns bc bm t sh w2.heap.size S3 bx ixNil ⟨#[195, 161]⟩ ⟨#[49]⟩ w3 (HC2.out.below HB3.out) HOK.out HX3.out hz3).mono ?_
  rw [hput0]
  rintro e w4 ⟨rfl, S4, hx4, hf4, hS4⟩
  have HX4 := hide hx4
  have hz4 := hf4.size
  have HB4 : Hid (Below w2.heap.size w2 w4) := HB3.out.trans (hf4.below (fun i hi => hS3 i hi) hz3)
  have HC4 := hide (HC2.out.below HB4.out)
  clear hx4 hf4 hput0
  generalize putSt (cmpOf lns t sh) ixNil ⟨#[195, 161]⟩ ⟨#[49]⟩ = s1 at *
  go_wp2_with fail
  refine (IxGet_any lns bc bm t sh w2.heap.size S4 bx s1 ⟨#[97, 204, 129]⟩ w4 HC4.out HOK.out HX4.out).mono ?_
  rw [if_pos (by decide), HHAS.out, HGET.out]
  rintro e w5 ⟨rfl, hb5⟩
  have HX5 := hide (HX4.out.below hb5)
  have hz5 := hb5.size
  have HB5 : Hid (Below w2.heap.size w2 w5) := HB4.out.trans (hb5.mono (by omega))
  have HC5 := hide (HC2.out.below HB5.out)
  clear hb5
  go_wp2_with fail
  refine (IxScan_any lns bc bm t sh w2.heap.size S4 bx s1 ⟨#[]⟩ ⟨#[]⟩ 5 w5 HC5.out HOK.out HX5.out (by omega)).mono ?_
  rintro e w6 ⟨hb6, hans⟩
  rw [if_neg (by decide), if_neg (by decide), HSCAN.out] at hans
  obtain ⟨v6, rfl, hown6⟩ := hans
  obtain ⟨g6, o6, c6, rfl, hg6, hc6⟩ := (Reads.of_owns hown6).form (by simp [entCells])
  have y0 := hc6 0 (.string ⟨#[195, 161]⟩) rfl
  have y1 := hc6 1 (.string ⟨#[49]⟩) rfl
  rw [Nat.add_zero] at y0
  have HX6 := hide (HX5.out.below hb6)
  have hz6 := hb6.size
  have HB6 : Hid (Below w2.heap.size w2 w6) := HB5.out.trans (hb6.mono (by omega))
  have HC6 := hide (HC2.out.below HB6.out)
  clear hb6 hown6 hc6
  simp only [List.length_cons, List.length_nil, Nat.zero_add]
  go_wp2_with fail
  refine (IxDelete_any lns bc bm t sh w2.heap.size S4 bx s1 ⟨#[97, 204, 129]⟩ w6 HC6.out HOK.out HX6.out (by omega)).mono ?_
  rw [if_pos (by decide), HHAS.out]
  rintro e w7 ⟨rfl, S7, hx7, hf7, hS7⟩
  have hz7 := hf7.size
  have HB7 : Hid (Below w2.heap.size w2 w7) := HB6.out.trans (hf7.below (fun i hi => (HX6.out.from_ i hi).1) (by omega))
  have HANS : Hid (BeginAns sh w (.returned (.pointer (some ⟨w7.heap.size, 0, none⟩))) (w7.alloc (.cells #[.pointer (some ⟨bc, 0, none⟩), .pointer (some ⟨bx, 0, none⟩), .slice none 0 0, .bool true] 59))) := by
    have hb8 : Below w7.heap.size w7 (w7.alloc (.cells #[.pointer (some ⟨bc, 0, none⟩), .pointer (some ⟨bx, 0, none⟩), .slice none 0 0, .bool true] 59)) := (Below.refl _ _).alloc (Nat.le_refl _) _
    have hx8 := hx7.below hb8
    refine ⟨w2.heap.size, fun i => S7 i ∨ i = w7.heap.size, S7, w7.heap.size, bx, bc, bm, t, lns, _, rfl, ⟨⟨w2, rfl, HC2.out, HB7.out.trans (hb8.mono (by omega))⟩, HOK.out, hx8, fun i hi => .inl hi, fun i hi => ?_, .inr rfl, fun hi => ?_, ?_, ?_, ?_, ?_, fun o => ?_, World.ownsRow_nil _ _ _ _, fun g hg => (by cases hg), fun f hf => (by cases hf)⟩, ⟨HDROP.out, HHELD.out⟩, by omega, ?_⟩
    · rcases hi with hi | hi
      · exact hx8.from_ i hi
      · subst hi; exact ⟨by omega, by simp⟩
    · have := (hx7.from_ _ hi).2; omega
    · rw [cell_new rfl]; rfl
    · rw [cell_new rfl]; rfl
    · rw [cell_new rfl]; rfl
    · rw [cell_new rfl]; rfl
    · rw [frozen_new rfl]
    · exact HB2.out.trans ((HB7.out.trans (hb8.mono (by omega))).mono (by omega))
  clear hx7 hf7 hS7
  go_wp2
  go_ret
  exact HANS.out
end Go.Proofs.YtmnjjjhmnhfapaaGreatDoor
