import Derived.Test.YtmnjjjhmnhfapaaGreatDoorMLawParted
import Derived.Test.YtmnjjjhmnhfapaaGreatDoorMLawOrd
import Derived.Test.YtmnjjjhmnhfapaaGreatDoorMTexts
namespace Go.Proofs.YtmnjjjhmnhfapaaGreatDoor
open Go.RowKit

theorem TableOk.at {s : List UInt8} {st : Int} {lns : List Tm.Ln} (h : Tm.newTable s st = (lns, 0, 0)) : TableOk st lns := TableOk.of h (newTable_ends h)
/-- Elements of a text, by the book, in a world of a little later. -/
theorem bookParted_later {lns : List Tm.Ln} {bc bm bt bb B : Nat} {st : Int} {sh : Bool} {vb vl : Value} {rows : List Value} {w0 w : World} (s : ByteArray) (hp : Firm bb vb w0 (fun w' => Pair w' bc bm bt vl st sh lns)) (hok : TableOk st lns) (hbook : EBookIs w0 bb B vb rows) (hrows : rows.length ≤ 90000000) (hb : Below w0.heap.size w0 w) :
    Calls Tryz.prog 13 #[.pointer (some ⟨bb, 0, none⟩), .pointer (some ⟨bc, 0, none⟩), .agg #[vl, .int .i64 st, .bool sh], .string s] w fun e w' => e = .returned (.bool true) ∧ ∃ vb' rows', EBookIs w' bb B vb' rows' ∧ rows'.length ≤ rows.length + 4 ∧ Turns bb vb vb' w0 w' := by
  have h := (hp.below hb).here
  refine (bookParted_any lns bc bm bb B st sh vb vl rows s w h.coll h.table hok (hbook.stay hb) hrows).mono ?_
  rintro e w' ⟨rfl, vb', rows', h1, h2, h3⟩
  exact ⟨rfl, vb', rows', h1, h2, (Turns.of hb).trans h3⟩
theorem ordered_later {lns : List Tm.Ln} {bc bm bt bb : Nat} {st : Int} {sh : Bool} {vb vl : Value} {w0 w : World} (a b : ByteArray) (hp : Firm bb vb w0 (fun w' => Pair w' bc bm bt vl st sh lns)) (hok : TableOk st lns) (hb : Below w0.heap.size w0 w) :
    Calls Tryz.prog 14 #[.pointer (some ⟨bc, 0, none⟩), .agg #[vl, .int .i64 st, .bool sh], .string a, .string b] w fun e w' => e = .returned (.bool true) ∧ Below w0.heap.size w0 w' := by
  have h := (hp.below hb).here
  refine (ordered_any lns bc bm st sh vl a b w h.coll h.table hok).mono ?_
  rintro e w' ⟨rfl, h1⟩
  exact ⟨rfl, hb.trans (h1.mono hb.size)⟩

set_option maxRecDepth 100000 in
set_option maxHeartbeats 8000000 in
theorem Orders_any (s : ByteArray) (st : Int) (sh : Bool) (vt : Value) (texts : List ByteArray) (w : World) (hs : s.size ≤ maxLen) (ht : TextsRd w vt texts) (hl : texts.length ≤ 10000000) :
    Calls Tryz.prog 3 #[.string s, .int .i64 st, .bool sh, vt] w fun e w' => e = .returned (.bool true) ∧ Below w.heap.size w w' := by
  obtain ⟨at', capt, rfl, ht⟩ := ht
  have HTXQ := hide ht
  clear ht
  go_enter Tryz.func3, Tryz.ntmps3
  go_wp2_with fail
  refine (plain_any new_said _).mono ?_
  rintro e w1 ⟨ax, rfl, hKx, hb1⟩
  obtain ⟨bx, bmx, lnsx, rfl, hCx, hEx⟩ := hKx _ rfl
  have HCX := hide hCx
  have HEX := hide hEx
  have HB1 := hide hb1
  have hz1 := hb1.size
  clear hKx hCx hEx hb1
  go_wp2_with fail
  refine (example_any _).mono ?_
  rintro e w1' ⟨rfl, rfl⟩
  go_wp2_with fail
  refine (RefNew_any ⟨exText.toArray⟩ 3 false _ (by unfold maxLen; decide)).mono ?_
  rintro e w2 ⟨⟨vlx, rfl, hTx, hgx, hlx, hbx⟩, hb2⟩
  rw [HEX.out] at hTx hgx hlx ⊢
  obtain ⟨ax', capx', rfl⟩ := hTx.rd.shape
  have HTX2 := hide hTx
  have HB2 := hide hb2
  have hz2 := hb2.size
  clear hTx hgx hlx hbx hb2
  obtain ⟨W3, hW3⟩ : ∃ W3, (w2.alloc (.cells #[.slice ax' lnsx.length capx', .int .i64 3, .bool false] 29)).alloc (.cells #[.slice none 0 0, .slice none 0 0, .slice none 0 0, .slice none 0 0] 40) = W3 := ⟨_, rfl⟩
  have hz3 : W3.heap.size = w2.heap.size + 2 := by rw [← hW3]; simp
  have hb3 : Below w2.heap.size w2 W3 := by rw [← hW3]; exact ((Below.refl _ _).alloc (Nat.le_refl _) _).alloc (by simp) _
  have HB3 := hide hb3
  have HBK3 : Hid (EBookIs W3 (w2.heap.size + 1) w.heap.size (.slice none 0 0) []) := by
    have := EBookIs.new (w := w2.alloc (.cells #[.slice ax' lnsx.length capx', .int .i64 3, .bool false] 29)) (B := w.heap.size) (by simp; omega)
    rw [hW3] at this
    unfold Hid
    simpa using this
  have HCF3 : Hid (Firm (w2.heap.size + 1) (.slice none 0 0) W3 (fun w' => Coll w' bx bmx 3 false lnsx)) :=
    Firm.coll HCX.out (by omega) (fun g _ hl => (hb3.block g (by omega)).trans (HB2.out.block g hl)) (.inr (by omega)) (fun g hg => by cases hg)
  have HTF3 : Hid (Firm (w2.heap.size + 1) (.slice none 0 0) W3 (fun w' => TableRd w' (.slice ax' lnsx.length capx') lnsx)) :=
    Firm.table HTX2.out (by omega) (fun g _ hl => hb3.block g hl) (.inr (by omega)) (fun g hg => by cases hg)
  have k0 : W3.cell? ⟨w2.heap.size, 0, none⟩ = some (.slice ax' lnsx.length capx') := by rw [← hW3, cell_old (by simp), cell_new rfl]; rfl
  have k1 : W3.cell? ⟨w2.heap.size, 1, none⟩ = some (.int .i64 3) := by rw [← hW3, cell_old (by simp), cell_new rfl]; rfl
  have k2 : W3.cell? ⟨w2.heap.size, 2, none⟩ = some (.bool false) := by rw [← hW3, cell_old (by simp), cell_new rfl]; rfl
  have HKF3 : Hid (Firm (w2.heap.size + 1) (.slice none 0 0) W3 (fun w' => w'.cell? ⟨w2.heap.size, 0, none⟩ = some (.slice ax' lnsx.length capx') ∧ w'.cell? ⟨w2.heap.size, 1, none⟩ = some (.int .i64 3) ∧ w'.cell? ⟨w2.heap.size, 2, none⟩ = some (.bool false))) := by
    intro w' vb' t
    have hk := t.block w2.heap.size (by omega) (by omega) (by simp [Value.ownBlock])
    have hb : ∀ o, w'.cell? ⟨w2.heap.size, o, none⟩ = W3.cell? ⟨w2.heap.size, o, none⟩ := fun o => World.cell?_of_block hk
    rw [hb, hb, hb]
    exact ⟨k0, k1, k2⟩
  clear hb3
  go_wp2_with fail
  refine (bookParted_any lnsx bx bmx (w2.heap.size + 1) w.heap.size 3 false (.slice none 0 0) _ [] ⟨#[99, 104, 98]⟩ W3 HCF3.out.here HTF3.out.here (TableOk.at HEX.out) HBK3.out (by simp)).mono ?_
  rintro e w4 ⟨rfl, vb4, rows4, hbk4, hln4, htu4⟩
  have HBK4 := hide hbk4
  have HCF4 := hide (HCF3.out.next htu4)
  have HTF4 := hide (HTF3.out.next htu4)
  have HKF4 := hide (HKF3.out.next htu4)
  have HB4 : Hid (Below w.heap.size w w4) := (HB1.out.trans ((HB2.out.mono hz1).trans (HB3.out.mono (by omega)))).trans (htu4.below (by omega) (by omega) (fun g hg => by cases hg))
  have hz4 := htu4.size
  simp only [List.length_nil, Nat.zero_add] at hln4
  clear hbk4 htu4 k0 k1 k2
  obtain ⟨k0, k1, k2⟩ := HKF4.out.here
  go_wp2_with fail
  refine (ordered_any lnsx bx bmx 3 false _ ⟨#[99, 98]⟩ ⟨#[99, 104]⟩ w4 HCF4.out.here HTF4.out.here (TableOk.at HEX.out)).mono ?_
  rintro e w4' ⟨rfl, hb4'⟩
  obtain ⟨w9, rfl⟩ : ∃ w9, w9 = w4 := ⟨_, rfl⟩
  have HBK4 := hide (HBK4.out.stay hb4')
  have HCF4 := hide (HCF4.out.below hb4')
  have HTF4 := hide (HTF4.out.below hb4')
  have HKF4 := hide (HKF4.out.below hb4')
  have HB4 : Hid (Below w.heap.size w w4') := HB4.out.trans (hb4'.mono (by have := HB4.out.size; omega))
  have hz4 : W3.heap.size ≤ w4'.heap.size := Nat.le_trans hz4 hb4'.size
  clear hb4' k0 k1 k2
  generalize w4' = w4 at *
  go_wp2_with fail
  refine (opens_any new_said s st sh _ hs).mono ?_
  rintro e w5 ⟨⟨c, vl, rfl, hc, hT5, _, _, _, hK5⟩, hb5⟩
  obtain ⟨al, capl, rfl⟩ := hT5.rd.shape
  have HT5 := hide hT5
  have HK5 := hide hK5
  have HB5 := hide hb5
  have HCF5 := hide (HCF4.out.below hb5)
  have HTF5 := hide (HTF4.out.below hb5)
  have HKF5 := hide (HKF4.out.below hb5)
  have HBK5 := hide (HBK4.out.stay hb5)
  have hz5 := hb5.size
  have hbb4 := HBK4.out.lt
  obtain ⟨m, hm⟩ : ∃ m, (Tm.newTable s.data.toList st).1.length = m := ⟨_, rfl⟩
  have HM := hide hm
  rw [hm]
  obtain ⟨W6, hW6⟩ : ∃ W6, w5.alloc (.cells #[.slice al m capl, .int .i64 st, .bool sh] 29) = W6 := ⟨_, rfl⟩
  have hz6 : W6.heap.size = w5.heap.size + 1 := by rw [← hW6]; simp
  have hb6 : Below w5.heap.size w5 W6 := by rw [← hW6]; exact (Below.refl _ _).alloc (Nat.le_refl _) _
  have HB6 : Hid (Below w.heap.size w W6) := HB4.out.trans ((hb5.mono (by omega)).trans (hb6.mono (by omega)))
  have HCF6 := hide (HCF5.out.below hb6)
  have HTF6 := hide (HTF5.out.below hb6)
  have HKF6 := hide (HKF5.out.below hb6)
  have HBK6 := hide (HBK5.out.stay hb6)
  have HKG6 : Hid (Firm (w2.heap.size + 1) vb4 W6 (fun w' => w'.cell? ⟨w5.heap.size, 0, none⟩ = some (.slice al m capl) ∧ w'.cell? ⟨w5.heap.size, 1, none⟩ = some (.int .i64 st) ∧ w'.cell? ⟨w5.heap.size, 2, none⟩ = some (.bool sh))) := by
    intro w' vb' t
    have hk := t.block w5.heap.size (by omega) (by omega) (fun h => by have := (HBK5.out.row.lt _ h).2; omega)
    have hb : ∀ o, w'.cell? ⟨w5.heap.size, o, none⟩ = W6.cell? ⟨w5.heap.size, o, none⟩ := fun o => World.cell?_of_block hk
    rw [hb, hb, hb, ← hW6, cell_new rfl]
    refine ⟨rfl, ?_, ?_⟩ <;> (rw [cell_new rfl]; rfl)
  have HB56 := hide hb6
  have HW6 := hide hW6
  clear hW6
  clear hT5 hK5 hb5 hb6 hm hc
  cases c with
  | none =>
    go_wp2_with fail
    rw [HW6.out]
    go_loopw [19] (fun i wr => i = .int .i64 0 ∧ wr = W6) (fun _ _ => 0)
    case atStart => exact ⟨rfl, rfl⟩
    case round =>
      obtain ⟨rfl, rfl⟩ := hrel
      go_wp2_with fail
      all_goals
        refine (wholeE_any _ _ _ _ _ HBK6.out (by omega)).mono ?_
        rintro e w7 ⟨rfl, hb7⟩
        have HB7 : Hid (Below w.heap.size w w7) := HB6.out.trans (hb7.mono HB6.out.size)
        clear hb7
        go_wp2
        go_ret
        exact ⟨rfl, HB7.out⟩
  | some ac =>
    obtain ⟨bc, bm, lns, rfl, hC5, hE5⟩ := HK5.out _ rfl
    have HE5 := hide hE5
    have hml : m = lns.length := by rw [← HM.out, hE5]
    subst hml
    have hT : TableOwn w5 w4.heap.size (.slice al lns.length capl) lns := by have := HT5.out; rw [hE5] at this; exact this
    have HG6 : Hid (Firm (w2.heap.size + 1) vb4 W6 (fun w' => Pair w' bc bm w5.heap.size (.slice al lns.length capl) st sh lns)) :=
      Firm.pair (Firm.coll hC5 (by omega) (fun g _ hl => HB56.out.block g hl) (.inl (by omega)) (fun g hg => .inl (HBK4.out.row.lt g hg).2))
        (Firm.table hT (by omega) (fun g _ hl => HB56.out.block g hl) (.inl (by omega)) (fun g hg => .inl (HBK4.out.row.lt g hg).2)) HKG6.out
    have HF6 : Hid (Firm (w2.heap.size + 1) vb4 W6 (fun w' => Pair w' bx bmx w2.heap.size (.slice ax' lnsx.length capx') 3 false lnsx)) := Firm.pair HCF6.out HTF6.out HKF6.out
    have HENX := hide (TableOk.at HEX.out)
    have HENC := hide (TableOk.at HE5.out)
    clear hC5 hE5 hT
    obtain ⟨n, hn⟩ : ∃ n, texts.length = n := ⟨_, rfl⟩
    rw [hn] at hl HTXQ
    have HN := hide hn
    rw [hn]
    clear hn
    go_wp2_with fail
    rw [HW6.out]
    go_loopw [19] (fun i wr => ∃ (k : Nat) (vb : Value) (rows : List Value), k ≤ n ∧ i = .int .i64 k ∧ EBookIs wr (w2.heap.size + 1) w.heap.size vb rows ∧ rows.length ≤ 4 + 8 * k ∧ Firm (w2.heap.size + 1) vb wr (fun w' => Pair w' bc bm w5.heap.size (.slice al lns.length capl) st sh lns) ∧ Firm (w2.heap.size + 1) vb wr (fun w' => Pair w' bx bmx w2.heap.size (.slice ax' lnsx.length capx') 3 false lnsx) ∧ Below w.heap.size w wr) (fun i _ => n - (intOf i).toNat)
    case atStart => exact ⟨0, vb4, rows4, Nat.zero_le _, rfl, HBK6.out, by omega, HG6.out, HF6.out, HB6.out⟩
    case round =>
      obtain ⟨k, vb, rows, hk, rfl, hbk, hrl, hg, hf, hb⟩ := hrel
      have HBK := hide hbk
      have HG := hide hg
      have HF := hide hf
      have HB := hide hb
      have hzr := hb.size
      have hbbr := hbk.lt
      have hpg := hg.here.box
      have hpf := hf.here.box
      clear hbk hg hf hb
      by_cases hlt : k < n
      · have HTX := hide (HTXQ.out (by omega))
        obtain ⟨gt, offt, capt', het, hgt, hct⟩ := (HTX.out.below HB.out HTX.out.2.1).form (by rw [strs_length, HN.out]; omega)
        cases het
        have ct := hct k _ (strs_get (by rw [HN.out]; exact hlt))
        obtain ⟨tx, htx⟩ : ∃ tx, texts[k]'(by rw [HN.out]; exact hlt) = tx := ⟨_, rfl⟩
        rw [htx] at ct
        obtain ⟨b0, b1, b2⟩ := hpg
        have i1 : (0 : Int) ≤ (k : Int) := by omega
        have i2 : (k : Int) < (n : Int) := by omega
        have hgtw : gt < w.heap.size := HTX.out.2.1 gt rfl
        have HTXT := hide htx
        clear hct hpf htx
        go_upto_region 14 with fail
        go_cut [20] from 62 to 127 (fun t wx => t = .bool true ∧ ∃ vb' rows', EBookIs wx (w2.heap.size + 1) w.heap.size vb' rows' ∧ rows'.length ≤ rows.length + 4 ∧ Turns (w2.heap.size + 1) vb vb' wr wx)
        case first =>
          go_region_with (go_at_call 13; refine (bookParted_later tx HG.out HENC.out HBK.out (by omega) (Below.refl _ _).drew).mono ?_; rintro e w7 ⟨rfl, hans⟩)
          all_goals (go_wp2_with fail; go_meet; exact ⟨rfl, hans⟩)
        case rest =>
          obtain ⟨rfl, vb1, rows1, hbk1, hrl1, htu1⟩ := hcut
          obtain ⟨W7, rfl⟩ : ∃ W7, W7 = wc := ⟨_, rfl⟩
          have HBK7 := hide hbk1
          have HTU7 := hide htu1
          clear hbk1 htu1 b0 b1 b2 ct
          have HB7 : Hid (Below w.heap.size w W7) := HB.out.trans (HTU7.out.below (by omega) (by omega) (fun g hg => (HBK.out.row.lt g hg).1))
          have HF7 := hide (HF.out.next HTU7.out)
          have HG7 := hide (HG.out.next HTU7.out)
          have HCT : Hid (∀ w', Below w.heap.size w w' → ∀ j, (hj : j < texts.length) → w'.cell? ⟨gt, offt + j, none⟩ = some (.string texts[j])) := fun w' hb' j hj => by
            obtain ⟨gt', offt', capt', het, _, hct⟩ := (HTX.out.below hb' HTX.out.2.1).form (by rw [strs_length, HN.out]; omega)
            cases het
            exact hct j _ (strs_get hj)
          have ct : W7.cell? ⟨gt, offt + k, none⟩ = some (.string tx) := by rw [HCT.out W7 HB7.out k (by rw [HN.out]; exact hlt), HTXT.out]
          obtain ⟨b0, b1, b2⟩ := HF7.out.here.box
          go_upto_region 15 with fail
          go_cut [21] from 62 to 127 (fun t wx => t = .bool true ∧ ∃ vb' rows', EBookIs wx (w2.heap.size + 1) w.heap.size vb' rows' ∧ rows'.length ≤ rows.length + 8 ∧ Turns (w2.heap.size + 1) vb vb' wr wx)
          case first =>
            go_region_with (go_at_call 13; refine (bookParted_later tx HF7.out HENX.out HBK7.out (by omega) (Below.refl _ _).drew).mono ?_; rintro e w7 ⟨rfl, hans⟩)
            all_goals
              go_wp2_with fail
              go_meet
              obtain ⟨vb2, rows2, h1, h2, h3⟩ := hans
              exact ⟨rfl, vb2, rows2, h1, by omega, HTU7.out.trans h3⟩
          case rest =>
            obtain ⟨rfl, vb2, rows2, hbk2, hrl2, htu2⟩ := hcut
            obtain ⟨W8, rfl⟩ : ∃ W8, W8 = wc := ⟨_, rfl⟩
            have HBK8 := hide hbk2
            have hz8 := htu2.size
            have HB8 : Hid (Below w.heap.size w W8) := HB.out.trans (htu2.below (by omega) (by omega) (fun g hg => (HBK.out.row.lt g hg).1))
            have HF8 := hide (HF.out.next htu2)
            have HG8 := hide (HG.out.next htu2)
            clear hbk2 htu2 b0 b1 b2 ct
            go_wp2_with fail
            obtain ⟨wo, rfl⟩ : ∃ wo : World, wo = wr := ⟨_, rfl⟩
            go_loopw [22] (fun i wi => ∃ j : Nat, j ≤ n ∧ i = .int .i64 j ∧ Below W8.heap.size W8 wi) (fun i _ => n - (intOf i).toNat)
            case atStart => exact ⟨0, Nat.zero_le _, rfl, Below.refl _ _⟩
            case round =>
              obtain ⟨j, hj, rfl, hbi⟩ := hrel
              have HBI := hide hbi
              have hzi := hbi.size
              have HBJ : Hid (Below w.heap.size w wr) := HB8.out.trans (hbi.mono (by have := HB8.out.size; omega))
              have HG9 := hide (HG8.out.below hbi)
              have HF9 := hide (HF8.out.below hbi)
              have HBK9 := hide (HBK8.out.stay hbi)
              clear hbi
              by_cases hjl : j < n
              · have hjt : j < texts.length := by rw [HN.out]; exact hjl
                obtain ⟨ty, hty⟩ : ∃ ty, texts[j] = ty := ⟨_, rfl⟩
                have HCK : Hid (∀ w', Below w.heap.size w w' → w'.cell? ⟨gt, offt + k, none⟩ = some (.string tx) ∧ w'.cell? ⟨gt, offt + j, none⟩ = some (.string ty)) := fun w' hb' => by
                  rw [HCT.out w' hb' k (by rw [HN.out]; exact hlt), HTXT.out, HCT.out w' hb' j hjt, hty]
                  exact ⟨rfl, rfl⟩
                clear hty
                obtain ⟨ck, cj⟩ := HCK.out wr HBJ.out
                obtain ⟨b0, b1, b2⟩ := HG9.out.here.box
                have j1 : (0 : Int) ≤ (j : Int) := by omega
                have j2 : (j : Int) < (n : Int) := by omega
                go_upto_region 21 with fail
                go_cut [18] from 94 to 127 (fun t wx => t = .bool true ∧ Below wr.heap.size wr wx)
                case first =>
                  go_region_with (go_at_call 14; refine (ordered_later tx ty HG9.out HENC.out (Below.refl _ _).drew).mono ?_; rintro e w7 ⟨rfl, hans⟩)
                  all_goals (go_wp2_with fail; go_meet; exact ⟨rfl, hans⟩)
                case rest =>
                  obtain ⟨rfl, hbc⟩ := hcut
                  have hzc := hbc.size
                  have HBC := hide hbc
                  have HBJ2 : Hid (Below w.heap.size w wc) := HBJ.out.trans (hbc.mono (by have := HBJ.out.size; omega))
                  have HF10 := hide (HF9.out.below hbc)
                  clear hbc ck cj b0 b1 b2
                  obtain ⟨W10, rfl⟩ : ∃ W10, W10 = wc := ⟨_, rfl⟩
                  obtain ⟨ck, cj⟩ := HCK.out W10 HBJ2.out
                  obtain ⟨b0, b1, b2⟩ := HF10.out.here.box
                  go_upto_region 22 with fail
                  go_cut [23] from 94 to 127 (fun t wx => t = .bool true ∧ Below W10.heap.size W10 wx)
                  case first =>
                    go_region_with (go_at_call 14; refine (ordered_later tx ty HF10.out HENX.out (Below.refl _ _).drew).mono ?_; rintro e w7 ⟨rfl, hans⟩)
                    all_goals (go_wp2_with fail; go_meet; exact ⟨rfl, hans⟩)
                  case rest =>
                    obtain ⟨rfl, hbc⟩ := hcut
                    have HB11 : Hid (Below W8.heap.size W8 wc) := HBI.out.trans ((HBC.out.trans (hbc.mono hzc)).mono hzi)
                    clear hbc ck cj b0 b1 b2
                    go_wp2
                    go_roundw
                    case rel => exact ⟨j + 1, by omega, by go_num, HB11.out⟩
                    case measure => simp [intOf]; omega
              · go_wp2
                go_roundw
                case rel => exact ⟨k + 1, vb2, rows2, by omega, by go_num, HBK9.out, by omega, HG9.out, HF9.out, HBJ.out⟩
                case measure => simp [intOf]; omega
      · go_wp2_with fail
        all_goals
          refine (wholeE_any _ _ _ _ _ HBK.out (by omega)).mono ?_
          rintro e w7 ⟨rfl, hb7⟩
          have HB7 : Hid (Below w.heap.size w w7) := HB.out.trans (hb7.mono HB.out.size)
          clear hb7
          go_wp2
          go_ret
          exact ⟨rfl, HB7.out⟩
end Go.Proofs.YtmnjjjhmnhfapaaGreatDoor
