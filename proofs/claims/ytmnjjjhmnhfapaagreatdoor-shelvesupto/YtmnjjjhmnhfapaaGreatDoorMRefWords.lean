import Derived.Test.YtmnjjjhmnhfapaaGreatDoorMRefNum
namespace Go.Proofs.YtmnjjjhmnhfapaaGreatDoor
open Go.RowKit
theorem Tryz.infoStr : (Tryz.prog.info? 9).map (fun i => (i.zero, i.size, i.bytes)) = some (some (.string ByteArray.empty), 1, 16) := by kernel_rfl
def wordsRel (s : ByteArray) (c : UInt8) (k m : Nat) (bs : List ByteArray) : Prop :=
 bs.map (·.data.toList) ++ Tm.glue ((s.data.toList.drop m).take (k - m)) (Tm.split c (s.data.toList.drop k)) = Tm.split c s.data.toList
theorem wordsRel_zero (s : ByteArray) (c : UInt8) : wordsRel s c 0 0 [] := by simp [wordsRel, Tm.glue_nil]
theorem wordsRel_hit {s : ByteArray} {c : UInt8} {k m : Nat} {bs : List ByteArray} (hk : k < s.size) (hc : s[k] = c) (h : wordsRel s c k m bs) :
  wordsRel s c (k + 1) (k + 1) (bs ++ [s.extract m k]) := by
 unfold wordsRel at *
 rw [Tm.drop_cons s k hk, hc, Tm.glue_hit] at h
 simp [Tm.glue_nil, ← h]
theorem wordsRel_miss {s : ByteArray} {c : UInt8} {k m : Nat} {bs : List ByteArray} (hk : k < s.size) (hm : m ≤ k) (hc : s[k] ≠ c) (h : wordsRel s c k m bs) :
  wordsRel s c (k + 1) m bs := by
 unfold wordsRel at *
 rw [Tm.drop_cons s k hk, Tm.glue_miss c s[k] _ _ hc] at h
 rw [← h]
 congr 2
 rw [show k + 1 - m = (k - m) + 1 from by omega, List.take_add_one]
 congr 1
 simp [List.getElem?_drop, show m + (k - m) = k from by omega]
 rw [Array.getElem?_eq_getElem (by exact hk)]
 rfl
theorem wordsRel_end {s : ByteArray} {c : UInt8} {k m : Nat} {bs : List ByteArray} (hk : ¬ k < s.size) (hk' : k ≤ s.size) (h : wordsRel s c k m bs) :
  (bs ++ [s.extract m s.size]).map (·.data.toList) = Tm.split c s.data.toList := by
 have : k = s.size := by omega
 subst this
 unfold wordsRel at h
 rw [Tm.drop_all s _ (Nat.le_refl _), Tm.glue_end] at h
 simp [← h]
theorem words_grow {w wr w1 : World} {v v' : Value} {bs : List ByteArray} {b : ByteArray}
  (hb : Below w.heap.size w wr) (hown : wr.ownsRow w.heap.size 9 1 v bs.length (bs.map Value.string))
  (hown' : w1.ownsRow w.heap.size 9 1 v' (bs.length + 1) (bs.map Value.string ++ [.string b])) (hgrow : (wr.alloc (.cells #[.string b] 9)).grownBy w1 v.ownBlock) :
  w1.ownsRow w.heap.size 9 1 v' (bs ++ [b]).length ((bs ++ [b]).map Value.string) ∧ Below w.heap.size w w1 := by
 refine ⟨by simpa using hown', ?_⟩
 have hz := hb.size
 exact (hb.alloc hz _).grown hgrow (by simp; omega) (fun k hk => (hown.lt k hk).1)
theorem u8_iff {c d : UInt8} : ((c.toNat : Int) == (d.toNat : Int)) = true ↔ c = d := by
 simp only [beq_iff_eq]
 exact ⟨fun h => UInt8.toNat_inj.1 (by omega), fun h => by rw [h]⟩
set_option maxRecDepth 100000 in
set_option maxHeartbeats 1000000 in
theorem words_any (s : ByteArray) (c : UInt8) (n : Int) (hn : n = c.toNat) (w : World) (hs : s.size ≤ 8192) :
  Calls Tryz.prog 35 #[.string s, .int .u8 n] w fun e w' => ∃ (v : Value) (bs : List ByteArray), e = .returned v ∧ w'.ownsRow w.heap.size 9 1 v bs.length (bs.map Value.string) ∧
   bs.map (·.data.toList) = Tm.split c s.data.toList ∧ Below w.heap.size w w' := by
 obtain ⟨i0, hi, hz0, hz1, hz2⟩ := info_parts Tryz.infoStr
 have HN := hide hn
 clear hn
 go_enter Tryz.func35, Tryz.ntmps35
 go_wp2
 go_loopw [5, 6, 7] (fun v f i wr => ∃ k m : Nat, k ≤ s.size ∧ m ≤ k ∧ i = .int .i64 k ∧ f = .int .i64 m ∧ ∃ bs : List ByteArray, bs.length ≤ k ∧ wr.ownsRow w.heap.size 9 1 v bs.length (bs.map Value.string) ∧ Below w.heap.size w wr ∧ wordsRel s c k m bs)
  (fun _ _ i _ => s.size - (intOf i).toNat)
 case atStart => exact ⟨0, 0, Nat.zero_le _, Nat.le_refl _, rfl, rfl, [], by simp, World.ownsRow_nil _ _ _ _, Below.refl _ _, wordsRel_zero s c⟩
 case round =>
  obtain ⟨k, m, hk, hm, rfl, rfl, bs, hbs, hown, hb, hrel⟩ := hrel
  have HR := hide hrel
  have hz := hb.size
  clear hrel
  by_cases hlt : k < s.size
  ·cases hc : ((s[k].toNat : Int) == n)
   ·have hne : s[k] ≠ c := fun h => by rw [HN.out, h] at hc; simp at hc
    have HR' := hide (wordsRel_miss hlt hm hne HR.out)
    clear hne HR
    go_wp2
    go_roundw
    case rel => exact ⟨k + 1, m, by omega, by omega, by go_num, rfl, bs, by omega, hown, hb, HR'.out⟩
    case measure => simp [intOf]; omega
   ·have heq : s[k] = c := by rw [HN.out] at hc; exact u8_iff.1 hc
    have HR' := hide (wordsRel_hit hlt heq HR.out)
    clear heq HR
    go_wp2_with (at_builtin; refine wpList_append_own _ rfl _ _ 22 rfl w.heap.size 9 i0 (.string ByteArray.empty) 1 16 Tryz.underlying22 hi hz0 hz1 hz2 rfl (by decide) _ _ _ rfl (hown.alloc _) ⟨wr.heap.size, 0, none⟩ 1 1 [.string (s.extract m k)] rfl rfl ?c1 ?c2 ?c3 ?c4 ?c5 ?_)
    case c1 =>
     intro j u hj
     match j, hj with
     | 0, hj => simp at hj; subst hj; simp [Addr.add]
    case c2 => intro u hu; simp at hu; subst hu; rfl
    case c3 => unfold maxLen; omega
    case c4 => omega
    case c5 => simp; omega
    intro v' w1 hown' hgrow _
    have R := words_grow hb hown hown' hgrow
    have R1 := R.1
    have R2 := R.2
    clear hown' hgrow hown hb R
    go_wp2
    go_roundw
    case rel => exact ⟨k + 1, k + 1, by omega, by omega, by go_num, by go_num, _, by simp; omega, R1, R2, HR'.out⟩
    case measure => simp [intOf]; omega
  ·have HR' := hide (wordsRel_end hlt hk HR.out)
   clear HR
   go_wp2_with (at_builtin; refine wpList_append_own _ rfl _ _ 22 rfl w.heap.size 9 i0 (.string ByteArray.empty) 1 16 Tryz.underlying22 hi hz0 hz1 hz2 rfl (by decide) _ _ _ rfl (hown.alloc _) ⟨wr.heap.size, 0, none⟩ 1 1 [.string (s.extract m s.size)] rfl rfl ?d1 ?d2 ?d3 ?d4 ?d5 ?_)
   case d1 =>
    intro j u hj
    match j, hj with
    | 0, hj => simp at hj; subst hj; simp [Addr.add]
   case d2 => intro u hu; simp at hu; subst hu; rfl
   case d3 => unfold maxLen; omega
   case d4 => omega
   case d5 => simp; omega
   intro v' w1 hown' hgrow _
   have R := words_grow hb hown hown' hgrow
   have R1 := R.1
   have R2 := R.2
   clear hown' hgrow hown hb R
   go_wp2
   go_ret
   exact ⟨_, _, rfl, R1, HR'.out, R2⟩
end Go.Proofs.YtmnjjjhmnhfapaaGreatDoor
