import Derived.Test.YtmnjjjhmnhfapaaDoorMRefSame
namespace Go.Proofs.YtmnjjjhmnhfapaaDoor
open Go.RowKit

theorem u8_eq_of {c : UInt8} {n : Nat} (h : ((c.toNat : Int) == (n : Int)) = true) (hn : n < 256) : c = UInt8.ofNat n := by
  have h1 : (c.toNat : Int) = n := by simpa using h
  apply UInt8.toNat_inj.1
  simp; omega
theorem u8_ne_of {c : UInt8} {n : Nat} (h : ((c.toNat : Int) == (n : Int)) = false) (hn : n < 256) : c ≠ UInt8.ofNat n := by
  rintro rfl
  simp at h; omega

theorem num_bad1 (s : ByteArray) (h0 : 0 < s.size) (h1 : 1 < (s.size : Int)) (h2 : ((s[0].toNat : Int) == 48) = true) : Tm.num s.data.toList = -1 := by
  refine Tm.num_bad (.inr (.inr ⟨by rw [len_bytes]; omega, ?_⟩))
  rw [head_of s h0, u8_eq_of (n := 48) h2 (by omega)]; rfl
theorem num_good1 (s : ByteArray) (h0 : 0 < s.size) (h1 : (s.size : Int) ≤ 6) (h2 : ((s[0].toNat : Int) == 48) = false ∨ (s.size : Int) ≤ 1) : Tm.num s.data.toList = Tm.digits s.data.toList 0 := by
  refine Tm.num_good ?_
  rintro (h | h | ⟨h, h'⟩)
  · rw [len_bytes] at h; omega
  · rw [len_bytes] at h; omega
  · rcases h2 with h2 | h2
    · rw [head_of s h0] at h'
      exact u8_ne_of (n := 48) h2 (by omega) (by simpa using h')
    · rw [len_bytes] at h; omega

set_option maxRecDepth 100000 in
set_option maxHeartbeats 1000000 in
theorem number_any (s : ByteArray) (w : World) (hs : s.size ≤ maxLen) :
    Calls Tryd.prog 48 #[.string s] w fun e w' => e = .returned (.int .i64 (Tm.num s.data.toList)) ∧ w' = w := by
  unfold maxLen at hs
  by_cases h1 : (s.size : Int) < 1
  · have HV := hide (Tm.num_bad (l := s.data.toList) (.inl (by rw [len_bytes]; omega)))
    go_enter Tryd.func48, Tryd.ntmps48
    go_wp2
    go_ret
    exact ⟨ret_int HV.out.symm, rfl⟩
  by_cases h6 : 6 < (s.size : Int)
  · have HV := hide (Tm.num_bad (l := s.data.toList) (.inr (.inl (by rw [len_bytes]; omega))))
    go_enter Tryd.func48, Tryd.ntmps48
    go_wp2
    go_ret
    exact ⟨ret_int HV.out.symm, rfl⟩
  have h0 : 0 < s.size := by omega
  by_cases hb : 1 < (s.size : Int) ∧ ((s[0].toNat : Int) == 48) = true
  · have HV := hide (num_bad1 s h0 hb.1 hb.2)
    obtain ⟨h2, h3⟩ := hb
    go_enter Tryd.func48, Tryd.ntmps48
    go_wp2
    go_ret
    exact ⟨ret_int HV.out.symm, rfl⟩
  have hb' : ((s[0].toNat : Int) == 48) = false ∨ (s.size : Int) ≤ 1 := by
    by_cases h : 1 < (s.size : Int)
    · left; simpa [h] using hb
    · right; omega
  have HV := hide (num_good1 s h0 (by omega) hb')
  clear hb
  have hx : (s.size : Int) ≤ 1 ∨ (1 < (s.size : Int) ∧ ((s[0].toNat : Int) == 48) = false) := by
    rcases hb' with h | h
    · by_cases h' : (s.size : Int) ≤ 1
      · exact .inl h'
      · exact .inr ⟨by omega, h⟩
    · exact .inl h
  clear hb'
  rcases hx with h3 | ⟨h3, h4⟩
  all_goals
    go_enter Tryd.func48, Tryd.ntmps48
    go_wp2
    go_loop [3, 4] (fun n i => ∃ k : Nat, k ≤ s.size ∧ i = .int .i64 k ∧ ∃ m : Int, 0 ≤ m ∧ m < 16 ^ k ∧ n = .int .i64 m ∧ Tm.digits (s.data.toList.drop k) m = Tm.digits s.data.toList 0) (fun _ i => s.size - (intOf i).toNat)
    case atStart => exact ⟨0, Nat.zero_le _, rfl, 0, by omega, by omega, rfl, rfl⟩
    case round =>
      obtain ⟨k, hk, rfl, m, hm0, hm1, rfl, hd⟩ := hrel
      by_cases hlt : k < s.size
      · have hc := Tm.drop_cons s k hlt
        rw [hc] at hd
        clear hc
        have hb16 : m < 16777216 := by
          have := Tm.pow16 k (by omega)
          omega
        have hu : (s[k].toNat : Int) < 256 := by have := s[k].toNat_lt; omega
        by_cases hlo : 48 ≤ (s[k].toNat : Int) ∧ (s[k].toNat : Int) ≤ 57
        · rw [Tm.digits_some (Tm.digit_low hlo)] at hd
          have HD := hide hd
          have HP := hide hm1
          obtain ⟨hl1, hl2⟩ := hlo
          clear hd hm1
          go_wp2
          go_round
          case rel => exact ⟨k + 1, by omega, by go_num, 16 * m + ((s[k].toNat : Int) - 48), by omega, by have := HP.out; rw [Int.pow_succ]; omega, by go_num, HD.out⟩
          case measure => simp [intOf]; omega
        by_cases hhi : 97 ≤ (s[k].toNat : Int) ∧ (s[k].toNat : Int) ≤ 102
        · rw [Tm.digits_some (Tm.digit_high hhi)] at hd
          have HD := hide hd
          have HP := hide hm1
          obtain ⟨hl1, hl2⟩ := hhi
          clear hd hm1 hlo
          go_wp2
          go_round
          case rel => exact ⟨k + 1, by omega, by go_num, 16 * m + ((s[k].toNat : Int) - 87), by omega, by have := HP.out; rw [Int.pow_succ]; omega, by go_num, HD.out⟩
          case measure => simp [intOf]; omega
        · rw [Tm.digits_none (Tm.digit_none hlo hhi)] at hd
          have HD := hide hd
          clear hd hm1
          go_wp2
          all_goals go_ret
          all_goals exact ⟨ret_int (by rw [HV.out, ← HD.out]), rfl⟩
      · rw [Tm.drop_all s k (by omega)] at hd
        have HD := hide hd
        clear hd
        go_wp2
        go_ret
        exact ⟨ret_int (by rw [HV.out, ← HD.out]; rfl), rfl⟩
end Go.Proofs.YtmnjjjhmnhfapaaDoor
namespace Go.Proofs.YtmnjjjhmnhfapaaDoor
open Go.RowKit

theorem Tryd.infoStr : (Tryd.prog.info? 9).map (fun i => (i.zero, i.size, i.bytes)) = some (some (.string ByteArray.empty), 1, 16) := by kernel_rfl

/-- What has been gathered when k letters were looked at, the newest word beginning at m. -/
def wordsRel (s : ByteArray) (c : UInt8) (k m : Nat) (bs : List ByteArray) : Prop :=
  bs.map (·.data.toList) ++ Tm.glue ((s.data.toList.drop m).take (k - m)) (Tm.split c (s.data.toList.drop k)) = Tm.split c s.data.toList

theorem wordsRel_zero (s : ByteArray) (c : UInt8) : wordsRel s c 0 0 [] := by simp [wordsRel, Tm.glue_nil]
theorem wordsRel_hit {s : ByteArray} {c : UInt8} {k m : Nat} {bs : List ByteArray} (hk : k < s.size) (hc : s[k] = c) (h : wordsRel s c k m bs) :
    wordsRel s c (k + 1) (k + 1) (bs ++ [s.extract m k]) := by
  unfold wordsRel at *
  rw [Tm.drop_cons s k hk, hc, Tm.glue_hit] at h
  simp [Tm.glue_nil, ← h]
theorem wordsRel_miss {s : ByteArray} {c : UInt8} {k m : Nat} {bs : List ByteArray} (hk : k < s.size) (hm : m ≤ k) (hc : s[k] ≠ c) (h : wordsRel s c k m bs) :
    wordsRel s c (k + 1) m bs := by
  unfold wordsRel at *
  rw [Tm.drop_cons s k hk, Tm.glue_miss c s[k] _ _ hc] at h
  rw [← h]
  congr 2
  rw [show k + 1 - m = (k - m) + 1 from by omega, List.take_add_one]
  congr 1
  simp [List.getElem?_drop, show m + (k - m) = k from by omega]
  rw [Array.getElem?_eq_getElem (by exact hk)]
  rfl
theorem wordsRel_end {s : ByteArray} {c : UInt8} {k m : Nat} {bs : List ByteArray} (hk : ¬ k < s.size) (hk' : k ≤ s.size) (h : wordsRel s c k m bs) :
    (bs ++ [s.extract m s.size]).map (·.data.toList) = Tm.split c s.data.toList := by
  have : k = s.size := by omega
  subst this
  unfold wordsRel at h
  rw [Tm.drop_all s _ (Nat.le_refl _), Tm.glue_end] at h
  simp [← h]

/-- A word more, by append: what the round keeps. -/
theorem words_grow {w wr w1 : World} {v v' : Value} {bs : List ByteArray} {b : ByteArray}
    (hb : Below w.heap.size w wr) (hown : wr.ownsRow w.heap.size 9 1 v bs.length (bs.map Value.string))
    (hown' : w1.ownsRow w.heap.size 9 1 v' (bs.length + 1) (bs.map Value.string ++ [.string b])) (hgrow : (wr.alloc (.cells #[.string b] 9)).grownBy w1 v.ownBlock) :
    w1.ownsRow w.heap.size 9 1 v' (bs ++ [b]).length ((bs ++ [b]).map Value.string) ∧ Below w.heap.size w w1 := by
  refine ⟨by simpa using hown', ?_⟩
  have hz := hb.size
  exact (hb.alloc hz _).grown hgrow (by simp; omega) (fun k hk => (hown.lt k hk).1)

theorem u8_iff {c d : UInt8} : ((c.toNat : Int) == (d.toNat : Int)) = true ↔ c = d := by
  simp only [beq_iff_eq]
  exact ⟨fun h => UInt8.toNat_inj.1 (by omega), fun h => by rw [h]⟩

set_option maxRecDepth 100000 in
set_option maxHeartbeats 1000000 in
theorem words_any (s : ByteArray) (c : UInt8) (n : Int) (hn : n = c.toNat) (w : World) (hs : s.size ≤ 8192) :
    Calls Tryd.prog 24 #[.string s, .int .u8 n] w fun e w' => ∃ (v : Value) (bs : List ByteArray), e = .returned v ∧ w'.ownsRow w.heap.size 9 1 v bs.length (bs.map Value.string) ∧
      bs.map (·.data.toList) = Tm.split c s.data.toList ∧ Below w.heap.size w w' := by
  obtain ⟨i0, hi, hz0, hz1, hz2⟩ := info_parts Tryd.infoStr
  have HN := hide hn
  clear hn
  go_enter Tryd.func24, Tryd.ntmps24
  go_wp2
  go_loopw [5, 6, 7] (fun v f i wr => ∃ k m : Nat, k ≤ s.size ∧ m ≤ k ∧ i = .int .i64 k ∧ f = .int .i64 m ∧ ∃ bs : List ByteArray, bs.length ≤ k ∧ wr.ownsRow w.heap.size 9 1 v bs.length (bs.map Value.string) ∧ Below w.heap.size w wr ∧ wordsRel s c k m bs)
    (fun _ _ i _ => s.size - (intOf i).toNat)
  case atStart => exact ⟨0, 0, Nat.zero_le _, Nat.le_refl _, rfl, rfl, [], by simp, World.ownsRow_nil _ _ _ _, Below.refl _ _, wordsRel_zero s c⟩
  case round =>
    obtain ⟨k, m, hk, hm, rfl, rfl, bs, hbs, hown, hb, hrel⟩ := hrel
    have HR := hide hrel
    have hz := hb.size
    clear hrel
    by_cases hlt : k < s.size
    · cases hc : ((s[k].toNat : Int) == n)
      · have hne : s[k] ≠ c := fun h => by rw [HN.out, h] at hc; simp at hc
        have HR' := hide (wordsRel_miss hlt hm hne HR.out)
        clear hne HR
        go_wp2
        go_roundw
        case rel => exact ⟨k + 1, m, by omega, by omega, by go_num, rfl, bs, by omega, hown, hb, HR'.out⟩
        case measure => simp [intOf]; omega
      · have heq : s[k] = c := by rw [HN.out] at hc; exact u8_iff.1 hc
        have HR' := hide (wordsRel_hit hlt heq HR.out)
        clear heq HR
        go_wp2_with (at_builtin; refine wpList_append_own _ rfl _ _ 32 rfl w.heap.size 9 i0 (.string ByteArray.empty) 1 16 Tryd.underlying32 hi hz0 hz1 hz2 rfl (by decide) _ _ _ rfl (hown.alloc _) ⟨wr.heap.size, 0, none⟩ 1 1 [.string (s.extract m k)] rfl rfl ?c1 ?c2 ?c3 ?c4 ?c5 ?_)
        case c1 =>
          intro j u hj
          match j, hj with
          | 0, hj => simp at hj; subst hj; simp [Addr.add]
        case c2 => intro u hu; simp at hu; subst hu; rfl
        case c3 => unfold maxLen; omega
        case c4 => omega
        case c5 => simp; omega
        intro v' w1 hown' hgrow _
        have R := words_grow hb hown hown' hgrow
        have R1 := R.1
        have R2 := R.2
        clear hown' hgrow hown hb R
        go_wp2
        go_roundw
        case rel => exact ⟨k + 1, k + 1, by omega, by omega, by go_num, by go_num, _, by simp; omega, R1, R2, HR'.out⟩
        case measure => simp [intOf]; omega
    · have HR' := hide (wordsRel_end hlt hk HR.out)
      clear HR
      go_wp2_with (at_builtin; refine wpList_append_own _ rfl _ _ 32 rfl w.heap.size 9 i0 (.string ByteArray.empty) 1 16 Tryd.underlying32 hi hz0 hz1 hz2 rfl (by decide) _ _ _ rfl (hown.alloc _) ⟨wr.heap.size, 0, none⟩ 1 1 [.string (s.extract m s.size)] rfl rfl ?d1 ?d2 ?d3 ?d4 ?d5 ?_)
      case d1 =>
        intro j u hj
        match j, hj with
        | 0, hj => simp at hj; subst hj; simp [Addr.add]
      case d2 => intro u hu; simp at hu; subst hu; rfl
      case d3 => unfold maxLen; omega
      case d4 => omega
      case d5 => simp; omega
      intro v' w1 hown' hgrow _
      have R := words_grow hb hown hown' hgrow
      have R1 := R.1
      have R2 := R.2
      clear hown' hgrow hown hb R
      go_wp2
      go_ret
      exact ⟨_, _, rfl, R1, HR'.out, R2⟩
end Go.Proofs.YtmnjjjhmnhfapaaDoor
