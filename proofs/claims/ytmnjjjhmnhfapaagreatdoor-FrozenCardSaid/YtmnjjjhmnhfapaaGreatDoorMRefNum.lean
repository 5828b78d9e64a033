import Derived.Laws.RangeAny
import Derived.Test.YtmnjjjhmnhfapaaGreatDoorRows
import Derived.WalkKit
import Derived.WalkSpells
import Derived.WalkLawsBesides
import Derived.Test.YtmnjjjhmnhfapaaGreatDoorMElems
import Derived.Test.YtmnjjjhmnhfapaaGreatDoorMPlain
/-
  Plain facts on levels, the order of texts, and keys.
-/
namespace Go.Proofs.YtmnjjjhmnhfapaaGreatDoor
namespace Tm

/-- The number, unless it is 0. -/
def nz (x : Int) : List Int := if x = 0 then [] else [x]
/-- What an element gives to a level (0 to 3), not shifted. -/
def plainW (e : El) : Nat → List Int
  | 0 => nz e.p
  | 1 => nz e.s
  | 2 => nz e.t
  | _ => []
/-- Is what stands here behind a variable element? -/
def behind (bv : Bool) (e : El) : Bool := if e.p = 0 then bv else e.v
def empty (e : El) : Bool := e.p == 0 && e.s == 0 && e.t == 0
/-- What an element gives to a level (0 to 3), shifted; b: it is, or stands behind, a variable one. -/
def shiftW (b : Bool) (e : El) : Nat → List Int
  | 0 => if b then [] else nz e.p
  | 1 => if b then [] else nz e.s
  | 2 => if b then [] else nz e.t
  | _ => if b then nz e.p else if empty e then [] else [65535]
def lev (sh : Bool) (k : Nat) : Bool → List El → List Int
  | _, [] => []
  | bv, e :: r => (if sh then shiftW (behind bv e) e k else plainW e k) ++ lev sh k (behind bv e) r
/-- A level of elements (0 to 3). -/
def level (sh : Bool) (els : List El) (k : Nat) : List Int := lev sh k false els

def lastB : Bool → List El → Bool
  | bv, [] => bv
  | bv, e :: r => lastB (behind bv e) r
theorem lastB_snoc (e : El) : ∀ (l : List El) (bv : Bool), lastB bv (l ++ [e]) = behind (lastB bv l) e
  | [], _ => rfl
  | _ :: r, _ => lastB_snoc e r _
theorem lev_snoc (sh : Bool) (k : Nat) (e : El) : ∀ (l : List El) (bv : Bool), lev sh k bv (l ++ [e]) = lev sh k bv l ++ (if sh then shiftW (behind (lastB bv l) e) e k else plainW e k)
  | [], bv => by simp [lev, lastB]
  | x :: r, bv => by simp only [List.cons_append, lev, lastB]; rw [lev_snoc sh k e r]; simp
theorem level_snoc (sh : Bool) (k : Nat) (e : El) (l : List El) : level sh (l ++ [e]) k = level sh l k ++ (if sh then shiftW (behind (lastB false l) e) e k else plainW e k) := lev_snoc sh k e l false
theorem nz_length (x : Int) : (nz x).length ≤ 1 := by unfold nz; split <;> simp
theorem plainW_length (e : El) (k : Nat) : (plainW e k).length ≤ 1 := by
  unfold plainW; split <;> first | exact nz_length _ | simp
theorem shiftW_length (b : Bool) (e : El) (k : Nat) : (shiftW b e k).length ≤ 1 := by
  unfold shiftW
  split <;> split <;> first | exact nz_length _ | exact Nat.zero_le _ | (split <;> simp)
theorem lev_length (sh : Bool) (k : Nat) : ∀ (l : List El) (bv : Bool), (lev sh k bv l).length ≤ l.length
  | [], _ => by simp [lev]
  | e :: r, bv => by
    have := lev_length sh k r (behind bv e)
    have h1 := shiftW_length (behind bv e) e k
    have h2 := plainW_length e k
    simp only [lev, List.length_append, List.length_cons]
    split <;> omega

/-- The order of lists of numbers. -/
def cmpL : List Int → List Int → Int
  | [], [] => 0
  | [], _ :: _ => -1
  | _ :: _, [] => 1
  | a :: r, b :: t => if a < b then -1 else if b < a then 1 else cmpL r t
/-- The order of lists of lists. -/
def cmpLL : List (List Int) → List (List Int) → Int
  | [], [] => 0
  | [], _ :: _ => -1
  | _ :: _, [] => 1
  | a :: r, b :: t => if cmpL a b = 0 then cmpLL r t else cmpL a b
theorem cmpL_range : ∀ (a b : List Int), cmpL a b = -1 ∨ cmpL a b = 0 ∨ cmpL a b = 1
  | [], [] => by simp [cmpL]
  | [], _ :: _ => by simp [cmpL]
  | _ :: _, [] => by simp [cmpL]
  | a :: r, b :: t => by
    unfold cmpL
    split
    · simp
    · split
      · simp
      · exact cmpL_range r t
theorem cmpL_self : ∀ (a : List Int), cmpL a a = 0
  | [] => rfl
  | a :: r => by simp [cmpL, cmpL_self r]
theorem cmpL_zero : ∀ {a b : List Int}, cmpL a b = 0 → a = b
  | [], [], _ => rfl
  | [], _ :: _, h => by simp [cmpL] at h
  | _ :: _, [], h => by simp [cmpL] at h
  | a :: r, b :: t, h => by
    unfold cmpL at h
    split at h
    · simp at h
    · split at h
      · simp at h
      · rw [cmpL_zero h, show a = b by omega]
theorem cmpL_eq_zero (a b : List Int) : cmpL a b = 0 ↔ a = b := ⟨cmpL_zero, fun h => by rw [h]; exact cmpL_self b⟩
theorem cmpL_neg : ∀ (a b : List Int), cmpL b a = - cmpL a b
  | [], [] => rfl
  | [], _ :: _ => rfl
  | _ :: _, [] => rfl
  | a :: r, b :: t => by
    have ih := cmpL_neg r t
    simp only [cmpL]
    by_cases h1 : a < b
    · rw [if_neg (by omega), if_pos h1, if_pos h1]; rfl
    · by_cases h2 : b < a
      · rw [if_pos h2, if_neg h1, if_pos h2]
      · rw [if_neg h2, if_neg h1, if_neg h1, if_neg h2, ih]
/-- Less: transitive, with equals on either side. -/
theorem cmpL_trans : ∀ {a b c : List Int}, cmpL a b ≤ 0 → cmpL b c ≤ 0 → cmpL a c ≤ 0
  | [], _, [], _, _ => by simp [cmpL]
  | [], _, _ :: _, _, _ => by simp [cmpL]
  | _ :: _, [], _, h, _ => by simp [cmpL] at h
  | _ :: _, _ :: _, [], _, h => by simp [cmpL] at h
  | a :: r, b :: t, c :: u, h, k => by
    unfold cmpL at h k ⊢
    by_cases h1 : a < b
    · by_cases k1 : b < c
      · rw [if_pos (by omega)]; decide
      · rw [if_neg k1] at k
        by_cases k2 : c < b
        · rw [if_pos k2] at k; simp at k
        · rw [if_pos (by omega)]; decide
    · rw [if_neg h1] at h
      by_cases h2 : b < a
      · rw [if_pos h2] at h; simp at h
      · rw [if_neg h2] at h
        by_cases k1 : b < c
        · rw [if_pos (by omega)]; decide
        · rw [if_neg k1] at k
          by_cases k2 : c < b
          · rw [if_pos k2] at k; simp at k
          · rw [if_neg k2] at k
            rw [if_neg (by omega), if_neg (by omega)]
            exact cmpL_trans h k
theorem cmpLL_range : ∀ (a b : List (List Int)), cmpLL a b = -1 ∨ cmpLL a b = 0 ∨ cmpLL a b = 1
  | [], [] => by simp [cmpLL]
  | [], _ :: _ => by simp [cmpLL]
  | _ :: _, [] => by simp [cmpLL]
  | a :: r, b :: t => by
    unfold cmpLL
    split
    · exact cmpLL_range r t
    · exact cmpL_range a b
theorem cmpLL_zero : ∀ {a b : List (List Int)}, cmpLL a b = 0 → a = b
  | [], [], _ => rfl
  | [], _ :: _, h => by simp [cmpLL] at h
  | _ :: _, [], h => by simp [cmpLL] at h
  | a :: r, b :: t, h => by
    unfold cmpLL at h
    split at h
    · rename_i h1; rw [cmpL_zero h1, cmpLL_zero h]
    · rename_i h1; exact absurd h h1
theorem cmpLL_self : ∀ (a : List (List Int)), cmpLL a a = 0
  | [] => rfl
  | a :: r => by rw [cmpLL, if_pos (cmpL_self a)]; exact cmpLL_self r
theorem cmpLL_neg : ∀ (a b : List (List Int)), cmpLL b a = - cmpLL a b
  | [], [] => rfl
  | [], _ :: _ => rfl
  | _ :: _, [] => rfl
  | a :: r, b :: t => by
    have ih := cmpLL_neg r t
    have h := cmpL_neg a b
    simp only [cmpLL]
    by_cases h1 : cmpL a b = 0
    · rw [if_pos (by omega), if_pos h1, ih]
    · rw [if_neg (by omega), if_neg h1, h]
theorem cmpLL_trans : ∀ {a b c : List (List Int)}, cmpLL a b ≤ 0 → cmpLL b c ≤ 0 → cmpLL a c ≤ 0
  | [], _, [], _, _ => by simp [cmpLL]
  | [], _, _ :: _, _, _ => by simp [cmpLL]
  | _ :: _, [], _, h, _ => by simp [cmpLL] at h
  | _ :: _, _ :: _, [], _, h => by simp [cmpLL] at h
  | a :: r, b :: t, c :: u, h, k => by
    unfold cmpLL at h k ⊢
    by_cases h1 : cmpL a b = 0
    · have e := cmpL_zero h1
      subst e
      rw [if_pos h1] at h
      by_cases k1 : cmpL a c = 0
      · rw [if_pos k1] at k ⊢
        exact cmpLL_trans h k
      · rw [if_neg k1] at k ⊢
        exact k
    · rw [if_neg h1] at h
      by_cases k1 : cmpL b c = 0
      · have e := cmpL_zero k1
        subst e
        rw [if_neg h1]
        exact h
      · rw [if_neg k1] at k
        have h2 := cmpL_trans h k
        have h3 : cmpL a c ≠ 0 := fun e => by
          have e := cmpL_zero e
          subst e
          have := cmpL_neg a b
          omega
        rw [if_neg h3]
        exact h2

/-- The bytes of a number below 2^24, the greatest first. -/
def num3 (x : Int) : List UInt8 := [UInt8.ofNat (x.toNat / 65536), UInt8.ofNat (x.toNat / 256), UInt8.ofNat x.toNat]
def keyL (l : List Int) : List UInt8 := l.flatMap num3 ++ num3 0
def keyLL (l : List (List Int)) : List UInt8 := l.flatMap keyL

/-- The order of bytes. -/
def lessB : List UInt8 → List UInt8 → Bool
  | [], [] => false
  | [], _ :: _ => true
  | _ :: _, [] => false
  | a :: r, b :: t => if a < b then true else if b < a then false else lessB r t
def cmpB (a b : List UInt8) : Int := if lessB a b then -1 else if lessB b a then 1 else 0
theorem lessB_same (p a b : List UInt8) : lessB (p ++ a) (p ++ b) = lessB a b := by
  induction p with
  | nil => rfl
  | cons x r ih => simp only [List.cons_append, lessB]; rw [if_neg (by exact UInt8.lt_irrefl x), if_neg (by exact UInt8.lt_irrefl x), ih]
theorem lessB_self (a : List UInt8) : lessB a a = false := by
  have := lessB_same a [] []
  simpa [lessB] using this
theorem num3_less {x y : Int} (hx : 0 ≤ x ∧ x < 16777216) (hy : 0 ≤ y ∧ y < 16777216) (h : x < y) (a b : List UInt8) : lessB (num3 x ++ a) (num3 y ++ b) = true ∧ lessB (num3 y ++ b) (num3 x ++ a) = false := by
  obtain ⟨n, rfl⟩ : ∃ n : Nat, x = n := ⟨x.toNat, by omega⟩
  obtain ⟨m, rfl⟩ : ∃ m : Nat, y = m := ⟨y.toNat, by omega⟩
  have hn : n < 16777216 := by omega
  have hm : m < 16777216 := by omega
  have hl : n < m := by omega
  have q1 : ∀ k : Nat, k < 256 → (UInt8.ofNat k).toNat = k := fun k hk => by simp [UInt8.toNat_ofNat']; omega
  have q2 : ∀ k : Nat, (UInt8.ofNat k).toNat = k % 256 := fun k => by simp [UInt8.toNat_ofNat']
  simp only [num3, List.cons_append, List.nil_append, lessB, Int.toNat_natCast, UInt8.lt_iff_toNat_lt, q2]
  have e1 : n / 65536 % 256 = n / 65536 := Nat.mod_eq_of_lt (by omega)
  have e2 : m / 65536 % 256 = m / 65536 := Nat.mod_eq_of_lt (by omega)
  rw [e1, e2]
  by_cases h1 : n / 65536 < m / 65536
  · simp [h1, Nat.not_lt.2 (Nat.le_of_lt h1)]
  · have h1' : n / 65536 = m / 65536 := by omega
    rw [h1']
    simp only [Nat.lt_irrefl, if_false]
    by_cases h2 : n / 256 % 256 < m / 256 % 256
    · simp [h2, Nat.not_lt.2 (Nat.le_of_lt h2)]
    · have h2' : n / 256 % 256 = m / 256 % 256 := by omega
      rw [h2']
      simp only [Nat.lt_irrefl, if_false]
      have h3 : n % 256 < m % 256 := by omega
      simp [h3, Nat.not_lt.2 (Nat.le_of_lt h3)]
def Small (l : List Int) : Prop := ∀ x ∈ l, 0 ≤ x ∧ x < 16777216
def Weights (l : List Int) : Prop := ∀ x ∈ l, 0 < x ∧ x < 16777216
theorem Weights.small {l : List Int} (h : Weights l) : Small l := fun x hx => by have := h x hx; omega
/-- Keys of levels, with whatever behind them. -/
theorem keyL_less : ∀ {l m : List Int}, Weights l → Weights m → cmpL l m = -1 → ∀ a b, lessB (keyL l ++ a) (keyL m ++ b) = true ∧ lessB (keyL m ++ b) (keyL l ++ a) = false
  | [], [], _, _, h, _, _ => by simp [cmpL] at h
  | [], y :: m, _, hm, _, a, b => by
    simp only [keyL, List.flatMap_nil, List.nil_append, List.flatMap_cons, List.append_assoc]
    exact num3_less ⟨by omega, by omega⟩ ⟨by have := hm y (by simp); omega, (hm y (by simp)).2⟩ (hm y (by simp)).1 _ _
  | _ :: _, [], _, _, h, _, _ => by simp [cmpL] at h
  | x :: l, y :: m, hl, hm, h, a, b => by
    have hx := hl x (by simp)
    have hy := hm y (by simp)
    simp only [keyL, List.flatMap_cons, List.append_assoc]
    unfold cmpL at h
    by_cases h1 : x < y
    · exact num3_less ⟨by omega, hx.2⟩ ⟨by omega, hy.2⟩ h1 _ _
    · rw [if_neg h1] at h
      by_cases h2 : y < x
      · rw [if_pos h2] at h; simp at h
      · rw [if_neg h2] at h
        rw [show x = y by omega, lessB_same, lessB_same]
        have := keyL_less (fun z hz => hl z (by simp [hz])) (fun z hz => hm z (by simp [hz])) h a b
        simpa [keyL] using this
/-- Keys of the last list, with nothing behind them. -/
theorem keyL_last : ∀ {l m : List Int}, Small l → Small m → cmpL l m = -1 → lessB (keyL l) (keyL m) = true ∧ lessB (keyL m) (keyL l) = false
  | [], [], _, _, h => by simp [cmpL] at h
  | [], y :: m, _, hm, _ => by
    have hy := hm y (by simp)
    by_cases h0 : y = 0
    · subst h0
      simp only [keyL, List.flatMap_nil, List.nil_append, List.flatMap_cons, List.append_assoc]
      have e : num3 0 = num3 0 ++ [] := by simp
      constructor
      · conv => lhs; lhs; rw [e]
        rw [lessB_same]
        cases hq : m.flatMap num3 ++ num3 0 with
        | nil => simp [num3] at hq
        | cons z r => rfl
      · conv => lhs; rhs; rw [e]
        rw [lessB_same]
        cases hq : m.flatMap num3 ++ num3 0 with
        | nil => simp [num3] at hq
        | cons z r => rfl
    · simp only [keyL, List.flatMap_nil, List.nil_append, List.flatMap_cons, List.append_assoc]
      have := num3_less (x := 0) ⟨by omega, by omega⟩ hy (by omega) [] (m.flatMap num3 ++ num3 0)
      simpa using this
  | _ :: _, [], _, _, h => by simp [cmpL] at h
  | x :: l, y :: m, hl, hm, h => by
    have hx := hl x (by simp)
    have hy := hm y (by simp)
    simp only [keyL, List.flatMap_cons, List.append_assoc]
    unfold cmpL at h
    by_cases h1 : x < y
    · exact num3_less hx hy h1 _ _
    · rw [if_neg h1] at h
      by_cases h2 : y < x
      · rw [if_pos h2] at h; simp at h
      · rw [if_neg h2] at h
        rw [show x = y by omega, lessB_same, lessB_same]
        have := keyL_last (fun z hz => hl z (by simp [hz])) (fun z hz => hm z (by simp [hz])) h
        simpa [keyL] using this
theorem keyLL_less : ∀ {a b : List (List Int)} {x y : List Int}, a.length = b.length → (∀ l ∈ a, Weights l) → (∀ l ∈ b, Weights l) → Small x → Small y → cmpLL (a ++ [x]) (b ++ [y]) = -1 → lessB (keyLL (a ++ [x])) (keyLL (b ++ [y])) = true ∧ lessB (keyLL (b ++ [y])) (keyLL (a ++ [x])) = false
  | [], [], x, y, _, _, _, hx, hy, h => by
    simp only [List.nil_append, cmpLL] at h
    split at h
    · simp at h
    · have := keyL_last hx hy h
      simpa [keyLL] using this
  | l :: a, m :: b, x, y, hab, ha, hb, hx, hy, h => by
    simp only [List.cons_append, cmpLL] at h
    simp only [List.cons_append, keyLL, List.flatMap_cons]
    split at h
    · rename_i h0
      rw [cmpL_zero h0, lessB_same, lessB_same]
      exact keyLL_less (by simpa using hab) (fun q hq => ha q (by simp [hq])) (fun q hq => hb q (by simp [hq])) hx hy h
    · exact keyL_less (ha l (by simp)) (hb m (by simp)) h _ _
  | [], _ :: _, _, _, h, _, _, _, _, _ => by simp at h
  | _ :: _, [], _, _, h, _, _, _, _, _ => by simp at h
/-- Keys stand in the order of what they are made of. -/
theorem keyLL_cmp {a b : List (List Int)} {x y : List Int} (hab : a.length = b.length) (ha : ∀ l ∈ a, Weights l) (hb : ∀ l ∈ b, Weights l) (hx : Small x) (hy : Small y) : cmpB (keyLL (a ++ [x])) (keyLL (b ++ [y])) = cmpLL (a ++ [x]) (b ++ [y]) := by
  unfold cmpB
  rcases cmpLL_range (a ++ [x]) (b ++ [y]) with h | h | h
  · have := keyLL_less hab ha hb hx hy h
    rw [this.1, h]; rfl
  · have e := cmpLL_zero h
    rw [e, lessB_self, cmpLL_self]; rfl
  · have h' := cmpLL_neg (a ++ [x]) (b ++ [y])
    have := keyLL_less hab.symm hb ha hy hx (by omega)
    rw [this.1, this.2, h]; rfl
end Tm
end Go.Proofs.YtmnjjjhmnhfapaaGreatDoor
/-
  The runes of a text, and its normal form, as plain functions.
-/
namespace Go.Proofs.YtmnjjjhmnhfapaaGreatDoor

theorem decode_width (s : ByteArray) (pos : Nat) (h : pos < s.size) : 1 ≤ (Utf8.decode s pos).2 := by
  by_cases ha : (s[pos]'h).toNat < 128
  · rw [decode_ascii s pos h ha]; exact Nat.le_refl _
  · exact (decode_high s pos h (by omega)).2
theorem decode_most (s : ByteArray) (pos : Nat) : (Utf8.decode s pos).1 ≤ 1114111 := by
  have hb : ∀ k, (s.get! (pos + k)).toNat < 256 := fun k => (s.get! (pos + k)).toNat_lt
  have h0 := hb 0; have h1 := hb 1; have h2 := hb 2; have h3 := hb 3
  simp only [Utf8.decode]
  repeat' split
  all_goals simp_all [Utf8.runeError, Utf8.valid]
  all_goals omega

/-- The runes of a text from a byte on. -/
def runesFrom (s : ByteArray) : Nat → Nat → List Int
  | 0, _ => []
  | f + 1, pos => if pos < s.size then ((Utf8.decode s pos).1 : Int) :: runesFrom s f (pos + (Utf8.decode s pos).2) else []
/-- The runes of a text. -/
def runesOf (s : ByteArray) : List Int := runesFrom s s.size 0
theorem runesFrom_end {s : ByteArray} {f pos : Nat} (h : s.size ≤ pos) : runesFrom s f pos = [] := by
  cases f with
  | zero => rfl
  | succ f => rw [runesFrom, if_neg (by omega)]
theorem runesFrom_fuel {s : ByteArray} : ∀ {f f' pos : Nat}, s.size ≤ pos + f → s.size ≤ pos + f' → runesFrom s f pos = runesFrom s f' pos
  | 0, f', pos, h, _ => by rw [runesFrom_end (by omega), runesFrom_end (by omega)]
  | f + 1, 0, pos, _, h' => by rw [runesFrom_end (by omega), runesFrom_end (by omega)]
  | f + 1, f' + 1, pos, h, h' => by
    rw [runesFrom, runesFrom]
    split
    · rename_i hp
      have := decode_width s pos hp
      rw [runesFrom_fuel (f := f) (f' := f') (by omega) (by omega)]
    · rfl
theorem runesFrom_step {s : ByteArray} {pos : Nat} (h : pos < s.size) : runesFrom s s.size pos = ((Utf8.decode s pos).1 : Int) :: runesFrom s s.size (pos + (Utf8.decode s pos).2) := by
  have e : runesFrom s s.size pos = runesFrom s (s.size + 1) pos := runesFrom_fuel (by omega) (by omega)
  rw [e, runesFrom, if_pos h]

theorem runesFrom_short {s : ByteArray} : ∀ {f pos : Nat}, (runesFrom s f pos).length ≤ s.size - pos
  | 0, pos => by simp [runesFrom]
  | f + 1, pos => by
    rw [runesFrom]
    split
    · rename_i h
      have h1 := decode_width s pos h
      have h2 := runesFrom_short (s := s) (f := f) (pos := pos + (Utf8.decode s pos).2)
      rw [List.length_cons]; omega
    · simp
theorem runesFrom_range {s : ByteArray} : ∀ {f pos : Nat}, ∀ x ∈ runesFrom s f pos, 0 ≤ x ∧ x ≤ 1114111
  | 0, pos, x, hx => by simp [runesFrom] at hx
  | f + 1, pos, x, hx => by
    rw [runesFrom] at hx
    split at hx
    · rcases List.mem_cons.1 hx with rfl | hx
      · have := decode_most s pos; omega
      · exact runesFrom_range x hx
    · cases hx

/-- The normal form of a text. -/
def normOf (lns : List Tm.Ln) (s : ByteArray) : List Int := Tm.ord (Tm.classOf lns) ((runesOf s).flatMap (Tm.expand lns 4))
end Go.Proofs.YtmnjjjhmnhfapaaGreatDoor
/-
  Plain facts on where a text stands.
-/
namespace Go.Proofs.YtmnjjjhmnhfapaaGreatDoor
namespace Tm

/-- No line has an element whose weights cannot be. -/
def Heavy (lns : List Ln) : Prop := ∀ o ∈ lns, ∀ e ∈ o.els, lightEl e = false
theorem readLines_heavy : ∀ (xs : List (List UInt8)) (lns l : List Ln) (n : Int), Heavy lns → readLines lns n xs = (l, none) → Heavy l
  | [], lns, l, n, h, e => by simp only [readLines, Prod.mk.injEq, and_true] at e; subst e; exact h
  | x :: r, lns, l, n, h, e => by
    unfold readLines at e
    split at e
    · exact readLines_heavy r lns l (n + 1) h e
    · split at e
      · simp at e
      · rename_i ln _
        split at e
        · simp at e
        · split at e
          · simp at e
          · rename_i h2
            refine readLines_heavy r (lns ++ [ln]) l (n + 1) (fun o ho => ?_) e
            rcases List.mem_append.1 ho with ho | ho
            · exact h o ho
            · rw [List.mem_singleton.1 ho]
              intro y hy
              cases hl : lightEl y
              · rfl
              · exact absurd (List.any_eq_true.2 ⟨y, hy, hl⟩) h2
theorem newTable_heavy {s : List UInt8} {st : Int} {lns : List Ln} (h : newTable s st = (lns, 0, 0)) : Heavy lns ∧ 1 ≤ st ∧ st ≤ 4 := by
  unfold newTable at h
  split at h
  · simp at h
  · rename_i hst
    split at h
    · simp at h
    · split at h
      · rename_i l n e heq
        simp at h
        obtain ⟨rfl, rfl, rfl⟩ := h
        -- an error is never 0
        exfalso
        revert heq
        suffices ∀ (xs : List (List UInt8)) (lns l : List Ln) (n m q : Int), readLines lns n xs = (l, some (m, q)) → q ≠ 0 by
          intro heq; exact this _ _ _ _ _ _ heq rfl
        intro xs
        induction xs with
        | nil => intro lns l n m q e; simp [readLines] at e
        | cons x r ih =>
          intro lns l n m q e
          unfold readLines at e
          split at e
          · exact ih _ _ _ _ _ e
          · split at e
            · simp at e; omega
            · split at e
              · simp at e; omega
              · split at e
                · simp at e; omega
                · exact ih _ _ _ _ _ e
      · rename_i l heq
        simp at h
        obtain ⟨rfl, _⟩ := h
        exact ⟨readLines_heavy _ _ _ _ (fun o ho => by cases ho) heq, by omega, by omega⟩

theorem weigh_var {lns : List Ln} (h : Heavy lns) (q : List Int) : ∀ x ∈ weigh lns q, x.v = true → x.p ≠ 0 := by
  intro x hx hv
  unfold weigh at hx
  split at hx
  · rename_i e he
    unfold seqOf at he
    cases hq : lns.find? (isSeq q) with
    | none => rw [hq] at he; cases he
    | some o =>
      rw [hq] at he
      injection he with he
      subst he
      have := h o (List.mem_of_find?_eq_some hq) x hx
      intro h0
      simp [lightEl, hv, h0] at this
  · simp [implicit] at hx
    rcases hx with rfl | rfl <;> cases hv
theorem elems_var {lns : List Ln} (h : Heavy lns) : ∀ (n : Nat) (l : List Int), ∀ x ∈ elems lns n l, x.v = true → x.p ≠ 0
  | 0, _, x, hx => by simp [elems] at hx
  | n + 1, l, x, hx => by
    unfold elems at hx
    split at hx
    · cases hx
    · rcases List.mem_append.1 hx with hx | hx
      · exact weigh_var h _ x hx
      · exact elems_var h n _ x hx
theorem elements_var {lns : List Ln} (h : Heavy lns) (l : List Int) : ∀ x ∈ elements lns l, x.v = true → x.p ≠ 0 := elems_var h _ l
theorem weigh_few' {lns : List Ln} (hf : ∀ o ∈ lns, Fit o) (q : List Int) : (weigh lns q).length ≤ 4 := by
  unfold weigh
  split
  · rename_i e he
    unfold seqOf at he
    cases hq : lns.find? (isSeq q) with
    | none => rw [hq] at he; cases he
    | some o =>
      rw [hq] at he
      injection he with he
      subst he
      exact (hf o (List.mem_of_find?_eq_some hq)).els
  · simp [implicit]
theorem elems_length {lns : List Ln} (hf : ∀ o ∈ lns, Fit o) : ∀ (n : Nat) (l : List Int), (elems lns n l).length ≤ 4 * n
  | 0, _ => by simp [elems]
  | n + 1, l => by
    unfold elems
    split
    · simp
    · have h1 := weigh_few' hf (grow lns (l.take (lead lns l)) [] (l.drop (lead lns l))).1
      have h2 := elems_length hf n (grow lns (l.take (lead lns l)) [] (l.drop (lead lns l))).2
      simp only [List.length_append]
      omega
theorem elements_length {lns : List Ln} (hf : ∀ o ∈ lns, Fit o) (l : List Int) : (elements lns l).length ≤ 4 * l.length := elems_length hf _ l
/-- Weights are numbers below 2^16. -/
def InW (x : El) : Prop := (0 ≤ x.p ∧ x.p ≤ 65535) ∧ (0 ≤ x.s ∧ x.s ≤ 65535) ∧ (0 ≤ x.t ∧ x.t ≤ 65535)
theorem weigh_in {lns : List Ln} (hf : ∀ o ∈ lns, Fit o) {q : List Int} (hq : 0 ≤ q.getD 0 0 ∧ q.getD 0 0 ≤ 1114111) : ∀ x ∈ weigh lns q, InW x := by
  intro x hx
  unfold weigh at hx
  split at hx
  · rename_i e he
    unfold seqOf at he
    cases hq : lns.find? (isSeq q) with
    | none => rw [hq] at he; cases he
    | some o =>
      rw [hq] at he
      injection he with he
      subst he
      exact (hf o (List.mem_of_find?_eq_some hq)).weight x hx
  · simp only [implicit, List.mem_cons, List.not_mem_nil, or_false] at hx
    rcases hx with rfl | rfl
    · refine ⟨⟨?_, ?_⟩, ⟨?_, ?_⟩, ⟨?_, ?_⟩⟩ <;> simp only <;> omega
    · refine ⟨⟨?_, ?_⟩, ⟨?_, ?_⟩, ⟨?_, ?_⟩⟩ <;> simp only <;> omega
theorem elems_in {lns : List Ln} (hf : ∀ o ∈ lns, Fit o) : ∀ (n : Nat) (l : List Int), (∀ r ∈ l, 0 ≤ r ∧ r ≤ 1114111) → ∀ x ∈ elems lns n l, InW x
  | 0, _, _, x, hx => by simp [elems] at hx
  | n + 1, l, hl, x, hx => by
    unfold elems at hx
    split at hx
    · cases hx
    · have hm := grow_mem lns (l.drop (lead lns l)) (l.take (lead lns l)) []
      rcases List.mem_append.1 hx with hx | hx
      · refine weigh_in hf ?_ x hx
        cases hg : (grow lns (l.take (lead lns l)) [] (l.drop (lead lns l))).1 with
        | nil => simp
        | cons y t =>
          have hy := (hm y).1 (by rw [hg]; simp)
          simp only [List.getD_cons_zero]
          rcases hy with hy | hy
          · exact hl y (List.mem_of_mem_take hy)
          · exact hl y (List.mem_of_mem_drop hy)
      · refine elems_in hf n _ (fun r hr => ?_) x hx
        rcases (hm r).2 hr with h | h
        · cases h
        · exact hl r (List.mem_of_mem_drop h)
theorem elements_in {lns : List Ln} (hf : ∀ o ∈ lns, Fit o) {l : List Int} (hl : ∀ r ∈ l, 0 ≤ r ∧ r ≤ 1114111) : ∀ x ∈ elements lns l, InW x := elems_in hf _ l hl
theorem nz_weights {x : Int} (h : 0 ≤ x ∧ x ≤ 65535) : Weights (nz x) := by
  intro y hy
  unfold nz at hy
  split at hy
  · cases hy
  · simp at hy; subst hy; omega
theorem lev_weights (sh : Bool) (k : Nat) : ∀ (l : List El) (bv : Bool), (∀ x ∈ l, InW x) → Weights (lev sh k bv l)
  | [], _, _ => by intro y hy; cases hy
  | e :: r, bv, h => by
    intro y hy
    rw [lev] at hy
    rcases List.mem_append.1 hy with hy | hy
    · have he := h e (by simp)
      have w1 := nz_weights he.1
      have w2 := nz_weights he.2.1
      have w3 := nz_weights he.2.2
      have w4 : Weights [65535] := by intro z hz; simp at hz; subst hz; omega
      have w0 : Weights [] := by intro z hz; cases hz
      split at hy
      · unfold shiftW at hy
        split at hy <;> split at hy
        · exact w0 y hy
        · exact w1 y hy
        · exact w0 y hy
        · exact w2 y hy
        · exact w0 y hy
        · exact w3 y hy
        · exact w1 y hy
        · split at hy
          · exact w0 y hy
          · exact w4 y hy
      · unfold plainW at hy
        split at hy
        · exact w1 y hy
        · exact w2 y hy
        · exact w3 y hy
        · exact w0 y hy
    · exact lev_weights sh k r _ (fun x hx => h x (by simp [hx])) y hy

theorem insr_mem {k : Int → Int} {x y : Int} {l : List Int} (h : y ∈ insr k x l) : y = x ∨ y ∈ l := by
  induction l with
  | nil => simp [insr] at h; exact .inl h
  | cons z r ih =>
    unfold insr at h
    split at h
    · rcases List.mem_cons.1 h with rfl | h
      · exact .inr (by simp)
      · rcases ih h with h | h
        · exact .inl h
        · exact .inr (by simp [h])
    · exact List.mem_cons.1 h
theorem ord_mem {k : Int → Int} {y : Int} : ∀ {l : List Int}, y ∈ ord k l → y ∈ l
  | [], h => h
  | x :: r, h => by
    rw [ord] at h
    rcases insr_mem h with rfl | h
    · simp
    · exact List.mem_cons_of_mem _ (ord_mem h)
end Tm

/-- Where a text stands: its levels, as many as the strength says, and its normal form. -/
def levels (lns : List Tm.Ln) (st : Int) (sh : Bool) (n : List Int) : List (List Int) := ([0, 1, 2, 3].map (Tm.level sh (Tm.elements lns n))).take st.toNat
def stands (lns : List Tm.Ln) (st : Int) (sh : Bool) (n : List Int) : List (List Int) := levels lns st sh n ++ [n]
theorem levels_length {lns : List Tm.Ln} {st : Int} {sh : Bool} {n : List Int} (h : 1 ≤ st ∧ st ≤ 4) : (levels lns st sh n).length = st.toNat := by
  unfold levels; rw [List.length_take]; simp; omega
theorem levels_weights {lns : List Tm.Ln} (hf : ∀ o ∈ lns, Tm.Fit o) {st : Int} {sh : Bool} {n : List Int} (hn : ∀ r ∈ n, 0 ≤ r ∧ r ≤ 1114111) : ∀ l ∈ levels lns st sh n, Tm.Weights l := by
  intro l hl
  have h := List.mem_of_mem_take hl
  obtain ⟨k, _, rfl⟩ := List.mem_map.1 h
  exact Tm.lev_weights sh k _ _ (Tm.elements_in hf hn)
/-- Keys stand in the order of texts. -/
theorem key_order {lns : List Tm.Ln} (hf : ∀ o ∈ lns, Tm.Fit o) {st : Int} {sh : Bool} (hst : 1 ≤ st ∧ st ≤ 4) {n m : List Int} (hn : ∀ r ∈ n, 0 ≤ r ∧ r ≤ 1114111) (hm : ∀ r ∈ m, 0 ≤ r ∧ r ≤ 1114111) :
    Tm.cmpB (Tm.keyLL (stands lns st sh n)) (Tm.keyLL (stands lns st sh m)) = Tm.cmpLL (stands lns st sh n) (stands lns st sh m) :=
  Tm.keyLL_cmp (by rw [levels_length hst, levels_length hst]) (levels_weights hf hn) (levels_weights hf hm) (fun x hx => by have := hn x hx; omega) (fun x hx => by have := hm x hx; omega)
/-- Texts stand at one place just if they have one normal form. -/
theorem stands_eq {lns : List Tm.Ln} {st : Int} {sh : Bool} {n m : List Int} : stands lns st sh n = stands lns st sh m ↔ n = m := by
  constructor
  · intro h
    have := congrArg List.getLast? h
    simpa [stands] using this
  · intro h; rw [h]
end Go.Proofs.YtmnjjjhmnhfapaaGreatDoor
/-
  The tables of the statements without the document's answer, plainly: each of the 256 is one, and weighs the first letters alike.
-/
namespace Go.Proofs.YtmnjjjhmnhfapaaGreatDoor
namespace Tm
def keepBase : List UInt8 := [35, 32, 108, 101, 116, 116, 101, 114, 115, 10, 119, 32, 54, 49, 32, 61, 32, 49, 48, 46, 50, 48, 46, 50, 10, 119, 32, 54, 50, 32, 61, 32, 49, 49, 46, 50, 48, 46, 50, 10, 119, 32, 54, 51, 32, 61, 32, 49, 50, 46, 50, 48, 46, 50, 10, 119, 32, 54, 52, 32, 61, 32, 49, 51, 46, 50, 48, 46, 50, 32, 49, 52, 46, 50, 48, 46, 50, 10, 10, 119, 32, 52, 49, 32, 61, 32, 49, 48, 46, 50, 48, 46, 56, 10, 119, 32, 50, 100, 32, 61, 32, 42, 51, 46, 50, 48, 46, 50, 10, 119, 32, 51, 48, 49, 32, 61, 32, 48, 46, 50, 52, 46, 50, 10, 119, 32, 51, 50, 51, 32, 61, 32, 48, 46, 50, 97, 46, 50, 10, 99, 32, 51, 48, 49, 32, 101, 54, 10, 99, 32, 51, 50, 51, 32, 100, 99, 10, 100, 32, 101, 49, 32, 54, 49, 32, 51, 48, 49, 10, 100, 32, 49, 101, 97, 49, 32, 54, 49, 32, 51, 50, 51, 10, 100, 32, 101, 50, 32, 101, 49, 32, 51, 50, 51]
def keepMore : List (List UInt8) := [[119, 32, 54, 51, 32, 54, 56, 32, 61, 32, 49, 53, 46, 50, 48, 46, 50],
  [119, 32, 54, 49, 32, 51, 48, 49, 32, 61, 32, 49, 54, 46, 50, 48, 46, 50],
  [119, 32, 54, 49, 32, 51, 50, 51, 32, 61, 32, 49, 55, 46, 50, 48, 46, 50, 10, 119, 32, 54, 49, 32, 51, 50, 51, 32, 51, 48, 49, 32, 61, 32, 49, 56, 46, 50, 48, 46, 50],
  [119, 32, 50, 101, 32, 61, 32, 42, 52, 46, 50, 48, 46, 50, 32, 42, 53, 46, 50, 48, 46, 51],
  [119, 32, 51, 48, 48, 32, 61, 32, 48, 46, 48, 46, 53, 10, 99, 32, 51, 48, 48, 32, 101, 54],
  [119, 32, 51, 48, 50, 32, 61, 32, 48, 46, 48, 46, 48, 10, 99, 32, 51, 48, 50, 32, 101, 54],
  [100, 32, 99, 53, 32, 52, 49, 32, 51, 48, 97, 10, 99, 32, 51, 48, 97, 32, 101, 54],
  [119, 32, 48, 32, 61, 32, 48, 46, 48, 46, 48]]
/-- The text behind k of the eight bits of n. -/
def keepText (n : Nat) : Nat → List UInt8
  | 0 => keepBase
  | k + 1 => if n / 2 ^ k % 2 = 1 then keepText n k ++ [10] ++ keepMore.getD k [] else keepText n k
def keepTable (n : Nat) : List UInt8 := keepText n 8
def keepLines (n : Nat) : List Ln := (readLines [] 1 (split 10 (keepTable n))).1
/-- Is it an element of these weights, alone? -/
def sole (p s t : Int) : Option (List El) → Bool
  | some [e] => e.p == p && e.s == s && e.t == t && !e.v
  | _ => false
def keepGood (n : Nat) : Bool := decide ((newTable (keepTable n) 1).2 = (0, 0)) && sole 16 32 2 (seqOf (keepLines n) [97]) && sole 17 32 2 (seqOf (keepLines n) [98]) && decide (parts (keepLines n) 97 = []) && decide (parts (keepLines n) 98 = []) && decide ((keepTable n).length ≤ 8192)
theorem keep_good_a : ((List.range 128).all keepGood) = true := by decide +kernel
theorem keep_good_b : ((List.range 128).all fun n => keepGood (n + 128)) = true := by decide +kernel
end Tm
end Go.Proofs.YtmnjjjhmnhfapaaGreatDoor
/-
  What the walks of this family share: small facts on endings, hidden facts, bytes of a string.
-/
namespace Go.Proofs.YtmnjjjhmnhfapaaGreatDoor
open Go.RowKit

theorem hide {p : Prop} (h : p) : Hid p := h
theorem ret_int {k : IntKind} {a b : Int} (h : a = b) : Ending.returned (.int k a) = .returned (.int k b) := by rw [h]
theorem len_bytes (s : ByteArray) : s.data.toList.length = s.size := by simp
theorem head_of (s : ByteArray) (h : 0 < s.size) : s.data.toList.head? = some s[0] := by
  have := Tm.drop_cons s 0 h
  simp at this
  rw [this]; rfl
theorem extract_bytes (s : ByteArray) (m k : Nat) : (s.extract m k).data.toList = (s.data.toList.drop m).take (k - m) := by
  simp [ByteArray.data_extract, List.extract_eq_take_drop]
theorem bcell {W w1 : World} (hb : Below W.heap.size W w1) : (∀ b o, b < W.heap.size → w1.cell? ⟨b, o, none⟩ = W.cell? ⟨b, o, none⟩) ∧ (∀ b o, b < W.heap.size → w1.frozen? ⟨b, o, none⟩ = W.frozen? ⟨b, o, none⟩) :=
  ⟨fun b o h => hb.cell (p := ⟨b, o, none⟩) h, fun b o h => hb.frozen (p := ⟨b, o, none⟩) h⟩

/-- A slice value of n elements, 'size' cells each, that reads as the cells xs. -/
def Reads (w : World) (v : Value) (size n : Nat) (xs : List Value) : Prop :=
  xs.length = n * size ∧ (∀ g, v.ownBlock = some g → g < w.heap.size) ∧
  ∃ a cap, v = .slice a n cap ∧ (n ≤ cap ∧ cap ≤ maxLen) ∧ ∀ j u, xs[j]? = some u → ∃ g off, a = some ⟨g, off, none⟩ ∧ w.cell? ⟨g, off + j, none⟩ = some u

theorem Reads.of_owns {w : World} {base : Nat} {e : TypeId} {size : Nat} {v : Value} {n : Nat} {xs : List Value} (h : w.ownsRow base e size v n xs) : Reads w v size n xs := by
  refine ⟨h.1, fun g hg => (h.lt g hg).2, ?_⟩
  have hc := @World.ownsRow.cells _ _ _ _ _ _ _ h
  rcases h.2 with ⟨rfl, rfl⟩ | ⟨g, cap, cur, rfl, _, _, hc1, hc2, _⟩
  · have h0 := h.1
    simp at h0
    subst h0
    exact ⟨none, 0, rfl, ⟨Nat.le_refl _, Nat.zero_le _⟩, by simp⟩
  · refine ⟨_, cap, rfl, ⟨hc1, hc2⟩, fun j u hu => ⟨g, 0, rfl, ?_⟩⟩
    have hx := hc (g := g) rfl j u hu
    have hadd : (⟨g, 0, none⟩ : Addr).add j = ⟨g, 0 + j, none⟩ := by unfold Addr.add; split <;> simp_all
    rw [hadd] at hx
    exact hx

theorem Reads.form {w : World} {v : Value} {size n : Nat} {xs : List Value} (h : Reads w v size n xs) (hn : 0 < xs.length) :
    ∃ g off cap, v = .slice (some ⟨g, off, none⟩) n cap ∧ g < w.heap.size ∧ ∀ j u, xs[j]? = some u → w.cell? ⟨g, off + j, none⟩ = some u := by
  obtain ⟨_, hlt, a, cap, rfl, _, hc⟩ := h
  obtain ⟨g, off, rfl, _⟩ := hc 0 xs[0] (by simp [hn])
  refine ⟨g, off, cap, rfl, hlt g rfl, fun j u hu => ?_⟩
  obtain ⟨g', off', he, hcell⟩ := hc j u hu
  cases he
  exact hcell

theorem Reads.shape {w : World} {v : Value} {size n : Nat} {xs : List Value} (h : Reads w v size n xs) : ∃ a cap, v = .slice a n cap := by
  obtain ⟨_, _, a, cap, rfl, _⟩ := h
  exact ⟨a, cap, rfl⟩

theorem Reads.fits {w : World} {a : Option Addr} {m cap : Nat} {size n : Nat} {xs : List Value} (h : Reads w (.slice a m cap) size n xs) : m = n ∧ n ≤ cap ∧ cap ≤ maxLen := by
  obtain ⟨_, _, a, cap, he, hc, _⟩ := h
  cases he
  exact ⟨rfl, hc⟩

/-- All that is read lies in blocks that are as they were. -/
theorem Reads.of_blocks {w w' : World} {v : Value} {size n : Nat} {xs : List Value} (h : Reads w v size n xs) (hs : w.heap.size ≤ w'.heap.size) (hb : ∀ g, v.ownBlock = some g → w'.heap[g]? = w.heap[g]?) : Reads w' v size n xs := by
  obtain ⟨h1, hlt, a, cap, rfl, hcap, hc⟩ := h
  refine ⟨h1, fun g hg => Nat.lt_of_lt_of_le (hlt g hg) hs, a, cap, rfl, hcap, fun j u hu => ?_⟩
  obtain ⟨g, off, rfl, hcell⟩ := hc j u hu
  refine ⟨g, off, rfl, ?_⟩
  rw [World.cell?_of_block (w := w) (hb g rfl)]
  exact hcell

theorem Reads.below {w w' : World} {v : Value} {size n : Nat} {xs : List Value} (h : Reads w v size n xs) {B : Nat} (hb : Below B w w') (hB : ∀ g, v.ownBlock = some g → g < B) : Reads w' v size n xs :=
  h.of_blocks hb.size (fun g hg => hb.block g (hB g hg))

theorem Reads.kept {w w' : World} {v : Value} {size n : Nat} {xs : List Value} (h : Reads w v size n xs) {row : Option Nat} (hg : w.grownBy w' row) (hne : v.ownBlock = none ∨ v.ownBlock ≠ row) : Reads w' v size n xs := by
  refine h.of_blocks hg.size (fun g hg' => hg.block g (h.2.1 g hg') ?_)
  rw [← hg']
  rcases hne with hne | hne
  · rw [hg'] at hne; cases hne
  · exact hne
end Go.Proofs.YtmnjjjhmnhfapaaGreatDoor
namespace Go.Proofs.YtmnjjjhmnhfapaaGreatDoor
open Go.RowKit

theorem u8_eq_of {c : UInt8} {n : Nat} (h : ((c.toNat : Int) == (n : Int)) = true) (hn : n < 256) : c = UInt8.ofNat n := by
  have h1 : (c.toNat : Int) = n := by simpa using h
  apply UInt8.toNat_inj.1
  simp; omega
theorem u8_ne_of {c : UInt8} {n : Nat} (h : ((c.toNat : Int) == (n : Int)) = false) (hn : n < 256) : c ≠ UInt8.ofNat n := by
  rintro rfl
  simp at h; omega

theorem num_bad1 (s : ByteArray) (h0 : 0 < s.size) (h1 : 1 < (s.size : Int)) (h2 : ((s[0].toNat : Int) == 48) = true) : Tm.num s.data.toList = -1 := by
  refine Tm.num_bad (.inr (.inr ⟨by rw [len_bytes]; omega, ?_⟩))
  rw [head_of s h0, u8_eq_of (n := 48) h2 (by omega)]; rfl
theorem num_good1 (s : ByteArray) (h0 : 0 < s.size) (h1 : (s.size : Int) ≤ 6) (h2 : ((s[0].toNat : Int) == 48) = false ∨ (s.size : Int) ≤ 1) : Tm.num s.data.toList = Tm.digits s.data.toList 0 := by
  refine Tm.num_good ?_
  rintro (h | h | ⟨h, h'⟩)
  · rw [len_bytes] at h; omega
  · rw [len_bytes] at h; omega
  · rcases h2 with h2 | h2
    · rw [head_of s h0] at h'
      exact u8_ne_of (n := 48) h2 (by omega) (by simpa using h')
    · rw [len_bytes] at h; omega

set_option maxRecDepth 100000 in
set_option maxHeartbeats 1000000 in
theorem number_any (s : ByteArray) (w : World) (hs : s.size ≤ maxLen) :
    Calls Tryz.prog 78 #[.string s] w fun e w' => e = .returned (.int .i64 (Tm.num s.data.toList)) ∧ w' = w := by
  unfold maxLen at hs
  by_cases h1 : (s.size : Int) < 1
  · have HV := hide (Tm.num_bad (l := s.data.toList) (.inl (by rw [len_bytes]; omega)))
    go_enter Tryz.func78, Tryz.ntmps78
    go_wp2
    go_ret
    exact ⟨ret_int HV.out.symm, rfl⟩
  by_cases h6 : 6 < (s.size : Int)
  · have HV := hide (Tm.num_bad (l := s.data.toList) (.inr (.inl (by rw [len_bytes]; omega))))
    go_enter Tryz.func78, Tryz.ntmps78
    go_wp2
    go_ret
    exact ⟨ret_int HV.out.symm, rfl⟩
  have h0 : 0 < s.size := by omega
  by_cases hb : 1 < (s.size : Int) ∧ ((s[0].toNat : Int) == 48) = true
  · have HV := hide (num_bad1 s h0 hb.1 hb.2)
    obtain ⟨h2, h3⟩ := hb
    go_enter Tryz.func78, Tryz.ntmps78
    go_wp2
    go_ret
    exact ⟨ret_int HV.out.symm, rfl⟩
  have hb' : ((s[0].toNat : Int) == 48) = false ∨ (s.size : Int) ≤ 1 := by
    by_cases h : 1 < (s.size : Int)
    · left; simpa [h] using hb
    · right; omega
  have HV := hide (num_good1 s h0 (by omega) hb')
  clear hb
  have hx : (s.size : Int) ≤ 1 ∨ (1 < (s.size : Int) ∧ ((s[0].toNat : Int) == 48) = false) := by
    rcases hb' with h | h
    · by_cases h' : (s.size : Int) ≤ 1
      · exact .inl h'
      · exact .inr ⟨by omega, h⟩
    · exact .inl h
  clear hb'
  rcases hx with h3 | ⟨h3, h4⟩
  all_goals
    go_enter Tryz.func78, Tryz.ntmps78
    go_wp2
    go_loop [3, 4] (fun n i => ∃ k : Nat, k ≤ s.size ∧ i = .int .i64 k ∧ ∃ m : Int, 0 ≤ m ∧ m < 16 ^ k ∧ n = .int .i64 m ∧ Tm.digits (s.data.toList.drop k) m = Tm.digits s.data.toList 0) (fun _ i => s.size - (intOf i).toNat)
    case atStart => exact ⟨0, Nat.zero_le _, rfl, 0, by omega, by omega, rfl, rfl⟩
    case round =>
      obtain ⟨k, hk, rfl, m, hm0, hm1, rfl, hd⟩ := hrel
      by_cases hlt : k < s.size
      · have hc := Tm.drop_cons s k hlt
        rw [hc] at hd
        clear hc
        have hb16 : m < 16777216 := by
          have := Tm.pow16 k (by omega)
          omega
        have hu : (s[k].toNat : Int) < 256 := by have := s[k].toNat_lt; omega
        by_cases hlo : 48 ≤ (s[k].toNat : Int) ∧ (s[k].toNat : Int) ≤ 57
        · rw [Tm.digits_some (Tm.digit_low hlo)] at hd
          have HD := hide hd
          have HP := hide hm1
          obtain ⟨hl1, hl2⟩ := hlo
          clear hd hm1
          go_wp2
          go_round
          case rel => exact ⟨k + 1, by omega, by go_num, 16 * m + ((s[k].toNat : Int) - 48), by omega, by have := HP.out; rw [Int.pow_succ]; omega, by go_num, HD.out⟩
          case measure => simp [intOf]; omega
        by_cases hhi : 97 ≤ (s[k].toNat : Int) ∧ (s[k].toNat : Int) ≤ 102
        · rw [Tm.digits_some (Tm.digit_high hhi)] at hd
          have HD := hide hd
          have HP := hide hm1
          obtain ⟨hl1, hl2⟩ := hhi
          clear hd hm1 hlo
          go_wp2
          go_round
          case rel => exact ⟨k + 1, by omega, by go_num, 16 * m + ((s[k].toNat : Int) - 87), by omega, by have := HP.out; rw [Int.pow_succ]; omega, by go_num, HD.out⟩
          case measure => simp [intOf]; omega
        · rw [Tm.digits_none (Tm.digit_none hlo hhi)] at hd
          have HD := hide hd
          clear hd hm1
          go_wp2
          all_goals go_ret
          all_goals exact ⟨ret_int (by rw [HV.out, ← HD.out]), rfl⟩
      · rw [Tm.drop_all s k (by omega)] at hd
        have HD := hide hd
        clear hd
        go_wp2
        go_ret
        exact ⟨ret_int (by rw [HV.out, ← HD.out]; rfl), rfl⟩
end Go.Proofs.YtmnjjjhmnhfapaaGreatDoor
