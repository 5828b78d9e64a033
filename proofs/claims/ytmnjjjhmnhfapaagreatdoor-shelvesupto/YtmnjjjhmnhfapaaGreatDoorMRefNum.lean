import Derived.Laws.RangeAny
import Derived.Test.YtmnjjjhmnhfapaaGreatDoorRows
import Derived.WalkKit
import Derived.WalkSpells
import Derived.WalkLawsBesides
/-
 Plain functions on lists of bytes and numbers: what package tomeref's parts come to. Nothing of the program is named here.
-/
namespace Go.Proofs.YtmnjjjhmnhfapaaGreatDoor
namespace Tm
def digit (c : UInt8) : Option Int :=
 if 48 ≤ c.toNat ∧ c.toNat ≤ 57 then some ((c.toNat : Int) - 48)
 else if 97 ≤ c.toNat ∧ c.toNat ≤ 102 then some ((c.toNat : Int) - 87)
 else none
def digits : List UInt8 → Int → Int
 | [], n => n
 | c :: r, n => match digit c with
  | some d => digits r (16 * n + d)
  | none => -1
def num (l : List UInt8) : Int :=
 if l.length < 1 ∨ 6 < l.length ∨ (1 < l.length ∧ l.head? = some 48) then -1 else digits l 0
theorem num_bad {l : List UInt8} (h : l.length < 1 ∨ 6 < l.length ∨ (1 < l.length ∧ l.head? = some 48)) : num l = -1 := by
 unfold num; rw [if_pos h]
theorem num_good {l : List UInt8} (h : ¬ (l.length < 1 ∨ 6 < l.length ∨ (1 < l.length ∧ l.head? = some 48))) : num l = digits l 0 := by
 unfold num; rw [if_neg h]
theorem digit_low {c : UInt8} (h : 48 ≤ (c.toNat : Int) ∧ (c.toNat : Int) ≤ 57) : digit c = some ((c.toNat : Int) - 48) := by
 unfold digit; rw [if_pos (by omega)]
theorem digit_high {c : UInt8} (h : 97 ≤ (c.toNat : Int) ∧ (c.toNat : Int) ≤ 102) : digit c = some ((c.toNat : Int) - 87) := by
 unfold digit; rw [if_neg (by omega), if_pos (by omega)]
theorem digit_none {c : UInt8} (h : ¬ (48 ≤ (c.toNat : Int) ∧ (c.toNat : Int) ≤ 57)) (h' : ¬ (97 ≤ (c.toNat : Int) ∧ (c.toNat : Int) ≤ 102)) : digit c = none := by
 unfold digit; rw [if_neg (by omega), if_neg (by omega)]
theorem digits_some {c : UInt8} {r : List UInt8} {n d : Int} (h : digit c = some d) : digits (c :: r) n = digits r (16 * n + d) := by
 simp [digits, h]
theorem digits_none {c : UInt8} {r : List UInt8} {n : Int} (h : digit c = none) : digits (c :: r) n = -1 := by
 simp [digits, h]
theorem pow16 (k : Nat) (h : k ≤ 6) : (16 : Int) ^ k ≤ 16777216 := by
 have : ∀ k : Fin 7, (16 : Int) ^ k.val ≤ 16777216 := by decide
 exact this ⟨k, by omega⟩
theorem drop_cons (s : ByteArray) (k : Nat) (h : k < s.size) : s.data.toList.drop k = s[k] :: s.data.toList.drop (k + 1) := by
 rw [List.drop_eq_getElem_cons (by simpa using h)]; rfl
theorem drop_all (s : ByteArray) (k : Nat) (h : s.size ≤ k) : s.data.toList.drop k = [] :=
 List.drop_eq_nil_of_le (by simpa using h)
def split (c : UInt8) : List UInt8 → List (List UInt8)
 | [] => [[]]
 | x :: r => if x = c then [] :: split c r else match split c r with
  | [] => [[x]]
  | h :: t => (x :: h) :: t
def glue (p : List UInt8) : List (List UInt8) → List (List UInt8)
 | [] => [p]
 | h :: t => (p ++ h) :: t
theorem split_ne (c : UInt8) (l : List UInt8) : split c l ≠ [] := by
 cases l with
 | nil => simp [split]
 | cons x r =>
  unfold split
  split
  ·simp
  ·split <;> simp
theorem split_cons (c x : UInt8) (r : List UInt8) : split c (x :: r) = if x = c then [] :: split c r else match split c r with
  | [] => [[x]]
  | h :: t => (x :: h) :: t := rfl
theorem glue_hit (c : UInt8) (p r : List UInt8) : glue p (split c (c :: r)) = p :: split c r := by simp [split, glue]
theorem glue_miss (c x : UInt8) (p r : List UInt8) (h : x ≠ c) : glue p (split c (x :: r)) = glue (p ++ [x]) (split c r) := by
 have := split_ne c r
 rw [split_cons, if_neg h]
 cases hs : split c r with
 | nil => exact absurd hs this
 | cons a b => simp [glue]
theorem glue_nil (c : UInt8) (l : List UInt8) : glue [] (split c l) = split c l := by
 have := split_ne c l
 cases hs : split c l with
 | nil => exact absurd hs this
 | cons a b => simp [glue]
theorem glue_end (c : UInt8) (p : List UInt8) : glue p (split c []) = [p] := by simp [split, glue]
structure El where
 p : Int
 s : Int
 t : Int
 v : Bool
def elem3 (v : Bool) : List (List UInt8) → Option El
 | [a, b, c] => if (0 ≤ num a ∧ 0 ≤ num b ∧ 0 ≤ num c) ∧ num a ≤ 65535 ∧ num b ≤ 65535 ∧ num c ≤ 65535 then some ⟨num a, num b, num c, v⟩ else none
 | _ => none
def elem : List UInt8 → Option El
 | [] => elem3 false (split 46 [])
 | x :: r => if x = 42 then elem3 true (split 46 r) else elem3 false (split 46 (x :: r))
theorem elem3_short {v : Bool} {l : List (List UInt8)} (h : l.length ≠ 3) : elem3 v l = none := by
 unfold elem3
 split
 ·simp at h
 ·rfl
theorem split_length (c : UInt8) (l : List UInt8) : ∀ x ∈ split c l, x.length ≤ l.length := by
 induction l with
 | nil => simp [split]
 | cons y r ih =>
  intro x hx
  rw [split_cons] at hx
  split at hx
  ·rcases List.mem_cons.1 hx with rfl | h
   ·simp
   ·have := ih x h; simp; omega
  ·cases hs : split c r with
   | nil => exact absurd hs (split_ne c r)
   | cons a b =>
    rw [hs] at hx ih
    rcases List.mem_cons.1 hx with rfl | h
    ·have := ih a (by simp); simp; omega
    ·have := ih x (by simp [h]); simp; omega
def lightEl (x : El) : Bool := (x.p != 0 && x.s == 0) || (x.s != 0 && x.t == 0) || (x.v && x.p == 0) || decide (64256 ≤ x.p)
structure Ln where
 kind : List UInt8
 runes : List Int
 els : List El
 num : Int
def runesTo : List (List UInt8) → Option (List Int × Option (List (List UInt8)))
 | [] => some ([], none)
 | x :: r => if x = [61] then some ([], some r) else if num x < 0 ∨ 1114111 < num x then none else (runesTo r).map fun y => (num x :: y.1, y.2)
def elemsOf : List (List UInt8) → Option (List El)
 | [] => some []
 | x :: r => match elem x with
  | none => none
  | some e => (elemsOf r).map (e :: ·)
def fits (k : List UInt8) (rs : List Int) (n : Nat) (sign : Bool) : Bool :=
 if k = [99] then !sign && rs.length == 2 && decide (1 ≤ rs.getD 1 0) && decide (rs.getD 1 0 ≤ 254)
 else if k = [100] then !sign && (rs.length == 2 || rs.length == 3)
 else if k = [119] then sign && decide (1 ≤ rs.length) && decide (rs.length ≤ 3) && decide (1 ≤ n) && decide (n ≤ 4)
 else false
def parseWords (at_ : Int) : List (List UInt8) → Option Ln
 | [] => none
 | k :: r => match runesTo r with
  | none => none
  | some (rs, b) => match elemsOf (b.getD []) with
   | none => none
   | some es => if fits k rs es.length b.isSome then some ⟨k, rs, es, at_⟩ else none
def parse (l : List UInt8) (at_ : Int) : Option Ln := parseWords at_ (split 32 l)
def RunesAt (ws : List (List UInt8)) (k : Nat) (rs : List Int) : Prop := runesTo ws.tail = (runesTo (ws.drop k)).map fun y => (rs ++ y.1, y.2)
theorem RunesAt_one (ws : List (List UInt8)) : RunesAt ws 1 [] := by
 unfold RunesAt
 rw [List.drop_one]
 cases runesTo ws.tail <;> simp
theorem RunesAt_step {ws : List (List UInt8)} {k : Nat} {rs : List Int} (h : RunesAt ws k rs) (hk : k < ws.length) (h1 : ws[k] ≠ [61]) (h2 : ¬ (num ws[k] < 0 ∨ 1114111 < num ws[k])) : RunesAt ws (k + 1) (rs ++ [num ws[k]]) := by
 unfold RunesAt at *
 rw [h, List.drop_eq_getElem_cons hk]
 conv => lhs; rw [runesTo]
 rw [if_neg h1, if_neg h2]
 cases runesTo (ws.drop (k + 1)) <;> simp
theorem RunesAt_bad {ws : List (List UInt8)} {k : Nat} {rs : List Int} (h : RunesAt ws k rs) (hk : k < ws.length) (h1 : ws[k] ≠ [61]) (h2 : num ws[k] < 0 ∨ 1114111 < num ws[k]) : runesTo ws.tail = none := by
 unfold RunesAt at h
 rw [h, List.drop_eq_getElem_cons hk]
 conv => lhs; rw [runesTo]
 rw [if_neg h1, if_pos h2]; rfl
theorem RunesAt_sign {ws : List (List UInt8)} {k : Nat} {rs : List Int} (h : RunesAt ws k rs) (hk : k < ws.length) (h1 : ws[k] = [61]) : runesTo ws.tail = some (rs, some (ws.drop (k + 1))) := by
 unfold RunesAt at h
 rw [h, List.drop_eq_getElem_cons hk]
 conv => lhs; rw [runesTo]
 rw [if_pos h1]; simp
theorem RunesAt_end {ws : List (List UInt8)} {k : Nat} {rs : List Int} (h : RunesAt ws k rs) (hk : ws.length ≤ k) : runesTo ws.tail = some (rs, none) := by
 unfold RunesAt at h
 rw [h, List.drop_eq_nil_of_le hk]
 simp [runesTo]
def ElemsAt (ws : List (List UInt8)) (i k : Nat) (es : List El) : Prop := elemsOf (ws.drop i) = (elemsOf (ws.drop k)).map (es ++ ·)
theorem ElemsAt_one (ws : List (List UInt8)) (i : Nat) : ElemsAt ws i i [] := by
 unfold ElemsAt
 cases elemsOf (ws.drop i) <;> simp
theorem ElemsAt_step {ws : List (List UInt8)} {i k : Nat} {es : List El} {e : El} (h : ElemsAt ws i k es) (hk : k < ws.length) (h1 : elem ws[k] = some e) : ElemsAt ws i (k + 1) (es ++ [e]) := by
 unfold ElemsAt at *
 rw [h, List.drop_eq_getElem_cons hk]
 conv => lhs; rw [elemsOf]
 rw [h1]
 cases elemsOf (ws.drop (k + 1)) <;> simp
theorem ElemsAt_bad {ws : List (List UInt8)} {i k : Nat} {es : List El} (h : ElemsAt ws i k es) (hk : k < ws.length) (h1 : elem ws[k] = none) : elemsOf (ws.drop i) = none := by
 unfold ElemsAt at h
 rw [h, List.drop_eq_getElem_cons hk]
 conv => lhs; rw [elemsOf]
 rw [h1]; rfl
theorem ElemsAt_end {ws : List (List UInt8)} {i k : Nat} {es : List El} (h : ElemsAt ws i k es) (hk : ws.length ≤ k) : elemsOf (ws.drop i) = some es := by
 unfold ElemsAt at h
 rw [h, List.drop_eq_nil_of_le hk]
 simp [elemsOf]
end Tm
namespace Tm
theorem split_count (c : UInt8) (l : List UInt8) : (split c l).length ≤ l.length + 1 := by
 induction l with
 | nil => simp [split]
 | cons y r ih =>
  rw [split_cons]
  split
  ·simp; omega
  ·cases hs : split c r with
   | nil => simp
   | cons a b => rw [hs] at ih; simp at *; omega
theorem parseWords_norunes {n : Int} {ws : List (List UInt8)} (h : runesTo ws.tail = none) : parseWords n ws = none := by
 cases ws with
 | nil => rfl
 | cons k r => simp only [List.tail_cons] at h; simp [parseWords, h]
theorem parseWords_noelems {n : Int} {ws : List (List UInt8)} {rs : List Int} {b : Option (List (List UInt8))} (h : runesTo ws.tail = some (rs, b)) (he : elemsOf (b.getD []) = none) : parseWords n ws = none := by
 cases ws with
 | nil => rfl
 | cons k r => simp only [List.tail_cons] at h; simp [parseWords, h, he]
theorem parseWords_all {n : Int} {ws : List (List UInt8)} {k : List UInt8} {rs : List Int} {b : Option (List (List UInt8))} {es : List El} (hk : ws.head? = some k) (h : runesTo ws.tail = some (rs, b)) (he : elemsOf (b.getD []) = some es) :
  parseWords n ws = if fits k rs es.length b.isSome then some ⟨k, rs, es, n⟩ else none := by
 cases ws with
 | nil => simp at hk
 | cons k' r => simp at hk; subst hk; simp only [List.tail_cons] at h; simp [parseWords, h, he]
end Tm
namespace Tm
def clash (l o : Ln) : Bool := decide (o.kind = l.kind) && ((decide (l.kind = [119]) && decide (o.runes = l.runes)) || (!decide (l.kind = [119]) && (o.runes.getD 0 0 == l.runes.getD 0 0)))
def twice (lns : List Ln) (l : Ln) : Bool := lns.any (clash l)
def isParts (r : Int) (o : Ln) : Bool := decide (o.kind = [100]) && (o.runes.getD 0 0 == r)
def parts (lns : List Ln) (r : Int) : List Int := match lns.find? (isParts r) with
 | some o => o.runes.tail
 | none => []
def isSeq (l : List Int) (o : Ln) : Bool := decide (o.kind = [119]) && decide (o.runes = l)
def seqOf (lns : List Ln) (l : List Int) : Option (List El) := (lns.find? (isSeq l)).map (·.els)
def step1 (lns : List Ln) (r : Int) : List Int := if (parts lns r).length = 0 then [r] else parts lns r
def stepAll (lns : List Ln) (l : List Int) : List Int := l.flatMap (step1 lns)
def hasParts (lns : List Ln) (l : List Int) : Bool := l.any fun r => !decide ((parts lns r).length = 0)
def lowEl (p : Int) (x : El) : Bool := !x.v && x.p != 0 && decide (x.p ≤ p)
def belowP (lns : List Ln) (p : Int) : Bool := lns.any fun o => o.els.any (lowEl p)
def deep (lns : List Ln) : Nat → List Int → Bool
 | 0, _ => true
 | n + 1, l => hasParts lns l && deep lns n (stepAll lns l)
def badLoop (lns : List Ln) (o : Ln) : Bool := decide (o.kind = [100]) && deep lns 5 [o.runes.getD 0 0]
def badPrefix (lns : List Ln) (o : Ln) : Bool := decide (o.kind = [119]) && (hasParts lns o.runes || (decide (o.runes.length = 3) && (seqOf lns (o.runes.take 2)).isNone))
def badWeight (lns : List Ln) (o : Ln) : Bool := o.els.any fun x => x.v && belowP lns x.p
def together (lns : List Ln) : Int × Int := match lns.find? (badLoop lns) with
 | some o => (o.num, 3)
 | none => match lns.find? (badPrefix lns) with
  | some o => (o.num, 5)
  | none => match lns.find? (badWeight lns) with
   | some o => (o.num, 4)
   | none => (0, 0)
def readLines : List Ln → Int → List (List UInt8) → List Ln × Option (Int × Int)
 | lns, _, [] => (lns, none)
 | lns, n, x :: r => if x.head? = none ∨ x.head? = some 35 then readLines lns (n + 1) r else match parse x n with
  | none => (lns, some (n, 1))
  | some l => if twice lns l then (lns, some (n, 2)) else if l.els.any lightEl then (lns, some (n, 4)) else readLines (lns ++ [l]) (n + 1) r
def newTable (table : List UInt8) (strength : Int) : List Ln × Int × Int :=
 if strength < 1 ∨ 4 < strength then ([], 0, 6)
 else if 8192 < table.length then ([], 0, 7)
 else match readLines [] 1 (split 10 table) with
  | (lns, some (n, e)) => (lns, n, e)
  | (lns, none) => (lns, (together lns).1, (together lns).2)
end Tm
namespace Tm
structure Good (l : Ln) : Prop where
 some : l.runes ≠ []
 few : l.runes.length ≤ 3
 els : l.els.length ≤ 4
theorem parse_good {l : List UInt8} {n : Int} {ln : Ln} (h : parse l n = some ln) : Good ln := by
 unfold parse at h
 cases hw : split 32 l with
 | nil => exact absurd hw (split_ne 32 l)
 | cons k r =>
  rw [hw] at h
  simp only [parseWords] at h
  split at h
  ·cases h
  ·rename_i rs b _
   split at h
   ·cases h
   ·rename_i es he
    split at h
    ·rename_i hf
     cases h
     unfold fits at hf
     have hes : b.isSome = false → es = [] := by
      intro hb
      cases b with
      | none => simp [elemsOf] at he; exact he
      | some _ => cases hb
     split at hf
     ·simp at hf
      obtain ⟨⟨⟨h1, h2⟩, _⟩, _⟩ := hf
      have := hes (by simpa using h1)
      subst this
      refine ⟨?_, ?_, by simp⟩
      ·intro hn
       simp only at hn
       rw [hn] at h2; simp at h2
      ·simp only; omega
     ·split at hf
      ·simp at hf
       obtain ⟨h1, h2⟩ := hf
       have := hes (by simpa using h1)
       subst this
       refine ⟨?_, ?_, by simp⟩
       ·intro hn
        simp only at hn
        rw [hn] at h2; simp at h2
       ·simp only; omega
      ·split at hf
       ·simp at hf
        obtain ⟨⟨⟨⟨_, h1⟩, h2⟩, _⟩, h4⟩ := hf
        refine ⟨?_, h2, h4⟩
        intro hn
        simp only at hn
        rw [hn] at h1; simp at h1
       ·cases hf
    ·cases h
def ReadAt (all : List (List UInt8)) (k : Nat) (lns : List Ln) : Prop := readLines [] 1 all = readLines lns ((k : Int) + 1) (all.drop k)
theorem ReadAt_zero (all : List (List UInt8)) : ReadAt all 0 [] := rfl
theorem readLines_skip {lns : List Ln} {n : Int} {x : List UInt8} {r : List (List UInt8)} (h : x.head? = none ∨ x.head? = some 35) : readLines lns n (x :: r) = readLines lns (n + 1) r := by
 rw [readLines, if_pos h]
theorem readLines_bad {lns : List Ln} {n : Int} {x : List UInt8} {r : List (List UInt8)} (h : ¬ (x.head? = none ∨ x.head? = some 35)) (hp : parse x n = none) : readLines lns n (x :: r) = (lns, some (n, 1)) := by
 rw [readLines, if_neg h, hp]
theorem readLines_twice {lns : List Ln} {n : Int} {x : List UInt8} {r : List (List UInt8)} {l : Ln} (h : ¬ (x.head? = none ∨ x.head? = some 35)) (hp : parse x n = some l) (ht : twice lns l = true) : readLines lns n (x :: r) = (lns, some (n, 2)) := by
 rw [readLines, if_neg h, hp]; simp [ht]
theorem readLines_light {lns : List Ln} {n : Int} {x : List UInt8} {r : List (List UInt8)} {l : Ln} (h : ¬ (x.head? = none ∨ x.head? = some 35)) (hp : parse x n = some l) (ht : twice lns l = false) (hg : l.els.any lightEl = true) : readLines lns n (x :: r) = (lns, some (n, 4)) := by
 rw [readLines, if_neg h, hp]; simp only [ht, hg]; simp
theorem readLines_ok {lns : List Ln} {n : Int} {x : List UInt8} {r : List (List UInt8)} {l : Ln} (h : ¬ (x.head? = none ∨ x.head? = some 35)) (hp : parse x n = some l) (ht : twice lns l = false) (hg : l.els.any lightEl = false) : readLines lns n (x :: r) = readLines (lns ++ [l]) (n + 1) r := by
 rw [readLines, if_neg h, hp]; simp only [ht, hg]; simp
theorem newTable_option {t : List UInt8} {s : Int} (h : s < 1 ∨ 4 < s) : newTable t s = ([], 0, 6) := by unfold newTable; rw [if_pos h]
theorem newTable_long {t : List UInt8} {s : Int} (h : ¬ (s < 1 ∨ 4 < s)) (h2 : 8192 < t.length) : newTable t s = ([], 0, 7) := by unfold newTable; rw [if_neg h, if_pos h2]
theorem newTable_wrong {t : List UInt8} {s : Int} {lns : List Ln} {n e : Int} (h : ¬ (s < 1 ∨ 4 < s)) (h2 : ¬ 8192 < t.length) (h3 : readLines [] 1 (split 10 t) = (lns, some (n, e))) : newTable t s = (lns, n, e) := by
 unfold newTable; rw [if_neg h, if_neg h2, h3]
theorem newTable_all {t : List UInt8} {s : Int} {lns : List Ln} (h : ¬ (s < 1 ∨ 4 < s)) (h2 : ¬ 8192 < t.length) (h3 : readLines [] 1 (split 10 t) = (lns, none)) : newTable t s = (lns, (together lns).1, (together lns).2) := by
 unfold newTable; rw [if_neg h, if_neg h2, h3]
end Tm
namespace Tm
def runeOk (x : List UInt8) : Bool := decide (0 ≤ num x ∧ num x ≤ 1114111)
theorem runeOk_not {x : List UInt8} : runeOk x = false ↔ (num x < 0 ∨ 1114111 < num x) := by
 unfold runeOk; rw [decide_eq_false_iff_not]; omega
theorem runeOk_yes {x : List UInt8} : runeOk x = true ↔ ¬ (num x < 0 ∨ 1114111 < num x) := by
 unfold runeOk; rw [decide_eq_true_iff]; omega
theorem num_sign : num [61] = -1 := by decide
theorem runeOk_sign : runeOk [61] = false := by rw [runeOk_not, num_sign]; omega
theorem runesTo_plain (ws : List (List UInt8)) (h : [61] ∉ ws) : runesTo ws = if ws.all runeOk then some (ws.map num, none) else none := by
 induction ws with
 | nil => rfl
 | cons x r ih =>
  have h1 : x ≠ [61] := fun e => h (by simp [e])
  have h2 : [61] ∉ r := fun e => h (by simp [e])
  rw [runesTo, if_neg h1, ih h2]
  cases hx : runeOk x
  ·rw [if_pos (runeOk_not.1 hx)]; simp [hx]
  ·rw [if_neg (runeOk_yes.1 hx)]
   cases hr : r.all runeOk <;> simp [hx, hr]
theorem runesTo_sign (a b : List (List UInt8)) (h : [61] ∉ a) : runesTo (a ++ [61] :: b) = if a.all runeOk then some (a.map num, some b) else none := by
 induction a with
 | nil => simp [runesTo]
 | cons x r ih =>
  have h1 : x ≠ [61] := fun e => h (by simp [e])
  have h2 : [61] ∉ r := fun e => h (by simp [e])
  rw [List.cons_append, runesTo, if_neg h1, ih h2]
  cases hx : runeOk x
  ·rw [if_pos (runeOk_not.1 hx)]; simp [hx]
  ·rw [if_neg (runeOk_yes.1 hx)]
   cases hr : r.all runeOk <;> simp [hx, hr]
theorem at_sign {ws : List (List UInt8)} (h : [61] ∈ ws) : ∃ a b, ws = a ++ [61] :: b ∧ [61] ∉ a := by
 induction ws with
 | nil => cases h
 | cons x r ih =>
  by_cases hx : x = [61]
  ·exact ⟨[], r, by simp [hx], by simp⟩
  ·rcases List.mem_cons.1 h with e | e
   ·exact absurd e.symm hx
   ·obtain ⟨a, b, rfl, hb⟩ := ih e
    refine ⟨x :: a, b, rfl, ?_⟩
    intro hm
    rcases List.mem_cons.1 hm with e | e
    ·exact hx e.symm
    ·exact hb e
theorem fits_signed {k : List UInt8} {rs : List Int} {n : Nat} (hk : k ≠ [119]) : fits k rs n true = false := by
 unfold fits
 split
 ·simp
 ·split
  ·simp
  ·first | rfl | rw [if_neg hk]
theorem parse_nosign {n : Int} {k : List UInt8} {ws : List (List UInt8)} (hk : k ≠ [119]) :
  parseWords n (k :: ws) = if ws.all runeOk && fits k (ws.map num) 0 false then some ⟨k, ws.map num, [], n⟩ else none := by
 by_cases hs : [61] ∈ ws
 ·have hall : ws.all runeOk = false := by
   rw [List.all_eq_false]; exact ⟨_, hs, by simp [runeOk_sign]⟩
  rw [hall]
  obtain ⟨a, b, rfl, hb⟩ := at_sign hs
  simp only [parseWords, runesTo_sign a b hb]
  by_cases ha : a.all runeOk = true
  ·rw [if_pos ha]
   cases he : elemsOf b with
   | none => simp [he]
   | some es => simp [he, fits_signed hk]
  ·rw [if_neg ha]; simp
 ·simp only [parseWords, runesTo_plain ws hs]
  by_cases ha : ws.all runeOk = true
  ·rw [if_pos ha]; simp [ha, elemsOf]
  ·rw [if_neg ha]; simp [ha]
theorem elemsOf_length {b : List (List UInt8)} {es : List El} (h : elemsOf b = some es) : es.length = b.length := by
 induction b generalizing es with
 | nil => simp [elemsOf] at h; subst h; rfl
 | cons x r ih =>
  rw [elemsOf] at h
  cases hx : elem x with
  | none => rw [hx] at h; cases h
  | some e =>
   rw [hx] at h
   cases hr : elemsOf r with
   | none => rw [hr] at h; cases h
   | some q => rw [hr] at h; simp at h; subst h; simp [ih hr]
theorem parse_unsigned {n : Int} {ws : List (List UInt8)} (h : [61] ∉ ws) : parseWords n ([119] :: ws) = none := by
 simp only [parseWords, runesTo_plain ws h]
 by_cases ha : ws.all runeOk = true
 ·rw [if_pos ha]; simp [elemsOf, fits]
 ·rw [if_neg ha]
theorem parse_weigh {n : Int} {a b : List (List UInt8)} (h : [61] ∉ a) : parseWords n ([119] :: (a ++ [61] :: b)) =
  if a.all runeOk = true ∧ 1 ≤ a.length ∧ a.length ≤ 3 ∧ 1 ≤ b.length ∧ b.length ≤ 4 then (elemsOf b).map fun es => ⟨[119], a.map num, es, n⟩ else none := by
 simp only [parseWords, runesTo_sign a b h]
 by_cases ha : a.all runeOk = true
 ·rw [if_pos ha]
  cases he : elemsOf b with
  | none => simp [he]
  | some es =>
   have hl := elemsOf_length he
   simp only [Option.getD_some, he, Option.map_some, ha, true_and]
   have : fits [119] (a.map num) es.length (Option.isSome (some b)) = decide (1 ≤ a.length ∧ a.length ≤ 3 ∧ 1 ≤ b.length ∧ b.length ≤ 4) := by
    simp [fits, hl, Bool.and_assoc]
   rw [this]
   by_cases hd : 1 ≤ a.length ∧ a.length ≤ 3 ∧ 1 ≤ b.length ∧ b.length ≤ 4
   ·simp [hd]
   ·rw [if_neg (by simpa using hd), if_neg hd]
 ·rw [if_neg ha, if_neg (fun h => ha h.1)]
structure Fit (o : Ln) : Prop where
 kinds : (o.kind = [99] ∧ o.runes.length = 2 ∧ 1 ≤ o.runes.getD 1 0 ∧ o.els = []) ∨ (o.kind = [100] ∧ 2 ≤ o.runes.length ∧ o.els = []) ∨ (o.kind = [119] ∧ o.els ≠ [])
 some : o.runes ≠ []
 few : o.runes.length ≤ 3
 els : o.els.length ≤ 4
 rune : ∀ r ∈ o.runes, 0 ≤ r ∧ r ≤ 1114111
 weight : ∀ e ∈ o.els, (0 ≤ e.p ∧ e.p ≤ 65535) ∧ (0 ≤ e.s ∧ e.s ≤ 65535) ∧ (0 ≤ e.t ∧ e.t ≤ 65535)
theorem all_range {ws : List (List UInt8)} (h : ws.all runeOk = true) : ∀ r ∈ ws.map num, 0 ≤ r ∧ r ≤ 1114111 := by
 intro r hr
 obtain ⟨x, hx, rfl⟩ := List.mem_map.1 hr
 have := (List.all_eq_true.1 h) x hx
 simpa [runeOk] using this
theorem elem3_range {v : Bool} {l : List (List UInt8)} {e : El} (h : elem3 v l = some e) : (0 ≤ e.p ∧ e.p ≤ 65535) ∧ (0 ≤ e.s ∧ e.s ≤ 65535) ∧ (0 ≤ e.t ∧ e.t ≤ 65535) := by
 unfold elem3 at h
 split at h
 ·split at h
  ·cases h; simp only; omega
  ·cases h
 ·cases h
theorem elem_range {x : List UInt8} {e : El} (h : elem x = some e) : (0 ≤ e.p ∧ e.p ≤ 65535) ∧ (0 ≤ e.s ∧ e.s ≤ 65535) ∧ (0 ≤ e.t ∧ e.t ≤ 65535) := by
 unfold elem at h
 split at h
 ·exact elem3_range h
 ·split at h <;> exact elem3_range h
theorem elemsOf_range {b : List (List UInt8)} {es : List El} (h : elemsOf b = some es) : ∀ e ∈ es, (0 ≤ e.p ∧ e.p ≤ 65535) ∧ (0 ≤ e.s ∧ e.s ≤ 65535) ∧ (0 ≤ e.t ∧ e.t ≤ 65535) := by
 induction b generalizing es with
 | nil => simp [elemsOf] at h; subst h; simp
 | cons x r ih =>
  rw [elemsOf] at h
  cases hx : elem x with
  | none => rw [hx] at h; cases h
  | some e =>
   rw [hx] at h
   cases hr : elemsOf r with
   | none => rw [hr] at h; cases h
   | some q =>
    rw [hr] at h; simp at h; subst h
    intro y hy
    rcases List.mem_cons.1 hy with rfl | hy
    ·exact elem_range hx
    ·exact ih hr y hy
theorem fit_class {a b : List UInt8} {n : Int} (ha : runeOk a = true) (hb : runeOk b = true) (h1 : 1 ≤ num b) : Fit ⟨[99], [num a, num b], [], n⟩ :=
 ⟨.inl ⟨rfl, rfl, h1, rfl⟩, by simp, by simp, by simp, all_range (ws := [a, b]) (by simp [ha, hb]), by simp⟩
theorem fit_parts {ws : List (List UInt8)} {n : Int} (ha : ws.all runeOk = true) (h : ws.length = 2 ∨ ws.length = 3) : Fit ⟨[100], ws.map num, [], n⟩ :=
 ⟨.inr (.inl ⟨rfl, by simp; omega, rfl⟩), by intro e; simp at e; subst e; simp at h, by simp; omega, by simp, all_range ha, by simp⟩
theorem fit_weigh {a b : List (List UInt8)} {es : List El} {n : Int} (ha : a.all runeOk = true) (h1 : 1 ≤ a.length) (h2 : a.length ≤ 3) (h3 : 1 ≤ b.length) (h4 : b.length ≤ 4) (he : elemsOf b = some es) : Fit ⟨[119], a.map num, es, n⟩ := by
 have hl := elemsOf_length he
 refine ⟨.inr (.inr ⟨rfl, ?_⟩), ?_, by simpa using h2, by simp; omega, all_range ha, elemsOf_range he⟩
 ·intro e; simp at e; subst e; simp at hl; omega
 ·intro e; simp at e; subst e; simp at h1
def isClass (r : Int) (o : Ln) : Bool := decide (o.kind = [99]) && (o.runes.getD 0 0 == r)
def classOf (lns : List Ln) (r : Int) : Int := match lns.find? (isClass r) with
 | some o => o.runes.getD 1 0
 | none => 0
def isHead (r : Int) (o : Ln) : Bool := decide (o.kind = [119]) && (o.runes.getD 0 0 == r)
def seqsAt (lns : List Ln) (r : Int) : List Ln := lns.filter (isHead r)
def dLines (lns : List Ln) : List Ln := lns.filter fun o => decide (o.kind = [100])
def wLines (lns : List Ln) : List Ln := lns.filter fun o => decide (o.kind = [119])
theorem find_snoc {p : Ln → Bool} {lns : List Ln} {l : Ln} : (lns ++ [l]).find? p = match lns.find? p with
  | some o => some o
  | none => if p l then some l else none := by
 rw [List.find?_append]
 cases lns.find? p <;> simp [List.find?_cons] <;> cases p l <;> rfl
theorem classOf_snoc {lns : List Ln} {l : Ln} {r : Int} : classOf (lns ++ [l]) r = if (lns.find? (isClass r)).isNone ∧ isClass r l = true then l.runes.getD 1 0 else classOf lns r := by
 unfold classOf
 rw [find_snoc]
 cases lns.find? (isClass r) with
 | some o => simp
 | none => cases isClass r l <;> simp
theorem parts_snoc {lns : List Ln} {l : Ln} {r : Int} : parts (lns ++ [l]) r = if (lns.find? (isParts r)).isNone ∧ isParts r l = true then l.runes.tail else parts lns r := by
 unfold parts
 rw [find_snoc]
 cases lns.find? (isParts r) with
 | some o => simp
 | none => cases isParts r l <;> simp
theorem seqsAt_snoc {lns : List Ln} {l : Ln} {r : Int} : seqsAt (lns ++ [l]) r = if isHead r l then seqsAt lns r ++ [l] else seqsAt lns r := by
 unfold seqsAt
 rw [List.filter_append]
 cases h : isHead r l <;> simp [h]
theorem dLines_snoc {lns : List Ln} {l : Ln} : dLines (lns ++ [l]) = if l.kind = [100] then dLines lns ++ [l] else dLines lns := by
 unfold dLines
 rw [List.filter_append]
 by_cases h : l.kind = [100] <;> simp [h]
theorem wLines_snoc {lns : List Ln} {l : Ln} : wLines (lns ++ [l]) = if l.kind = [119] then wLines lns ++ [l] else wLines lns := by
 unfold wLines
 rw [List.filter_append]
 by_cases h : l.kind = [119] <;> simp [h]
theorem twice_class {lns : List Ln} (hf : ∀ o ∈ lns, Fit o) {l : Ln} (hk : l.kind = [99]) : twice lns l = (classOf lns (l.runes.getD 0 0) != 0) := by
 have e : twice lns l = lns.any (isClass (l.runes.getD 0 0)) := by
  unfold twice
  congr 1
  funext o
  simp [clash, isClass, hk]
 rw [e]
 unfold classOf
 cases h : lns.find? (isClass (l.runes.getD 0 0)) with
 | none =>
  have := List.find?_eq_none.1 h
  simp only [bne_self_eq_false]
  rw [List.any_eq_false]
  exact this
 | some o =>
  have hm := List.mem_of_find?_eq_some h
  have hp := List.find?_some h
  have h1 : 1 ≤ o.runes.getD 1 0 := by
   simp only [isClass, Bool.and_eq_true, decide_eq_true_eq] at hp
   rcases (hf o hm).kinds with ⟨_, _, h, _⟩ | ⟨h, _⟩ | ⟨h, _⟩
   ·exact h
   ·rw [hp.1] at h; simp at h
   ·rw [hp.1] at h; simp at h
  have : lns.any (isClass (l.runes.getD 0 0)) = true := List.any_eq_true.2 ⟨o, hm, hp⟩
  rw [this]
  symm
  rw [bne_iff_ne]
  simp only
  omega
theorem class_none {lns : List Ln} (hf : ∀ o ∈ lns, Fit o) {r : Int} (h : classOf lns r = 0) : (lns.find? (isClass r)).isNone = true := by
 unfold classOf at h
 cases hx : lns.find? (isClass r) with
 | none => rfl
 | some o =>
  rw [hx] at h
  simp only at h
  have hm := List.mem_of_find?_eq_some hx
  have hp := List.find?_some hx
  simp only [isClass, Bool.and_eq_true, decide_eq_true_eq] at hp
  rcases (hf o hm).kinds with ⟨_, _, h', _⟩ | ⟨h', _⟩ | ⟨h', _⟩
  ·omega
  ·rw [hp.1] at h'; simp at h'
  ·rw [hp.1] at h'; simp at h'
theorem parts_none {lns : List Ln} (hf : ∀ o ∈ lns, Fit o) {r : Int} (h : (parts lns r).length = 0) : (lns.find? (isParts r)).isNone = true := by
 unfold parts at h
 cases hx : lns.find? (isParts r) with
 | none => rfl
 | some o =>
  rw [hx] at h
  simp only [List.length_tail] at h
  have hm := List.mem_of_find?_eq_some hx
  have hp := List.find?_some hx
  simp only [isParts, Bool.and_eq_true, decide_eq_true_eq] at hp
  rcases (hf o hm).kinds with ⟨h', _⟩ | ⟨h', h2, _⟩ | ⟨h', _⟩
  ·rw [hp.1] at h'; simp at h'
  ·omega
  ·rw [hp.1] at h'; simp at h'
theorem twice_parts {lns : List Ln} (hf : ∀ o ∈ lns, Fit o) {l : Ln} (hk : l.kind = [100]) : twice lns l = decide (0 < (parts lns (l.runes.getD 0 0)).length) := by
 have e : twice lns l = lns.any (isParts (l.runes.getD 0 0)) := by
  unfold twice
  congr 1
  funext o
  simp [clash, isParts, hk]
 rw [e]
 by_cases h0 : (parts lns (l.runes.getD 0 0)).length = 0
 ·have := parts_none hf h0
  rw [Option.isNone_iff_eq_none, List.find?_eq_none] at this
  have e1 : lns.any (isParts (l.runes.getD 0 0)) = false := by rw [List.any_eq_false]; exact this
  rw [e1, h0]; rfl
 ·have e2 : decide (0 < (parts lns (l.runes.getD 0 0)).length) = true := by rw [decide_eq_true_iff]; omega
  rw [e2]
  unfold parts at h0
  cases hx : lns.find? (isParts (l.runes.getD 0 0)) with
  | none => rw [hx] at h0; simp at h0
  | some o => exact List.any_eq_true.2 ⟨o, List.mem_of_find?_eq_some hx, List.find?_some hx⟩
theorem twice_weigh {lns : List Ln} {l : Ln} (hk : l.kind = [119]) : twice lns l = (seqsAt lns (l.runes.getD 0 0)).any fun o => decide (o.runes = l.runes) := by
 unfold twice seqsAt
 rw [List.any_filter]
 congr 1
 funext o
 simp only [clash, isHead, hk]
 by_cases h1 : o.kind = [119]
 ·by_cases h2 : o.runes = l.runes
  ·simp [h1, h2]
  ·simp [h1, h2]
 ·simp [h1]
def ends (lns : List Ln) : Nat → Int → Bool
 | 0, r => decide ((parts lns r).length = 0)
 | n + 1, r => decide ((parts lns r).length = 0) || (parts lns r).all (ends lns n)
theorem ends_leaf {lns : List Ln} {n : Nat} {r : Int} (h : (parts lns r).length = 0) : ends lns n r = true := by
 cases n <;> simp [ends, h]
theorem deep_ends (lns : List Ln) : ∀ (n : Nat) (l : List Int), deep lns (n + 1) l = l.any fun r => !ends lns n r
 | 0, l => by simp [deep, hasParts, ends]
 | n + 1, l => by
  rw [deep, deep_ends lns n]
  rw [Bool.eq_iff_iff]
  simp only [Bool.and_eq_true, List.any_eq_true, hasParts, stepAll, List.mem_flatMap]
  constructor
  ·rintro ⟨_, r', ⟨r, hr, hr'⟩, he⟩
   refine ⟨r, hr, ?_⟩
   unfold step1 at hr'
   split at hr'
   ·rename_i h0
    simp at hr'; subst hr'
    rw [ends_leaf h0] at he; cases he
   ·rename_i h0
    rw [ends]
    simp [h0]
    exact ⟨r', hr', by simpa using he⟩
  ·rintro ⟨r, hr, he⟩
   rw [ends] at he
   simp at he
   obtain ⟨h0, r', hr', he'⟩ := he
   have h0' : ¬ (parts lns r).length = 0 := by simpa using h0
   refine ⟨⟨r, hr, by simp [h0]⟩, r', ⟨r, hr, ?_⟩, by simpa using he'⟩
   unfold step1
   rw [if_neg h0']; exact hr'
theorem badLoop_ends (lns : List Ln) (o : Ln) : badLoop lns o = (decide (o.kind = [100]) && !ends lns 4 (o.runes.getD 0 0)) := by
 unfold badLoop
 rw [deep_ends lns 4]
 simp
end Tm
namespace Tm
def leastEl (m : Int) (x : El) : Int := if !x.v && x.p != 0 then min m x.p else m
def leastEls (els : List El) (m : Int) : Int := els.foldl leastEl m
def leastLns (ls : List Ln) (m : Int) : Int := ls.foldl (fun m o => leastEls o.els m) m
theorem leastEl_le (m p : Int) (x : El) : leastEl m x ≤ p ↔ m ≤ p ∨ lowEl p x = true := by
 unfold leastEl lowEl
 cases x.v
 ·cases h : (x.p != 0)
  ·simp
  ·simp; omega
 ·simp
theorem leastEls_le (els : List El) (m p : Int) : leastEls els m ≤ p ↔ m ≤ p ∨ els.any (lowEl p) = true := by
 induction els generalizing m with
 | nil => simp [leastEls]
 | cons x r ih =>
  have : leastEls (x :: r) m = leastEls r (leastEl m x) := rfl
  rw [this, ih, leastEl_le, List.any_cons, Bool.or_eq_true, or_assoc]
theorem leastLns_le (ls : List Ln) (m p : Int) : leastLns ls m ≤ p ↔ m ≤ p ∨ belowP ls p = true := by
 induction ls generalizing m with
 | nil => simp [leastLns, belowP]
 | cons o r ih =>
  have : leastLns (o :: r) m = leastLns r (leastEls o.els m) := rfl
  rw [this, ih, leastEls_le]
  unfold belowP
  rw [List.any_cons, Bool.or_eq_true, or_assoc]
theorem leastEls_snoc {els : List El} {k : Nat} {m : Int} (h : k < els.length) : leastEls (els.take (k + 1)) m = leastEl (leastEls (els.take k) m) els[k] := by
 unfold leastEls
 rw [List.take_succ_eq_append_getElem h, List.foldl_append]; rfl
theorem leastLns_snoc {ls : List Ln} {k : Nat} {m : Int} (h : k < ls.length) : leastLns (ls.take (k + 1)) m = leastEls ls[k].els (leastLns (ls.take k) m) := by
 unfold leastLns
 rw [List.take_succ_eq_append_getElem h, List.foldl_append]; rfl
theorem els_of_w {o : Ln} (h : Fit o) (hk : o.kind ≠ [119]) : o.els = [] := by
 rcases h.kinds with ⟨_, _, _, h⟩ | ⟨_, _, h⟩ | ⟨h, _⟩
 ·exact h
 ·exact h
 ·exact absurd h hk
theorem belowP_w {lns : List Ln} (hf : ∀ o ∈ lns, Fit o) (p : Int) : belowP (wLines lns) p = belowP lns p := by
 unfold belowP wLines
 rw [List.any_filter, Bool.eq_iff_iff]
 simp only [List.any_eq_true, Bool.and_eq_true, decide_eq_true_eq]
 constructor
 ·rintro ⟨o, ho, _, x, hx⟩; exact ⟨o, ho, x, hx⟩
 ·rintro ⟨o, ho, x, hx⟩
  refine ⟨o, ho, ?_, x, hx⟩
  apply Classical.byContradiction
  intro hk
  rw [els_of_w (hf o ho) hk] at hx
  cases hx.1
def bound (lns : List Ln) : Int := leastLns (wLines lns) 65536
theorem bound_le {lns : List Ln} (hf : ∀ o ∈ lns, Fit o) {p : Int} (hp : p ≤ 65535) : decide (bound lns ≤ p) = belowP lns p := by
 rw [Bool.eq_iff_iff, decide_eq_true_iff]
 unfold bound
 rw [leastLns_le, belowP_w hf]
 constructor
 ·rintro (h | h)
  ·omega
  ·exact h
 ·exact .inr
def highEl (b : Int) (x : El) : Bool := x.v && decide (b ≤ x.p)
theorem find_same {l : List Ln} {p q : Ln → Bool} (h : ∀ o ∈ l, p o = q o) : l.find? p = l.find? q := by
 induction l with
 | nil => rfl
 | cons a r ih =>
  rw [List.find?_cons, List.find?_cons, h a (by simp), ih (fun o ho => h o (by simp [ho]))]
theorem high_find {lns : List Ln} (hf : ∀ o ∈ lns, Fit o) : (wLines lns).find? (fun o => o.els.any (highEl (bound lns))) = lns.find? (badWeight lns) := by
 unfold wLines
 rw [List.find?_filter]
 refine find_same fun o ho => ?_
 have e : o.els.any (highEl (bound lns)) = badWeight lns o := by
  unfold badWeight
  rw [Bool.eq_iff_iff]
  simp only [List.any_eq_true]
  constructor
  ·rintro ⟨x, hx, h⟩
   refine ⟨x, hx, ?_⟩
   unfold highEl at h
   rw [bound_le hf ((hf o ho).weight x hx).1.2] at h; exact h
  ·rintro ⟨x, hx, h⟩
   refine ⟨x, hx, ?_⟩
   unfold highEl
   rw [bound_le hf ((hf o ho).weight x hx).1.2]; exact h
 rw [e]
 by_cases hk : o.kind = [119]
 ·simp [hk]
 ·have : badWeight lns o = false := by unfold badWeight; rw [els_of_w (hf o ho) hk]; rfl
  simp [hk, this]
end Tm
namespace Tm
def Up (k : Int → Int) (l : List Int) : Prop := l.Pairwise fun a b => k a ≤ k b
def Same (k : Int → Int) (l l' : List Int) : Prop := ∀ c, l.filter (fun x => k x == c) = l'.filter (fun x => k x == c)
theorem Same.refl (k : Int → Int) (l : List Int) : Same k l l := fun _ => rfl
theorem Same.symm {k : Int → Int} {l l' : List Int} (h : Same k l l') : Same k l' l := fun c => (h c).symm
theorem Same.trans {k : Int → Int} {a b c : List Int} (h : Same k a b) (h' : Same k b c) : Same k a c := fun x => (h x).trans (h' x)
theorem Same.append {k : Int → Int} {a a' b b' : List Int} (h : Same k a a') (h' : Same k b b') : Same k (a ++ b) (a' ++ b') := fun c => by
 rw [List.filter_append, List.filter_append, h c, h' c]
theorem Same.count {k : Int → Int} {l l' : List Int} (h : Same k l l') (x : Int) : l.count x = l'.count x := by
 have e : ∀ m : List Int, m.count x = (m.filter fun y => k y == k x).count x := fun m => by
  rw [List.count_filter (by simp)]
 rw [e l, e l', h]
theorem Same.perm {k : Int → Int} {l l' : List Int} (h : Same k l l') : l.Perm l' := List.perm_iff_count.2 h.count
theorem Same.length {k : Int → Int} {l l' : List Int} (h : Same k l l') : l.length = l'.length := h.perm.length_eq
theorem Same.mem {k : Int → Int} {l l' : List Int} (h : Same k l l') {x : Int} : x ∈ l ↔ x ∈ l' := h.perm.mem_iff
theorem Up.unique {k : Int → Int} : ∀ {l l' : List Int}, Up k l → Up k l' → Same k l l' → l = l'
 | [], l', _, _, h => by
  have := h.length
  cases l' with
  | nil => rfl
  | cons b r => simp at this
 | a :: r, l', h1, h2, h => by
  cases l' with
  | nil => have := h.length; simp at this
  | cons b r' =>
   have h1' := List.pairwise_cons.1 h1
   have h2' := List.pairwise_cons.1 h2
   have hab : k a ≤ k b := by
    rcases List.mem_cons.1 (h.mem.2 (List.mem_cons_self (a := b) (l := r'))) with e | e
    ·rw [e]; exact Int.le_refl _
    ·exact h1'.1 b e
   have hba : k b ≤ k a := by
    rcases List.mem_cons.1 (h.mem.1 (List.mem_cons_self (a := a) (l := r))) with e | e
    ·rw [e]; exact Int.le_refl _
    ·exact h2'.1 a e
   have hk : k a = k b := by omega
   have hc := h (k a)
   rw [List.filter_cons, List.filter_cons, if_pos (by simp), if_pos (by simp [hk])] at hc
   have e := (List.cons.inj hc).1
   subst e
   congr 1
   refine Up.unique h1'.2 h2'.2 fun c => ?_
   have hc' := h c
   rw [List.filter_cons, List.filter_cons] at hc'
   split at hc'
   ·exact (List.cons.inj hc').2
   ·exact hc'
theorem Same.comm {k : Int → Int} {u v : List Int} (h : ∀ x ∈ u, ∀ y ∈ v, k x ≠ k y) : Same k (u ++ v) (v ++ u) := fun c => by
 rw [List.filter_append, List.filter_append]
 by_cases hu : u.filter (fun x => k x == c) = []
 ·rw [hu]; simp
 ·have hv : v.filter (fun x => k x == c) = [] := by
   rw [List.filter_eq_nil_iff]
   intro y hy hyc
   obtain ⟨x, hx⟩ := List.exists_mem_of_ne_nil _ hu
   obtain ⟨hxu, hxc⟩ := List.mem_filter.1 hx
   exact h x hxu y hy ((by simpa using hxc : k x = c).trans (by simpa using hyc : k y = c).symm)
  rw [hv]; simp
theorem Up.append {k : Int → Int} {u v : List Int} : Up k (u ++ v) ↔ Up k u ∧ Up k v ∧ ∀ x ∈ u, ∀ y ∈ v, k x ≤ k y := by
 unfold Up; rw [List.pairwise_append]
theorem Up.same {k : Int → Int} {u u' v v' : List Int} (hu : Up k u') (hv : Up k v') (su : Same k u u') (sv : Same k v v') (h : ∀ x ∈ u, ∀ y ∈ v, k x ≤ k y) : Up k (u' ++ v') :=
 Up.append.2 ⟨hu, hv, fun x hx y hy => h x (su.mem.2 hx) y (sv.mem.2 hy)⟩
def Sorts (k : Int → Int) (s s' : List Int) : Prop := Up k s' ∧ Same k s s'
theorem Sorts.of_up {k : Int → Int} {s : List Int} (h : Up k s) : Sorts k s s := ⟨h, Same.refl _ _⟩
theorem Sorts.merge {k : Int → Int} {u1 u2 v1 v2 l r : List Int} (hl : Sorts k (u1 ++ v1) l) (hr : Sorts k (u2 ++ v2) r) (hu : Up k (u1 ++ u2)) (hv : Up k (v1 ++ v2)) (h1 : ∀ x ∈ v1, ∀ y ∈ u2, k x < k y) (h2 : ∀ x ∈ u1, ∀ y ∈ v2, k x ≤ k y) :
  Sorts k ((u1 ++ u2) ++ (v1 ++ v2)) (l ++ r) := by
 have hu' := Up.append.1 hu
 have hv' := Up.append.1 hv
 constructor
 ·refine Up.same hl.1 hr.1 hl.2 hr.2 ?_
  intro x hx y hy
  rcases List.mem_append.1 hx with hx | hx <;> rcases List.mem_append.1 hy with hy | hy
  ·exact hu'.2.2 x hx y hy
  ·exact h2 x hx y hy
  ·exact Int.le_of_lt (h1 x hx y hy)
  ·exact hv'.2.2 x hx y hy
 ·have e : Same k (u2 ++ v1) (v1 ++ u2) := Same.comm fun x hx y hy => by have := h1 y hy x hx; omega
  have e2 : Same k ((u1 ++ u2) ++ (v1 ++ v2)) ((u1 ++ v1) ++ (u2 ++ v2)) := by
   have := Same.append (Same.append (Same.refl k u1) e) (Same.refl k v2)
   simpa [List.append_assoc] using this
  exact e2.trans (hl.2.append hr.2)
end Tm
namespace Tm
theorem Sorts.insert {k : Int → Int} {t s q1 q2 : List Int} {x : Int} (h : Sorts k t s) (hs : s = q1 ++ q2) (h1 : ∀ y ∈ q1, k y ≤ k x) (h2 : ∀ y ∈ q2, k x < k y) : Sorts k (t ++ [x]) (q1 ++ x :: q2) := by
 subst hs
 have hu := Up.append.1 h.1
 constructor
 ·refine Up.append.2 ⟨hu.1, List.pairwise_cons.2 ⟨fun y hy => Int.le_of_lt (h2 y hy), hu.2.1⟩, fun a ha b hb => ?_⟩
  rcases List.mem_cons.1 hb with rfl | hb
  ·exact h1 a ha
  ·exact hu.2.2 a ha b hb
 ·have e : Same k (t ++ [x]) ((q1 ++ q2) ++ [x]) := h.2.append (Same.refl _ _)
  have e2 : Same k (q2 ++ [x]) ([x] ++ q2) := Same.comm fun a ha b hb => by
   simp at hb; subst hb
   have := h2 a ha; omega
  refine e.trans ?_
  have := Same.append (Same.refl k q1) e2
  simpa [List.append_assoc] using this
theorem Up.last_le {k : Int → Int} {q : List Int} {y x : Int} (h : Up k (q ++ [y])) (hy : k y ≤ k x) : ∀ z ∈ q ++ [y], k z ≤ k x := by
 intro z hz
 have hu := Up.append.1 h
 rcases List.mem_append.1 hz with hz | hz
 ·have := hu.2.2 z hz y (by simp); omega
 ·simp at hz; subst hz; exact hy
end Tm
namespace Tm
theorem Up.take_lt {k : Int → Int} {v : List Int} {i : Nat} {x : Int} (h : Up k v) (hi : i < v.length) (hx : k v[i] < k x) : ∀ y ∈ v.take (i + 1), k y < k x := by
 intro y hy
 rw [List.take_succ_eq_append_getElem hi] at hy
 rcases List.mem_append.1 hy with hy | hy
 ·have hu : Up k (v.take i ++ v.drop i) := by rw [List.take_append_drop]; exact h
  have := (Up.append.1 hu).2.2 y hy v[i] (by rw [List.drop_eq_getElem_cons hi]; exact List.mem_cons_self)
  omega
 ·simp at hy; subst hy; exact hx
theorem Up.take_le {k : Int → Int} {v : List Int} {i : Nat} {x : Int} (h : Up k v) (hi : i < v.length) (hx : k v[i] ≤ k x) : ∀ y ∈ v.take (i + 1), k y ≤ k x := by
 intro y hy
 rw [List.take_succ_eq_append_getElem hi] at hy
 rcases List.mem_append.1 hy with hy | hy
 ·have hu : Up k (v.take i ++ v.drop i) := by rw [List.take_append_drop]; exact h
  have := (Up.append.1 hu).2.2 y hy v[i] (by rw [List.drop_eq_getElem_cons hi]; exact List.mem_cons_self)
  omega
 ·simp at hy; subst hy; exact hx
theorem Up.drop_le {k : Int → Int} {v : List Int} {i : Nat} {x : Int} (h : Up k v) (hi : i < v.length) (hx : k x ≤ k v[i]) : ∀ y ∈ v.drop i, k x ≤ k y := by
 intro y hy
 rw [List.drop_eq_getElem_cons hi] at hy
 rcases List.mem_cons.1 hy with rfl | hy
 ·exact hx
 ·have hu : Up k (v.take i ++ v.drop i) := by rw [List.take_append_drop]; exact h
  have hd := (Up.append.1 hu).2.1
  rw [List.drop_eq_getElem_cons hi] at hd
  have := (List.pairwise_cons.1 hd).1 y hy
  omega
theorem Up.drop_lt {k : Int → Int} {v : List Int} {i : Nat} {x : Int} (h : Up k v) (hi : i < v.length) (hx : k x < k v[i]) : ∀ y ∈ v.drop i, k x < k y := by
 intro y hy
 have := h.drop_le (x := v[i]) hi (Int.le_refl _) y hy
 omega
end Tm
namespace Tm
theorem Up.split {k : Int → Int} {u v : List Int} {T E : Nat} (hu : Up k u) (hv : Up k v) (h1 : T < u.length → 0 < E → E ≤ v.length → k (v.getD (E - 1) 0) < k (u.getD T 0)) (h2 : 0 < T → T ≤ u.length → E < v.length → k (u.getD (T - 1) 0) ≤ k (v.getD E 0)) (hT : T ≤ u.length) (hE : E ≤ v.length) :
  (∀ x ∈ v.take E, ∀ y ∈ u.drop T, k x < k y) ∧ (∀ x ∈ u.take T, ∀ y ∈ v.drop E, k x ≤ k y) := by
 constructor
 ·intro x hx y hy
  have hE0 : 0 < E := by
   cases E with
   | zero => simp at hx
   | succ n => omega
  have hTu : T < u.length := by
   apply Classical.byContradiction
   intro hn
   rw [List.drop_eq_nil_of_le (by omega)] at hy
   cases hy
  have h := h1 hTu hE0 hE
  have hE1 : E - 1 < v.length := by omega
  rw [List.getD_eq_getElem?_getD, List.getD_eq_getElem?_getD, List.getElem?_eq_getElem hE1, List.getElem?_eq_getElem hTu] at h
  simp only [Option.getD_some] at h
  have a1 := hv.take_le (x := v[E - 1]) hE1 (Int.le_refl _) x (by rw [show E - 1 + 1 = E from by omega]; exact hx)
  have a2 := hu.drop_le (x := u[T]) hTu (Int.le_refl _) y hy
  omega
 ·intro x hx y hy
  have hT0 : 0 < T := by
   cases T with
   | zero => simp at hx
   | succ n => omega
  have hEv : E < v.length := by
   apply Classical.byContradiction
   intro hn
   rw [List.drop_eq_nil_of_le (by omega)] at hy
   cases hy
  have h := h2 hT0 hT hEv
  have hT1 : T - 1 < u.length := by omega
  rw [List.getD_eq_getElem?_getD, List.getD_eq_getElem?_getD, List.getElem?_eq_getElem hT1, List.getElem?_eq_getElem hEv] at h
  simp only [Option.getD_some] at h
  have a1 := hu.take_le (x := u[T - 1]) hT1 (Int.le_refl _) x (by rw [show T - 1 + 1 = T from by omega]; exact hx)
  have a2 := hv.drop_le (x := v[E]) hEv (Int.le_refl _) y hy
  omega
end Tm
namespace Tm
def insr (k : Int → Int) (x : Int) : List Int → List Int
 | [] => [x]
 | y :: t => if k y ≠ 0 ∧ k y < k x then y :: insr k x t else x :: y :: t
def ord (k : Int → Int) : List Int → List Int
 | [] => []
 | x :: r => insr k x (ord k r)
theorem insr_length (k : Int → Int) (x : Int) (l : List Int) : (insr k x l).length = l.length + 1 := by
 induction l with
 | nil => rfl
 | cons y t ih => unfold insr; split <;> simp [ih]
theorem ord_length (k : Int → Int) (l : List Int) : (ord k l).length = l.length := by
 induction l with
 | nil => rfl
 | cons x r ih => rw [ord, insr_length, ih]; rfl
theorem insr_comm {k : Int → Int} {a b : Int} (hb : k b ≠ 0) (hab : k b < k a) (l : List Int) : insr k a (insr k b l) = insr k b (insr k a l) := by
 induction l with
 | nil =>
  simp only [insr]
  rw [if_pos ⟨hb, hab⟩, if_neg (by omega)]
 | cons y t ih =>
  by_cases h1 : k y ≠ 0 ∧ k y < k b
  ·have h2 : k y ≠ 0 ∧ k y < k a := ⟨h1.1, by omega⟩
   rw [insr, if_pos h1, insr, if_pos h2, insr, if_pos h2, insr, if_pos h1, ih]
  ·rw [insr, if_neg h1, insr, if_pos ⟨hb, hab⟩]
   by_cases h2 : k y ≠ 0 ∧ k y < k a
   ·rw [insr, if_pos h2, insr, if_neg h1]
   ·rw [insr, if_neg h2, insr, if_neg (by omega)]
theorem ord_swap {k : Int → Int} {a b : Int} (hb : k b ≠ 0) (hab : k b < k a) (p q : List Int) : ord k (p ++ a :: b :: q) = ord k (p ++ b :: a :: q) := by
 induction p with
 | nil => simp only [List.nil_append, ord]; exact insr_comm hb hab _
 | cons x r ih => simp only [List.cons_append, ord, ih]
def Calm (k : Int → Int) : List Int → Prop
 | [] => True
 | [_] => True
 | a :: b :: r => ¬ (k b ≠ 0 ∧ k b < k a) ∧ Calm k (b :: r)
theorem ord_calm {k : Int → Int} : ∀ {l : List Int}, Calm k l → ord k l = l
 | [], _ => rfl
 | [_], _ => rfl
 | a :: b :: r, h => by
  rw [ord, ord_calm h.2, insr, if_neg h.1]
theorem insr_stop {k : Int → Int} {z : Int} (hz : k z = 0) (x : Int) (s t : List Int) : insr k x (s ++ z :: t) = insr k x s ++ z :: t := by
 induction s with
 | nil => simp [insr, hz]
 | cons y r ih =>
  simp only [List.cons_append]
  rw [insr, insr]
  split
  ·rw [ih]; rfl
  ·rfl
theorem ord_stop {k : Int → Int} (hk : ∀ x, 0 ≤ k x) {z : Int} (hz : k z = 0) (s t : List Int) : ord k (s ++ z :: t) = ord k s ++ z :: ord k t := by
 induction s with
 | nil =>
  simp only [List.nil_append, ord]
  cases h : ord k t with
  | nil => rfl
  | cons y r =>
   rw [insr, if_neg (by have := hk y; omega)]
 | cons x r ih => rw [List.cons_append, ord, ih, insr_stop hz]; rfl
theorem insr_sorts {k : Int → Int} {x : Int} : ∀ {l : List Int}, Up k l → (∀ y ∈ l, k y ≠ 0) → ∃ q1 q2, l = q1 ++ q2 ∧ insr k x l = q1 ++ x :: q2 ∧ (∀ y ∈ q1, k y < k x) ∧ (∀ y ∈ q2, k x ≤ k y)
 | [], _, _ => ⟨[], [], rfl, rfl, by simp, by simp⟩
 | y :: t, hu, hm => by
  have hu' := List.pairwise_cons.1 hu
  by_cases h : k y ≠ 0 ∧ k y < k x
  ·obtain ⟨q1, q2, h1, h2, h3, h4⟩ := insr_sorts (x := x) hu'.2 (fun z hz => hm z (by simp [hz]))
   refine ⟨y :: q1, q2, by rw [h1]; rfl, by rw [insr, if_pos h, h2]; rfl, ?_, h4⟩
   intro z hz
   rcases List.mem_cons.1 hz with rfl | hz
   ·exact h.2
   ·exact h3 z hz
  ·refine ⟨[], y :: t, rfl, by rw [insr, if_neg h]; rfl, by simp, ?_⟩
   have hy := hm y (by simp)
   intro z hz
   rcases List.mem_cons.1 hz with rfl | hz
   ·omega
   ·have := hu'.1 z hz; omega
theorem ord_sorts {k : Int → Int} : ∀ {l : List Int}, (∀ y ∈ l, k y ≠ 0) → Sorts k l (ord k l)
 | [], _ => ⟨List.Pairwise.nil, Same.refl _ _⟩
 | x :: r, hm => by
  have ih := ord_sorts (l := r) (fun y hy => hm y (by simp [hy]))
  have hm' : ∀ y ∈ ord k r, k y ≠ 0 := fun y hy => hm y (by simp [ih.2.mem.2 hy])
  obtain ⟨q1, q2, h1, h2, h3, h4⟩ := insr_sorts (x := x) ih.1 hm'
  rw [ord, h2]
  have hu := ih.1
  rw [h1] at hu
  have hu' := Up.append.1 hu
  constructor
  ·refine Up.append.2 ⟨hu'.1, List.pairwise_cons.2 ⟨h4, hu'.2.1⟩, fun a ha b hb => ?_⟩
   rcases List.mem_cons.1 hb with rfl | hb
   ·exact Int.le_of_lt (h3 a ha)
   ·exact hu'.2.2 a ha b hb
  ·have e1 : Same k ([x] ++ r) ([x] ++ (q1 ++ q2)) := Same.append (Same.refl _ _) (by rw [← h1]; exact ih.2)
   have e2 : Same k ([x] ++ q1) (q1 ++ [x]) := Same.comm fun a ha b hb => by
    simp at ha; subst ha
    have := h3 b hb; omega
   have e3 := Same.append e2 (Same.refl k q2)
   refine e1.trans ?_
   simpa [List.append_assoc] using e3
theorem Sorts.ord_eq {k : Int → Int} {l s : List Int} (hm : ∀ y ∈ l, k y ≠ 0) (h : Sorts k l s) : s = ord k l :=
 Up.unique h.1 (ord_sorts hm).1 (h.2.symm.trans (ord_sorts hm).2)
def expand (lns : List Ln) : Nat → Int → List Int
 | 0, r => [r]
 | n + 1, r => if (parts lns r).length = 0 then [r] else (parts lns r).flatMap (expand lns n)
theorem expand_leaf {lns : List Ln} {n : Nat} {r : Int} (h : (parts lns r).length = 0) : expand lns n r = [r] := by
 cases n with
 | zero => rfl
 | succ n => rw [expand, if_pos h]
theorem classOf_nonneg {lns : List Ln} (hf : ∀ o ∈ lns, Fit o) (r : Int) : 0 ≤ classOf lns r := by
 unfold classOf
 split
 ·rename_i o ho
  have hm := List.mem_of_find?_eq_some ho
  have hp := List.find?_some ho
  simp only [isClass, Bool.and_eq_true, decide_eq_true_eq] at hp
  rcases (hf o hm).kinds with ⟨_, _, h, _⟩ | ⟨h, _⟩ | ⟨h, _⟩
  ·omega
  ·rw [hp.1] at h; simp at h
  ·rw [hp.1] at h; simp at h
 ·exact Int.le_refl _
end Tm
namespace Tm
theorem expand_length {lns : List Ln} (hp : ∀ r, (parts lns r).length ≤ 2) : ∀ (n : Nat) (r : Int), (expand lns n r).length ≤ 2 ^ n
 | 0, r => by simp [expand]
 | n + 1, r => by
  rw [expand]
  split
  ·have := Nat.one_le_two_pow (n := n + 1); simpa using this
  ·have h : ∀ l : List Int, (l.flatMap (expand lns n)).length ≤ l.length * 2 ^ n := by
    intro l
    induction l with
    | nil => simp
    | cons a q ih =>
     rw [List.flatMap_cons, List.length_append, List.length_cons, Nat.add_mul]
     have := expand_length hp n a
     omega
   have h1 := h (parts lns r)
   have h2 := Nat.mul_le_mul_right (2 ^ n) (hp r)
   rw [Nat.pow_succ]
   omega
theorem expand_part {lns : List Ln} {n : Nat} {r : Int} (h : ¬ (parts lns r).length = 0) : expand lns (n + 1) r = (parts lns r).flatMap (expand lns n) := by rw [expand, if_neg h]
theorem flat_snoc {l : List Int} {f : Int → List Int} {k : Nat} (h : k < l.length) : (l.take (k + 1)).flatMap f = (l.take k).flatMap f ++ f l[k] := by
 rw [List.take_succ_eq_append_getElem h, List.flatMap_append]; simp
theorem flat_short {lns : List Ln} (hp : ∀ r, (parts lns r).length ≤ 2) (n : Nat) (l : List Int) : (l.flatMap (expand lns n)).length ≤ l.length * 2 ^ n := by
 induction l with
 | nil => simp
 | cons a q ih =>
  rw [List.flatMap_cons, List.length_append, List.length_cons, Nat.add_mul]
  have := expand_length hp n a
  omega
end Tm
namespace Tm
def isS (lns : List Ln) (q : List Int) : Bool := !(seqOf lns q).isNone
def lead (lns : List Ln) (l : List Int) : Nat := if 3 ≤ l.length ∧ isS lns (l.take 3) = true then 3 else if 2 ≤ l.length ∧ isS lns (l.take 2) = true then 2 else 1
def grow (lns : List Ln) : List Int → List Int → List Int → List Int × List Int
 | seq, pas, [] => (seq, pas)
 | seq, pas, c :: r => if classOf lns c = 0 then (seq, pas ++ c :: r) else if isS lns (seq ++ [c]) = true ∧ (∀ y ∈ pas, classOf lns y < classOf lns c) then grow lns (seq ++ [c]) pas r else grow lns seq (pas ++ [c]) r
def implicit (r : Int) : List El := [⟨64320 + r / 32768, 32, 2, false⟩, ⟨32768 + r % 32768, 0, 0, false⟩]
def weigh (lns : List Ln) (s : List Int) : List El := match seqOf lns s with
 | some e => e
 | none => implicit (s.getD 0 0)
def elems (lns : List Ln) : Nat → List Int → List El
 | 0, _ => []
 | n + 1, l => if l = [] then [] else weigh lns (grow lns (l.take (lead lns l)) [] (l.drop (lead lns l))).1 ++ elems lns n (grow lns (l.take (lead lns l)) [] (l.drop (lead lns l))).2
def elements (lns : List Ln) (l : List Int) : List El := elems lns l.length l
theorem lead_pos (lns : List Ln) (l : List Int) : 1 ≤ lead lns l := by
 unfold lead
 split
 ·omega
 ·split <;> omega
theorem lead_le {lns : List Ln} {l : List Int} (h : l ≠ []) : lead lns l ≤ l.length := by
 have h1 : 1 ≤ l.length := List.length_pos_iff.2 h
 unfold lead
 split
 ·rename_i h; exact h.1
 ·split
  ·rename_i h; exact h.1
  ·exact h1
theorem lead_three (lns : List Ln) (l : List Int) : lead lns l ≤ 3 := by
 unfold lead
 split
 ·omega
 ·split <;> omega
theorem grow_length (lns : List Ln) : ∀ (r s p : List Int), (grow lns s p r).1.length + (grow lns s p r).2.length = s.length + p.length + r.length
 | [], s, p => by simp [grow]
 | c :: r, s, p => by
  unfold grow
  split
  ·simp; omega
  ·split
   ·have := grow_length lns r (s ++ [c]) p; simp at this; simp; omega
   ·have := grow_length lns r s (p ++ [c]); simp at this; simp; omega
theorem grow_left (lns : List Ln) : ∀ (r s p : List Int), s.length ≤ (grow lns s p r).1.length
 | [], s, p => by simp [grow]
 | c :: r, s, p => by
  unfold grow
  split
  ·simp
  ·split
   ·have := grow_left lns r (s ++ [c]) p; simp at this; omega
   ·exact grow_left lns r s (p ++ [c])
theorem grow_mem (lns : List Ln) : ∀ (r s p : List Int) (x : Int), (x ∈ (grow lns s p r).1 → x ∈ s ∨ x ∈ r) ∧ (x ∈ (grow lns s p r).2 → x ∈ p ∨ x ∈ r)
 | [], s, p, x => ⟨fun h => .inl h, fun h => .inl h⟩
 | c :: r, s, p, x => by
  unfold grow
  split
  ·exact ⟨fun h => .inl h, fun h => List.mem_append.1 h⟩
  ·split
   ·obtain ⟨h1, h2⟩ := grow_mem lns r (s ++ [c]) p x
    refine ⟨fun h => ?_, fun h => ?_⟩
    ·rcases h1 h with h | h
     ·rcases List.mem_append.1 h with h | h
      ·exact .inl h
      ·exact .inr (by rw [List.mem_singleton.1 h]; exact List.mem_cons_self)
     ·exact .inr (List.mem_cons_of_mem _ h)
    ·rcases h2 h with h | h
     ·exact .inl h
     ·exact .inr (List.mem_cons_of_mem _ h)
   ·obtain ⟨h1, h2⟩ := grow_mem lns r s (p ++ [c]) x
    refine ⟨fun h => ?_, fun h => ?_⟩
    ·rcases h1 h with h | h
     ·exact .inl h
     ·exact .inr (List.mem_cons_of_mem _ h)
    ·rcases h2 h with h | h
     ·rcases List.mem_append.1 h with h | h
      ·exact .inl h
      ·exact .inr (by rw [List.mem_singleton.1 h]; exact List.mem_cons_self)
     ·exact .inr (List.mem_cons_of_mem _ h)
theorem elems_more (lns : List Ln) : ∀ (n m : Nat) (l : List Int), l.length ≤ n → l.length ≤ m → elems lns n l = elems lns m l
 | 0, m, l, h, _ => by
  have : l = [] := List.eq_nil_of_length_eq_zero (by omega)
  subst this
  cases m <;> simp [elems]
 | n + 1, 0, l, _, h => by
  have : l = [] := List.eq_nil_of_length_eq_zero (by omega)
  subst this
  simp [elems]
 | n + 1, m + 1, l, h, h' => by
  unfold elems
  by_cases e : l = []
  ·simp [e]
  ·rw [if_neg e, if_neg e]
   have h1 := grow_length lns (l.drop (lead lns l)) (l.take (lead lns l)) []
   have h2 := grow_left lns (l.drop (lead lns l)) (l.take (lead lns l)) []
   have h3 := lead_pos lns l
   have h4 := lead_le (lns := lns) e
   simp at h1 h2
   rw [elems_more lns n m _ (by omega) (by omega)]
theorem elements_step {lns : List Ln} {l : List Int} (h : l ≠ []) : elements lns l = weigh lns (grow lns (l.take (lead lns l)) [] (l.drop (lead lns l))).1 ++ elements lns (grow lns (l.take (lead lns l)) [] (l.drop (lead lns l))).2 := by
 have h1 := grow_length lns (l.drop (lead lns l)) (l.take (lead lns l)) []
 have h2 := grow_left lns (l.drop (lead lns l)) (l.take (lead lns l)) []
 have h3 := lead_pos lns l
 have h4 := lead_le (lns := lns) h
 simp at h1 h2
 unfold elements
 obtain ⟨n, hn⟩ : ∃ n, l.length = n + 1 := ⟨l.length - 1, by omega⟩
 rw [hn]
 conv => lhs; unfold elems
 rw [if_neg h, elems_more lns n _ _ (by omega) (Nat.le_refl _)]
theorem elements_nil (lns : List Ln) : elements lns [] = [] := rfl
theorem isS_long {lns : List Ln} (hf : ∀ o ∈ lns, Fit o) {q : List Int} (h : 3 < q.length) : isS lns q = false := by
 unfold isS seqOf
 cases hq : lns.find? (isSeq q) with
 | none => rfl
 | some o =>
  have h1 := (hf o (List.mem_of_find?_eq_some hq)).few
  have h2 := List.find?_some hq
  have h3 : o.runes = q := by simp [isSeq] at h2; exact h2.2
  rw [h3] at h1; omega
theorem grow_full {lns : List Ln} (hf : ∀ o ∈ lns, Fit o) : ∀ (r s p : List Int), 3 ≤ s.length → grow lns s p r = (s, p ++ r)
 | [], s, p, _ => by simp [grow]
 | c :: r, s, p, h => by
  unfold grow
  split
  ·rfl
  ·rw [if_neg (by rw [isS_long hf (by simp; omega)]; simp), grow_full hf r s (p ++ [c]) h]
   simp
def top (k : Int → Int) (p : List Int) : Int := match p.getLast? with
 | some x => k x
 | none => 0
theorem top_snoc (k : Int → Int) (p : List Int) (c : Int) : top k (p ++ [c]) = k c := by simp [top]
theorem calm_tail {k : Int → Int} {x : Int} {l : List Int} (h : Calm k (x :: l)) : Calm k l := by
 cases l with
 | nil => trivial
 | cons y r => exact h.2
theorem calm_append {k : Int → Int} : ∀ {a b : List Int}, Calm k (a ++ b) → Calm k a ∧ Calm k b
 | [], b, h => ⟨trivial, h⟩
 | [x], b, h => ⟨trivial, calm_tail h⟩
 | x :: y :: a, b, h => by
  have := calm_append (a := y :: a) (b := b) h.2
  exact ⟨⟨h.1, this.1⟩, this.2⟩
theorem calm_drop {k : Int → Int} {l : List Int} (h : Calm k l) (n : Nat) : Calm k (l.drop n) := by
 rw [← List.take_append_drop n l] at h
 exact (calm_append h).2
theorem calm_le {k : Int → Int} {c : Int} {r : List Int} (hc : k c ≠ 0) : ∀ {p : List Int}, Calm k (p ++ c :: r) → (∀ y ∈ p, k y ≠ 0) → ∀ y ∈ p, k y ≤ k c
 | [], _, _, y, hy => by cases hy
 | [x], h, _, y, hy => by
  simp at hy; subst hy
  have := h.1
  omega
 | x :: z :: p, h, hm, y, hy => by
  have ih := calm_le hc (p := z :: p) h.2 (fun y hy => hm y (List.mem_cons_of_mem _ hy))
  rcases List.mem_cons.1 hy with rfl | hy
  ·have h1 := ih z (by simp)
   have h2 := h.1
   have h3 := hm z (by simp)
   omega
  ·exact ih y hy
theorem free_top {k : Int → Int} (hk : ∀ x, 0 ≤ k x) {c : Int} {p r : List Int} (hc : k c ≠ 0) (h : Calm k (p ++ c :: r)) (hm : ∀ y ∈ p, k y ≠ 0) : (∀ y ∈ p, k y < k c) ↔ top k p < k c := by
 rcases List.eq_nil_or_concat p with rfl | ⟨q, x, rfl⟩
 ·simp [top]
  have := hk c; omega
 ·rw [List.concat_eq_append] at h hm ⊢
  rw [top_snoc]
  constructor
  ·intro h'; exact h' x (by simp)
  ·intro hx y hy
   rcases List.mem_append.1 hy with hy | hy
   ·have hq : Calm k (q ++ x :: c :: r) := by simpa using h
    have := calm_le (hm x (by simp)) hq (fun y hy => hm y (by simp [hy])) y hy
    omega
   ·simp at hy; subst hy; exact hx
theorem calm_out {k : Int → Int} {c : Int} {r : List Int} (hc : k c ≠ 0) : ∀ {p : List Int}, Calm k (p ++ c :: r) → Calm k (p ++ r)
 | [], h => calm_tail h
 | [x], h => by
  cases r with
  | nil => trivial
  | cons y r =>
   refine ⟨?_, h.2.2⟩
   have h1 := h.1
   have h2 := h.2.1
   omega
 | x :: z :: p, h => ⟨h.1, calm_out hc (p := z :: p) h.2⟩
theorem grow_calm {lns : List Ln} : ∀ (r s p : List Int), Calm (classOf lns) (p ++ r) → Calm (classOf lns) (grow lns s p r).2
 | [], s, p, h => by simpa [grow] using h
 | c :: r, s, p, h => by
  unfold grow
  split
  ·exact h
  ·rename_i hc
   split
   ·exact grow_calm r _ _ (calm_out hc h)
   ·exact grow_calm r _ _ (by simpa using h)
theorem ord_is_calm {k : Int → Int} (l : List Int) : Calm k (ord k l) := by
 induction l with
 | nil => trivial
 | cons x r ih =>
  rw [ord]
  generalize ord k r = m at *
  clear r
  induction m with
  | nil => trivial
  | cons y t ih2 =>
   unfold insr
   split
   ·rename_i h
    have h1 := ih2 (calm_tail ih)
    cases t with
    | nil => exact ⟨by omega, trivial⟩
    | cons z u =>
     have h2 := ih.1
     unfold insr at h1 ⊢
     split
     ·rename_i h3
      rw [if_pos h3] at h1
      exact ⟨h2, h1⟩
     ·rename_i h3
      rw [if_neg h3] at h1
      exact ⟨by omega, h1⟩
   ·rename_i h
    exact ⟨h, ih⟩
end Tm
namespace Tm
def nz (x : Int) : List Int := if x = 0 then [] else [x]
def plainW (e : El) : Nat → List Int
 | 0 => nz e.p
 | 1 => nz e.s
 | 2 => nz e.t
 | _ => []
def behind (bv : Bool) (e : El) : Bool := if e.p = 0 then bv else e.v
def empty (e : El) : Bool := e.p == 0 && e.s == 0 && e.t == 0
def shiftW (b : Bool) (e : El) : Nat → List Int
 | 0 => if b then [] else nz e.p
 | 1 => if b then [] else nz e.s
 | 2 => if b then [] else nz e.t
 | _ => if b then nz e.p else if empty e then [] else [65535]
def lev (sh : Bool) (k : Nat) : Bool → List El → List Int
 | _, [] => []
 | bv, e :: r => (if sh then shiftW (behind bv e) e k else plainW e k) ++ lev sh k (behind bv e) r
def level (sh : Bool) (els : List El) (k : Nat) : List Int := lev sh k false els
def lastB : Bool → List El → Bool
 | bv, [] => bv
 | bv, e :: r => lastB (behind bv e) r
theorem lastB_snoc (e : El) : ∀ (l : List El) (bv : Bool), lastB bv (l ++ [e]) = behind (lastB bv l) e
 | [], _ => rfl
 | _ :: r, _ => lastB_snoc e r _
theorem lev_snoc (sh : Bool) (k : Nat) (e : El) : ∀ (l : List El) (bv : Bool), lev sh k bv (l ++ [e]) = lev sh k bv l ++ (if sh then shiftW (behind (lastB bv l) e) e k else plainW e k)
 | [], bv => by simp [lev, lastB]
 | x :: r, bv => by simp only [List.cons_append, lev, lastB]; rw [lev_snoc sh k e r]; simp
theorem level_snoc (sh : Bool) (k : Nat) (e : El) (l : List El) : level sh (l ++ [e]) k = level sh l k ++ (if sh then shiftW (behind (lastB false l) e) e k else plainW e k) := lev_snoc sh k e l false
theorem nz_length (x : Int) : (nz x).length ≤ 1 := by unfold nz; split <;> simp
theorem plainW_length (e : El) (k : Nat) : (plainW e k).length ≤ 1 := by
 unfold plainW; split <;> first | exact nz_length _ | simp
theorem shiftW_length (b : Bool) (e : El) (k : Nat) : (shiftW b e k).length ≤ 1 := by
 unfold shiftW
 split <;> split <;> first | exact nz_length _ | exact Nat.zero_le _ | (split <;> simp)
theorem lev_length (sh : Bool) (k : Nat) : ∀ (l : List El) (bv : Bool), (lev sh k bv l).length ≤ l.length
 | [], _ => by simp [lev]
 | e :: r, bv => by
  have := lev_length sh k r (behind bv e)
  have h1 := shiftW_length (behind bv e) e k
  have h2 := plainW_length e k
  simp only [lev, List.length_append, List.length_cons]
  split <;> omega
def cmpL : List Int → List Int → Int
 | [], [] => 0
 | [], _ :: _ => -1
 | _ :: _, [] => 1
 | a :: r, b :: t => if a < b then -1 else if b < a then 1 else cmpL r t
def cmpLL : List (List Int) → List (List Int) → Int
 | [], [] => 0
 | [], _ :: _ => -1
 | _ :: _, [] => 1
 | a :: r, b :: t => if cmpL a b = 0 then cmpLL r t else cmpL a b
theorem cmpL_range : ∀ (a b : List Int), cmpL a b = -1 ∨ cmpL a b = 0 ∨ cmpL a b = 1
 | [], [] => by simp [cmpL]
 | [], _ :: _ => by simp [cmpL]
 | _ :: _, [] => by simp [cmpL]
 | a :: r, b :: t => by
  unfold cmpL
  split
  ·simp
  ·split
   ·simp
   ·exact cmpL_range r t
theorem cmpL_self : ∀ (a : List Int), cmpL a a = 0
 | [] => rfl
 | a :: r => by simp [cmpL, cmpL_self r]
theorem cmpL_zero : ∀ {a b : List Int}, cmpL a b = 0 → a = b
 | [], [], _ => rfl
 | [], _ :: _, h => by simp [cmpL] at h
 | _ :: _, [], h => by simp [cmpL] at h
 | a :: r, b :: t, h => by
  unfold cmpL at h
  split at h
  ·simp at h
  ·split at h
   ·simp at h
   ·rw [cmpL_zero h, show a = b by omega]
theorem cmpL_neg : ∀ (a b : List Int), cmpL b a = - cmpL a b
 | [], [] => rfl
 | [], _ :: _ => rfl
 | _ :: _, [] => rfl
 | a :: r, b :: t => by
  have ih := cmpL_neg r t
  simp only [cmpL]
  by_cases h1 : a < b
  ·rw [if_neg (by omega), if_pos h1, if_pos h1]; rfl
  ·by_cases h2 : b < a
   ·rw [if_pos h2, if_neg h1, if_pos h2]
   ·rw [if_neg h2, if_neg h1, if_neg h1, if_neg h2, ih]
theorem cmpL_trans : ∀ {a b c : List Int}, cmpL a b ≤ 0 → cmpL b c ≤ 0 → cmpL a c ≤ 0
 | [], _, [], _, _ => by simp [cmpL]
 | [], _, _ :: _, _, _ => by simp [cmpL]
 | _ :: _, [], _, h, _ => by simp [cmpL] at h
 | _ :: _, _ :: _, [], _, h => by simp [cmpL] at h
 | a :: r, b :: t, c :: u, h, k => by
  unfold cmpL at h k ⊢
  by_cases h1 : a < b
  ·by_cases k1 : b < c
   ·rw [if_pos (by omega)]; decide
   ·rw [if_neg k1] at k
    by_cases k2 : c < b
    ·rw [if_pos k2] at k; simp at k
    ·rw [if_pos (by omega)]; decide
  ·rw [if_neg h1] at h
   by_cases h2 : b < a
   ·rw [if_pos h2] at h; simp at h
   ·rw [if_neg h2] at h
    by_cases k1 : b < c
    ·rw [if_pos (by omega)]; decide
    ·rw [if_neg k1] at k
     by_cases k2 : c < b
     ·rw [if_pos k2] at k; simp at k
     ·rw [if_neg k2] at k
      rw [if_neg (by omega), if_neg (by omega)]
      exact cmpL_trans h k
theorem cmpLL_range : ∀ (a b : List (List Int)), cmpLL a b = -1 ∨ cmpLL a b = 0 ∨ cmpLL a b = 1
 | [], [] => by simp [cmpLL]
 | [], _ :: _ => by simp [cmpLL]
 | _ :: _, [] => by simp [cmpLL]
 | a :: r, b :: t => by
  unfold cmpLL
  split
  ·exact cmpLL_range r t
  ·exact cmpL_range a b
theorem cmpLL_zero : ∀ {a b : List (List Int)}, cmpLL a b = 0 → a = b
 | [], [], _ => rfl
 | [], _ :: _, h => by simp [cmpLL] at h
 | _ :: _, [], h => by simp [cmpLL] at h
 | a :: r, b :: t, h => by
  unfold cmpLL at h
  split at h
  ·rename_i h1; rw [cmpL_zero h1, cmpLL_zero h]
  ·rename_i h1; exact absurd h h1
theorem cmpLL_self : ∀ (a : List (List Int)), cmpLL a a = 0
 | [] => rfl
 | a :: r => by rw [cmpLL, if_pos (cmpL_self a)]; exact cmpLL_self r
theorem cmpLL_neg : ∀ (a b : List (List Int)), cmpLL b a = - cmpLL a b
 | [], [] => rfl
 | [], _ :: _ => rfl
 | _ :: _, [] => rfl
 | a :: r, b :: t => by
  have ih := cmpLL_neg r t
  have h := cmpL_neg a b
  simp only [cmpLL]
  by_cases h1 : cmpL a b = 0
  ·rw [if_pos (by omega), if_pos h1, ih]
  ·rw [if_neg (by omega), if_neg h1, h]
theorem cmpLL_trans : ∀ {a b c : List (List Int)}, cmpLL a b ≤ 0 → cmpLL b c ≤ 0 → cmpLL a c ≤ 0
 | [], _, [], _, _ => by simp [cmpLL]
 | [], _, _ :: _, _, _ => by simp [cmpLL]
 | _ :: _, [], _, h, _ => by simp [cmpLL] at h
 | _ :: _, _ :: _, [], _, h => by simp [cmpLL] at h
 | a :: r, b :: t, c :: u, h, k => by
  unfold cmpLL at h k ⊢
  by_cases h1 : cmpL a b = 0
  ·have e := cmpL_zero h1
   subst e
   rw [if_pos h1] at h
   by_cases k1 : cmpL a c = 0
   ·rw [if_pos k1] at k ⊢
    exact cmpLL_trans h k
   ·rw [if_neg k1] at k ⊢
    exact k
  ·rw [if_neg h1] at h
   by_cases k1 : cmpL b c = 0
   ·have e := cmpL_zero k1
    subst e
    rw [if_neg h1]
    exact h
   ·rw [if_neg k1] at k
    have h2 := cmpL_trans h k
    have h3 : cmpL a c ≠ 0 := fun e => by
     have e := cmpL_zero e
     subst e
     have := cmpL_neg a b
     omega
    rw [if_neg h3]
    exact h2
def num3 (x : Int) : List UInt8 := [UInt8.ofNat (x.toNat / 65536), UInt8.ofNat (x.toNat / 256), UInt8.ofNat x.toNat]
def keyL (l : List Int) : List UInt8 := l.flatMap num3 ++ num3 0
def keyLL (l : List (List Int)) : List UInt8 := l.flatMap keyL
def lessB : List UInt8 → List UInt8 → Bool
 | [], [] => false
 | [], _ :: _ => true
 | _ :: _, [] => false
 | a :: r, b :: t => if a < b then true else if b < a then false else lessB r t
def cmpB (a b : List UInt8) : Int := if lessB a b then -1 else if lessB b a then 1 else 0
theorem lessB_same (p a b : List UInt8) : lessB (p ++ a) (p ++ b) = lessB a b := by
 induction p with
 | nil => rfl
 | cons x r ih => simp only [List.cons_append, lessB]; rw [if_neg (by exact UInt8.lt_irrefl x), if_neg (by exact UInt8.lt_irrefl x), ih]
theorem lessB_self (a : List UInt8) : lessB a a = false := by
 have := lessB_same a [] []
 simpa [lessB] using this
theorem num3_less {x y : Int} (hx : 0 ≤ x ∧ x < 16777216) (hy : 0 ≤ y ∧ y < 16777216) (h : x < y) (a b : List UInt8) : lessB (num3 x ++ a) (num3 y ++ b) = true ∧ lessB (num3 y ++ b) (num3 x ++ a) = false := by
 obtain ⟨n, rfl⟩ : ∃ n : Nat, x = n := ⟨x.toNat, by omega⟩
 obtain ⟨m, rfl⟩ : ∃ m : Nat, y = m := ⟨y.toNat, by omega⟩
 have hn : n < 16777216 := by omega
 have hm : m < 16777216 := by omega
 have hl : n < m := by omega
 have q1 : ∀ k : Nat, k < 256 → (UInt8.ofNat k).toNat = k := fun k hk => by simp [UInt8.toNat_ofNat']; omega
 have q2 : ∀ k : Nat, (UInt8.ofNat k).toNat = k % 256 := fun k => by simp [UInt8.toNat_ofNat']
 simp only [num3, List.cons_append, List.nil_append, lessB, Int.toNat_natCast, UInt8.lt_iff_toNat_lt, q2]
 have e1 : n / 65536 % 256 = n / 65536 := Nat.mod_eq_of_lt (by omega)
 have e2 : m / 65536 % 256 = m / 65536 := Nat.mod_eq_of_lt (by omega)
 rw [e1, e2]
 by_cases h1 : n / 65536 < m / 65536
 ·simp [h1, Nat.not_lt.2 (Nat.le_of_lt h1)]
 ·have h1' : n / 65536 = m / 65536 := by omega
  rw [h1']
  simp only [Nat.lt_irrefl, if_false]
  by_cases h2 : n / 256 % 256 < m / 256 % 256
  ·simp [h2, Nat.not_lt.2 (Nat.le_of_lt h2)]
  ·have h2' : n / 256 % 256 = m / 256 % 256 := by omega
   rw [h2']
   simp only [Nat.lt_irrefl, if_false]
   have h3 : n % 256 < m % 256 := by omega
   simp [h3, Nat.not_lt.2 (Nat.le_of_lt h3)]
def Small (l : List Int) : Prop := ∀ x ∈ l, 0 ≤ x ∧ x < 16777216
def Weights (l : List Int) : Prop := ∀ x ∈ l, 0 < x ∧ x < 16777216
theorem Weights.small {l : List Int} (h : Weights l) : Small l := fun x hx => by have := h x hx; omega
theorem keyL_less : ∀ {l m : List Int}, Weights l → Weights m → cmpL l m = -1 → ∀ a b, lessB (keyL l ++ a) (keyL m ++ b) = true ∧ lessB (keyL m ++ b) (keyL l ++ a) = false
 | [], [], _, _, h, _, _ => by simp [cmpL] at h
 | [], y :: m, _, hm, _, a, b => by
  simp only [keyL, List.flatMap_nil, List.nil_append, List.flatMap_cons, List.append_assoc]
  exact num3_less ⟨by omega, by omega⟩ ⟨by have := hm y (by simp); omega, (hm y (by simp)).2⟩ (hm y (by simp)).1 _ _
 | _ :: _, [], _, _, h, _, _ => by simp [cmpL] at h
 | x :: l, y :: m, hl, hm, h, a, b => by
  have hx := hl x (by simp)
  have hy := hm y (by simp)
  simp only [keyL, List.flatMap_cons, List.append_assoc]
  unfold cmpL at h
  by_cases h1 : x < y
  ·exact num3_less ⟨by omega, hx.2⟩ ⟨by omega, hy.2⟩ h1 _ _
  ·rw [if_neg h1] at h
   by_cases h2 : y < x
   ·rw [if_pos h2] at h; simp at h
   ·rw [if_neg h2] at h
    rw [show x = y by omega, lessB_same, lessB_same]
    have := keyL_less (fun z hz => hl z (by simp [hz])) (fun z hz => hm z (by simp [hz])) h a b
    simpa [keyL] using this
theorem keyL_last : ∀ {l m : List Int}, Small l → Small m → cmpL l m = -1 → lessB (keyL l) (keyL m) = true ∧ lessB (keyL m) (keyL l) = false
 | [], [], _, _, h => by simp [cmpL] at h
 | [], y :: m, _, hm, _ => by
  have hy := hm y (by simp)
  by_cases h0 : y = 0
  ·subst h0
   simp only [keyL, List.flatMap_nil, List.nil_append, List.flatMap_cons, List.append_assoc]
   have e : num3 0 = num3 0 ++ [] := by simp
   constructor
   ·conv => lhs; lhs; rw [e]
    rw [lessB_same]
    cases hq : m.flatMap num3 ++ num3 0 with
    | nil => simp [num3] at hq
    | cons z r => rfl
   ·conv => lhs; rhs; rw [e]
    rw [lessB_same]
    cases hq : m.flatMap num3 ++ num3 0 with
    | nil => simp [num3] at hq
    | cons z r => rfl
  ·simp only [keyL, List.flatMap_nil, List.nil_append, List.flatMap_cons, List.append_assoc]
   have := num3_less (x := 0) ⟨by omega, by omega⟩ hy (by omega) [] (m.flatMap num3 ++ num3 0)
   simpa using this
 | _ :: _, [], _, _, h => by simp [cmpL] at h
 | x :: l, y :: m, hl, hm, h => by
  have hx := hl x (by simp)
  have hy := hm y (by simp)
  simp only [keyL, List.flatMap_cons, List.append_assoc]
  unfold cmpL at h
  by_cases h1 : x < y
  ·exact num3_less hx hy h1 _ _
  ·rw [if_neg h1] at h
   by_cases h2 : y < x
   ·rw [if_pos h2] at h; simp at h
   ·rw [if_neg h2] at h
    rw [show x = y by omega, lessB_same, lessB_same]
    have := keyL_last (fun z hz => hl z (by simp [hz])) (fun z hz => hm z (by simp [hz])) h
    simpa [keyL] using this
theorem keyLL_less : ∀ {a b : List (List Int)} {x y : List Int}, a.length = b.length → (∀ l ∈ a, Weights l) → (∀ l ∈ b, Weights l) → Small x → Small y → cmpLL (a ++ [x]) (b ++ [y]) = -1 → lessB (keyLL (a ++ [x])) (keyLL (b ++ [y])) = true ∧ lessB (keyLL (b ++ [y])) (keyLL (a ++ [x])) = false
 | [], [], x, y, _, _, _, hx, hy, h => by
  simp only [List.nil_append, cmpLL] at h
  split at h
  ·simp at h
  ·have := keyL_last hx hy h
   simpa [keyLL] using this
 | l :: a, m :: b, x, y, hab, ha, hb, hx, hy, h => by
  simp only [List.cons_append, cmpLL] at h
  simp only [List.cons_append, keyLL, List.flatMap_cons]
  split at h
  ·rename_i h0
   rw [cmpL_zero h0, lessB_same, lessB_same]
   exact keyLL_less (by simpa using hab) (fun q hq => ha q (by simp [hq])) (fun q hq => hb q (by simp [hq])) hx hy h
  ·exact keyL_less (ha l (by simp)) (hb m (by simp)) h _ _
 | [], _ :: _, _, _, h, _, _, _, _, _ => by simp at h
 | _ :: _, [], _, _, h, _, _, _, _, _ => by simp at h
theorem keyLL_cmp {a b : List (List Int)} {x y : List Int} (hab : a.length = b.length) (ha : ∀ l ∈ a, Weights l) (hb : ∀ l ∈ b, Weights l) (hx : Small x) (hy : Small y) : cmpB (keyLL (a ++ [x])) (keyLL (b ++ [y])) = cmpLL (a ++ [x]) (b ++ [y]) := by
 unfold cmpB
 rcases cmpLL_range (a ++ [x]) (b ++ [y]) with h | h | h
 ·have := keyLL_less hab ha hb hx hy h
  rw [this.1, h]; rfl
 ·have e := cmpLL_zero h
  rw [e, lessB_self, cmpLL_self]; rfl
 ·have h' := cmpLL_neg (a ++ [x]) (b ++ [y])
  have := keyLL_less hab.symm hb ha hy hx (by omega)
  rw [this.1, this.2, h]; rfl
end Tm
theorem decode_width (s : ByteArray) (pos : Nat) (h : pos < s.size) : 1 ≤ (Utf8.decode s pos).2 := by
 by_cases ha : (s[pos]'h).toNat < 128
 ·rw [decode_ascii s pos h ha]; exact Nat.le_refl _
 ·exact (decode_high s pos h (by omega)).2
theorem decode_most (s : ByteArray) (pos : Nat) : (Utf8.decode s pos).1 ≤ 1114111 := by
 have hb : ∀ k, (s.get! (pos + k)).toNat < 256 := fun k => (s.get! (pos + k)).toNat_lt
 have h0 := hb 0; have h1 := hb 1; have h2 := hb 2; have h3 := hb 3
 simp only [Utf8.decode]
 repeat' split
 all_goals simp_all [Utf8.runeError, Utf8.valid]
 all_goals omega
def runesFrom (s : ByteArray) : Nat → Nat → List Int
 | 0, _ => []
 | f + 1, pos => if pos < s.size then ((Utf8.decode s pos).1 : Int) :: runesFrom s f (pos + (Utf8.decode s pos).2) else []
def runesOf (s : ByteArray) : List Int := runesFrom s s.size 0
theorem runesFrom_end {s : ByteArray} {f pos : Nat} (h : s.size ≤ pos) : runesFrom s f pos = [] := by
 cases f with
 | zero => rfl
 | succ f => rw [runesFrom, if_neg (by omega)]
theorem runesFrom_fuel {s : ByteArray} : ∀ {f f' pos : Nat}, s.size ≤ pos + f → s.size ≤ pos + f' → runesFrom s f pos = runesFrom s f' pos
 | 0, f', pos, h, _ => by rw [runesFrom_end (by omega), runesFrom_end (by omega)]
 | f + 1, 0, pos, _, h' => by rw [runesFrom_end (by omega), runesFrom_end (by omega)]
 | f + 1, f' + 1, pos, h, h' => by
  rw [runesFrom, runesFrom]
  split
  ·rename_i hp
   have := decode_width s pos hp
   rw [runesFrom_fuel (f := f) (f' := f') (by omega) (by omega)]
  ·rfl
theorem runesFrom_step {s : ByteArray} {pos : Nat} (h : pos < s.size) : runesFrom s s.size pos = ((Utf8.decode s pos).1 : Int) :: runesFrom s s.size (pos + (Utf8.decode s pos).2) := by
 have e : runesFrom s s.size pos = runesFrom s (s.size + 1) pos := runesFrom_fuel (by omega) (by omega)
 rw [e, runesFrom, if_pos h]
theorem runesFrom_short {s : ByteArray} : ∀ {f pos : Nat}, (runesFrom s f pos).length ≤ s.size - pos
 | 0, pos => by simp [runesFrom]
 | f + 1, pos => by
  rw [runesFrom]
  split
  ·rename_i h
   have h1 := decode_width s pos h
   have h2 := runesFrom_short (s := s) (f := f) (pos := pos + (Utf8.decode s pos).2)
   rw [List.length_cons]; omega
  ·simp
theorem runesFrom_range {s : ByteArray} : ∀ {f pos : Nat}, ∀ x ∈ runesFrom s f pos, 0 ≤ x ∧ x ≤ 1114111
 | 0, pos, x, hx => by simp [runesFrom] at hx
 | f + 1, pos, x, hx => by
  rw [runesFrom] at hx
  split at hx
  ·rcases List.mem_cons.1 hx with rfl | hx
   ·have := decode_most s pos; omega
   ·exact runesFrom_range x hx
  ·cases hx
def normOf (lns : List Tm.Ln) (s : ByteArray) : List Int := Tm.ord (Tm.classOf lns) ((runesOf s).flatMap (Tm.expand lns 4))
namespace Tm
def Heavy (lns : List Ln) : Prop := ∀ o ∈ lns, ∀ e ∈ o.els, lightEl e = false
theorem readLines_heavy : ∀ (xs : List (List UInt8)) (lns l : List Ln) (n : Int), Heavy lns → readLines lns n xs = (l, none) → Heavy l
 | [], lns, l, n, h, e => by simp only [readLines, Prod.mk.injEq, and_true] at e; subst e; exact h
 | x :: r, lns, l, n, h, e => by
  unfold readLines at e
  split at e
  ·exact readLines_heavy r lns l (n + 1) h e
  ·split at e
   ·simp at e
   ·rename_i ln _
    split at e
    ·simp at e
    ·split at e
     ·simp at e
     ·rename_i h2
      refine readLines_heavy r (lns ++ [ln]) l (n + 1) (fun o ho => ?_) e
      rcases List.mem_append.1 ho with ho | ho
      ·exact h o ho
      ·rw [List.mem_singleton.1 ho]
       intro y hy
       cases hl : lightEl y
       ·rfl
       ·exact absurd (List.any_eq_true.2 ⟨y, hy, hl⟩) h2
theorem newTable_heavy {s : List UInt8} {st : Int} {lns : List Ln} (h : newTable s st = (lns, 0, 0)) : Heavy lns ∧ 1 ≤ st ∧ st ≤ 4 := by
 unfold newTable at h
 split at h
 ·simp at h
 ·rename_i hst
  split at h
  ·simp at h
  ·split at h
   ·rename_i l n e heq
    simp at h
    obtain ⟨rfl, rfl, rfl⟩ := h
    -- an error is never 0
    exfalso
    revert heq
    suffices ∀ (xs : List (List UInt8)) (lns l : List Ln) (n m q : Int), readLines lns n xs = (l, some (m, q)) → q ≠ 0 by
     intro heq; exact this _ _ _ _ _ _ heq rfl
    intro xs
    induction xs with
    | nil => intro lns l n m q e; simp [readLines] at e
    | cons x r ih =>
     intro lns l n m q e
     unfold readLines at e
     split at e
     ·exact ih _ _ _ _ _ e
     ·split at e
      ·simp at e; omega
      ·split at e
       ·simp at e; omega
       ·split at e
        ·simp at e; omega
        ·exact ih _ _ _ _ _ e
   ·rename_i l heq
    simp at h
    obtain ⟨rfl, _⟩ := h
    exact ⟨readLines_heavy _ _ _ _ (fun o ho => by cases ho) heq, by omega, by omega⟩
theorem weigh_var {lns : List Ln} (h : Heavy lns) (q : List Int) : ∀ x ∈ weigh lns q, x.v = true → x.p ≠ 0 := by
 intro x hx hv
 unfold weigh at hx
 split at hx
 ·rename_i e he
  unfold seqOf at he
  cases hq : lns.find? (isSeq q) with
  | none => rw [hq] at he; cases he
  | some o =>
   rw [hq] at he
   injection he with he
   subst he
   have := h o (List.mem_of_find?_eq_some hq) x hx
   intro h0
   simp [lightEl, hv, h0] at this
 ·simp [implicit] at hx
  rcases hx with rfl | rfl <;> cases hv
theorem elems_var {lns : List Ln} (h : Heavy lns) : ∀ (n : Nat) (l : List Int), ∀ x ∈ elems lns n l, x.v = true → x.p ≠ 0
 | 0, _, x, hx => by simp [elems] at hx
 | n + 1, l, x, hx => by
  unfold elems at hx
  split at hx
  ·cases hx
  ·rcases List.mem_append.1 hx with hx | hx
   ·exact weigh_var h _ x hx
   ·exact elems_var h n _ x hx
theorem elements_var {lns : List Ln} (h : Heavy lns) (l : List Int) : ∀ x ∈ elements lns l, x.v = true → x.p ≠ 0 := elems_var h _ l
theorem weigh_few' {lns : List Ln} (hf : ∀ o ∈ lns, Fit o) (q : List Int) : (weigh lns q).length ≤ 4 := by
 unfold weigh
 split
 ·rename_i e he
  unfold seqOf at he
  cases hq : lns.find? (isSeq q) with
  | none => rw [hq] at he; cases he
  | some o =>
   rw [hq] at he
   injection he with he
   subst he
   exact (hf o (List.mem_of_find?_eq_some hq)).els
 ·simp [implicit]
theorem elems_length {lns : List Ln} (hf : ∀ o ∈ lns, Fit o) : ∀ (n : Nat) (l : List Int), (elems lns n l).length ≤ 4 * n
 | 0, _ => by simp [elems]
 | n + 1, l => by
  unfold elems
  split
  ·simp
  ·have h1 := weigh_few' hf (grow lns (l.take (lead lns l)) [] (l.drop (lead lns l))).1
   have h2 := elems_length hf n (grow lns (l.take (lead lns l)) [] (l.drop (lead lns l))).2
   simp only [List.length_append]
   omega
theorem elements_length {lns : List Ln} (hf : ∀ o ∈ lns, Fit o) (l : List Int) : (elements lns l).length ≤ 4 * l.length := elems_length hf _ l
def InW (x : El) : Prop := (0 ≤ x.p ∧ x.p ≤ 65535) ∧ (0 ≤ x.s ∧ x.s ≤ 65535) ∧ (0 ≤ x.t ∧ x.t ≤ 65535)
theorem weigh_in {lns : List Ln} (hf : ∀ o ∈ lns, Fit o) {q : List Int} (hq : 0 ≤ q.getD 0 0 ∧ q.getD 0 0 ≤ 1114111) : ∀ x ∈ weigh lns q, InW x := by
 intro x hx
 unfold weigh at hx
 split at hx
 ·rename_i e he
  unfold seqOf at he
  cases hq : lns.find? (isSeq q) with
  | none => rw [hq] at he; cases he
  | some o =>
   rw [hq] at he
   injection he with he
   subst he
   exact (hf o (List.mem_of_find?_eq_some hq)).weight x hx
 ·simp only [implicit, List.mem_cons, List.not_mem_nil, or_false] at hx
  rcases hx with rfl | rfl
  ·refine ⟨⟨?_, ?_⟩, ⟨?_, ?_⟩, ⟨?_, ?_⟩⟩ <;> simp only <;> omega
  ·refine ⟨⟨?_, ?_⟩, ⟨?_, ?_⟩, ⟨?_, ?_⟩⟩ <;> simp only <;> omega
theorem elems_in {lns : List Ln} (hf : ∀ o ∈ lns, Fit o) : ∀ (n : Nat) (l : List Int), (∀ r ∈ l, 0 ≤ r ∧ r ≤ 1114111) → ∀ x ∈ elems lns n l, InW x
 | 0, _, _, x, hx => by simp [elems] at hx
 | n + 1, l, hl, x, hx => by
  unfold elems at hx
  split at hx
  ·cases hx
  ·have hm := grow_mem lns (l.drop (lead lns l)) (l.take (lead lns l)) []
   rcases List.mem_append.1 hx with hx | hx
   ·refine weigh_in hf ?_ x hx
    cases hg : (grow lns (l.take (lead lns l)) [] (l.drop (lead lns l))).1 with
    | nil => simp
    | cons y t =>
     have hy := (hm y).1 (by rw [hg]; simp)
     simp only [List.getD_cons_zero]
     rcases hy with hy | hy
     ·exact hl y (List.mem_of_mem_take hy)
     ·exact hl y (List.mem_of_mem_drop hy)
   ·refine elems_in hf n _ (fun r hr => ?_) x hx
    rcases (hm r).2 hr with h | h
    ·cases h
    ·exact hl r (List.mem_of_mem_drop h)
theorem elements_in {lns : List Ln} (hf : ∀ o ∈ lns, Fit o) {l : List Int} (hl : ∀ r ∈ l, 0 ≤ r ∧ r ≤ 1114111) : ∀ x ∈ elements lns l, InW x := elems_in hf _ l hl
theorem nz_weights {x : Int} (h : 0 ≤ x ∧ x ≤ 65535) : Weights (nz x) := by
 intro y hy
 unfold nz at hy
 split at hy
 ·cases hy
 ·simp at hy; subst hy; omega
theorem lev_weights (sh : Bool) (k : Nat) : ∀ (l : List El) (bv : Bool), (∀ x ∈ l, InW x) → Weights (lev sh k bv l)
 | [], _, _ => by intro y hy; cases hy
 | e :: r, bv, h => by
  intro y hy
  rw [lev] at hy
  rcases List.mem_append.1 hy with hy | hy
  ·have he := h e (by simp)
   have w1 := nz_weights he.1
   have w2 := nz_weights he.2.1
   have w3 := nz_weights he.2.2
   have w4 : Weights [65535] := by intro z hz; simp at hz; subst hz; omega
   have w0 : Weights [] := by intro z hz; cases hz
   split at hy
   ·unfold shiftW at hy
    split at hy <;> split at hy
    ·exact w0 y hy
    ·exact w1 y hy
    ·exact w0 y hy
    ·exact w2 y hy
    ·exact w0 y hy
    ·exact w3 y hy
    ·exact w1 y hy
    ·split at hy
     ·exact w0 y hy
     ·exact w4 y hy
   ·unfold plainW at hy
    split at hy
    ·exact w1 y hy
    ·exact w2 y hy
    ·exact w3 y hy
    ·exact w0 y hy
  ·exact lev_weights sh k r _ (fun x hx => h x (by simp [hx])) y hy
theorem insr_mem {k : Int → Int} {x y : Int} {l : List Int} (h : y ∈ insr k x l) : y = x ∨ y ∈ l := by
 induction l with
 | nil => simp [insr] at h; exact .inl h
 | cons z r ih =>
  unfold insr at h
  split at h
  ·rcases List.mem_cons.1 h with rfl | h
   ·exact .inr (by simp)
   ·rcases ih h with h | h
    ·exact .inl h
    ·exact .inr (by simp [h])
  ·exact List.mem_cons.1 h
theorem ord_mem {k : Int → Int} {y : Int} : ∀ {l : List Int}, y ∈ ord k l → y ∈ l
 | [], h => h
 | x :: r, h => by
  rw [ord] at h
  rcases insr_mem h with rfl | h
  ·simp
  ·exact List.mem_cons_of_mem _ (ord_mem h)
end Tm
def levels (lns : List Tm.Ln) (st : Int) (sh : Bool) (n : List Int) : List (List Int) := ([0, 1, 2, 3].map (Tm.level sh (Tm.elements lns n))).take st.toNat
def stands (lns : List Tm.Ln) (st : Int) (sh : Bool) (n : List Int) : List (List Int) := levels lns st sh n ++ [n]
theorem levels_length {lns : List Tm.Ln} {st : Int} {sh : Bool} {n : List Int} (h : 1 ≤ st ∧ st ≤ 4) : (levels lns st sh n).length = st.toNat := by
 unfold levels; rw [List.length_take]; simp; omega
theorem levels_weights {lns : List Tm.Ln} (hf : ∀ o ∈ lns, Tm.Fit o) {st : Int} {sh : Bool} {n : List Int} (hn : ∀ r ∈ n, 0 ≤ r ∧ r ≤ 1114111) : ∀ l ∈ levels lns st sh n, Tm.Weights l := by
 intro l hl
 have h := List.mem_of_mem_take hl
 obtain ⟨k, _, rfl⟩ := List.mem_map.1 h
 exact Tm.lev_weights sh k _ _ (Tm.elements_in hf hn)
theorem key_order {lns : List Tm.Ln} (hf : ∀ o ∈ lns, Tm.Fit o) {st : Int} {sh : Bool} (hst : 1 ≤ st ∧ st ≤ 4) {n m : List Int} (hn : ∀ r ∈ n, 0 ≤ r ∧ r ≤ 1114111) (hm : ∀ r ∈ m, 0 ≤ r ∧ r ≤ 1114111) :
  Tm.cmpB (Tm.keyLL (stands lns st sh n)) (Tm.keyLL (stands lns st sh m)) = Tm.cmpLL (stands lns st sh n) (stands lns st sh m) :=
 Tm.keyLL_cmp (by rw [levels_length hst, levels_length hst]) (levels_weights hf hn) (levels_weights hf hm) (fun x hx => by have := hn x hx; omega) (fun x hx => by have := hm x hx; omega)
theorem stands_eq {lns : List Tm.Ln} {st : Int} {sh : Bool} {n m : List Int} : stands lns st sh n = stands lns st sh m ↔ n = m := by
 constructor
 ·intro h
  have := congrArg List.getLast? h
  simpa [stands] using this
 ·intro h; rw [h]
namespace Tm
end Tm
open Go.RowKit
theorem hide {p : Prop} (h : p) : Hid p := h
theorem ret_int {k : IntKind} {a b : Int} (h : a = b) : Ending.returned (.int k a) = .returned (.int k b) := by rw [h]
theorem len_bytes (s : ByteArray) : s.data.toList.length = s.size := by simp
theorem head_of (s : ByteArray) (h : 0 < s.size) : s.data.toList.head? = some s[0] := by
 have := Tm.drop_cons s 0 h
 simp at this
 rw [this]; rfl
theorem extract_bytes (s : ByteArray) (m k : Nat) : (s.extract m k).data.toList = (s.data.toList.drop m).take (k - m) := by
 simp [ByteArray.data_extract, List.extract_eq_take_drop]
theorem bcell {W w1 : World} (hb : Below W.heap.size W w1) : (∀ b o, b < W.heap.size → w1.cell? ⟨b, o, none⟩ = W.cell? ⟨b, o, none⟩) ∧ (∀ b o, b < W.heap.size → w1.frozen? ⟨b, o, none⟩ = W.frozen? ⟨b, o, none⟩) :=
 ⟨fun b o h => hb.cell (p := ⟨b, o, none⟩) h, fun b o h => hb.frozen (p := ⟨b, o, none⟩) h⟩
def Reads (w : World) (v : Value) (size n : Nat) (xs : List Value) : Prop :=
 xs.length = n * size ∧ (∀ g, v.ownBlock = some g → g < w.heap.size) ∧
 ∃ a cap, v = .slice a n cap ∧ (n ≤ cap ∧ cap ≤ maxLen) ∧ ∀ j u, xs[j]? = some u → ∃ g off, a = some ⟨g, off, none⟩ ∧ w.cell? ⟨g, off + j, none⟩ = some u
theorem Reads.of_owns {w : World} {base : Nat} {e : TypeId} {size : Nat} {v : Value} {n : Nat} {xs : List Value} (h : w.ownsRow base e size v n xs) : Reads w v size n xs := by
 refine ⟨h.1, fun g hg => (h.lt g hg).2, ?_⟩
 have hc := @World.ownsRow.cells _ _ _ _ _ _ _ h
 rcases h.2 with ⟨rfl, rfl⟩ | ⟨g, cap, cur, rfl, _, _, hc1, hc2, _⟩
 ·have h0 := h.1
  simp at h0
  subst h0
  exact ⟨none, 0, rfl, ⟨Nat.le_refl _, Nat.zero_le _⟩, by simp⟩
 ·refine ⟨_, cap, rfl, ⟨hc1, hc2⟩, fun j u hu => ⟨g, 0, rfl, ?_⟩⟩
  have hx := hc (g := g) rfl j u hu
  have hadd : (⟨g, 0, none⟩ : Addr).add j = ⟨g, 0 + j, none⟩ := by unfold Addr.add; split <;> simp_all
  rw [hadd] at hx
  exact hx
theorem Reads.form {w : World} {v : Value} {size n : Nat} {xs : List Value} (h : Reads w v size n xs) (hn : 0 < xs.length) :
  ∃ g off cap, v = .slice (some ⟨g, off, none⟩) n cap ∧ g < w.heap.size ∧ ∀ j u, xs[j]? = some u → w.cell? ⟨g, off + j, none⟩ = some u := by
 obtain ⟨_, hlt, a, cap, rfl, _, hc⟩ := h
 obtain ⟨g, off, rfl, _⟩ := hc 0 xs[0] (by simp [hn])
 refine ⟨g, off, cap, rfl, hlt g rfl, fun j u hu => ?_⟩
 obtain ⟨g', off', he, hcell⟩ := hc j u hu
 cases he
 exact hcell
theorem Reads.shape {w : World} {v : Value} {size n : Nat} {xs : List Value} (h : Reads w v size n xs) : ∃ a cap, v = .slice a n cap := by
 obtain ⟨_, _, a, cap, rfl, _⟩ := h
 exact ⟨a, cap, rfl⟩
theorem Reads.fits {w : World} {a : Option Addr} {m cap : Nat} {size n : Nat} {xs : List Value} (h : Reads w (.slice a m cap) size n xs) : m = n ∧ n ≤ cap ∧ cap ≤ maxLen := by
 obtain ⟨_, _, a, cap, he, hc, _⟩ := h
 cases he
 exact ⟨rfl, hc⟩
theorem Reads.of_blocks {w w' : World} {v : Value} {size n : Nat} {xs : List Value} (h : Reads w v size n xs) (hs : w.heap.size ≤ w'.heap.size) (hb : ∀ g, v.ownBlock = some g → w'.heap[g]? = w.heap[g]?) : Reads w' v size n xs := by
 obtain ⟨h1, hlt, a, cap, rfl, hcap, hc⟩ := h
 refine ⟨h1, fun g hg => Nat.lt_of_lt_of_le (hlt g hg) hs, a, cap, rfl, hcap, fun j u hu => ?_⟩
 obtain ⟨g, off, rfl, hcell⟩ := hc j u hu
 refine ⟨g, off, rfl, ?_⟩
 rw [World.cell?_of_block (w := w) (hb g rfl)]
 exact hcell
theorem Reads.below {w w' : World} {v : Value} {size n : Nat} {xs : List Value} (h : Reads w v size n xs) {B : Nat} (hb : Below B w w') (hB : ∀ g, v.ownBlock = some g → g < B) : Reads w' v size n xs :=
 h.of_blocks hb.size (fun g hg => hb.block g (hB g hg))
theorem Reads.kept {w w' : World} {v : Value} {size n : Nat} {xs : List Value} (h : Reads w v size n xs) {row : Option Nat} (hg : w.grownBy w' row) (hne : v.ownBlock = none ∨ v.ownBlock ≠ row) : Reads w' v size n xs := by
 refine h.of_blocks hg.size (fun g hg' => hg.block g (h.2.1 g hg') ?_)
 rw [← hg']
 rcases hne with hne | hne
 ·rw [hg'] at hne; cases hne
 ·exact hne
theorem u8_eq_of {c : UInt8} {n : Nat} (h : ((c.toNat : Int) == (n : Int)) = true) (hn : n < 256) : c = UInt8.ofNat n := by
 have h1 : (c.toNat : Int) = n := by simpa using h
 apply UInt8.toNat_inj.1
 simp; omega
theorem u8_ne_of {c : UInt8} {n : Nat} (h : ((c.toNat : Int) == (n : Int)) = false) (hn : n < 256) : c ≠ UInt8.ofNat n := by
 rintro rfl
 simp at h; omega
theorem num_bad1 (s : ByteArray) (h0 : 0 < s.size) (h1 : 1 < (s.size : Int)) (h2 : ((s[0].toNat : Int) == 48) = true) : Tm.num s.data.toList = -1 := by
 refine Tm.num_bad (.inr (.inr ⟨by rw [len_bytes]; omega, ?_⟩))
 rw [head_of s h0, u8_eq_of (n := 48) h2 (by omega)]; rfl
theorem num_good1 (s : ByteArray) (h0 : 0 < s.size) (h1 : (s.size : Int) ≤ 6) (h2 : ((s[0].toNat : Int) == 48) = false ∨ (s.size : Int) ≤ 1) : Tm.num s.data.toList = Tm.digits s.data.toList 0 := by
 refine Tm.num_good ?_
 rintro (h | h | ⟨h, h'⟩)
 ·rw [len_bytes] at h; omega
 ·rw [len_bytes] at h; omega
 ·rcases h2 with h2 | h2
  ·rw [head_of s h0] at h'
   exact u8_ne_of (n := 48) h2 (by omega) (by simpa using h')
  ·rw [len_bytes] at h; omega
set_option maxRecDepth 100000 in
set_option maxHeartbeats 1000000 in
theorem number_any (s : ByteArray) (w : World) (hs : s.size ≤ maxLen) :
  Calls Tryz.prog 78 #[.string s] w fun e w' => e = .returned (.int .i64 (Tm.num s.data.toList)) ∧ w' = w := by
 unfold maxLen at hs
 by_cases h1 : (s.size : Int) < 1
 ·have HV := hide (Tm.num_bad (l := s.data.toList) (.inl (by rw [len_bytes]; omega)))
  go_enter Tryz.func78, Tryz.ntmps78
  go_wp2
  go_ret
  exact ⟨ret_int HV.out.symm, rfl⟩
 by_cases h6 : 6 < (s.size : Int)
 ·have HV := hide (Tm.num_bad (l := s.data.toList) (.inr (.inl (by rw [len_bytes]; omega))))
  go_enter Tryz.func78, Tryz.ntmps78
  go_wp2
  go_ret
  exact ⟨ret_int HV.out.symm, rfl⟩
 have h0 : 0 < s.size := by omega
 by_cases hb : 1 < (s.size : Int) ∧ ((s[0].toNat : Int) == 48) = true
 ·have HV := hide (num_bad1 s h0 hb.1 hb.2)
  obtain ⟨h2, h3⟩ := hb
  go_enter Tryz.func78, Tryz.ntmps78
  go_wp2
  go_ret
  exact ⟨ret_int HV.out.symm, rfl⟩
 have hb' : ((s[0].toNat : Int) == 48) = false ∨ (s.size : Int) ≤ 1 := by
  by_cases h : 1 < (s.size : Int)
  ·left; simpa [h] using hb
  ·right; omega
 have HV := hide (num_good1 s h0 (by omega) hb')
 clear hb
 have hx : (s.size : Int) ≤ 1 ∨ (1 < (s.size : Int) ∧ ((s[0].toNat : Int) == 48) = false) := by
  rcases hb' with h | h
  ·by_cases h' : (s.size : Int) ≤ 1
   ·exact .inl h'
   ·exact .inr ⟨by omega, h⟩
  ·exact .inl h
 clear hb'
 rcases hx with h3 | ⟨h3, h4⟩
 all_goals
  go_enter Tryz.func78, Tryz.ntmps78
  go_wp2
  go_loop [3, 4] (fun n i => ∃ k : Nat, k ≤ s.size ∧ i = .int .i64 k ∧ ∃ m : Int, 0 ≤ m ∧ m < 16 ^ k ∧ n = .int .i64 m ∧ Tm.digits (s.data.toList.drop k) m = Tm.digits s.data.toList 0) (fun _ i => s.size - (intOf i).toNat)
  case atStart => exact ⟨0, Nat.zero_le _, rfl, 0, by omega, by omega, rfl, rfl⟩
  case round =>
   obtain ⟨k, hk, rfl, m, hm0, hm1, rfl, hd⟩ := hrel
   by_cases hlt : k < s.size
   ·have hc := Tm.drop_cons s k hlt
    rw [hc] at hd
    clear hc
    have hb16 : m < 16777216 := by
     have := Tm.pow16 k (by omega)
     omega
    have hu : (s[k].toNat : Int) < 256 := by have := s[k].toNat_lt; omega
    by_cases hlo : 48 ≤ (s[k].toNat : Int) ∧ (s[k].toNat : Int) ≤ 57
    ·rw [Tm.digits_some (Tm.digit_low hlo)] at hd
     have HD := hide hd
     have HP := hide hm1
     obtain ⟨hl1, hl2⟩ := hlo
     clear hd hm1
     go_wp2
     go_round
     case rel => exact ⟨k + 1, by omega, by go_num, 16 * m + ((s[k].toNat : Int) - 48), by omega, by have := HP.out; rw [Int.pow_succ]; omega, by go_num, HD.out⟩
     case measure => simp [intOf]; omega
    by_cases hhi : 97 ≤ (s[k].toNat : Int) ∧ (s[k].toNat : Int) ≤ 102
    ·rw [Tm.digits_some (Tm.digit_high hhi)] at hd
     have HD := hide hd
     have HP := hide hm1
     obtain ⟨hl1, hl2⟩ := hhi
     clear hd hm1 hlo
     go_wp2
     go_round
     case rel => exact ⟨k + 1, by omega, by go_num, 16 * m + ((s[k].toNat : Int) - 87), by omega, by have := HP.out; rw [Int.pow_succ]; omega, by go_num, HD.out⟩
     case measure => simp [intOf]; omega
    ·rw [Tm.digits_none (Tm.digit_none hlo hhi)] at hd
     have HD := hide hd
     clear hd hm1
     go_wp2
     all_goals go_ret
     all_goals exact ⟨ret_int (by rw [HV.out, ← HD.out]), rfl⟩
   ·rw [Tm.drop_all s k (by omega)] at hd
    have HD := hide hd
    clear hd
    go_wp2
    go_ret
    exact ⟨ret_int (by rw [HV.out, ← HD.out]; rfl), rfl⟩
end Go.Proofs.YtmnjjjhmnhfapaaGreatDoor
