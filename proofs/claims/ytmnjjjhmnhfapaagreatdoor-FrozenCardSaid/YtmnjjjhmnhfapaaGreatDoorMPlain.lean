/-
  Plain functions on lists of bytes and numbers: what package tomeref's parts come to. Nothing of the program is named here.
-/
namespace Go.Proofs.YtmnjjjhmnhfapaaGreatDoor
namespace Tm

/-- The value of a hexadecimal digit. -/
def digit (c : UInt8) : Option Int :=
  if 48 ≤ c.toNat ∧ c.toNat ≤ 57 then some ((c.toNat : Int) - 48)
  else if 97 ≤ c.toNat ∧ c.toNat ≤ 102 then some ((c.toNat : Int) - 87)
  else none

/-- Digits read behind a number that was read already; -1: one is none. -/
def digits : List UInt8 → Int → Int
  | [], n => n
  | c :: r, n => match digit c with
    | some d => digits r (16 * n + d)
    | none => -1

/-- A number of hexadecimal digits; -1: it is none. -/
def num (l : List UInt8) : Int :=
  if l.length < 1 ∨ 6 < l.length ∨ (1 < l.length ∧ l.head? = some 48) then -1 else digits l 0

theorem num_bad {l : List UInt8} (h : l.length < 1 ∨ 6 < l.length ∨ (1 < l.length ∧ l.head? = some 48)) : num l = -1 := by
  unfold num; rw [if_pos h]
theorem num_good {l : List UInt8} (h : ¬ (l.length < 1 ∨ 6 < l.length ∨ (1 < l.length ∧ l.head? = some 48))) : num l = digits l 0 := by
  unfold num; rw [if_neg h]
theorem digit_low {c : UInt8} (h : 48 ≤ (c.toNat : Int) ∧ (c.toNat : Int) ≤ 57) : digit c = some ((c.toNat : Int) - 48) := by
  unfold digit; rw [if_pos (by omega)]
theorem digit_high {c : UInt8} (h : 97 ≤ (c.toNat : Int) ∧ (c.toNat : Int) ≤ 102) : digit c = some ((c.toNat : Int) - 87) := by
  unfold digit; rw [if_neg (by omega), if_pos (by omega)]
theorem digit_none {c : UInt8} (h : ¬ (48 ≤ (c.toNat : Int) ∧ (c.toNat : Int) ≤ 57)) (h' : ¬ (97 ≤ (c.toNat : Int) ∧ (c.toNat : Int) ≤ 102)) : digit c = none := by
  unfold digit; rw [if_neg (by omega), if_neg (by omega)]
theorem digits_some {c : UInt8} {r : List UInt8} {n d : Int} (h : digit c = some d) : digits (c :: r) n = digits r (16 * n + d) := by
  simp [digits, h]
theorem digits_none {c : UInt8} {r : List UInt8} {n : Int} (h : digit c = none) : digits (c :: r) n = -1 := by
  simp [digits, h]
theorem pow16 (k : Nat) (h : k ≤ 6) : (16 : Int) ^ k ≤ 16777216 := by
  have : ∀ k : Fin 7, (16 : Int) ^ k.val ≤ 16777216 := by decide
  exact this ⟨k, by omega⟩
theorem drop_cons (s : ByteArray) (k : Nat) (h : k < s.size) : s.data.toList.drop k = s[k] :: s.data.toList.drop (k + 1) := by
  rw [List.drop_eq_getElem_cons (by simpa using h)]; rfl
theorem drop_all (s : ByteArray) (k : Nat) (h : s.size ≤ k) : s.data.toList.drop k = [] :=
  List.drop_eq_nil_of_le (by simpa using h)

/-- The words of a text, parted at each sign. -/
def split (c : UInt8) : List UInt8 → List (List UInt8)
  | [] => [[]]
  | x :: r => if x = c then [] :: split c r else match split c r with
    | [] => [[x]]
    | h :: t => (x :: h) :: t

/-- Letters laid ahead of the first word. -/
def glue (p : List UInt8) : List (List UInt8) → List (List UInt8)
  | [] => [p]
  | h :: t => (p ++ h) :: t

theorem split_ne (c : UInt8) (l : List UInt8) : split c l ≠ [] := by
  cases l with
  | nil => simp [split]
  | cons x r =>
    unfold split
    split
    · simp
    · split <;> simp
theorem split_cons (c x : UInt8) (r : List UInt8) : split c (x :: r) = if x = c then [] :: split c r else match split c r with
    | [] => [[x]]
    | h :: t => (x :: h) :: t := rfl
theorem glue_hit (c : UInt8) (p r : List UInt8) : glue p (split c (c :: r)) = p :: split c r := by simp [split, glue]
theorem glue_miss (c x : UInt8) (p r : List UInt8) (h : x ≠ c) : glue p (split c (x :: r)) = glue (p ++ [x]) (split c r) := by
  have := split_ne c r
  rw [split_cons, if_neg h]
  cases hs : split c r with
  | nil => exact absurd hs this
  | cons a b => simp [glue]
theorem glue_nil (c : UInt8) (l : List UInt8) : glue [] (split c l) = split c l := by
  have := split_ne c l
  cases hs : split c l with
  | nil => exact absurd hs this
  | cons a b => simp [glue]
theorem glue_end (c : UInt8) (p : List UInt8) : glue p (split c []) = [p] := by simp [split, glue]

/-- Three weights; is the element variable? -/
structure El where
  p : Int
  s : Int
  t : Int
  v : Bool

/-- The three numbers of an element; is one none, or too great? -/
def elem3 (v : Bool) : List (List UInt8) → Option El
  | [a, b, c] => if (0 ≤ num a ∧ 0 ≤ num b ∧ 0 ≤ num c) ∧ num a ≤ 65535 ∧ num b ≤ 65535 ∧ num c ≤ 65535 then some ⟨num a, num b, num c, v⟩ else none
  | _ => none

/-- An element. -/
def elem : List UInt8 → Option El
  | [] => elem3 false (split 46 [])
  | x :: r => if x = 42 then elem3 true (split 46 r) else elem3 false (split 46 (x :: r))

theorem elem3_short {v : Bool} {l : List (List UInt8)} (h : l.length ≠ 3) : elem3 v l = none := by
  unfold elem3
  split
  · simp at h
  · rfl
theorem split_length (c : UInt8) (l : List UInt8) : ∀ x ∈ split c l, x.length ≤ l.length := by
  induction l with
  | nil => simp [split]
  | cons y r ih =>
    intro x hx
    rw [split_cons] at hx
    split at hx
    · rcases List.mem_cons.1 hx with rfl | h
      · simp
      · have := ih x h; simp; omega
    · cases hs : split c r with
      | nil => exact absurd hs (split_ne c r)
      | cons a b =>
        rw [hs] at hx ih
        rcases List.mem_cons.1 hx with rfl | h
        · have := ih a (by simp); simp; omega
        · have := ih x (by simp [h]); simp; omega

/-- Weights that cannot be. -/
def lightEl (x : El) : Bool := (x.p != 0 && x.s == 0) || (x.s != 0 && x.t == 0) || (x.v && x.p == 0) || decide (64256 ≤ x.p)

/-- A line that says something. -/
structure Ln where
  kind : List UInt8
  runes : List Int
  els : List El
  num : Int

/-- The runes ahead of the sign, and what stands behind it, if it is there. -/
def runesTo : List (List UInt8) → Option (List Int × Option (List (List UInt8)))
  | [] => some ([], none)
  | x :: r => if x = [61] then some ([], some r) else if num x < 0 ∨ 1114111 < num x then none else (runesTo r).map fun y => (num x :: y.1, y.2)

def elemsOf : List (List UInt8) → Option (List El)
  | [] => some []
  | x :: r => match elem x with
    | none => none
    | some e => (elemsOf r).map (e :: ·)

/-- Does a line of this kind have these runes and elements? -/
def fits (k : List UInt8) (rs : List Int) (n : Nat) (sign : Bool) : Bool :=
  if k = [99] then !sign && rs.length == 2 && decide (1 ≤ rs.getD 1 0) && decide (rs.getD 1 0 ≤ 254)
  else if k = [100] then !sign && (rs.length == 2 || rs.length == 3)
  else if k = [119] then sign && decide (1 ≤ rs.length) && decide (rs.length ≤ 3) && decide (1 ≤ n) && decide (n ≤ 4)
  else false

/-- The words of a line. -/
def parseWords (at_ : Int) : List (List UInt8) → Option Ln
  | [] => none
  | k :: r => match runesTo r with
    | none => none
    | some (rs, b) => match elemsOf (b.getD []) with
      | none => none
      | some es => if fits k rs es.length b.isSome then some ⟨k, rs, es, at_⟩ else none

/-- A line. -/
def parse (l : List UInt8) (at_ : Int) : Option Ln := parseWords at_ (split 32 l)

/-- k words have been read, these runes among them. -/
def RunesAt (ws : List (List UInt8)) (k : Nat) (rs : List Int) : Prop := runesTo ws.tail = (runesTo (ws.drop k)).map fun y => (rs ++ y.1, y.2)
theorem RunesAt_one (ws : List (List UInt8)) : RunesAt ws 1 [] := by
  unfold RunesAt
  rw [List.drop_one]
  cases runesTo ws.tail <;> simp
theorem RunesAt_step {ws : List (List UInt8)} {k : Nat} {rs : List Int} (h : RunesAt ws k rs) (hk : k < ws.length) (h1 : ws[k] ≠ [61]) (h2 : ¬ (num ws[k] < 0 ∨ 1114111 < num ws[k])) : RunesAt ws (k + 1) (rs ++ [num ws[k]]) := by
  unfold RunesAt at *
  rw [h, List.drop_eq_getElem_cons hk]
  conv => lhs; rw [runesTo]
  rw [if_neg h1, if_neg h2]
  cases runesTo (ws.drop (k + 1)) <;> simp
theorem RunesAt_bad {ws : List (List UInt8)} {k : Nat} {rs : List Int} (h : RunesAt ws k rs) (hk : k < ws.length) (h1 : ws[k] ≠ [61]) (h2 : num ws[k] < 0 ∨ 1114111 < num ws[k]) : runesTo ws.tail = none := by
  unfold RunesAt at h
  rw [h, List.drop_eq_getElem_cons hk]
  conv => lhs; rw [runesTo]
  rw [if_neg h1, if_pos h2]; rfl
theorem RunesAt_sign {ws : List (List UInt8)} {k : Nat} {rs : List Int} (h : RunesAt ws k rs) (hk : k < ws.length) (h1 : ws[k] = [61]) : runesTo ws.tail = some (rs, some (ws.drop (k + 1))) := by
  unfold RunesAt at h
  rw [h, List.drop_eq_getElem_cons hk]
  conv => lhs; rw [runesTo]
  rw [if_pos h1]; simp
theorem RunesAt_end {ws : List (List UInt8)} {k : Nat} {rs : List Int} (h : RunesAt ws k rs) (hk : ws.length ≤ k) : runesTo ws.tail = some (rs, none) := by
  unfold RunesAt at h
  rw [h, List.drop_eq_nil_of_le hk]
  simp [runesTo]

/-- Behind place i, k words have been looked at, these elements among them. -/
def ElemsAt (ws : List (List UInt8)) (i k : Nat) (es : List El) : Prop := elemsOf (ws.drop i) = (elemsOf (ws.drop k)).map (es ++ ·)
theorem ElemsAt_one (ws : List (List UInt8)) (i : Nat) : ElemsAt ws i i [] := by
  unfold ElemsAt
  cases elemsOf (ws.drop i) <;> simp
theorem ElemsAt_step {ws : List (List UInt8)} {i k : Nat} {es : List El} {e : El} (h : ElemsAt ws i k es) (hk : k < ws.length) (h1 : elem ws[k] = some e) : ElemsAt ws i (k + 1) (es ++ [e]) := by
  unfold ElemsAt at *
  rw [h, List.drop_eq_getElem_cons hk]
  conv => lhs; rw [elemsOf]
  rw [h1]
  cases elemsOf (ws.drop (k + 1)) <;> simp
theorem ElemsAt_bad {ws : List (List UInt8)} {i k : Nat} {es : List El} (h : ElemsAt ws i k es) (hk : k < ws.length) (h1 : elem ws[k] = none) : elemsOf (ws.drop i) = none := by
  unfold ElemsAt at h
  rw [h, List.drop_eq_getElem_cons hk]
  conv => lhs; rw [elemsOf]
  rw [h1]; rfl
theorem ElemsAt_end {ws : List (List UInt8)} {i k : Nat} {es : List El} (h : ElemsAt ws i k es) (hk : ws.length ≤ k) : elemsOf (ws.drop i) = some es := by
  unfold ElemsAt at h
  rw [h, List.drop_eq_nil_of_le hk]
  simp [elemsOf]

end Tm
end Go.Proofs.YtmnjjjhmnhfapaaGreatDoor
/-
  Plain facts on words of a line: more.
-/
namespace Go.Proofs.YtmnjjjhmnhfapaaGreatDoor
namespace Tm
theorem split_count (c : UInt8) (l : List UInt8) : (split c l).length ≤ l.length + 1 := by
  induction l with
  | nil => simp [split]
  | cons y r ih =>
    rw [split_cons]
    split
    · simp; omega
    · cases hs : split c r with
      | nil => simp
      | cons a b => rw [hs] at ih; simp at *; omega
theorem parseWords_norunes {n : Int} {ws : List (List UInt8)} (h : runesTo ws.tail = none) : parseWords n ws = none := by
  cases ws with
  | nil => rfl
  | cons k r => simp only [List.tail_cons] at h; simp [parseWords, h]
theorem parseWords_noelems {n : Int} {ws : List (List UInt8)} {rs : List Int} {b : Option (List (List UInt8))} (h : runesTo ws.tail = some (rs, b)) (he : elemsOf (b.getD []) = none) : parseWords n ws = none := by
  cases ws with
  | nil => rfl
  | cons k r => simp only [List.tail_cons] at h; simp [parseWords, h, he]
theorem parseWords_all {n : Int} {ws : List (List UInt8)} {k : List UInt8} {rs : List Int} {b : Option (List (List UInt8))} {es : List El} (hk : ws.head? = some k) (h : runesTo ws.tail = some (rs, b)) (he : elemsOf (b.getD []) = some es) :
    parseWords n ws = if fits k rs es.length b.isSome then some ⟨k, rs, es, n⟩ else none := by
  cases ws with
  | nil => simp at hk
  | cons k' r => simp at hk; subst hk; simp only [List.tail_cons] at h; simp [parseWords, h, he]
end Tm
end Go.Proofs.YtmnjjjhmnhfapaaGreatDoor
/-
  Plain functions on the lines of a table: what package tomeref asks of them.
-/
namespace Go.Proofs.YtmnjjjhmnhfapaaGreatDoor
namespace Tm

/-- Says a line what another one says? -/
def clash (l o : Ln) : Bool := decide (o.kind = l.kind) && ((decide (l.kind = [119]) && decide (o.runes = l.runes)) || (!decide (l.kind = [119]) && (o.runes.getD 0 0 == l.runes.getD 0 0)))
/-- Was it said already? -/
def twice (lns : List Ln) (l : Ln) : Bool := lns.any (clash l)

/-- Is it the line of a rune's parts? -/
def isParts (r : Int) (o : Ln) : Bool := decide (o.kind = [100]) && (o.runes.getD 0 0 == r)
/-- The parts of a rune. -/
def parts (lns : List Ln) (r : Int) : List Int := match lns.find? (isParts r) with
  | some o => o.runes.tail
  | none => []

def isSeq (l : List Int) (o : Ln) : Bool := decide (o.kind = [119]) && decide (o.runes = l)
/-- The elements of a sequence. -/
def seqOf (lns : List Ln) (l : List Int) : Option (List El) := (lns.find? (isSeq l)).map (·.els)

/-- A rune, or its parts. -/
def step1 (lns : List Ln) (r : Int) : List Int := if (parts lns r).length = 0 then [r] else parts lns r
/-- Runes, each replaced by its parts once. -/
def stepAll (lns : List Ln) (l : List Int) : List Int := l.flatMap (step1 lns)
/-- Has one of them parts? -/
def hasParts (lns : List Ln) (l : List Int) : Bool := l.any fun r => !decide ((parts lns r).length = 0)

/-- An element that is not variable, whose primary weight is not 0 and not above p. -/
def lowEl (p : Int) (x : El) : Bool := !x.v && x.p != 0 && decide (x.p ≤ p)
def belowP (lns : List Ln) (p : Int) : Bool := lns.any fun o => o.els.any (lowEl p)

/-- There are n steps, and one more, below these runes. -/
def deep (lns : List Ln) : Nat → List Int → Bool
  | 0, _ => true
  | n + 1, l => hasParts lns l && deep lns n (stepAll lns l)

def badLoop (lns : List Ln) (o : Ln) : Bool := decide (o.kind = [100]) && deep lns 5 [o.runes.getD 0 0]
def badPrefix (lns : List Ln) (o : Ln) : Bool := decide (o.kind = [119]) && (hasParts lns o.runes || (decide (o.runes.length = 3) && (seqOf lns (o.runes.take 2)).isNone))
def badWeight (lns : List Ln) (o : Ln) : Bool := o.els.any fun x => x.v && belowP lns x.p

/-- All lines together: the line's number and the error. -/
def together (lns : List Ln) : Int × Int := match lns.find? (badLoop lns) with
  | some o => (o.num, 3)
  | none => match lns.find? (badPrefix lns) with
    | some o => (o.num, 5)
    | none => match lns.find? (badWeight lns) with
      | some o => (o.num, 4)
      | none => (0, 0)

/-- The lines from the one of number n on: what they say; the first wrong one's number and error. -/
def readLines : List Ln → Int → List (List UInt8) → List Ln × Option (Int × Int)
  | lns, _, [] => (lns, none)
  | lns, n, x :: r => if x.head? = none ∨ x.head? = some 35 then readLines lns (n + 1) r else match parse x n with
    | none => (lns, some (n, 1))
    | some l => if twice lns l then (lns, some (n, 2)) else if l.els.any lightEl then (lns, some (n, 4)) else readLines (lns ++ [l]) (n + 1) r

/-- A table and a strength: the lines, the wrong line's number, the error. -/
def newTable (table : List UInt8) (strength : Int) : List Ln × Int × Int :=
  if strength < 1 ∨ 4 < strength then ([], 0, 6)
  else if 8192 < table.length then ([], 0, 7)
  else match readLines [] 1 (split 10 table) with
    | (lns, some (n, e)) => (lns, n, e)
    | (lns, none) => (lns, (together lns).1, (together lns).2)

end Tm
end Go.Proofs.YtmnjjjhmnhfapaaGreatDoor
/-
  Plain facts on reading a table line by line.
-/
namespace Go.Proofs.YtmnjjjhmnhfapaaGreatDoor
namespace Tm

/-- What each line that is one has. -/
structure Good (l : Ln) : Prop where
  some : l.runes ≠ []
  few : l.runes.length ≤ 3
  els : l.els.length ≤ 4

theorem parse_good {l : List UInt8} {n : Int} {ln : Ln} (h : parse l n = some ln) : Good ln := by
  unfold parse at h
  cases hw : split 32 l with
  | nil => exact absurd hw (split_ne 32 l)
  | cons k r =>
    rw [hw] at h
    simp only [parseWords] at h
    split at h
    · cases h
    · rename_i rs b _
      split at h
      · cases h
      · rename_i es he
        split at h
        · rename_i hf
          cases h
          unfold fits at hf
          have hes : b.isSome = false → es = [] := by
            intro hb
            cases b with
            | none => simp [elemsOf] at he; exact he
            | some _ => cases hb
          split at hf
          · simp at hf
            obtain ⟨⟨⟨h1, h2⟩, _⟩, _⟩ := hf
            have := hes (by simpa using h1)
            subst this
            refine ⟨?_, ?_, by simp⟩
            · intro hn
              simp only at hn
              rw [hn] at h2; simp at h2
            · simp only; omega
          · split at hf
            · simp at hf
              obtain ⟨h1, h2⟩ := hf
              have := hes (by simpa using h1)
              subst this
              refine ⟨?_, ?_, by simp⟩
              · intro hn
                simp only at hn
                rw [hn] at h2; simp at h2
              · simp only; omega
            · split at hf
              · simp at hf
                obtain ⟨⟨⟨⟨_, h1⟩, h2⟩, _⟩, h4⟩ := hf
                refine ⟨?_, h2, h4⟩
                intro hn
                simp only at hn
                rw [hn] at h1; simp at h1
              · cases hf
        · cases h

/-- k lines have been read, and say this. -/
def ReadAt (all : List (List UInt8)) (k : Nat) (lns : List Ln) : Prop := readLines [] 1 all = readLines lns ((k : Int) + 1) (all.drop k)
theorem ReadAt_zero (all : List (List UInt8)) : ReadAt all 0 [] := rfl

theorem readLines_skip {lns : List Ln} {n : Int} {x : List UInt8} {r : List (List UInt8)} (h : x.head? = none ∨ x.head? = some 35) : readLines lns n (x :: r) = readLines lns (n + 1) r := by
  rw [readLines, if_pos h]
theorem readLines_bad {lns : List Ln} {n : Int} {x : List UInt8} {r : List (List UInt8)} (h : ¬ (x.head? = none ∨ x.head? = some 35)) (hp : parse x n = none) : readLines lns n (x :: r) = (lns, some (n, 1)) := by
  rw [readLines, if_neg h, hp]
theorem readLines_twice {lns : List Ln} {n : Int} {x : List UInt8} {r : List (List UInt8)} {l : Ln} (h : ¬ (x.head? = none ∨ x.head? = some 35)) (hp : parse x n = some l) (ht : twice lns l = true) : readLines lns n (x :: r) = (lns, some (n, 2)) := by
  rw [readLines, if_neg h, hp]; simp [ht]
theorem readLines_light {lns : List Ln} {n : Int} {x : List UInt8} {r : List (List UInt8)} {l : Ln} (h : ¬ (x.head? = none ∨ x.head? = some 35)) (hp : parse x n = some l) (ht : twice lns l = false) (hg : l.els.any lightEl = true) : readLines lns n (x :: r) = (lns, some (n, 4)) := by
  rw [readLines, if_neg h, hp]; simp only [ht, hg]; simp
theorem readLines_ok {lns : List Ln} {n : Int} {x : List UInt8} {r : List (List UInt8)} {l : Ln} (h : ¬ (x.head? = none ∨ x.head? = some 35)) (hp : parse x n = some l) (ht : twice lns l = false) (hg : l.els.any lightEl = false) : readLines lns n (x :: r) = readLines (lns ++ [l]) (n + 1) r := by
  rw [readLines, if_neg h, hp]; simp only [ht, hg]; simp

theorem newTable_option {t : List UInt8} {s : Int} (h : s < 1 ∨ 4 < s) : newTable t s = ([], 0, 6) := by unfold newTable; rw [if_pos h]
theorem newTable_long {t : List UInt8} {s : Int} (h : ¬ (s < 1 ∨ 4 < s)) (h2 : 8192 < t.length) : newTable t s = ([], 0, 7) := by unfold newTable; rw [if_neg h, if_pos h2]
theorem newTable_wrong {t : List UInt8} {s : Int} {lns : List Ln} {n e : Int} (h : ¬ (s < 1 ∨ 4 < s)) (h2 : ¬ 8192 < t.length) (h3 : readLines [] 1 (split 10 t) = (lns, some (n, e))) : newTable t s = (lns, n, e) := by
  unfold newTable; rw [if_neg h, if_neg h2, h3]
theorem newTable_all {t : List UInt8} {s : Int} {lns : List Ln} (h : ¬ (s < 1 ∨ 4 < s)) (h2 : ¬ 8192 < t.length) (h3 : readLines [] 1 (split 10 t) = (lns, none)) : newTable t s = (lns, (together lns).1, (together lns).2) := by
  unfold newTable; rw [if_neg h, if_neg h2, h3]
end Tm
end Go.Proofs.YtmnjjjhmnhfapaaGreatDoor
/-
  Plain facts on the three kinds of lines: how the words of each are read, what each says of a rune, what is asked of all together.
-/
namespace Go.Proofs.YtmnjjjhmnhfapaaGreatDoor
namespace Tm

/-- A word that is a rune. -/
def runeOk (x : List UInt8) : Bool := decide (0 ≤ num x ∧ num x ≤ 1114111)
theorem runeOk_not {x : List UInt8} : runeOk x = false ↔ (num x < 0 ∨ 1114111 < num x) := by
  unfold runeOk; rw [decide_eq_false_iff_not]; omega
theorem runeOk_yes {x : List UInt8} : runeOk x = true ↔ ¬ (num x < 0 ∨ 1114111 < num x) := by
  unfold runeOk; rw [decide_eq_true_iff]; omega
theorem num_sign : num [61] = -1 := by decide
theorem runeOk_sign : runeOk [61] = false := by rw [runeOk_not, num_sign]; omega

theorem runesTo_plain (ws : List (List UInt8)) (h : [61] ∉ ws) : runesTo ws = if ws.all runeOk then some (ws.map num, none) else none := by
  induction ws with
  | nil => rfl
  | cons x r ih =>
    have h1 : x ≠ [61] := fun e => h (by simp [e])
    have h2 : [61] ∉ r := fun e => h (by simp [e])
    rw [runesTo, if_neg h1, ih h2]
    cases hx : runeOk x
    · rw [if_pos (runeOk_not.1 hx)]; simp [hx]
    · rw [if_neg (runeOk_yes.1 hx)]
      cases hr : r.all runeOk <;> simp [hx, hr]
theorem runesTo_sign (a b : List (List UInt8)) (h : [61] ∉ a) : runesTo (a ++ [61] :: b) = if a.all runeOk then some (a.map num, some b) else none := by
  induction a with
  | nil => simp [runesTo]
  | cons x r ih =>
    have h1 : x ≠ [61] := fun e => h (by simp [e])
    have h2 : [61] ∉ r := fun e => h (by simp [e])
    rw [List.cons_append, runesTo, if_neg h1, ih h2]
    cases hx : runeOk x
    · rw [if_pos (runeOk_not.1 hx)]; simp [hx]
    · rw [if_neg (runeOk_yes.1 hx)]
      cases hr : r.all runeOk <;> simp [hx, hr]

theorem at_sign {ws : List (List UInt8)} (h : [61] ∈ ws) : ∃ a b, ws = a ++ [61] :: b ∧ [61] ∉ a := by
  induction ws with
  | nil => cases h
  | cons x r ih =>
    by_cases hx : x = [61]
    · exact ⟨[], r, by simp [hx], by simp⟩
    · rcases List.mem_cons.1 h with e | e
      · exact absurd e.symm hx
      · obtain ⟨a, b, rfl, hb⟩ := ih e
        refine ⟨x :: a, b, rfl, ?_⟩
        intro hm
        rcases List.mem_cons.1 hm with e | e
        · exact hx e.symm
        · exact hb e

theorem fits_signed {k : List UInt8} {rs : List Int} {n : Nat} (hk : k ≠ [119]) : fits k rs n true = false := by
  unfold fits
  split
  · simp
  · split
    · simp
    · first | rfl | rw [if_neg hk]

/-- A line that is none of w. -/
theorem parse_nosign {n : Int} {k : List UInt8} {ws : List (List UInt8)} (hk : k ≠ [119]) :
    parseWords n (k :: ws) = if ws.all runeOk && fits k (ws.map num) 0 false then some ⟨k, ws.map num, [], n⟩ else none := by
  by_cases hs : [61] ∈ ws
  · have hall : ws.all runeOk = false := by
      rw [List.all_eq_false]; exact ⟨_, hs, by simp [runeOk_sign]⟩
    rw [hall]
    obtain ⟨a, b, rfl, hb⟩ := at_sign hs
    simp only [parseWords, runesTo_sign a b hb]
    by_cases ha : a.all runeOk = true
    · rw [if_pos ha]
      cases he : elemsOf b with
      | none => simp [he]
      | some es => simp [he, fits_signed hk]
    · rw [if_neg ha]; simp
  · simp only [parseWords, runesTo_plain ws hs]
    by_cases ha : ws.all runeOk = true
    · rw [if_pos ha]; simp [ha, elemsOf]
    · rw [if_neg ha]; simp [ha]

theorem elemsOf_length {b : List (List UInt8)} {es : List El} (h : elemsOf b = some es) : es.length = b.length := by
  induction b generalizing es with
  | nil => simp [elemsOf] at h; subst h; rfl
  | cons x r ih =>
    rw [elemsOf] at h
    cases hx : elem x with
    | none => rw [hx] at h; cases h
    | some e =>
      rw [hx] at h
      cases hr : elemsOf r with
      | none => rw [hr] at h; cases h
      | some q => rw [hr] at h; simp at h; subst h; simp [ih hr]

/-- A line w without its sign. -/
theorem parse_unsigned {n : Int} {ws : List (List UInt8)} (h : [61] ∉ ws) : parseWords n ([119] :: ws) = none := by
  simp only [parseWords, runesTo_plain ws h]
  by_cases ha : ws.all runeOk = true
  · rw [if_pos ha]; simp [elemsOf, fits]
  · rw [if_neg ha]
/-- A line w. -/
theorem parse_weigh {n : Int} {a b : List (List UInt8)} (h : [61] ∉ a) : parseWords n ([119] :: (a ++ [61] :: b)) =
    if a.all runeOk = true ∧ 1 ≤ a.length ∧ a.length ≤ 3 ∧ 1 ≤ b.length ∧ b.length ≤ 4 then (elemsOf b).map fun es => ⟨[119], a.map num, es, n⟩ else none := by
  simp only [parseWords, runesTo_sign a b h]
  by_cases ha : a.all runeOk = true
  · rw [if_pos ha]
    cases he : elemsOf b with
    | none => simp [he]
    | some es =>
      have hl := elemsOf_length he
      simp only [Option.getD_some, he, Option.map_some, ha, true_and]
      have : fits [119] (a.map num) es.length (Option.isSome (some b)) = decide (1 ≤ a.length ∧ a.length ≤ 3 ∧ 1 ≤ b.length ∧ b.length ≤ 4) := by
        simp [fits, hl, Bool.and_assoc]
      rw [this]
      by_cases hd : 1 ≤ a.length ∧ a.length ≤ 3 ∧ 1 ≤ b.length ∧ b.length ≤ 4
      · simp [hd]
      · rw [if_neg (by simpa using hd), if_neg hd]
  · rw [if_neg ha, if_neg (fun h => ha h.1)]

/-- What every line has that was read. -/
structure Fit (o : Ln) : Prop where
  kinds : (o.kind = [99] ∧ o.runes.length = 2 ∧ 1 ≤ o.runes.getD 1 0 ∧ o.els = []) ∨ (o.kind = [100] ∧ 2 ≤ o.runes.length ∧ o.els = []) ∨ (o.kind = [119] ∧ o.els ≠ [])
  some : o.runes ≠ []
  few : o.runes.length ≤ 3
  els : o.els.length ≤ 4
  rune : ∀ r ∈ o.runes, 0 ≤ r ∧ r ≤ 1114111
  weight : ∀ e ∈ o.els, (0 ≤ e.p ∧ e.p ≤ 65535) ∧ (0 ≤ e.s ∧ e.s ≤ 65535) ∧ (0 ≤ e.t ∧ e.t ≤ 65535)

theorem all_range {ws : List (List UInt8)} (h : ws.all runeOk = true) : ∀ r ∈ ws.map num, 0 ≤ r ∧ r ≤ 1114111 := by
  intro r hr
  obtain ⟨x, hx, rfl⟩ := List.mem_map.1 hr
  have := (List.all_eq_true.1 h) x hx
  simpa [runeOk] using this
theorem elem3_range {v : Bool} {l : List (List UInt8)} {e : El} (h : elem3 v l = some e) : (0 ≤ e.p ∧ e.p ≤ 65535) ∧ (0 ≤ e.s ∧ e.s ≤ 65535) ∧ (0 ≤ e.t ∧ e.t ≤ 65535) := by
  unfold elem3 at h
  split at h
  · split at h
    · cases h; simp only; omega
    · cases h
  · cases h
theorem elem_range {x : List UInt8} {e : El} (h : elem x = some e) : (0 ≤ e.p ∧ e.p ≤ 65535) ∧ (0 ≤ e.s ∧ e.s ≤ 65535) ∧ (0 ≤ e.t ∧ e.t ≤ 65535) := by
  unfold elem at h
  split at h
  · exact elem3_range h
  · split at h <;> exact elem3_range h
theorem elemsOf_range {b : List (List UInt8)} {es : List El} (h : elemsOf b = some es) : ∀ e ∈ es, (0 ≤ e.p ∧ e.p ≤ 65535) ∧ (0 ≤ e.s ∧ e.s ≤ 65535) ∧ (0 ≤ e.t ∧ e.t ≤ 65535) := by
  induction b generalizing es with
  | nil => simp [elemsOf] at h; subst h; simp
  | cons x r ih =>
    rw [elemsOf] at h
    cases hx : elem x with
    | none => rw [hx] at h; cases h
    | some e =>
      rw [hx] at h
      cases hr : elemsOf r with
      | none => rw [hr] at h; cases h
      | some q =>
        rw [hr] at h; simp at h; subst h
        intro y hy
        rcases List.mem_cons.1 hy with rfl | hy
        · exact elem_range hx
        · exact ih hr y hy

theorem fit_class {a b : List UInt8} {n : Int} (ha : runeOk a = true) (hb : runeOk b = true) (h1 : 1 ≤ num b) : Fit ⟨[99], [num a, num b], [], n⟩ :=
  ⟨.inl ⟨rfl, rfl, h1, rfl⟩, by simp, by simp, by simp, all_range (ws := [a, b]) (by simp [ha, hb]), by simp⟩
theorem fit_parts {ws : List (List UInt8)} {n : Int} (ha : ws.all runeOk = true) (h : ws.length = 2 ∨ ws.length = 3) : Fit ⟨[100], ws.map num, [], n⟩ :=
  ⟨.inr (.inl ⟨rfl, by simp; omega, rfl⟩), by intro e; simp at e; subst e; simp at h, by simp; omega, by simp, all_range ha, by simp⟩
theorem fit_weigh {a b : List (List UInt8)} {es : List El} {n : Int} (ha : a.all runeOk = true) (h1 : 1 ≤ a.length) (h2 : a.length ≤ 3) (h3 : 1 ≤ b.length) (h4 : b.length ≤ 4) (he : elemsOf b = some es) : Fit ⟨[119], a.map num, es, n⟩ := by
  have hl := elemsOf_length he
  refine ⟨.inr (.inr ⟨rfl, ?_⟩), ?_, by simpa using h2, by simp; omega, all_range ha, elemsOf_range he⟩
  · intro e; simp at e; subst e; simp at hl; omega
  · intro e; simp at e; subst e; simp at h1

theorem Fit.good {o : Ln} (h : Fit o) : Good o := ⟨h.some, h.few, h.els⟩

/-- Is it the line of a rune's class? -/
def isClass (r : Int) (o : Ln) : Bool := decide (o.kind = [99]) && (o.runes.getD 0 0 == r)
/-- The class of a rune. -/
def classOf (lns : List Ln) (r : Int) : Int := match lns.find? (isClass r) with
  | some o => o.runes.getD 1 0
  | none => 0
/-- Does a line w begin with this rune? -/
def isHead (r : Int) (o : Ln) : Bool := decide (o.kind = [119]) && (o.runes.getD 0 0 == r)
/-- The lines w that begin with a rune. -/
def seqsAt (lns : List Ln) (r : Int) : List Ln := lns.filter (isHead r)
def dLines (lns : List Ln) : List Ln := lns.filter fun o => decide (o.kind = [100])
def wLines (lns : List Ln) : List Ln := lns.filter fun o => decide (o.kind = [119])

theorem find_snoc {p : Ln → Bool} {lns : List Ln} {l : Ln} : (lns ++ [l]).find? p = match lns.find? p with
    | some o => some o
    | none => if p l then some l else none := by
  rw [List.find?_append]
  cases lns.find? p <;> simp [List.find?_cons] <;> cases p l <;> rfl

theorem classOf_snoc {lns : List Ln} {l : Ln} {r : Int} : classOf (lns ++ [l]) r = if (lns.find? (isClass r)).isNone ∧ isClass r l = true then l.runes.getD 1 0 else classOf lns r := by
  unfold classOf
  rw [find_snoc]
  cases lns.find? (isClass r) with
  | some o => simp
  | none => cases isClass r l <;> simp
theorem parts_snoc {lns : List Ln} {l : Ln} {r : Int} : parts (lns ++ [l]) r = if (lns.find? (isParts r)).isNone ∧ isParts r l = true then l.runes.tail else parts lns r := by
  unfold parts
  rw [find_snoc]
  cases lns.find? (isParts r) with
  | some o => simp
  | none => cases isParts r l <;> simp
theorem seqsAt_snoc {lns : List Ln} {l : Ln} {r : Int} : seqsAt (lns ++ [l]) r = if isHead r l then seqsAt lns r ++ [l] else seqsAt lns r := by
  unfold seqsAt
  rw [List.filter_append]
  cases h : isHead r l <;> simp [h]
theorem dLines_snoc {lns : List Ln} {l : Ln} : dLines (lns ++ [l]) = if l.kind = [100] then dLines lns ++ [l] else dLines lns := by
  unfold dLines
  rw [List.filter_append]
  by_cases h : l.kind = [100] <;> simp [h]
theorem wLines_snoc {lns : List Ln} {l : Ln} : wLines (lns ++ [l]) = if l.kind = [119] then wLines lns ++ [l] else wLines lns := by
  unfold wLines
  rw [List.filter_append]
  by_cases h : l.kind = [119] <;> simp [h]

/-- A line c was there already, just where the class is not 0. -/
theorem twice_class {lns : List Ln} (hf : ∀ o ∈ lns, Fit o) {l : Ln} (hk : l.kind = [99]) : twice lns l = (classOf lns (l.runes.getD 0 0) != 0) := by
  have e : twice lns l = lns.any (isClass (l.runes.getD 0 0)) := by
    unfold twice
    congr 1
    funext o
    simp [clash, isClass, hk]
  rw [e]
  unfold classOf
  cases h : lns.find? (isClass (l.runes.getD 0 0)) with
  | none =>
    have := List.find?_eq_none.1 h
    simp only [bne_self_eq_false]
    rw [List.any_eq_false]
    exact this
  | some o =>
    have hm := List.mem_of_find?_eq_some h
    have hp := List.find?_some h
    have h1 : 1 ≤ o.runes.getD 1 0 := by
      simp only [isClass, Bool.and_eq_true, decide_eq_true_eq] at hp
      rcases (hf o hm).kinds with ⟨_, _, h, _⟩ | ⟨h, _⟩ | ⟨h, _⟩
      · exact h
      · rw [hp.1] at h; simp at h
      · rw [hp.1] at h; simp at h
    have : lns.any (isClass (l.runes.getD 0 0)) = true := List.any_eq_true.2 ⟨o, hm, hp⟩
    rw [this]
    symm
    rw [bne_iff_ne]
    simp only
    omega
theorem class_none {lns : List Ln} (hf : ∀ o ∈ lns, Fit o) {r : Int} (h : classOf lns r = 0) : (lns.find? (isClass r)).isNone = true := by
  unfold classOf at h
  cases hx : lns.find? (isClass r) with
  | none => rfl
  | some o =>
    rw [hx] at h
    simp only at h
    have hm := List.mem_of_find?_eq_some hx
    have hp := List.find?_some hx
    simp only [isClass, Bool.and_eq_true, decide_eq_true_eq] at hp
    rcases (hf o hm).kinds with ⟨_, _, h', _⟩ | ⟨h', _⟩ | ⟨h', _⟩
    · omega
    · rw [hp.1] at h'; simp at h'
    · rw [hp.1] at h'; simp at h'

/-- A line d was there already, just where there are parts. -/
theorem parts_none {lns : List Ln} (hf : ∀ o ∈ lns, Fit o) {r : Int} (h : (parts lns r).length = 0) : (lns.find? (isParts r)).isNone = true := by
  unfold parts at h
  cases hx : lns.find? (isParts r) with
  | none => rfl
  | some o =>
    rw [hx] at h
    simp only [List.length_tail] at h
    have hm := List.mem_of_find?_eq_some hx
    have hp := List.find?_some hx
    simp only [isParts, Bool.and_eq_true, decide_eq_true_eq] at hp
    rcases (hf o hm).kinds with ⟨h', _⟩ | ⟨h', h2, _⟩ | ⟨h', _⟩
    · rw [hp.1] at h'; simp at h'
    · omega
    · rw [hp.1] at h'; simp at h'
theorem twice_parts {lns : List Ln} (hf : ∀ o ∈ lns, Fit o) {l : Ln} (hk : l.kind = [100]) : twice lns l = decide (0 < (parts lns (l.runes.getD 0 0)).length) := by
  have e : twice lns l = lns.any (isParts (l.runes.getD 0 0)) := by
    unfold twice
    congr 1
    funext o
    simp [clash, isParts, hk]
  rw [e]
  by_cases h0 : (parts lns (l.runes.getD 0 0)).length = 0
  · have := parts_none hf h0
    rw [Option.isNone_iff_eq_none, List.find?_eq_none] at this
    have e1 : lns.any (isParts (l.runes.getD 0 0)) = false := by rw [List.any_eq_false]; exact this
    rw [e1, h0]; rfl
  · have e2 : decide (0 < (parts lns (l.runes.getD 0 0)).length) = true := by rw [decide_eq_true_iff]; omega
    rw [e2]
    unfold parts at h0
    cases hx : lns.find? (isParts (l.runes.getD 0 0)) with
    | none => rw [hx] at h0; simp at h0
    | some o => exact List.any_eq_true.2 ⟨o, List.mem_of_find?_eq_some hx, List.find?_some hx⟩
/-- A sequence was there already, just where it is among those that begin with its first rune. -/
theorem twice_weigh {lns : List Ln} {l : Ln} (hk : l.kind = [119]) : twice lns l = (seqsAt lns (l.runes.getD 0 0)).any fun o => decide (o.runes = l.runes) := by
  unfold twice seqsAt
  rw [List.any_filter]
  congr 1
  funext o
  simp only [clash, isHead, hk]
  by_cases h1 : o.kind = [119]
  · by_cases h2 : o.runes = l.runes
    · simp [h1, h2]
    · simp [h1, h2]
  · simp [h1]

/-- Do the parts below a rune end within n steps? -/
def ends (lns : List Ln) : Nat → Int → Bool
  | 0, r => decide ((parts lns r).length = 0)
  | n + 1, r => decide ((parts lns r).length = 0) || (parts lns r).all (ends lns n)
theorem ends_leaf {lns : List Ln} {n : Nat} {r : Int} (h : (parts lns r).length = 0) : ends lns n r = true := by
  cases n <;> simp [ends, h]
theorem deep_ends (lns : List Ln) : ∀ (n : Nat) (l : List Int), deep lns (n + 1) l = l.any fun r => !ends lns n r
  | 0, l => by simp [deep, hasParts, ends]
  | n + 1, l => by
    rw [deep, deep_ends lns n]
    rw [Bool.eq_iff_iff]
    simp only [Bool.and_eq_true, List.any_eq_true, hasParts, stepAll, List.mem_flatMap]
    constructor
    · rintro ⟨_, r', ⟨r, hr, hr'⟩, he⟩
      refine ⟨r, hr, ?_⟩
      unfold step1 at hr'
      split at hr'
      · rename_i h0
        simp at hr'; subst hr'
        rw [ends_leaf h0] at he; cases he
      · rename_i h0
        rw [ends]
        simp [h0]
        exact ⟨r', hr', by simpa using he⟩
    · rintro ⟨r, hr, he⟩
      rw [ends] at he
      simp at he
      obtain ⟨h0, r', hr', he'⟩ := he
      have h0' : ¬ (parts lns r).length = 0 := by simpa using h0
      refine ⟨⟨r, hr, by simp [h0]⟩, r', ⟨r, hr, ?_⟩, by simpa using he'⟩
      unfold step1
      rw [if_neg h0']; exact hr'
theorem badLoop_ends (lns : List Ln) (o : Ln) : badLoop lns o = (decide (o.kind = [100]) && !ends lns 4 (o.runes.getD 0 0)) := by
  unfold badLoop
  rw [deep_ends lns 4]
  simp
end Tm
end Go.Proofs.YtmnjjjhmnhfapaaGreatDoor
/-
  Plain facts on the least primary weight of a table.
-/
namespace Go.Proofs.YtmnjjjhmnhfapaaGreatDoor
namespace Tm
/-- The least primary weight so far, of elements that are not variable and weigh something. -/
def leastEl (m : Int) (x : El) : Int := if !x.v && x.p != 0 then min m x.p else m
def leastEls (els : List El) (m : Int) : Int := els.foldl leastEl m
def leastLns (ls : List Ln) (m : Int) : Int := ls.foldl (fun m o => leastEls o.els m) m

theorem leastEl_le (m p : Int) (x : El) : leastEl m x ≤ p ↔ m ≤ p ∨ lowEl p x = true := by
  unfold leastEl lowEl
  cases x.v
  · cases h : (x.p != 0)
    · simp
    · simp; omega
  · simp
theorem leastEls_le (els : List El) (m p : Int) : leastEls els m ≤ p ↔ m ≤ p ∨ els.any (lowEl p) = true := by
  induction els generalizing m with
  | nil => simp [leastEls]
  | cons x r ih =>
    have : leastEls (x :: r) m = leastEls r (leastEl m x) := rfl
    rw [this, ih, leastEl_le, List.any_cons, Bool.or_eq_true, or_assoc]
theorem leastLns_le (ls : List Ln) (m p : Int) : leastLns ls m ≤ p ↔ m ≤ p ∨ belowP ls p = true := by
  induction ls generalizing m with
  | nil => simp [leastLns, belowP]
  | cons o r ih =>
    have : leastLns (o :: r) m = leastLns r (leastEls o.els m) := rfl
    rw [this, ih, leastEls_le]
    unfold belowP
    rw [List.any_cons, Bool.or_eq_true, or_assoc]

theorem leastEls_snoc {els : List El} {k : Nat} {m : Int} (h : k < els.length) : leastEls (els.take (k + 1)) m = leastEl (leastEls (els.take k) m) els[k] := by
  unfold leastEls
  rw [List.take_succ_eq_append_getElem h, List.foldl_append]; rfl
theorem leastLns_snoc {ls : List Ln} {k : Nat} {m : Int} (h : k < ls.length) : leastLns (ls.take (k + 1)) m = leastEls ls[k].els (leastLns (ls.take k) m) := by
  unfold leastLns
  rw [List.take_succ_eq_append_getElem h, List.foldl_append]; rfl

theorem els_of_w {o : Ln} (h : Fit o) (hk : o.kind ≠ [119]) : o.els = [] := by
  rcases h.kinds with ⟨_, _, _, h⟩ | ⟨_, _, h⟩ | ⟨h, _⟩
  · exact h
  · exact h
  · exact absurd h hk
theorem belowP_w {lns : List Ln} (hf : ∀ o ∈ lns, Fit o) (p : Int) : belowP (wLines lns) p = belowP lns p := by
  unfold belowP wLines
  rw [List.any_filter, Bool.eq_iff_iff]
  simp only [List.any_eq_true, Bool.and_eq_true, decide_eq_true_eq]
  constructor
  · rintro ⟨o, ho, _, x, hx⟩; exact ⟨o, ho, x, hx⟩
  · rintro ⟨o, ho, x, hx⟩
    refine ⟨o, ho, ?_, x, hx⟩
    apply Classical.byContradiction
    intro hk
    rw [els_of_w (hf o ho) hk] at hx
    cases hx.1
/-- The bound below which variable elements lie. -/
def bound (lns : List Ln) : Int := leastLns (wLines lns) 65536
theorem bound_le {lns : List Ln} (hf : ∀ o ∈ lns, Fit o) {p : Int} (hp : p ≤ 65535) : decide (bound lns ≤ p) = belowP lns p := by
  rw [Bool.eq_iff_iff, decide_eq_true_iff]
  unfold bound
  rw [leastLns_le, belowP_w hf]
  constructor
  · rintro (h | h)
    · omega
    · exact h
  · exact .inr
/-- An element that is variable and not below the bound. -/
def highEl (b : Int) (x : El) : Bool := x.v && decide (b ≤ x.p)
theorem find_same {l : List Ln} {p q : Ln → Bool} (h : ∀ o ∈ l, p o = q o) : l.find? p = l.find? q := by
  induction l with
  | nil => rfl
  | cons a r ih =>
    rw [List.find?_cons, List.find?_cons, h a (by simp), ih (fun o ho => h o (by simp [ho]))]
theorem high_find {lns : List Ln} (hf : ∀ o ∈ lns, Fit o) : (wLines lns).find? (fun o => o.els.any (highEl (bound lns))) = lns.find? (badWeight lns) := by
  unfold wLines
  rw [List.find?_filter]
  refine find_same fun o ho => ?_
  have e : o.els.any (highEl (bound lns)) = badWeight lns o := by
    unfold badWeight
    rw [Bool.eq_iff_iff]
    simp only [List.any_eq_true]
    constructor
    · rintro ⟨x, hx, h⟩
      refine ⟨x, hx, ?_⟩
      unfold highEl at h
      rw [bound_le hf ((hf o ho).weight x hx).1.2] at h; exact h
    · rintro ⟨x, hx, h⟩
      refine ⟨x, hx, ?_⟩
      unfold highEl
      rw [bound_le hf ((hf o ho).weight x hx).1.2]; exact h
  rw [e]
  by_cases hk : o.kind = [119]
  · simp [hk]
  · have : badWeight lns o = false := by unfold badWeight; rw [els_of_w (hf o ho) hk]; rfl
    simp [hk, this]
end Tm
end Go.Proofs.YtmnjjjhmnhfapaaGreatDoor
