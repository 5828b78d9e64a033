import Derived.Test.YtmnjjjhmnhfapaaDoorRows
import Derived.Test.YtmnjjjhmnhfapaaDoorTie
import Derived.Test.YtmnjjjhmnhfapaaDoorCards
import Derived.ProofKit
import Derived.OpenShut
import Derived.ShutString
import Derived.Lay
import Derived.SevenTiedAt
import Derived.Stop.Joined
import Derived.ReadAgain
import Derived.ChangeOld
import Derived.ChangeReads
import Derived.Deep.DeepHandedRow
import Derived.Deep.Strs
import Derived.Test.YtmnjjjhmnhfapaaDoorMLawFormsW
import Derived.Test.YtmnjjjhmnhfapaaDoorMRefRunes
/-
  What the cards share: arguments read again where only new memory was made; a witness for a row that lists variables; the bound of the second form.
-/
namespace Go.Proofs.YtmnjjjhmnhfapaaDoor
open Go.ChangeShapes Go.WideShapes Go.ChangeAt Go.RowKit
open Go.ChangeMaps (open_string shut_string)

theorem own : ownKnob Tryd.prog.godebug = none := by kernel_rfl
theorem prog_laid : laidOutB Tryd.prog = true := by kernel_rfl
theorem prog_maps : mapsRowed Tryd.prog = true := by kernel_rfl
theorem prog_slices : ((List.range Tryd.prog.types.size).all fun t => match Tryd.prog.underlying t with | some (.slice e) => decide (0 < Tryd.prog.cellsOf e) | _ => true) = true := by kernel_rfl

theorem trodAll_carry {H : Type} {enc : TypeId × Value → H} {P : Program} {w w' : World} {base : Nat} {spare : Nat → Bool} {held : Bool} : ∀ {ts : List TypeId} {vs : List Value} {ds : List (DataW H)} {ps : List MemPlace}, DataW.TrodAll enc P w base spare held ts vs ds ps → (∀ p ∈ ps, w.sameAt w' p) → DataW.TrodAll enc P w' base spare held ts vs ds ps
  | [], [], [], _, h, _ => h
  | _ :: _, _ :: _, _ :: _, _, ⟨p, q, ⟨n, h1⟩, h2, e⟩, hs => ⟨p, q, ⟨n, DataW.trod_carry n _ _ _ h1 (fun x hx => hs x (by rw [e]; exact List.mem_append_left _ hx))⟩, trodAll_carry h2 (fun x hx => hs x (by rw [e]; exact List.mem_append_right _ hx)), e⟩

set_option maxRecDepth 100000 in
/-- The arguments read again as they did. -/
theorem args_again {H : Type} {enc : TypeId × Value → H} {W W' : World} (hb : Below W.heap.size W W') {ts : List TypeId} {vs : List Value} {ds : List (DataW H)} {ps : List MemPlace} (ht : ∀ t ∈ ts, t < Tryd.prog.types.size) (h : DataW.TrodAll enc Tryd.prog W 0 (fun _ => true) true ts vs ds ps) :
    DataW.TrodAll enc Tryd.prog W' 0 (fun b => decide (b < W.heap.size)) true ts vs ds ps := by
  have hlt := DataW.TrodAll.lt h
  refine trodAll_carry (DataW.TrodAll.respare (kids_rows prog_laid prog_maps) (slices_full_of _ prog_slices) ht h (fun p hp => decide_eq_true (hlt p hp))) (fun p hp => ?_)
  have := hlt p hp
  cases p with
  | cell b off => exact hb.cell (p := ⟨b, off, none⟩) this
  | map b => exact hb.block b this

/-- 'There is an input that fits', at a row that lists variables. -/
theorem witness_row_shaped {H : Type} {enc : TypeId × Value → H} {C : Checked} {os : Os} {f : FuncId} {fn : Func} {s : OpenSpec} {conds : List PathCond} {apart : Bool} {laid : List (String × DataW Unit)} (modest : Bool) (w0 : World) (args : Array Value) (hos : w0.os = os)
    (hsh : (w0.forCall (fun _ _ => 0) ⟨#[], args, []⟩).Shaped C.prog)
    (hok : Input.okWideB C.prog (w0.forCall (fun _ _ => 0) ⟨#[], args, []⟩) f ⟨#[], args, []⟩ = true)
    (hrow : s.preRow enc C.prog fn conds apart laid (w0.forCall (fun _ _ => 0) ⟨#[], args, []⟩).memory args) :
    ∃ (w : World) (tape : Tape) (i : Input), w.os = os ∧ (w.forCall tape i).Shaped C.prog ∧ i.vars = [] ∧ Input.okWide C.prog (w.forCall tape i) .any w.heap.size f i ∧
      s.preRow enc C.prog fn conds apart laid (w.forCall tape i).memory i.args ∧ ({ modest := modest } : Assume).holds C.prog (lone (Frame.enter C.prog f i.args .normal) [] (w.forCall tape i)) :=
  ⟨w0, fun _ _ => 0, ⟨#[], args, []⟩, hos, hsh, (Input.okWide_of_okWideB (base := 0) hok).1, (Input.okWide_of_okWideB hok).2, hrow, by
    simp only [Assume.holds]
    exact ⟨by simp, by simp, fun _ => Modest.zero, by simp, by simp⟩⟩

/-- The bound: a part is at most the whole. -/
theorem bulk_pos {H : Type} (d : DataW H) : 1 ≤ Rows.uptoBulk d := by
  cases d with
  | lit l => cases l <;> simp [Rows.uptoBulk]
  | nil => simp [Rows.uptoBulk]
  | ptr d => simp [Rows.uptoBulk]
  | slice elems spare => simp [Rows.uptoBulk]
  | agg parts => simp [Rows.uptoBulk]
  | iface t d => simp [Rows.uptoBulk]
  | map entries => simp [Rows.uptoBulk]
  | held h => simp [Rows.uptoBulk]
theorem bulk_length {H : Type} (l : List (DataW H)) : l.length ≤ Rows.uptoBulkAll l := by
  induction l with
  | nil => simp [Rows.uptoBulkAll]
  | cons d r ih => simp only [Rows.uptoBulkAll, List.length_cons]; have := bulk_pos d; omega
theorem bulk_le {H : Type} {ds : List (DataW H)} (h : Rows.uptoSmall H ds = true) : Rows.uptoBulkAll ds ≤ 1048576 := of_decide_eq_true h

theorem spot_none {w : World} {a : Addr} {v : Value} (h : w.cell? a = some v) : a = ⟨a.block, a.off, none⟩ := by
  obtain ⟨b, o, s⟩ := a
  cases s with
  | none => rfl
  | some k =>
    unfold World.cell? at h
    split at h
    · simp at h
    · cases h
theorem cell_lt {w : World} {a : Addr} {v : Value} (h : w.cell? a = some v) : a.block < w.heap.size := by
  unfold World.cell? at h
  split at h
  · rename_i h1; exact (Array.getElem?_eq_some_iff.1 h1).1
  · cases h
set_option maxRecDepth 100000 in
/-- A slice of strings that came in reads as texts. -/
theorem open_texts {H : Type} {enc : TypeId × Value → H} {W : World} {base : Nat} {v : Value} {d : DataW H} {ps : List MemPlace} (hv : Value.okWide Tryd.prog W .any base 32 v) (h : DataW.Trod enc Tryd.prog W 0 (fun _ => true) true 32 v d ps) :
    ∃ texts : List ByteArray, TextsRd W v texts ∧ texts.length ≤ Rows.uptoBulk d := by
  obtain ⟨a, len, cap, rfl⟩ := okWide_slice Tryd.underlying32 hv
  obtain ⟨n, hn⟩ := h
  rcases Deep.open_strs Tryd.underlying32 Tryd.underlying9 (by kernel_rfl) hn with ⟨h1, h2⟩ | ⟨a, len, cap, m, Sx, h1, _, hl, hm, hmm, h2, hx⟩
  · simp [Value.cells] at h1
    obtain ⟨rfl, rfl, rfl⟩ := h1
    exact ⟨[], ⟨none, 0, rfl, fun h => by simp at h⟩, Nat.zero_le _⟩
  · simp [Value.cells] at h1
    obtain ⟨rfl, rfl, rfl⟩ := h1
    simp at hmm
    subst hmm
    refine ⟨(List.range len).map Sx, ⟨some a, m, by simp, fun hp => ?_⟩, ?_⟩
    · simp at hp
      have h0 := (hx 0 (by omega)).1
      rw [show a.add 0 = a from rfl] at h0
      have hs := spot_none h0
      have hlt := cell_lt h0
      rw [hs] at hx ⊢
      refine ⟨by simp [strs], fun g hg => by simp [Value.ownBlock] at hg; subst hg; exact hlt, _, m, by simp, ⟨by simpa using hl, hm⟩, fun j u hu => ⟨a.block, a.off, rfl, ?_⟩⟩
      have hj : j < len := by have := (List.getElem?_eq_some_iff.1 hu).1; simpa [strs] using this
      have hu' : u = .string (Sx j) := by
        rw [strs, List.getElem?_map, List.getElem?_map, List.getElem?_range hj] at hu
        simpa using hu.symm
      rw [hu', ← add_plain]
      exact (hx j (by omega)).1
    · injection h2 with h2 _
      subst h2
      simp only [Rows.uptoBulk]
      have := bulk_length ((List.range len).map fun i => (DataW.lit (Lit.string (Sx i).data.toList) : DataW H))
      simp at this ⊢
      omega
end Go.Proofs.YtmnjjjhmnhfapaaDoor
/- Forms is true for every table and every list of texts whose bulk together is at most 1048576: Normal answers the document's normal form, or ErrLong, by the table's collator and by the example's in turns, and every list that came out stays as its owner wrote it (P6, P2). -/
namespace Go.Proofs.YtmnjjjhmnhfapaaDoor
open Go.ChangeShapes Go.WideShapes Go.ChangeAt Go.RowKit
open Go.ChangeMaps (open_string shut_string)

set_option maxRecDepth 100000 in
theorem forms_lifted (os : Os) (started : os.Started) (H : Type) (enc : TypeId × Value → H) (F : Stop.Interp) :
    ReturnsInHanded {} Tryd.checked os 4 .any ((Rows.OpenSpec.upto Rows.formsSpec).preRow enc Tryd.prog Tryd.f4 Rows.formsUptoRow.domain false Rows.formsUptoRow.laid) (((Rows.OpenSpec.upto Rows.formsSpec).at F).post enc Tryd.prog Tryd.f4 false true false false) := by
  have hx : ∃ places, DataW.whole enc Tryd.prog ((World.laidAll Tryd.prog os Rows.formsUptoRow.laid).forCall (fun _ _ => 0) ⟨#[], #[.string ByteArray.empty, .slice none 0 0], []⟩).memory Tryd.f4.params.toList Rows.formsSpec.vars false #[Value.string ByteArray.empty, .slice none 0 0].toList 8 = some ([.lit (.string []), .nil], [], places) := ⟨[], by kernel_rfl⟩
  obtain ⟨places, hx⟩ := hx
  refine returnsInHanded_of_row (C := Tryd.checked) (s := Rows.OpenSpec.upto Rows.formsSpec) own started (by kernel_rfl) Tryd.func4
    (witness_row_shaped (enc := enc) (C := Tryd.checked) false (World.laidAll Tryd.prog os Rows.formsUptoRow.laid) #[.string ByteArray.empty, .slice none 0 0] (World.laidAll_os _ _ _)
      (World.shaped_of_ZipB (by kernel_rfl) (by kernel_rfl)) (by kernel_rfl)
      (OpenSpec.preRow_of_cond 8 hx (by kernel_rfl) (fun k hk => by cases hk; kernel_rfl) (by kernel_rfl)
        (by rw [MakeChecks.laidMetH_plain _ _ _ (by kernel_rfl)]; exact laidMet_laidAll _ (by kernel_rfl) (by kernel_rfl)))) ?_
  intro W base args ds gs before hval0 hW _ hcond _ _ _ _
  have hval : ∀ (j : Nat) t v, Tryd.f4.params[j]? = some t → args[j]? = some v → Value.okWide Tryd.prog W .any base t v := hval0
  have hW' := hW
  obtain ⟨p, q, hA0, hV, rfl, _, _⟩ := hW
  have hA : DataW.TrodAll enc Tryd.prog W 0 (fun _ => true) true Tryd.f4.params.toList args.toList ds p := hA0
  have hA' := hA
  rw [Tryd.params4] at hA hval hA'
  obtain ⟨v0, v1, d0, d1, p0, p1, rfl, rfl, rfl, h0, h1⟩ := trodAll_two hA
  obtain ⟨rfl, rfl⟩ := trodVars_none hV
  obtain ⟨a0, rfl, rfl, rfl, w0⟩ := open_string Tryd.underlying9 (hval 0 9 v0 rfl rfl) h0
  obtain ⟨texts, ht, hb⟩ := open_texts (hval 1 32 v1 rfl rfl) h1
  have hk := bulk_le (hcond _ rfl)
  simp only [List.append_nil] at hW' hk
  have hl : texts.length ≤ 10000000 := by
    simp only [Rows.uptoBulkAll] at hk
    omega
  refine (Forms_any a0 v1 texts W w0 ht hl).mono fun e W' ⟨he, hbl⟩ => ?_
  subst he
  exact ⟨_, rfl, _, _, _, [], _, [], hW', trodAll_mk1 (shut_bool Tryd.underlying4 _), args_again hbl (by rw [Tryd.params4]; decide +kernel) hA0, rfl, hbl.frame _, fun h => by cases h⟩

theorem forms_holds : Rows.FormsUptoSaid :=
  OpenClaim.holds_of_cond 4 Tryd.f4 rfl rfl rfl rfl rfl rfl rfl ⟨rfl, rfl, rfl, rfl, rfl⟩ rfl rfl rfl rfl rfl (by kernel_rfl) Tryd.func4 (by kernel_rfl)
    (of_decide_eq_true (by kernel_rfl)) (by unfold Func.isWrapper; first | (rw [if_pos (by decide +kernel)]; kernel_rfl) | (rw [if_neg (by decide +kernel)]; exact ⟨rfl, rfl⟩))
    (fun os started H enc _ F => by rw [OpenClaim.pre_eq_preRow]; exact forms_lifted os started H enc F)

theorem forms_upto_card_said : Rows.FormsUptoCardSaid := by
  unfold Rows.FormsUptoCardSaid Rows.formsUptoCard
  exact Claim7.holds_tied_plain_at .later [] _ _ _ _
    forms_holds (fun _ h => by cases h) (by kernel_rfl) (fun _ h => by cases h) formsUpto_row_tie rfl ⟨rfl, rfl⟩ (by kernel_rfl) rfl
    (fun f fn hf hfn => by
      obtain rfl : f = 4 := Option.some.inj ((show Tryd.prog.funcNamed Rows.formsUptoRow.func = some 4 by kernel_rfl).symm.trans hf) |>.symm
      obtain rfl : fn = Tryd.f4 := (Option.some.inj (Tryd.func4.symm.trans hfn)).symm
      exact ⟨by kernel_rfl, fun j t ht => by
        rw [Tryd.params4] at ht
        have hm : t ∈ [9, 32] := by simpa using Array.mem_of_getElem? ht
        have hall : ([9, 32].all fun u => !Tryd.prog.wantsStandIn u) = true := by kernel_rfl
        exact (show Tryd.prog.wantsStandIn t = false by simpa using List.all_eq_true.1 hall t hm)⟩)
    (by kernel_rfl)
#print axioms forms_upto_card_said
end Go.Proofs.YtmnjjjhmnhfapaaDoor
/-
  Plain facts on the elements of a normal form.
-/
namespace Go.Proofs.YtmnjjjhmnhfapaaDoor
namespace Tm

/-- Is it a sequence of the table? -/
def isS (lns : List Ln) (q : List Int) : Bool := !(seqOf lns q).isNone
/-- How many runes the sequence at the left end has; a rune that is none is taken alone. -/
def lead (lns : List Ln) (l : List Int) : Nat := if 3 ≤ l.length ∧ isS lns (l.take 3) = true then 3 else if 2 ≤ l.length ∧ isS lns (l.take 2) = true then 2 else 1
/-- A sequence that grows by free marks: it, and what is left. -/
def grow (lns : List Ln) : List Int → List Int → List Int → List Int × List Int
  | seq, pas, [] => (seq, pas)
  | seq, pas, c :: r => if classOf lns c = 0 then (seq, pas ++ c :: r) else if isS lns (seq ++ [c]) = true ∧ (∀ y ∈ pas, classOf lns y < classOf lns c) then grow lns (seq ++ [c]) pas r else grow lns seq (pas ++ [c]) r
/-- The elements of a rune that the table does not weigh. -/
def implicit (r : Int) : List El := [⟨64320 + r / 32768, 32, 2, false⟩, ⟨32768 + r % 32768, 0, 0, false⟩]
def weigh (lns : List Ln) (s : List Int) : List El := match seqOf lns s with
  | some e => e
  | none => implicit (s.getD 0 0)
/-- The elements, by at most n sequences. -/
def elems (lns : List Ln) : Nat → List Int → List El
  | 0, _ => []
  | n + 1, l => if l = [] then [] else weigh lns (grow lns (l.take (lead lns l)) [] (l.drop (lead lns l))).1 ++ elems lns n (grow lns (l.take (lead lns l)) [] (l.drop (lead lns l))).2
def elements (lns : List Ln) (l : List Int) : List El := elems lns l.length l

theorem lead_pos (lns : List Ln) (l : List Int) : 1 ≤ lead lns l := by
  unfold lead
  split
  · omega
  · split <;> omega
theorem lead_le {lns : List Ln} {l : List Int} (h : l ≠ []) : lead lns l ≤ l.length := by
  have h1 : 1 ≤ l.length := List.length_pos_iff.2 h
  unfold lead
  split
  · rename_i h; exact h.1
  · split
    · rename_i h; exact h.1
    · exact h1
theorem lead_three (lns : List Ln) (l : List Int) : lead lns l ≤ 3 := by
  unfold lead
  split
  · omega
  · split <;> omega

theorem grow_length (lns : List Ln) : ∀ (r s p : List Int), (grow lns s p r).1.length + (grow lns s p r).2.length = s.length + p.length + r.length
  | [], s, p => by simp [grow]
  | c :: r, s, p => by
    unfold grow
    split
    · simp; omega
    · split
      · have := grow_length lns r (s ++ [c]) p; simp at this; simp; omega
      · have := grow_length lns r s (p ++ [c]); simp at this; simp; omega
theorem grow_left (lns : List Ln) : ∀ (r s p : List Int), s.length ≤ (grow lns s p r).1.length
  | [], s, p => by simp [grow]
  | c :: r, s, p => by
    unfold grow
    split
    · simp
    · split
      · have := grow_left lns r (s ++ [c]) p; simp at this; omega
      · exact grow_left lns r s (p ++ [c])
/-- The first rune of a sequence that grows stays. -/
theorem grow_head (lns : List Ln) (x : Int) : ∀ (r s p : List Int), ∃ t, (grow lns (x :: s) p r).1 = x :: t
  | [], s, p => ⟨s, by simp [grow]⟩
  | c :: r, s, p => by
    unfold grow
    split
    · exact ⟨s, rfl⟩
    · split
      · exact grow_head lns x r (s ++ [c]) p
      · exact grow_head lns x r s (p ++ [c])
theorem grow_mem (lns : List Ln) : ∀ (r s p : List Int) (x : Int), (x ∈ (grow lns s p r).1 → x ∈ s ∨ x ∈ r) ∧ (x ∈ (grow lns s p r).2 → x ∈ p ∨ x ∈ r)
  | [], s, p, x => ⟨fun h => .inl h, fun h => .inl h⟩
  | c :: r, s, p, x => by
    unfold grow
    split
    · exact ⟨fun h => .inl h, fun h => List.mem_append.1 h⟩
    · split
      · obtain ⟨h1, h2⟩ := grow_mem lns r (s ++ [c]) p x
        refine ⟨fun h => ?_, fun h => ?_⟩
        · rcases h1 h with h | h
          · rcases List.mem_append.1 h with h | h
            · exact .inl h
            · exact .inr (by rw [List.mem_singleton.1 h]; exact List.mem_cons_self)
          · exact .inr (List.mem_cons_of_mem _ h)
        · rcases h2 h with h | h
          · exact .inl h
          · exact .inr (List.mem_cons_of_mem _ h)
      · obtain ⟨h1, h2⟩ := grow_mem lns r s (p ++ [c]) x
        refine ⟨fun h => ?_, fun h => ?_⟩
        · rcases h1 h with h | h
          · exact .inl h
          · exact .inr (List.mem_cons_of_mem _ h)
        · rcases h2 h with h | h
          · rcases List.mem_append.1 h with h | h
            · exact .inl h
            · exact .inr (by rw [List.mem_singleton.1 h]; exact List.mem_cons_self)
          · exact .inr (List.mem_cons_of_mem _ h)

/-- Enough sequences are enough. -/
theorem elems_more (lns : List Ln) : ∀ (n m : Nat) (l : List Int), l.length ≤ n → l.length ≤ m → elems lns n l = elems lns m l
  | 0, m, l, h, _ => by
    have : l = [] := List.eq_nil_of_length_eq_zero (by omega)
    subst this
    cases m <;> simp [elems]
  | n + 1, 0, l, _, h => by
    have : l = [] := List.eq_nil_of_length_eq_zero (by omega)
    subst this
    simp [elems]
  | n + 1, m + 1, l, h, h' => by
    unfold elems
    by_cases e : l = []
    · simp [e]
    · rw [if_neg e, if_neg e]
      have h1 := grow_length lns (l.drop (lead lns l)) (l.take (lead lns l)) []
      have h2 := grow_left lns (l.drop (lead lns l)) (l.take (lead lns l)) []
      have h3 := lead_pos lns l
      have h4 := lead_le (lns := lns) e
      simp at h1 h2
      rw [elems_more lns n m _ (by omega) (by omega)]
theorem elements_step {lns : List Ln} {l : List Int} (h : l ≠ []) : elements lns l = weigh lns (grow lns (l.take (lead lns l)) [] (l.drop (lead lns l))).1 ++ elements lns (grow lns (l.take (lead lns l)) [] (l.drop (lead lns l))).2 := by
  have h1 := grow_length lns (l.drop (lead lns l)) (l.take (lead lns l)) []
  have h2 := grow_left lns (l.drop (lead lns l)) (l.take (lead lns l)) []
  have h3 := lead_pos lns l
  have h4 := lead_le (lns := lns) h
  simp at h1 h2
  unfold elements
  obtain ⟨n, hn⟩ : ∃ n, l.length = n + 1 := ⟨l.length - 1, by omega⟩
  rw [hn]
  conv => lhs; unfold elems
  rw [if_neg h, elems_more lns n _ _ (by omega) (Nat.le_refl _)]
theorem elements_nil (lns : List Ln) : elements lns [] = [] := rfl

/-- A sequence of three runes does not grow, nor does a longer one. -/
theorem isS_long {lns : List Ln} (hf : ∀ o ∈ lns, Fit o) {q : List Int} (h : 3 < q.length) : isS lns q = false := by
  unfold isS seqOf
  cases hq : lns.find? (isSeq q) with
  | none => rfl
  | some o =>
    have h1 := (hf o (List.mem_of_find?_eq_some hq)).few
    have h2 := List.find?_some hq
    have h3 : o.runes = q := by simp [isSeq] at h2; exact h2.2
    rw [h3] at h1; omega
theorem grow_full {lns : List Ln} (hf : ∀ o ∈ lns, Fit o) : ∀ (r s p : List Int), 3 ≤ s.length → grow lns s p r = (s, p ++ r)
  | [], s, p, _ => by simp [grow]
  | c :: r, s, p, h => by
    unfold grow
    split
    · rfl
    · rw [if_neg (by rw [isS_long hf (by simp; omega)]; simp), grow_full hf r s (p ++ [c]) h]
      simp

/-- In a calm run the mark that was passed last has the greatest class. -/
def top (k : Int → Int) (p : List Int) : Int := match p.getLast? with
  | some x => k x
  | none => 0
theorem top_snoc (k : Int → Int) (p : List Int) (c : Int) : top k (p ++ [c]) = k c := by simp [top]
theorem top_nil (k : Int → Int) : top k [] = 0 := rfl
theorem calm_tail {k : Int → Int} {x : Int} {l : List Int} (h : Calm k (x :: l)) : Calm k l := by
  cases l with
  | nil => trivial
  | cons y r => exact h.2
theorem calm_append {k : Int → Int} : ∀ {a b : List Int}, Calm k (a ++ b) → Calm k a ∧ Calm k b
  | [], b, h => ⟨trivial, h⟩
  | [x], b, h => ⟨trivial, calm_tail h⟩
  | x :: y :: a, b, h => by
    have := calm_append (a := y :: a) (b := b) h.2
    exact ⟨⟨h.1, this.1⟩, this.2⟩
theorem calm_drop {k : Int → Int} {l : List Int} (h : Calm k l) (n : Nat) : Calm k (l.drop n) := by
  rw [← List.take_append_drop n l] at h
  exact (calm_append h).2
/-- Marks that stand calmly ahead of a mark: none has a greater class. -/
theorem calm_le {k : Int → Int} {c : Int} {r : List Int} (hc : k c ≠ 0) : ∀ {p : List Int}, Calm k (p ++ c :: r) → (∀ y ∈ p, k y ≠ 0) → ∀ y ∈ p, k y ≤ k c
  | [], _, _, y, hy => by cases hy
  | [x], h, _, y, hy => by
    simp at hy; subst hy
    have := h.1
    omega
  | x :: z :: p, h, hm, y, hy => by
    have ih := calm_le hc (p := z :: p) h.2 (fun y hy => hm y (List.mem_cons_of_mem _ hy))
    rcases List.mem_cons.1 hy with rfl | hy
    · have h1 := ih z (by simp)
      have h2 := h.1
      have h3 := hm z (by simp)
      omega
    · exact ih y hy
theorem free_top {k : Int → Int} (hk : ∀ x, 0 ≤ k x) {c : Int} {p r : List Int} (hc : k c ≠ 0) (h : Calm k (p ++ c :: r)) (hm : ∀ y ∈ p, k y ≠ 0) : (∀ y ∈ p, k y < k c) ↔ top k p < k c := by
  rcases List.eq_nil_or_concat p with rfl | ⟨q, x, rfl⟩
  · simp [top]
    have := hk c; omega
  · rw [List.concat_eq_append] at h hm ⊢
    rw [top_snoc]
    constructor
    · intro h'; exact h' x (by simp)
    · intro hx y hy
      rcases List.mem_append.1 hy with hy | hy
      · have hq : Calm k (q ++ x :: c :: r) := by simpa using h
        have := calm_le (hm x (by simp)) hq (fun y hy => hm y (by simp [hy])) y hy
        omega
      · simp at hy; subst hy; exact hx
/-- A mark may be taken out of a calm run. -/
theorem calm_out {k : Int → Int} {c : Int} {r : List Int} (hc : k c ≠ 0) : ∀ {p : List Int}, Calm k (p ++ c :: r) → Calm k (p ++ r)
  | [], h => calm_tail h
  | [x], h => by
    cases r with
    | nil => trivial
    | cons y r =>
      refine ⟨?_, h.2.2⟩
      have h1 := h.1
      have h2 := h.2.1
      omega
  | x :: z :: p, h => ⟨h.1, calm_out hc (p := z :: p) h.2⟩
theorem grow_calm {lns : List Ln} : ∀ (r s p : List Int), Calm (classOf lns) (p ++ r) → Calm (classOf lns) (grow lns s p r).2
  | [], s, p, h => by simpa [grow] using h
  | c :: r, s, p, h => by
    unfold grow
    split
    · exact h
    · rename_i hc
      split
      · exact grow_calm r _ _ (calm_out hc h)
      · exact grow_calm r _ _ (by simpa using h)
theorem ord_is_calm {k : Int → Int} (l : List Int) : Calm k (ord k l) := by
  induction l with
  | nil => trivial
  | cons x r ih =>
    rw [ord]
    generalize ord k r = m at *
    clear r
    induction m with
    | nil => trivial
    | cons y t ih2 =>
      unfold insr
      split
      · rename_i h
        have h1 := ih2 (calm_tail ih)
        cases t with
        | nil => exact ⟨by omega, trivial⟩
        | cons z u =>
          have h2 := ih.1
          unfold insr at h1 ⊢
          split
          · rename_i h3
            rw [if_pos h3] at h1
            exact ⟨h2, h1⟩
          · rename_i h3
            rw [if_neg h3] at h1
            exact ⟨by omega, h1⟩
      · rename_i h
        exact ⟨h, ih⟩
end Tm
end Go.Proofs.YtmnjjjhmnhfapaaDoor
/-
  Plain facts on levels, the order of texts, and keys.
-/
namespace Go.Proofs.YtmnjjjhmnhfapaaDoor
namespace Tm

/-- The number, unless it is 0. -/
def nz (x : Int) : List Int := if x = 0 then [] else [x]
/-- What an element gives to a level (0 to 3), not shifted. -/
def plainW (e : El) : Nat → List Int
  | 0 => nz e.p
  | 1 => nz e.s
  | 2 => nz e.t
  | _ => []
/-- Is what stands here behind a variable element? -/
def behind (bv : Bool) (e : El) : Bool := if e.p = 0 then bv else e.v
def empty (e : El) : Bool := e.p == 0 && e.s == 0 && e.t == 0
/-- What an element gives to a level (0 to 3), shifted; b: it is, or stands behind, a variable one. -/
def shiftW (b : Bool) (e : El) : Nat → List Int
  | 0 => if b then [] else nz e.p
  | 1 => if b then [] else nz e.s
  | 2 => if b then [] else nz e.t
  | _ => if b then nz e.p else if empty e then [] else [65535]
def lev (sh : Bool) (k : Nat) : Bool → List El → List Int
  | _, [] => []
  | bv, e :: r => (if sh then shiftW (behind bv e) e k else plainW e k) ++ lev sh k (behind bv e) r
/-- A level of elements (0 to 3). -/
def level (sh : Bool) (els : List El) (k : Nat) : List Int := lev sh k false els

def lastB : Bool → List El → Bool
  | bv, [] => bv
  | bv, e :: r => lastB (behind bv e) r
theorem lastB_snoc (e : El) : ∀ (l : List El) (bv : Bool), lastB bv (l ++ [e]) = behind (lastB bv l) e
  | [], _ => rfl
  | _ :: r, _ => lastB_snoc e r _
theorem lev_snoc (sh : Bool) (k : Nat) (e : El) : ∀ (l : List El) (bv : Bool), lev sh k bv (l ++ [e]) = lev sh k bv l ++ (if sh then shiftW (behind (lastB bv l) e) e k else plainW e k)
  | [], bv => by simp [lev, lastB]
  | x :: r, bv => by simp only [List.cons_append, lev, lastB]; rw [lev_snoc sh k e r]; simp
theorem level_snoc (sh : Bool) (k : Nat) (e : El) (l : List El) : level sh (l ++ [e]) k = level sh l k ++ (if sh then shiftW (behind (lastB false l) e) e k else plainW e k) := lev_snoc sh k e l false
theorem nz_length (x : Int) : (nz x).length ≤ 1 := by unfold nz; split <;> simp
theorem plainW_length (e : El) (k : Nat) : (plainW e k).length ≤ 1 := by
  unfold plainW; split <;> first | exact nz_length _ | simp
theorem shiftW_length (b : Bool) (e : El) (k : Nat) : (shiftW b e k).length ≤ 1 := by
  unfold shiftW
  split <;> split <;> first | exact nz_length _ | exact Nat.zero_le _ | (split <;> simp)
theorem lev_length (sh : Bool) (k : Nat) : ∀ (l : List El) (bv : Bool), (lev sh k bv l).length ≤ l.length
  | [], _ => by simp [lev]
  | e :: r, bv => by
    have := lev_length sh k r (behind bv e)
    have h1 := shiftW_length (behind bv e) e k
    have h2 := plainW_length e k
    simp only [lev, List.length_append, List.length_cons]
    split <;> omega

/-- The order of lists of numbers. -/
def cmpL : List Int → List Int → Int
  | [], [] => 0
  | [], _ :: _ => -1
  | _ :: _, [] => 1
  | a :: r, b :: t => if a < b then -1 else if b < a then 1 else cmpL r t
/-- The order of lists of lists. -/
def cmpLL : List (List Int) → List (List Int) → Int
  | [], [] => 0
  | [], _ :: _ => -1
  | _ :: _, [] => 1
  | a :: r, b :: t => if cmpL a b = 0 then cmpLL r t else cmpL a b
theorem cmpL_range : ∀ (a b : List Int), cmpL a b = -1 ∨ cmpL a b = 0 ∨ cmpL a b = 1
  | [], [] => by simp [cmpL]
  | [], _ :: _ => by simp [cmpL]
  | _ :: _, [] => by simp [cmpL]
  | a :: r, b :: t => by
    unfold cmpL
    split
    · simp
    · split
      · simp
      · exact cmpL_range r t
theorem cmpL_self : ∀ (a : List Int), cmpL a a = 0
  | [] => rfl
  | a :: r => by simp [cmpL, cmpL_self r]
theorem cmpL_zero : ∀ {a b : List Int}, cmpL a b = 0 → a = b
  | [], [], _ => rfl
  | [], _ :: _, h => by simp [cmpL] at h
  | _ :: _, [], h => by simp [cmpL] at h
  | a :: r, b :: t, h => by
    unfold cmpL at h
    split at h
    · simp at h
    · split at h
      · simp at h
      · rw [cmpL_zero h, show a = b by omega]
theorem cmpL_eq_zero (a b : List Int) : cmpL a b = 0 ↔ a = b := ⟨cmpL_zero, fun h => by rw [h]; exact cmpL_self b⟩
theorem cmpL_neg : ∀ (a b : List Int), cmpL b a = - cmpL a b
  | [], [] => rfl
  | [], _ :: _ => rfl
  | _ :: _, [] => rfl
  | a :: r, b :: t => by
    have ih := cmpL_neg r t
    simp only [cmpL]
    by_cases h1 : a < b
    · rw [if_neg (by omega), if_pos h1, if_pos h1]; rfl
    · by_cases h2 : b < a
      · rw [if_pos h2, if_neg h1, if_pos h2]
      · rw [if_neg h2, if_neg h1, if_neg h1, if_neg h2, ih]
/-- Less: transitive, with equals on either side. -/
theorem cmpL_trans : ∀ {a b c : List Int}, cmpL a b ≤ 0 → cmpL b c ≤ 0 → cmpL a c ≤ 0
  | [], _, [], _, _ => by simp [cmpL]
  | [], _, _ :: _, _, _ => by simp [cmpL]
  | _ :: _, [], _, h, _ => by simp [cmpL] at h
  | _ :: _, _ :: _, [], _, h => by simp [cmpL] at h
  | a :: r, b :: t, c :: u, h, k => by
    unfold cmpL at h k ⊢
    by_cases h1 : a < b
    · by_cases k1 : b < c
      · rw [if_pos (by omega)]; decide
      · rw [if_neg k1] at k
        by_cases k2 : c < b
        · rw [if_pos k2] at k; simp at k
        · rw [if_pos (by omega)]; decide
    · rw [if_neg h1] at h
      by_cases h2 : b < a
      · rw [if_pos h2] at h; simp at h
      · rw [if_neg h2] at h
        by_cases k1 : b < c
        · rw [if_pos (by omega)]; decide
        · rw [if_neg k1] at k
          by_cases k2 : c < b
          · rw [if_pos k2] at k; simp at k
          · rw [if_neg k2] at k
            rw [if_neg (by omega), if_neg (by omega)]
            exact cmpL_trans h k
theorem cmpLL_range : ∀ (a b : List (List Int)), cmpLL a b = -1 ∨ cmpLL a b = 0 ∨ cmpLL a b = 1
  | [], [] => by simp [cmpLL]
  | [], _ :: _ => by simp [cmpLL]
  | _ :: _, [] => by simp [cmpLL]
  | a :: r, b :: t => by
    unfold cmpLL
    split
    · exact cmpLL_range r t
    · exact cmpL_range a b
theorem cmpLL_zero : ∀ {a b : List (List Int)}, cmpLL a b = 0 → a = b
  | [], [], _ => rfl
  | [], _ :: _, h => by simp [cmpLL] at h
  | _ :: _, [], h => by simp [cmpLL] at h
  | a :: r, b :: t, h => by
    unfold cmpLL at h
    split at h
    · rename_i h1; rw [cmpL_zero h1, cmpLL_zero h]
    · rename_i h1; exact absurd h h1
theorem cmpLL_self : ∀ (a : List (List Int)), cmpLL a a = 0
  | [] => rfl
  | a :: r => by rw [cmpLL, if_pos (cmpL_self a)]; exact cmpLL_self r
theorem cmpLL_neg : ∀ (a b : List (List Int)), cmpLL b a = - cmpLL a b
  | [], [] => rfl
  | [], _ :: _ => rfl
  | _ :: _, [] => rfl
  | a :: r, b :: t => by
    have ih := cmpLL_neg r t
    have h := cmpL_neg a b
    simp only [cmpLL]
    by_cases h1 : cmpL a b = 0
    · rw [if_pos (by omega), if_pos h1, ih]
    · rw [if_neg (by omega), if_neg h1, h]
theorem cmpLL_trans : ∀ {a b c : List (List Int)}, cmpLL a b ≤ 0 → cmpLL b c ≤ 0 → cmpLL a c ≤ 0
  | [], _, [], _, _ => by simp [cmpLL]
  | [], _, _ :: _, _, _ => by simp [cmpLL]
  | _ :: _, [], _, h, _ => by simp [cmpLL] at h
  | _ :: _, _ :: _, [], _, h => by simp [cmpLL] at h
  | a :: r, b :: t, c :: u, h, k => by
    unfold cmpLL at h k ⊢
    by_cases h1 : cmpL a b = 0
    · have e := cmpL_zero h1
      subst e
      rw [if_pos h1] at h
      by_cases k1 : cmpL a c = 0
      · rw [if_pos k1] at k ⊢
        exact cmpLL_trans h k
      · rw [if_neg k1] at k ⊢
        exact k
    · rw [if_neg h1] at h
      by_cases k1 : cmpL b c = 0
      · have e := cmpL_zero k1
        subst e
        rw [if_neg h1]
        exact h
      · rw [if_neg k1] at k
        have h2 := cmpL_trans h k
        have h3 : cmpL a c ≠ 0 := fun e => by
          have e := cmpL_zero e
          subst e
          have := cmpL_neg a b
          omega
        rw [if_neg h3]
        exact h2

/-- The bytes of a number below 2^24, the greatest first. -/
def num3 (x : Int) : List UInt8 := [UInt8.ofNat (x.toNat / 65536), UInt8.ofNat (x.toNat / 256), UInt8.ofNat x.toNat]
def keyL (l : List Int) : List UInt8 := l.flatMap num3 ++ num3 0
def keyLL (l : List (List Int)) : List UInt8 := l.flatMap keyL

/-- The order of bytes. -/
def lessB : List UInt8 → List UInt8 → Bool
  | [], [] => false
  | [], _ :: _ => true
  | _ :: _, [] => false
  | a :: r, b :: t => if a < b then true else if b < a then false else lessB r t
def cmpB (a b : List UInt8) : Int := if lessB a b then -1 else if lessB b a then 1 else 0
theorem lessB_same (p a b : List UInt8) : lessB (p ++ a) (p ++ b) = lessB a b := by
  induction p with
  | nil => rfl
  | cons x r ih => simp only [List.cons_append, lessB]; rw [if_neg (by exact UInt8.lt_irrefl x), if_neg (by exact UInt8.lt_irrefl x), ih]
theorem lessB_self (a : List UInt8) : lessB a a = false := by
  have := lessB_same a [] []
  simpa [lessB] using this
theorem num3_less {x y : Int} (hx : 0 ≤ x ∧ x < 16777216) (hy : 0 ≤ y ∧ y < 16777216) (h : x < y) (a b : List UInt8) : lessB (num3 x ++ a) (num3 y ++ b) = true ∧ lessB (num3 y ++ b) (num3 x ++ a) = false := by
  obtain ⟨n, rfl⟩ : ∃ n : Nat, x = n := ⟨x.toNat, by omega⟩
  obtain ⟨m, rfl⟩ : ∃ m : Nat, y = m := ⟨y.toNat, by omega⟩
  have hn : n < 16777216 := by omega
  have hm : m < 16777216 := by omega
  have hl : n < m := by omega
  have q1 : ∀ k : Nat, k < 256 → (UInt8.ofNat k).toNat = k := fun k hk => by simp [UInt8.toNat_ofNat']; omega
  have q2 : ∀ k : Nat, (UInt8.ofNat k).toNat = k % 256 := fun k => by simp [UInt8.toNat_ofNat']
  simp only [num3, List.cons_append, List.nil_append, lessB, Int.toNat_natCast, UInt8.lt_iff_toNat_lt, q2]
  have e1 : n / 65536 % 256 = n / 65536 := Nat.mod_eq_of_lt (by omega)
  have e2 : m / 65536 % 256 = m / 65536 := Nat.mod_eq_of_lt (by omega)
  rw [e1, e2]
  by_cases h1 : n / 65536 < m / 65536
  · simp [h1, Nat.not_lt.2 (Nat.le_of_lt h1)]
  · have h1' : n / 65536 = m / 65536 := by omega
    rw [h1']
    simp only [Nat.lt_irrefl, if_false]
    by_cases h2 : n / 256 % 256 < m / 256 % 256
    · simp [h2, Nat.not_lt.2 (Nat.le_of_lt h2)]
    · have h2' : n / 256 % 256 = m / 256 % 256 := by omega
      rw [h2']
      simp only [Nat.lt_irrefl, if_false]
      have h3 : n % 256 < m % 256 := by omega
      simp [h3, Nat.not_lt.2 (Nat.le_of_lt h3)]
def Small (l : List Int) : Prop := ∀ x ∈ l, 0 ≤ x ∧ x < 16777216
def Weights (l : List Int) : Prop := ∀ x ∈ l, 0 < x ∧ x < 16777216
theorem Weights.small {l : List Int} (h : Weights l) : Small l := fun x hx => by have := h x hx; omega
/-- Keys of levels, with whatever behind them. -/
theorem keyL_less : ∀ {l m : List Int}, Weights l → Weights m → cmpL l m = -1 → ∀ a b, lessB (keyL l ++ a) (keyL m ++ b) = true ∧ lessB (keyL m ++ b) (keyL l ++ a) = false
  | [], [], _, _, h, _, _ => by simp [cmpL] at h
  | [], y :: m, _, hm, _, a, b => by
    simp only [keyL, List.flatMap_nil, List.nil_append, List.flatMap_cons, List.append_assoc]
    exact num3_less ⟨by omega, by omega⟩ ⟨by have := hm y (by simp); omega, (hm y (by simp)).2⟩ (hm y (by simp)).1 _ _
  | _ :: _, [], _, _, h, _, _ => by simp [cmpL] at h
  | x :: l, y :: m, hl, hm, h, a, b => by
    have hx := hl x (by simp)
    have hy := hm y (by simp)
    simp only [keyL, List.flatMap_cons, List.append_assoc]
    unfold cmpL at h
    by_cases h1 : x < y
    · exact num3_less ⟨by omega, hx.2⟩ ⟨by omega, hy.2⟩ h1 _ _
    · rw [if_neg h1] at h
      by_cases h2 : y < x
      · rw [if_pos h2] at h; simp at h
      · rw [if_neg h2] at h
        rw [show x = y by omega, lessB_same, lessB_same]
        have := keyL_less (fun z hz => hl z (by simp [hz])) (fun z hz => hm z (by simp [hz])) h a b
        simpa [keyL] using this
/-- Keys of the last list, with nothing behind them. -/
theorem keyL_last : ∀ {l m : List Int}, Small l → Small m → cmpL l m = -1 → lessB (keyL l) (keyL m) = true ∧ lessB (keyL m) (keyL l) = false
  | [], [], _, _, h => by simp [cmpL] at h
  | [], y :: m, _, hm, _ => by
    have hy := hm y (by simp)
    by_cases h0 : y = 0
    · subst h0
      simp only [keyL, List.flatMap_nil, List.nil_append, List.flatMap_cons, List.append_assoc]
      have e : num3 0 = num3 0 ++ [] := by simp
      constructor
      · conv => lhs; lhs; rw [e]
        rw [lessB_same]
        cases hq : m.flatMap num3 ++ num3 0 with
        | nil => simp [num3] at hq
        | cons z r => rfl
      · conv => lhs; rhs; rw [e]
        rw [lessB_same]
        cases hq : m.flatMap num3 ++ num3 0 with
        | nil => simp [num3] at hq
        | cons z r => rfl
    · simp only [keyL, List.flatMap_nil, List.nil_append, List.flatMap_cons, List.append_assoc]
      have := num3_less (x := 0) ⟨by omega, by omega⟩ hy (by omega) [] (m.flatMap num3 ++ num3 0)
      simpa using this
  | _ :: _, [], _, _, h => by simp [cmpL] at h
  | x :: l, y :: m, hl, hm, h => by
    have hx := hl x (by simp)
    have hy := hm y (by simp)
    simp only [keyL, List.flatMap_cons, List.append_assoc]
    unfold cmpL at h
    by_cases h1 : x < y
    · exact num3_less hx hy h1 _ _
    · rw [if_neg h1] at h
      by_cases h2 : y < x
      · rw [if_pos h2] at h; simp at h
      · rw [if_neg h2] at h
        rw [show x = y by omega, lessB_same, lessB_same]
        have := keyL_last (fun z hz => hl z (by simp [hz])) (fun z hz => hm z (by simp [hz])) h
        simpa [keyL] using this
theorem keyLL_less : ∀ {a b : List (List Int)} {x y : List Int}, a.length = b.length → (∀ l ∈ a, Weights l) → (∀ l ∈ b, Weights l) → Small x → Small y → cmpLL (a ++ [x]) (b ++ [y]) = -1 → lessB (keyLL (a ++ [x])) (keyLL (b ++ [y])) = true ∧ lessB (keyLL (b ++ [y])) (keyLL (a ++ [x])) = false
  | [], [], x, y, _, _, _, hx, hy, h => by
    simp only [List.nil_append, cmpLL] at h
    split at h
    · simp at h
    · have := keyL_last hx hy h
      simpa [keyLL] using this
  | l :: a, m :: b, x, y, hab, ha, hb, hx, hy, h => by
    simp only [List.cons_append, cmpLL] at h
    simp only [List.cons_append, keyLL, List.flatMap_cons]
    split at h
    · rename_i h0
      rw [cmpL_zero h0, lessB_same, lessB_same]
      exact keyLL_less (by simpa using hab) (fun q hq => ha q (by simp [hq])) (fun q hq => hb q (by simp [hq])) hx hy h
    · exact keyL_less (ha l (by simp)) (hb m (by simp)) h _ _
  | [], _ :: _, _, _, h, _, _, _, _, _ => by simp at h
  | _ :: _, [], _, _, h, _, _, _, _, _ => by simp at h
/-- Keys stand in the order of what they are made of. -/
theorem keyLL_cmp {a b : List (List Int)} {x y : List Int} (hab : a.length = b.length) (ha : ∀ l ∈ a, Weights l) (hb : ∀ l ∈ b, Weights l) (hx : Small x) (hy : Small y) : cmpB (keyLL (a ++ [x])) (keyLL (b ++ [y])) = cmpLL (a ++ [x]) (b ++ [y]) := by
  unfold cmpB
  rcases cmpLL_range (a ++ [x]) (b ++ [y]) with h | h | h
  · have := keyLL_less hab ha hb hx hy h
    rw [this.1, h]; rfl
  · have e := cmpLL_zero h
    rw [e, lessB_self, cmpLL_self]; rfl
  · have h' := cmpLL_neg (a ++ [x]) (b ++ [y])
    have := keyLL_less hab.symm hb ha hy hx (by omega)
    rw [this.1, this.2, h]; rfl
end Tm
end Go.Proofs.YtmnjjjhmnhfapaaDoor
