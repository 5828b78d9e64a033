import Derived.Test.YtmnjjjhmnhfapaaGreatDoorRows
import Derived.Test.YtmnjjjhmnhfapaaGreatDoorTie
import Derived.Test.YtmnjjjhmnhfapaaGreatDoorCards
import Derived.ProofKit
import Derived.OpenShut
import Derived.ShutString
import Derived.Lay
import Derived.SevenTiedAt
import Derived.Stop.Joined
import Derived.ReadAgain
import Derived.ChangeOld
import Derived.ChangeReads
import Derived.Deep.DeepHandedRow
import Derived.Deep.Strs
import Derived.Deep.SlicePairs
import Derived.Test.YtmnjjjhmnhfapaaGreatDoorMRefNum
import Derived.Test.YtmnjjjhmnhfapaaGreatDoorMKpRise
/-
  A slice of texts that came in.
-/
namespace Go.Proofs.YtmnjjjhmnhfapaaGreatDoor
open Go.RowKit

/-- The texts, as the slice of strings reads. -/
def strs (l : List ByteArray) : List Value := l.map Value.string
theorem strs_length (l : List ByteArray) : (strs l).length = l.length := by simp [strs]
theorem strs_get {l : List ByteArray} {k : Nat} (h : k < l.length) : (strs l)[k]? = some (.string l[k]) := by simp [strs, h]
/-- A slice value reads as texts. -/
def TextsRd (w : World) (v : Value) (texts : List ByteArray) : Prop := ∃ a cap, v = .slice a texts.length cap ∧ (0 < texts.length → Reads w v 1 texts.length (strs texts))
end Go.Proofs.YtmnjjjhmnhfapaaGreatDoor
/-
  What the cards share: arguments read again where only new memory was made; a witness for a row that lists variables; the bound of the second form.
-/
namespace Go.Proofs.YtmnjjjhmnhfapaaGreatDoor
open Go.ChangeShapes Go.WideShapes Go.ChangeAt Go.RowKit
open Go.ChangeMaps (open_string shut_string)

theorem own : ownKnob Tryz.prog.godebug = none := by kernel_rfl
theorem prog_laid : laidOutB Tryz.prog = true := by kernel_rfl
theorem prog_maps : mapsRowed Tryz.prog = true := by kernel_rfl
theorem prog_slices : ((List.range Tryz.prog.types.size).all fun t => match Tryz.prog.underlying t with | some (.slice e) => decide (0 < Tryz.prog.cellsOf e) | _ => true) = true := by kernel_rfl

theorem trodAll_carry {H : Type} {enc : TypeId × Value → H} {P : Program} {w w' : World} {base : Nat} {spare : Nat → Bool} {held : Bool} : ∀ {ts : List TypeId} {vs : List Value} {ds : List (DataW H)} {ps : List MemPlace}, DataW.TrodAll enc P w base spare held ts vs ds ps → (∀ p ∈ ps, w.sameAt w' p) → DataW.TrodAll enc P w' base spare held ts vs ds ps
  | [], [], [], _, h, _ => h
  | _ :: _, _ :: _, _ :: _, _, ⟨p, q, ⟨n, h1⟩, h2, e⟩, hs => ⟨p, q, ⟨n, DataW.trod_carry n _ _ _ h1 (fun x hx => hs x (by rw [e]; exact List.mem_append_left _ hx))⟩, trodAll_carry h2 (fun x hx => hs x (by rw [e]; exact List.mem_append_right _ hx)), e⟩

set_option maxRecDepth 100000 in
/-- The arguments read again as they did. -/
theorem args_again {H : Type} {enc : TypeId × Value → H} {W W' : World} (hb : Below W.heap.size W W') {ts : List TypeId} {vs : List Value} {ds : List (DataW H)} {ps : List MemPlace} (ht : ∀ t ∈ ts, t < Tryz.prog.types.size) (h : DataW.TrodAll enc Tryz.prog W 0 (fun _ => true) true ts vs ds ps) :
    DataW.TrodAll enc Tryz.prog W' 0 (fun b => decide (b < W.heap.size)) true ts vs ds ps := by
  have hlt := DataW.TrodAll.lt h
  refine trodAll_carry (DataW.TrodAll.respare (kids_rows prog_laid prog_maps) (slices_full_of _ prog_slices) ht h (fun p hp => decide_eq_true (hlt p hp))) (fun p hp => ?_)
  have := hlt p hp
  cases p with
  | cell b off => exact hb.cell (p := ⟨b, off, none⟩) this
  | map b => exact hb.block b this

/-- 'There is an input that fits', at a row that lists variables. -/
theorem witness_row_shaped {H : Type} {enc : TypeId × Value → H} {C : Checked} {os : Os} {f : FuncId} {fn : Func} {s : OpenSpec} {conds : List PathCond} {apart : Bool} {laid : List (String × DataW Unit)} (modest : Bool) (w0 : World) (args : Array Value) (hos : w0.os = os)
    (hsh : (w0.forCall (fun _ _ => 0) ⟨#[], args, []⟩).Shaped C.prog)
    (hok : Input.okWideB C.prog (w0.forCall (fun _ _ => 0) ⟨#[], args, []⟩) f ⟨#[], args, []⟩ = true)
    (hrow : s.preRow enc C.prog fn conds apart laid (w0.forCall (fun _ _ => 0) ⟨#[], args, []⟩).memory args) :
    ∃ (w : World) (tape : Tape) (i : Input), w.os = os ∧ (w.forCall tape i).Shaped C.prog ∧ i.vars = [] ∧ Input.okWide C.prog (w.forCall tape i) .any w.heap.size f i ∧
      s.preRow enc C.prog fn conds apart laid (w.forCall tape i).memory i.args ∧ ({ modest := modest } : Assume).holds C.prog (lone (Frame.enter C.prog f i.args .normal) [] (w.forCall tape i)) :=
  ⟨w0, fun _ _ => 0, ⟨#[], args, []⟩, hos, hsh, (Input.okWide_of_okWideB (base := 0) hok).1, (Input.okWide_of_okWideB hok).2, hrow, by
    simp only [Assume.holds]
    exact ⟨by simp, by simp, fun _ => Modest.zero, by simp, by simp⟩⟩

/-- The bound: a part is at most the whole. -/
theorem bulk_pos {H : Type} (d : DataW H) : 1 ≤ Rows.uptoBulk d := by
  cases d with
  | lit l => cases l <;> simp [Rows.uptoBulk]
  | nil => simp [Rows.uptoBulk]
  | ptr d => simp [Rows.uptoBulk]
  | slice elems spare => simp [Rows.uptoBulk]
  | agg parts => simp [Rows.uptoBulk]
  | iface t d => simp [Rows.uptoBulk]
  | map entries => simp [Rows.uptoBulk]
  | held h => simp [Rows.uptoBulk]
theorem bulk_length {H : Type} (l : List (DataW H)) : l.length ≤ Rows.uptoBulkAll l := by
  induction l with
  | nil => simp [Rows.uptoBulkAll]
  | cons d r ih => simp only [Rows.uptoBulkAll, List.length_cons]; have := bulk_pos d; omega
theorem bulk_le {H : Type} {ds : List (DataW H)} (h : Rows.uptoSmall H ds = true) : Rows.uptoBulkAll ds ≤ 1048576 := of_decide_eq_true h

theorem spot_none {w : World} {a : Addr} {v : Value} (h : w.cell? a = some v) : a = ⟨a.block, a.off, none⟩ := by
  obtain ⟨b, o, s⟩ := a
  cases s with
  | none => rfl
  | some k =>
    unfold World.cell? at h
    split at h
    · simp at h
    · cases h
theorem cell_lt {w : World} {a : Addr} {v : Value} (h : w.cell? a = some v) : a.block < w.heap.size := by
  unfold World.cell? at h
  split at h
  · rename_i h1; exact (Array.getElem?_eq_some_iff.1 h1).1
  · cases h
set_option maxRecDepth 100000 in
/-- A slice of strings that came in reads as texts. -/
theorem open_texts {H : Type} {enc : TypeId × Value → H} {W : World} {base : Nat} {v : Value} {d : DataW H} {ps : List MemPlace} (hv : Value.okWide Tryz.prog W .any base 22 v) (h : DataW.Trod enc Tryz.prog W 0 (fun _ => true) true 22 v d ps) :
    ∃ texts : List ByteArray, TextsRd W v texts ∧ texts.length ≤ Rows.uptoBulk d := by
  obtain ⟨a, len, cap, rfl⟩ := okWide_slice Tryz.underlying22 hv
  obtain ⟨n, hn⟩ := h
  rcases Deep.open_strs Tryz.underlying22 Tryz.underlying9 (by kernel_rfl) hn with ⟨h1, h2⟩ | ⟨a, len, cap, m, Sx, h1, _, hl, hm, hmm, h2, hx⟩
  · simp [Value.cells] at h1
    obtain ⟨rfl, rfl, rfl⟩ := h1
    exact ⟨[], ⟨none, 0, rfl, fun h => by simp at h⟩, Nat.zero_le _⟩
  · simp [Value.cells] at h1
    obtain ⟨rfl, rfl, rfl⟩ := h1
    simp at hmm
    subst hmm
    refine ⟨(List.range len).map Sx, ⟨some a, m, by simp, fun hp => ?_⟩, ?_⟩
    · simp at hp
      have h0 := (hx 0 (by omega)).1
      rw [show a.add 0 = a from rfl] at h0
      have hs := spot_none h0
      have hlt := cell_lt h0
      rw [hs] at hx ⊢
      refine ⟨by simp [strs], fun g hg => by simp [Value.ownBlock] at hg; subst hg; exact hlt, _, m, by simp, ⟨by simpa using hl, hm⟩, fun j u hu => ⟨a.block, a.off, rfl, ?_⟩⟩
      have hj : j < len := by have := (List.getElem?_eq_some_iff.1 hu).1; simpa [strs] using this
      have hu' : u = .string (Sx j) := by
        rw [strs, List.getElem?_map, List.getElem?_map, List.getElem?_range hj] at hu
        simpa using hu.symm
      rw [hu', ← add_plain]
      exact (hx j (by omega)).1
    · injection h2 with h2 _
      subst h2
      simp only [Rows.uptoBulk]
      have := bulk_length ((List.range len).map fun i => (DataW.lit (Lit.string (Sx i).data.toList) : DataW H))
      simp at this ⊢
      omega
end Go.Proofs.YtmnjjjhmnhfapaaGreatDoor
/-
  A call that starts no goroutine on its way: what it owes a row that says 'leaving'.
-/
namespace Go.Proofs.YtmnjjjhmnhfapaaGreatDoor

theorem leaving_of_alone {P : Program} {m : Machine} {w : World} {t : Trace} (h : aloneAtReturn P m w t) : leavingAtReturn P m w t :=
  ⟨h.2.1, ⟨fun g hg => ⟨0, by
    have h1 := h.1.1
    unfold Machine.othersDone at h1
    have h2 := List.all_eq_true.1 h1 g hg
    simpa [Goroutine.LeavesIn] using h2⟩, h.1.2⟩, h.2.2⟩
/-- A row that holds with nobody beside it holds where others may be leaving. -/
theorem holds_goes {p : Pinned} {s : OpenSpec} {c : OpenClaim} (hstart : c.start = .entering) (hst : c.stops = []) (hlv : c.leaving = true) (hwf : c.wf s = true) (h : ({ c with leaving := false } : OpenClaim).holds p s) : c.holds p s := by
  cases c
  dsimp only at hstart hst hlv
  subst hstart
  subst hst
  subst hlv
  obtain ⟨_, a1, a2, a3, a4, a5, a6, a7, f, fn, h1, h2, x1, x2, x3, x4, x5, x6, x7, x8, x9, y1, y2, y3, y4, y5, y6, y7, y8, y9, hw, L, hL, hall⟩ := h
  refine ⟨hwf, a1, a2, a3, a4, a5, a6, a7, f, fn, h1, h2, x1, x2, x3, x4, x5, x6, x7, x8, x9, y1, y2, y3, y4, y5, y6, y7, y8, y9, hw, L, hL, fun os st q H enc inj => ?_⟩
  have F := hall os st q H enc inj
  intro Fi
  exact ReturnsInOpen.mono (atReturn := aloneAtReturn p.checked.prog) (fun m w t x => leaving_of_alone (m := m) (w := w) (t := t) x) (fun _ x => x) (F Fi)
/-- A tied card of a row on whose road a go statement stands. -/
theorem card_goes (Lk : Looks) {p : Pinned} {s : OpenSpec} {c : OpenClaim} (kinds : List LaidKind) (tests : Bool) (har : Bool × String) (lk : Bool) (hc : c.holds p s) (hw : c.wfByText s = true) (htie : c.laidByTextAt Lk p kinds tests)
    (hst : c.start = .entering) (hnb : c.noBlocks = false ∧ c.again = false) (hm : p.checked.prog.mainIs = some (har.1, har.2.toList)) (hn : (!har.1 && har.2.isEmpty && !lk) = false)
    (hl : ∀ f fn, p.checked.prog.funcNamed c.func = some f → p.checked.prog.funcs[f]? = some fn → lk = p.checked.prog.looks [] ∧ ∀ (j : Nat) t, fn.params[j]? = some t → p.checked.prog.wantsStandIn t = false) (hg : true = c.goesBy p.checked.prog) :
    Claim7.holds p (.plain s) { stood := { row := c, standIns := [], harness := har, looks := lk }, kinds := [], alts := [], goes := true, laidByText := true, laidKinds := kinds, laidTests := tests, laidLooks := Lk } := by
  have h6 : Claim7.isSixth { stood := { row := c, standIns := [], harness := har, looks := lk }, kinds := [] } = false := by simpa [Claim7.isSixth] using hn
  exact ⟨Claim7.tied_new_at Lk kinds tests (Claim7.new_of_sixth hc har lk hst hnb hm h6 hl) hw, fun _ hD => (by cases hD), htie, fun h => (by cases h), hg⟩
end Go.Proofs.YtmnjjjhmnhfapaaGreatDoor
namespace Go.Proofs.YtmnjjjhmnhfapaaGreatDoor
open Go.ChangeShapes Go.WideShapes Go.ChangeAt Go.RowKit

set_option maxRecDepth 100000 in
/-- A slice of entries that came in. -/
theorem open_ents {H : Type} {enc : TypeId × Value → H} {W : World} {base : Nat} {v : Value} {d : DataW H} {ps : List MemPlace} (hv : Value.okWide Tryz.prog W .any base 50 v) (h : DataW.Trod enc Tryz.prog W 0 (fun _ => true) true 50 v d ps) :
    ∃ l : Tm.Ents, EntsRd W v l := by
  obtain ⟨a, len, cap, rfl⟩ := okWide_slice Tryz.underlying50 hv
  obtain ⟨n, hn⟩ := h
  rcases Deep.open_slice_pairs Tryz.underlying50 Tryz.underlying67 (by kernel_rfl) rfl rfl (by kernel_rfl) (by kernel_rfl) hn with ⟨h1, h2⟩ | ⟨a, len, cap, m, k, V0, V1, D0, D1, P0, P1, h1, _, hl, hm, hmm, h2, hx⟩
  · simp [Value.cells] at h1
    obtain ⟨rfl, rfl, rfl⟩ := h1
    exact ⟨[], none, 0, rfl, fun h => by simp at h⟩
  · simp [Value.cells] at h1
    obtain ⟨rfl, rfl, rfl⟩ := h1
    simp at hmm
    subst hmm
    have each : ∀ i, i < m → ∃ q : ByteArray × ByteArray, V0 i = .string q.1 ∧ V1 i = .string q.2 := fun i hi => by
      obtain ⟨s0, e0, _⟩ := DataW.trod_string Tryz.underlying9 (hx i hi).2.2.1
      obtain ⟨s1, e1, _⟩ := DataW.trod_string Tryz.underlying9 (hx i hi).2.2.2
      exact ⟨(s0, s1), by simpa using e0, by simpa using e1⟩
    obtain ⟨q, hq⟩ := Deep.choose_lt each
    have hlen : ((List.range len).map q).length = len := by simp
    refine ⟨(List.range len).map q, some a, m, by rw [hlen], fun hp => ?_⟩
    rw [hlen] at hp ⊢
    have h0 := (hx 0 (by omega)).1
    rw [show a.add (0 * 2) = a from rfl] at h0
    have hs := spot_none h0
    have hlt := cell_lt h0
    rw [hs] at hx ⊢
    refine ⟨by rw [entCells_length, hlen], fun g hg => by simp [Value.ownBlock] at hg; subst hg; exact hlt, _, m, rfl, ⟨hl, hm⟩, fun j u hu => ⟨a.block, a.off, rfl, ?_⟩⟩
    have hj : j < len * 2 := by have := (List.getElem?_eq_some_iff.1 hu).1; rw [entCells_length, hlen] at this; exact this
    have hd : j / 2 < len := by omega
    have hr := rows_get (fun e : ByteArray × ByteArray => [Value.string e.1, Value.string e.2]) 2 (fun _ => rfl) ((List.range len).map q) (j / 2) (by rw [hlen]; exact hd) (j % 2) (by omega)
    rw [show j / 2 * 2 + j % 2 = j by omega] at hr
    have hu2 : (entCells ((List.range len).map q))[j]? = some u := hu
    unfold entCells at hu2
    rw [hr] at hu2
    obtain ⟨x0, x1, _, _⟩ := hx (j / 2) (by omega)
    obtain ⟨y0, y1⟩ := hq (j / 2) (by omega)
    rw [add_plain] at x0 x1
    rcases (show j % 2 = 0 ∨ j % 2 = 1 by omega) with e | e
    · rw [e] at hu2
      simp at hu2
      rw [← hu2, ← y0, show a.off + j = a.off + j / 2 * 2 by omega]
      exact x0
    · rw [e] at hu2
      simp at hu2
      rw [← hu2, ← y1, show a.off + j = a.off + (j / 2 * 2 + 1) by omega]
      exact x1
end Go.Proofs.YtmnjjjhmnhfapaaGreatDoor
