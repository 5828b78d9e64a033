import Derived.Test.YtmnjjjhmnhfapaaGreatDoorTie
import Derived.Test.YtmnjjjhmnhfapaaGreatDoorCards
import Derived.ProofKit
import Derived.OpenShut
import Derived.ShutString
import Derived.Lay
import Derived.Stop.Joined
import Derived.ReadAgain
import Derived.ChangeOld
import Derived.ChangeReads
import Derived.Deep.DeepHandedRow
import Derived.Deep.Strs
import Derived.Deep.SlicePairs
import Derived.Test.YtmnjjjhmnhfapaaGreatDoorMTexts
/-
 What the cards share: arguments read again where only new memory was made; a witness for a row that lists variables; the bound of the second form.
-/
namespace Go.Proofs.YtmnjjjhmnhfapaaGreatDoor
open Go.ChangeShapes Go.WideShapes Go.ChangeAt Go.RowKit
open Go.ChangeMaps (open_string shut_string)
theorem own : ownKnob Tryz.prog.godebug = none := by kernel_rfl
theorem prog_laid : laidOutB Tryz.prog = true := by kernel_rfl
theorem prog_maps : mapsRowed Tryz.prog = true := by kernel_rfl
theorem prog_slices : ((List.range Tryz.prog.types.size).all fun t => match Tryz.prog.underlying t with | some (.slice e) => decide (0 < Tryz.prog.cellsOf e) | _ => true) = true := by kernel_rfl
theorem trodAll_carry {H : Type} {enc : TypeId × Value → H} {P : Program} {w w' : World} {base : Nat} {spare : Nat → Bool} {held : Bool} : ∀ {ts : List TypeId} {vs : List Value} {ds : List (DataW H)} {ps : List MemPlace}, DataW.TrodAll enc P w base spare held ts vs ds ps → (∀ p ∈ ps, w.sameAt w' p) → DataW.TrodAll enc P w' base spare held ts vs ds ps
 | [], [], [], _, h, _ => h
 | _ :: _, _ :: _, _ :: _, _, ⟨p, q, ⟨n, h1⟩, h2, e⟩, hs => ⟨p, q, ⟨n, DataW.trod_carry n _ _ _ h1 (fun x hx => hs x (by rw [e]; exact List.mem_append_left _ hx))⟩, trodAll_carry h2 (fun x hx => hs x (by rw [e]; exact List.mem_append_right _ hx)), e⟩
set_option maxRecDepth 100000 in
theorem args_again {H : Type} {enc : TypeId × Value → H} {W W' : World} (hb : Below W.heap.size W W') {ts : List TypeId} {vs : List Value} {ds : List (DataW H)} {ps : List MemPlace} (ht : ∀ t ∈ ts, t < Tryz.prog.types.size) (h : DataW.TrodAll enc Tryz.prog W 0 (fun _ => true) true ts vs ds ps) :
  DataW.TrodAll enc Tryz.prog W' 0 (fun b => decide (b < W.heap.size)) true ts vs ds ps := by
 have hlt := DataW.TrodAll.lt h
 refine trodAll_carry (DataW.TrodAll.respare (kids_rows prog_laid prog_maps) (slices_full_of _ prog_slices) ht h (fun p hp => decide_eq_true (hlt p hp))) (fun p hp => ?_)
 have := hlt p hp
 cases p with
 | cell b off => exact hb.cell (p := ⟨b, off, none⟩) this
 | map b => exact hb.block b this
theorem witness_row_shaped {H : Type} {enc : TypeId × Value → H} {C : Checked} {os : Os} {f : FuncId} {fn : Func} {s : OpenSpec} {conds : List PathCond} {apart : Bool} {laid : List (String × DataW Unit)} (modest : Bool) (w0 : World) (args : Array Value) (hos : w0.os = os)
  (hsh : (w0.forCall (fun _ _ => 0) ⟨#[], args, []⟩).Shaped C.prog)
  (hok : Input.okWideB C.prog (w0.forCall (fun _ _ => 0) ⟨#[], args, []⟩) f ⟨#[], args, []⟩ = true)
  (hrow : s.preRow enc C.prog fn conds apart laid (w0.forCall (fun _ _ => 0) ⟨#[], args, []⟩).memory args) :
  ∃ (w : World) (tape : Tape) (i : Input), w.os = os ∧ (w.forCall tape i).Shaped C.prog ∧ i.vars = [] ∧ Input.okWide C.prog (w.forCall tape i) .any w.heap.size f i ∧
   s.preRow enc C.prog fn conds apart laid (w.forCall tape i).memory i.args ∧ ({ modest := modest } : Assume).holds C.prog (lone (Frame.enter C.prog f i.args .normal) [] (w.forCall tape i)) :=
 ⟨w0, fun _ _ => 0, ⟨#[], args, []⟩, hos, hsh, (Input.okWide_of_okWideB (base := 0) hok).1, (Input.okWide_of_okWideB hok).2, hrow, by
  simp only [Assume.holds]
  exact ⟨by simp, by simp, fun _ => Modest.zero, by simp, by simp⟩⟩
theorem bulk_pos {H : Type} (d : DataW H) : 1 ≤ Rows.uptoBulk d := by
 cases d with
 | lit l => cases l <;> simp [Rows.uptoBulk]
 | nil => simp [Rows.uptoBulk]
 | ptr d => simp [Rows.uptoBulk]
 | slice elems spare => simp [Rows.uptoBulk]
 | agg parts => simp [Rows.uptoBulk]
 | iface t d => simp [Rows.uptoBulk]
 | map entries => simp [Rows.uptoBulk]
 | held h => simp [Rows.uptoBulk]
theorem bulk_length {H : Type} (l : List (DataW H)) : l.length ≤ Rows.uptoBulkAll l := by
 induction l with
 | nil => simp [Rows.uptoBulkAll]
 | cons d r ih => simp only [Rows.uptoBulkAll, List.length_cons]; have := bulk_pos d; omega
theorem bulk_le {H : Type} {ds : List (DataW H)} (h : Rows.uptoSmall H ds = true) : Rows.uptoBulkAll ds ≤ 1048576 := of_decide_eq_true h
theorem spot_none {w : World} {a : Addr} {v : Value} (h : w.cell? a = some v) : a = ⟨a.block, a.off, none⟩ := by
 obtain ⟨b, o, s⟩ := a
 cases s with
 | none => rfl
 | some k =>
  unfold World.cell? at h
  split at h
  ·simp at h
  ·cases h
theorem cell_lt {w : World} {a : Addr} {v : Value} (h : w.cell? a = some v) : a.block < w.heap.size := by
 unfold World.cell? at h
 split at h
 ·rename_i h1; exact (Array.getElem?_eq_some_iff.1 h1).1
 ·cases h
theorem leaving_of_alone {P : Program} {m : Machine} {w : World} {t : Trace} (h : aloneAtReturn P m w t) : leavingAtReturn P m w t :=
 ⟨h.2.1, ⟨fun g hg => ⟨0, by
  have h1 := h.1.1
  unfold Machine.othersDone at h1
  have h2 := List.all_eq_true.1 h1 g hg
  simpa [Goroutine.LeavesIn] using h2⟩, h.1.2⟩, h.2.2⟩
theorem holds_goes {p : Pinned} {s : OpenSpec} {c : OpenClaim} (hstart : c.start = .entering) (hst : c.stops = []) (hlv : c.leaving = true) (hwf : c.wf s = true) (h : ({ c with leaving := false } : OpenClaim).holds p s) : c.holds p s := by
 cases c
 dsimp only at hstart hst hlv
 subst hstart
 subst hst
 subst hlv
 obtain ⟨_, a1, a2, a3, a4, a5, a6, a7, f, fn, h1, h2, x1, x2, x3, x4, x5, x6, x7, x8, x9, y1, y2, y3, y4, y5, y6, y7, y8, y9, hw, L, hL, hall⟩ := h
 refine ⟨hwf, a1, a2, a3, a4, a5, a6, a7, f, fn, h1, h2, x1, x2, x3, x4, x5, x6, x7, x8, x9, y1, y2, y3, y4, y5, y6, y7, y8, y9, hw, L, hL, fun os st q H enc inj => ?_⟩
 have F := hall os st q H enc inj
 intro Fi
 exact ReturnsInOpen.mono (atReturn := aloneAtReturn p.checked.prog) (fun m w t x => leaving_of_alone (m := m) (w := w) (t := t) x) (fun _ x => x) (F Fi)
theorem card_goes (Lk : Looks) {p : Pinned} {s : OpenSpec} {c : OpenClaim} (kinds : List LaidKind) (tests : Bool) (har : Bool × String) (lk : Bool) (hc : c.holds p s) (hw : c.wfByText s = true) (htie : c.laidByTextAt Lk p kinds tests)
  (hst : c.start = .entering) (hnb : c.noBlocks = false ∧ c.again = false) (hm : p.checked.prog.mainIs = some (har.1, har.2.toList)) (hn : (!har.1 && har.2.isEmpty && !lk) = false)
  (hl : ∀ f fn, p.checked.prog.funcNamed c.func = some f → p.checked.prog.funcs[f]? = some fn → lk = p.checked.prog.looks [] ∧ ∀ (j : Nat) t, fn.params[j]? = some t → p.checked.prog.wantsStandIn t = false) (hg : true = c.goesBy p.checked.prog) :
  Claim7.holds p (.plain s) { stood := { row := c, standIns := [], harness := har, looks := lk }, kinds := [], alts := [], goes := true, laidByText := true, laidKinds := kinds, laidTests := tests, laidLooks := Lk } := by
 have h6 : Claim7.isSixth { stood := { row := c, standIns := [], harness := har, looks := lk }, kinds := [] } = false := by simpa [Claim7.isSixth] using hn
 exact ⟨Claim7.tied_new_at Lk kinds tests (Claim7.new_of_sixth hc har lk hst hnb hm h6 hl) hw, fun _ hD => (by cases hD), htie, fun h => (by cases h), hg⟩
set_option maxRecDepth 100000 in
theorem open_ops {H : Type} {enc : TypeId × Value → H} {W : World} {base : Nat} {v : Value} {d : DataW H} {ps : List MemPlace} (hv : Value.okWide Tryz.prog W .any base 47 v) (h : DataW.Trod enc Tryz.prog W 0 (fun _ => true) true 47 v d ps) :
  ∃ a n c, v = .slice a n c ∧ OpsRd W a n ∧ n ≤ Rows.uptoBulk d := by
 obtain ⟨a, len, cap, rfl⟩ := okWide_slice Tryz.underlying47 hv
 obtain ⟨n, hn⟩ := h
 rcases Deep.open_slice Tryz.underlying47 hn with ⟨h1, h2⟩ | ⟨a, len, cap, m, k, D, Pl, h1, _, hl, hm, hmm, h2, hx⟩
 ·simp [Value.cells] at h1
  obtain ⟨rfl, rfl, rfl⟩ := h1
  exact ⟨none, 0, 0, rfl, fun k hk => absurd hk (Nat.not_lt_zero k), Nat.zero_le _⟩
 ·simp [Value.cells] at h1
  obtain ⟨rfl, rfl, rfl⟩ := h1
  simp at hmm
  subst hmm
  refine ⟨some a, len, m, rfl, fun i hi => ?_, ?_⟩
  ·have ha : a = ⟨a.block, a.off, none⟩ := by
    obtain ⟨cs', g1, _⟩ := hx 0 (by omega)
    rw [show Tryz.prog.cellsOf 110 = 7 by kernel_rfl] at g1
    obtain ⟨_, hlen, hcell⟩ := World.cells?_some g1
    have e := hcell 0 (by omega)
    rw [show ((a.add (0 * 7)).add 0) = a from rfl] at e
    exact spot_none (e.trans (List.getElem?_eq_getElem (by omega)))
   obtain ⟨ab, ao, sp⟩ := a
   have hspn : sp = none := congrArg (fun x : Addr => x.spot) ha
   subst hspn
   obtain ⟨cs', g1, g2⟩ := hx i (by omega)
   rw [show Tryz.prog.cellsOf 110 = 7 by kernel_rfl] at g1
   obtain ⟨_, hlen, hcell⟩ := World.cells?_some g1
   obtain ⟨xs, q, hq, hxy, _, hxl, hf⟩ := DataW.trod_struct Tryz.underlying110 g2
   match xs, hxl, cs', hlen with
   | [y0, y1, y2, y3, y4, y5, y6], _, [v0, v1, v2, v3, v4, v5, v6], _ =>
    have c1 : Tryz.prog.cellsOf 3 = 1 := by kernel_rfl
    have c2 : Tryz.prog.cellsOf 9 = 1 := by kernel_rfl
    have c3 : Tryz.prog.cellsOf 50 = 1 := by kernel_rfl
    have f0 := hf 0 _ rfl
    have f1 := hf 1 _ rfl
    have f2 := hf 2 _ rfl
    have f3 := hf 3 _ rfl
    have f4 := hf 4 _ rfl
    have f5 := hf 5 _ rfl
    have f6 := hf 6 _ rfl
    simp [c1, c2, c3] at f0 f1 f2 f3 f4 f5 f6
    have e0 := hcell 0 (by omega)
    have e1 := hcell 1 (by omega)
    have e2 := hcell 2 (by omega)
    have e3 := hcell 3 (by omega)
    have e4 := hcell 4 (by omega)
    have e5 := hcell 5 (by omega)
    have e6 := hcell 6 (by omega)
    simp at e0 e1 e2 e3 e4 e5 e6
    obtain ⟨k0, z0, _, w0⟩ := DataW.trod_int Tryz.underlying3 f0
    obtain ⟨k1, z1, _, w1⟩ := DataW.trod_int Tryz.underlying3 f1
    obtain ⟨s2, z2, _⟩ := DataW.trod_string Tryz.underlying9 f2
    obtain ⟨s3, z3, _⟩ := DataW.trod_string Tryz.underlying9 f3
    obtain ⟨k4, z4, _, w4⟩ := DataW.trod_int Tryz.underlying3 f4
    obtain ⟨k5, z5, _, w5⟩ := DataW.trod_int Tryz.underlying3 f5
    have z6 : ∃ b j l, v6 = .slice b j l := by
     rcases Deep.open_slice Tryz.underlying50 f6 with ⟨u1, _⟩ | ⟨b, j, l, _, _, _, _, u1, _⟩
     ·exact ⟨none, 0, 0, by simpa using u1⟩
     ·exact ⟨some b, j, l, by simpa using u1⟩
    obtain ⟨b6, j6, l6, z6⟩ := z6
    simp at z0 z1 z2 z3 z4 z5
    subst z0 z1 z2 z3 z4 z5 z6
    rw [add_plain, add_plain] at e0 e1 e2 e3 e4 e5 e6
    have hlt := cell_lt e0
    exact ⟨ab, ao, ⟨k0, k1, s2, s3, k4, k5, b6, j6, l6⟩, rfl, ⟨hlt, e0, e1, e2, e3, e4, e5, e6⟩, ⟨bounds_i64 w1, bounds_i64 w4, bounds_i64 w5⟩⟩
  ·injection h2 with h2 _
   subst h2
   simp only [Rows.uptoBulk]
   have := bulk_length ((List.range len).map D)
   simp at this ⊢
   omega
end Go.Proofs.YtmnjjjhmnhfapaaGreatDoor
