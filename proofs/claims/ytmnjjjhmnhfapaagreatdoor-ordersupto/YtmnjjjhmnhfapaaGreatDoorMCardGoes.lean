/-
  A call that starts no goroutine on its way: what it owes a row that says 'leaving'.
-/
import Derived.Test.YtmnjjjhmnhfapaaGreatDoorMCardKit
namespace Go.Proofs.YtmnjjjhmnhfapaaGreatDoor

theorem leaving_of_alone {P : Program} {m : Machine} {w : World} {t : Trace} (h : aloneAtReturn P m w t) : leavingAtReturn P m w t :=
  ⟨h.2.1, ⟨fun g hg => ⟨0, by
    have h1 := h.1.1
    unfold Machine.othersDone at h1
    have h2 := List.all_eq_true.1 h1 g hg
    simpa [Goroutine.LeavesIn] using h2⟩, h.1.2⟩, h.2.2⟩
/-- A row that holds with nobody beside it holds where others may be leaving. -/
theorem holds_goes {p : Pinned} {s : OpenSpec} {c : OpenClaim} (hstart : c.start = .entering) (hst : c.stops = []) (hlv : c.leaving = true) (hwf : c.wf s = true) (h : ({ c with leaving := false } : OpenClaim).holds p s) : c.holds p s := by
  cases c
  dsimp only at hstart hst hlv
  subst hstart
  subst hst
  subst hlv
  obtain ⟨_, a1, a2, a3, a4, a5, a6, a7, f, fn, h1, h2, x1, x2, x3, x4, x5, x6, x7, x8, x9, y1, y2, y3, y4, y5, y6, y7, y8, y9, hw, L, hL, hall⟩ := h
  refine ⟨hwf, a1, a2, a3, a4, a5, a6, a7, f, fn, h1, h2, x1, x2, x3, x4, x5, x6, x7, x8, x9, y1, y2, y3, y4, y5, y6, y7, y8, y9, hw, L, hL, fun os st q H enc inj => ?_⟩
  have F := hall os st q H enc inj
  intro Fi
  exact ReturnsInOpen.mono (atReturn := aloneAtReturn p.checked.prog) (fun m w t x => leaving_of_alone (m := m) (w := w) (t := t) x) (fun _ x => x) (F Fi)
/-- A tied card of a row on whose road a go statement stands. -/
theorem card_goes (Lk : Looks) {p : Pinned} {s : OpenSpec} {c : OpenClaim} (kinds : List LaidKind) (tests : Bool) (har : Bool × String) (lk : Bool) (hc : c.holds p s) (hw : c.wfByText s = true) (htie : c.laidByTextAt Lk p kinds tests)
    (hst : c.start = .entering) (hnb : c.noBlocks = false ∧ c.again = false) (hm : p.checked.prog.mainIs = some (har.1, har.2.toList)) (hn : (!har.1 && har.2.isEmpty && !lk) = false)
    (hl : ∀ f fn, p.checked.prog.funcNamed c.func = some f → p.checked.prog.funcs[f]? = some fn → lk = p.checked.prog.looks [] ∧ ∀ (j : Nat) t, fn.params[j]? = some t → p.checked.prog.wantsStandIn t = false) (hg : true = c.goesBy p.checked.prog) :
    Claim7.holds p (.plain s) { stood := { row := c, standIns := [], harness := har, looks := lk }, kinds := [], alts := [], goes := true, laidByText := true, laidKinds := kinds, laidTests := tests, laidLooks := Lk } := by
  have h6 : Claim7.isSixth { stood := { row := c, standIns := [], harness := har, looks := lk }, kinds := [] } = false := by simpa [Claim7.isSixth] using hn
  exact ⟨Claim7.tied_new_at Lk kinds tests (Claim7.new_of_sixth hc har lk hst hnb hm h6 hl) hw, fun _ hD => (by cases hD), htie, fun h => (by cases h), hg⟩
end Go.Proofs.YtmnjjjhmnhfapaaGreatDoor
