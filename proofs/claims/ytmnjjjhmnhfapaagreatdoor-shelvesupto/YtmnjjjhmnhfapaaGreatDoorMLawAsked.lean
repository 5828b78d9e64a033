import Derived.Test.YtmnjjjhmnhfapaaGreatDoorMIxApi
import Derived.Test.YtmnjjjhmnhfapaaGreatDoorMRxApi3
namespace Go.Proofs.YtmnjjjhmnhfapaaGreatDoor
open Go.RowKit
structure Kit where
 bc : Nat
 bm : Nat
 vT : Value
 st : Int
 sh : Bool
 lns : List Tm.Ln
def KitIs (X bw : Nat) (K : Kit) (w : World) : Prop := ∀ w', w.heap.size ≤ w'.heap.size → (∀ g, g < X → g ≠ bw → w'.heap[g]? = w.heap[g]?) → Coll w' K.bc K.bm K.st K.sh K.lns ∧ TabOk w' K.vT K.st K.lns
theorem KitIs.here {X bw : Nat} {K : Kit} {w : World} (h : KitIs X bw K w) : Coll w K.bc K.bm K.st K.sh K.lns ∧ TabOk w K.vT K.st K.lns := h w (Nat.le_refl _) (fun _ _ _ => rfl)
theorem KitIs.next {X bw : Nat} {K : Kit} {w w' : World} (h : KitIs X bw K w) (hs : w.heap.size ≤ w'.heap.size) (hb : ∀ g, g < X → g ≠ bw → w'.heap[g]? = w.heap[g]?) : KitIs X bw K w' := fun w2 h1 h2 => h w2 (Nat.le_trans hs h1) (fun g g1 g2 => (h2 g g1 g2).trans (hb g g1 g2))
theorem KitIs.foot {X bw : Nat} {K : Kit} {T : Nat → Prop} {w w' : World} (h : KitIs X bw K w) (hX : X ≤ w.heap.size) (hf : Foot T w w') (hT : ∀ i, T i → X ≤ i ∨ i = bw) : KitIs X bw K w' :=
 h.next hf.size (fun g g1 g2 => hf.block g (by omega) (fun e => by have := hT g e; omega))
theorem KitIs.below {X bw : Nat} {K : Kit} {w w' : World} (h : KitIs X bw K w) (hX : X ≤ w.heap.size) (hb : Below w.heap.size w w') : KitIs X bw K w' :=
 h.foot hX (Foot.of (S := fun _ => False) hb) (fun _ e => e.elim)
structure Shelf (w : World) (X : Nat) (S : Nat → Prop) (bp : Nat) (K : Kit) (N : Nat) : Prop where
 from_ : ∀ i, S i → X ≤ i ∧ i < w.heap.size
 own : S bp
 is : ∃ bx by_ Sx Sy s ds, w.cell? ⟨bp, 0, none⟩ = some (.pointer (some ⟨bx, 0, none⟩)) ∧ w.cell? ⟨bp, 1, none⟩ = some (.pointer (some ⟨by_, 0, none⟩)) ∧ Ix w X Sx bx K.bc K.st K.sh K.lns s ∧ Rx w X Sy by_ K.vT K.st K.sh K.lns ds ∧ (∀ i, Sx i → S i ∧ i ≠ bp) ∧ (∀ i, Sy i → S i ∧ i ≠ bp ∧ ¬ Sx i) ∧ Tm.DeedsOk (cmpOf K.lns K.st K.sh) (normOf K.lns) ds (nowOf s) ∧ ds.length ≤ N
theorem Shelf.foot {w w' : World} {X : Nat} {S T : Nat → Prop} {bp : Nat} {K : Kit} {N : Nat} (h : Shelf w X S bp K N) (hf : Foot T w w') (hd : ∀ i, S i → ¬ T i) : Shelf w' X S bp K N := by
 obtain ⟨bx, by_, Sx, Sy, s, ds, h0, h1, hx, hy, hsx, hsy, hok, hn⟩ := h.is
 have hl := (h.from_ bp h.own).2
 exact ⟨fun i hi => ⟨(h.from_ i hi).1, Nat.lt_of_lt_of_le (h.from_ i hi).2 hf.size⟩, h.own, bx, by_, Sx, Sy, s, ds,
  by rw [hf.cell (p := ⟨bp, 0, none⟩) hl (hd bp h.own)]; exact h0, by rw [hf.cell (p := ⟨bp, 1, none⟩) hl (hd bp h.own)]; exact h1,
  hx.foot hf (fun i hi => hd i (hsx i hi).1), hy.foot hf (fun i hi => hd i (hsy i hi).1), hsx, hsy, hok, hn⟩
theorem Shelf.mono {w : World} {X : Nat} {S : Nat → Prop} {bp : Nat} {K : Kit} {N M : Nat} (h : Shelf w X S bp K N) (hm : N ≤ M) : Shelf w X S bp K M := by
 obtain ⟨bx, by_, Sx, Sy, s, ds, h0, h1, hx, hy, hsx, hsy, hok, hn⟩ := h.is
 exact ⟨h.from_, h.own, bx, by_, Sx, Sy, s, ds, h0, h1, hx, hy, hsx, hsy, hok, by omega⟩
def ShelfStep (w w' : World) (X : Nat) (S : Nat → Prop) (bp : Nat) (K : Kit) (N : Nat) : Prop := ∃ S', Shelf w' X S' bp K N ∧ Foot S w w' ∧ ∀ i, S' i → S i ∨ w.heap.size ≤ i
def BookStep (w w' : World) (bw ob X : Nat) (S : Nat → Prop) (rows : List Value) : Prop :=
 ∃ S' vb' rows', NBook w' bw ob X S' vb' rows' ∧ rows'.length = rows.length + 4 ∧ Foot (fun i => S i ∨ i = bw) w w' ∧ (∀ i, S' i → S i ∨ w.heap.size ≤ i) ∧ (∀ o, o ≠ ob + 2 → w'.cell? ⟨bw, o, none⟩ = w.cell? ⟨bw, o, none⟩) ∧ ∀ o, w'.frozen? ⟨bw, o, none⟩ = w.frozen? ⟨bw, o, none⟩
theorem BookStep.of {w0 w w' : World} {bw ob X : Nat} {S : Nat → Prop} {vb vb' v v1 v2 v3 : Value} {rows : List Value} {n : Nat} (h : NBook w0 bw ob X S vb rows) (hX : X ≤ w0.heap.size) (hb : Below w0.heap.size w0 w) (hk : NKept bw ob X w0.heap.size vb v rows n (mkEnt (rows.length / 4)) w w' vb' v1 v2 v3) (hn : n ≤ 100000) : BookStep w0 w' bw ob X S rows := by
 obtain ⟨S', h1, h2, h3⟩ := h.kept hX hb hk hn
 exact ⟨S', vb', _, h1, by simp, h2, h3, fun o ho => (hk.rest o ho).trans (hb.cell (p := ⟨bw, o, none⟩) h.lt), fun o => (hk.froz o).trans (World.frozen?_of_block (a := ⟨bw, o, none⟩) (hb.block bw h.lt))⟩
structure Parts (w : World) (X : Nat) (S : Nat → Prop) (bp : Nat) (K : Kit) (N bx by_ : Nat) (Sx Sy : Nat → Prop) (s : IxSt) (ds : List Tm.Deed) : Prop where
 from_ : ∀ i, S i → X ≤ i ∧ i < w.heap.size
 own : S bp
 c0 : w.cell? ⟨bp, 0, none⟩ = some (.pointer (some ⟨bx, 0, none⟩))
 c1 : w.cell? ⟨bp, 1, none⟩ = some (.pointer (some ⟨by_, 0, none⟩))
 ix : Ix w X Sx bx K.bc K.st K.sh K.lns s
 rx : Rx w X Sy by_ K.vT K.st K.sh K.lns ds
 sx : ∀ i, Sx i → S i ∧ i ≠ bp
 sy : ∀ i, Sy i → S i ∧ i ≠ bp ∧ ¬ Sx i
 ok : Tm.DeedsOk (cmpOf K.lns K.st K.sh) (normOf K.lns) ds (nowOf s)
 few : ds.length ≤ N
theorem Shelf.parts {w : World} {X : Nat} {S : Nat → Prop} {bp : Nat} {K : Kit} {N : Nat} (h : Shelf w X S bp K N) : ∃ bx by_ Sx Sy s ds, Parts w X S bp K N bx by_ Sx Sy s ds := by
 obtain ⟨bx, by_, Sx, Sy, s, ds, h0, h1, hx, hy, hsx, hsy, hok, hn⟩ := h.is
 exact ⟨bx, by_, Sx, Sy, s, ds, h.from_, h.own, h0, h1, hx, hy, hsx, hsy, hok, hn⟩
theorem Parts.mid {w W w1 W' : World} {X bw : Nat} {S : Nat → Prop} {bp : Nat} {K : Kit} {N bx by_ : Nat} {Sx Sy : Nat → Prop} {s s' : IxSt} {ds : List Tm.Deed} (h : Parts w X S bp K N bx by_ Sx Sy s ds) (hK : KitIs X bw K w) (hX : X ≤ w.heap.size) (hW : Below w.heap.size w W) (h1 : IxStep W w1 X Sx bx K.bc K.st K.sh K.lns s') (hW' : Below w1.heap.size w1 W') :
  Rx W' X Sy by_ K.vT K.st K.sh K.lns ds ∧ TabOk W' K.vT K.st K.lns ∧ Foot S W w1 ∧ w1.cell? ⟨bp, 0, none⟩ = some (.pointer (some ⟨bx, 0, none⟩)) ∧ w1.cell? ⟨bp, 1, none⟩ = some (.pointer (some ⟨by_, 0, none⟩)) ∧ W.heap.size ≤ w1.heap.size := by
 obtain ⟨Sx', hx', hfx, _⟩ := h1
 have hbp := (h.from_ bp h.own).2
 have hz := hW.size
 refine ⟨((h.rx.below hW).foot hfx (fun i hi => (h.sy i hi).2.2)).below hW', ((hK.below hX hW).foot (by omega) hfx (fun i hi => .inl (h.from_ i (h.sx i hi).1).1) |>.below (by have := hfx.size; omega) hW').here.2, hfx.mono (fun i hi => (h.sx i hi).1), ?_, ?_, hfx.size⟩
 ·rw [hfx.cell (p := ⟨bp, 0, none⟩) (by show bp < _; omega) (fun e => (h.sx bp e).2 rfl), hW.cell (p := ⟨bp, 0, none⟩) hbp]
  exact h.c0
 rw [hfx.cell (p := ⟨bp, 1, none⟩) (by show bp < _; omega) (fun e => (h.sx bp e).2 rfl), hW.cell (p := ⟨bp, 1, none⟩) hbp]
 exact h.c1
theorem Parts.done {w W w1 W' w2 : World} {X : Nat} {S : Nat → Prop} {bp : Nat} {K : Kit} {N M bx by_ : Nat} {Sx Sy : Nat → Prop} {s s' : IxSt} {ds ds' : List Tm.Deed} (h : Parts w X S bp K N bx by_ Sx Sy s ds) (hW : Below w.heap.size w W) (h1 : IxStep W w1 X Sx bx K.bc K.st K.sh K.lns s') (hW' : Below w1.heap.size w1 W') (h2 : RxStep W' w2 X Sy by_ K.vT K.st K.sh K.lns ds') (hok : Tm.DeedsOk (cmpOf K.lns K.st K.sh) (normOf K.lns) ds' (nowOf s')) (hM : ds'.length ≤ M) : ShelfStep w w2 X S bp K M ∧ Foot S w1 w2 ∧ w2.cell? ⟨bp, 1, none⟩ = some (.pointer (some ⟨by_, 0, none⟩)) := by
 obtain ⟨Sx', hx', hfx, hsx'⟩ := h1
 obtain ⟨Sy', hy', hfy, hsy'⟩ := h2
 have hbp := (h.from_ bp h.own).2
 have hbX := (h.from_ bp h.own).1
 have z0 := hW.size
 have z1 := hfx.size
 have z2 := hW'.size
 have z3 := hfy.size
 have hf12 : Foot Sy w1 w2 := (Foot.of (S := Sy) hW').trans hfy (fun i hi => .inl hi)
 have hsyl : ∀ i, Sy i → i < w.heap.size := fun i hi => (h.from_ i (h.sy i hi).1).2
 have hsxl : ∀ i, Sx i → i < w.heap.size := fun i hi => (h.from_ i (h.sx i hi).1).2
 have hbpc : ∀ o, w2.cell? ⟨bp, o, none⟩ = w.cell? ⟨bp, o, none⟩ := fun o => by
  rw [hf12.cell (p := ⟨bp, o, none⟩) (by show bp < _; omega) (fun e => (h.sy bp e).2.1 rfl), hfx.cell (p := ⟨bp, o, none⟩) (by show bp < _; omega) (fun e => (h.sx bp e).2 rfl), hW.cell (p := ⟨bp, o, none⟩) hbp]
 have hfS : Foot S w w2 := ((Foot.of (S := S) hW).trans (hfx.mono (T := S) (fun i hi => (h.sx i hi).1)) (fun i hi => .inl hi)).trans (hf12.mono (T := S) (fun i hi => (h.sy i hi).1)) (fun i hi => .inl hi)
 have hnx : ∀ i, Sx' i → Sx i ∨ w.heap.size ≤ i := fun i hi => (hsx' i hi).imp id (fun e => by omega)
 have hny : ∀ i, Sy' i → Sy i ∨ w1.heap.size ≤ i := fun i hi => (hsy' i hi).imp id (fun e => by omega)
 refine ⟨?_, hf12.mono (fun i hi => (h.sy i hi).1), by rw [hbpc]; exact h.c1⟩
 refine ⟨fun i => i = bp ∨ Sx' i ∨ Sy' i, ⟨?_, .inl rfl, bx, by_, Sx', Sy', s', ds', by rw [hbpc]; exact h.c0, by rw [hbpc]; exact h.c1, hx'.foot hf12 (fun i hi hy => ?_), hy', fun i hi => ⟨.inr (.inl hi), fun e => ?_⟩, fun i hi => ⟨.inr (.inr hi), fun e => ?_, fun hx => ?_⟩, hok, hM⟩, hfS, ?_⟩
 ·rintro i (rfl | hi | hi)
  ·exact ⟨hbX, by omega⟩
  ·exact ⟨(hx'.from_ i hi).1, by have := (hx'.from_ i hi).2; omega⟩
  ·exact hy'.from_ i hi
 ·rcases hnx i hi with e | e
  ·exact (h.sy i hy).2.2 e
  ·have := hsyl i hy; omega
 ·subst e
  rcases hnx i hi with e | e
  ·exact (h.sx i e).2 rfl
  ·omega
 ·subst e
  rcases hny i hi with e | e
  ·exact (h.sy i e).2.1 rfl
  ·omega
 ·rcases hny i hi with e | e
  ·rcases hnx i hx with e' | e'
   ·exact (h.sy i e).2.2 e'
   ·have := hsyl i e; omega
  ·have := (hx'.from_ i hx).2; omega
 ·rintro i (rfl | hi | hi)
  ·exact .inl h.own
  ·rcases hnx i hi with e | e
   ·exact .inl (h.sx i e).1
   ·exact .inr e
  ·rcases hny i hi with e | e
   ·exact .inl (h.sy i e).1
   ·exact .inr (by omega)
def Both (F G : FuncId) (more : List Value) (w : World) (X : Nat) (S : Nat → Prop) (bp : Nat) (K : Kit) (M bx by_ : Nat) (ans : Value) : Prop :=
 ∀ W, Below w.heap.size w W → Calls Tryz.prog F (.pointer (some ⟨bx, 0, none⟩) :: more).toArray W fun e w1 => e = .returned ans ∧ (Foot S W w1 ∧ w1.cell? ⟨bp, 0, none⟩ = some (.pointer (some ⟨bx, 0, none⟩)) ∧ w1.cell? ⟨bp, 1, none⟩ = some (.pointer (some ⟨by_, 0, none⟩)) ∧ W.heap.size ≤ w1.heap.size) ∧
  ∀ W', Below w1.heap.size w1 W' → Calls Tryz.prog G (.pointer (some ⟨by_, 0, none⟩) :: more).toArray W' fun e w2 => e = .returned ans ∧ ShelfStep w w2 X S bp K M ∧ Foot S w1 w2 ∧ w2.cell? ⟨bp, 1, none⟩ = some (.pointer (some ⟨by_, 0, none⟩))
theorem Parts.put {w : World} {X bw : Nat} {S : Nat → Prop} {bp : Nat} {K : Kit} {N bx by_ : Nat} {Sx Sy : Nat → Prop} {s : IxSt} {ds : List Tm.Deed} (h : Parts w X S bp K N bx by_ Sx Sy s ds) (hK : KitIs X bw K w) (hX : X ≤ w.heap.size) (hN : N ≤ 90000000) (k v : ByteArray) :
  Both 33 144 [.string k, .string v] w X S bp K (N + 1) bx by_ (.int .i64 (putErr (cmpOf K.lns K.st K.sh) s k v)) := by
 have hT := told_cmpOf K.lns K.st K.sh
 have he : putErr (cmpOf K.lns K.st K.sh) s k v = rxPutErr (normOf K.lns) ds k v := by unfold putErr rxPutErr; rw [h.ok.has, h.ok.count hT]
 have hfew := h.few
 intro W hW
 have hKW := (hK.below hX hW).here
 have hz := hW.size
 refine (IxPut_any K.lns K.bc K.bm K.st K.sh X Sx bx s k v W hKW.1 hKW.2.ok (h.ix.below hW) (by omega)).mono ?_
 rintro e w1 ⟨rfl, h1⟩
 obtain ⟨_, _, hf⟩ := h.mid hK hX hW h1 (Below.refl _ _)
 refine ⟨rfl, hf, fun W' hW' => ?_⟩
 obtain ⟨hy, hTB, _⟩ := h.mid hK hX hW h1 hW'
 refine (rxPut_any k v W' hTB hy (by have := hW'.size; omega) (by omega)).mono ?_
 rintro e w2 ⟨rfl, h2⟩
 refine ⟨by rw [he], h.done hW h1 hW' h2 ?_ ?_⟩
 ·by_cases h0 : putErr (cmpOf K.lns K.st K.sh) s k v = 0
  ·rw [nowOf_put h0]; unfold rxPutSt; rw [if_pos (he ▸ h0)]; exact h.ok.put hT k v
  ·rw [putSt_no h0]; unfold rxPutSt; rw [if_neg (he ▸ h0)]; exact h.ok
 ·unfold rxPutSt; split
  ·simp; omega
  ·omega
def dropAns (c : ByteArray → ByteArray → Int) (s : IxSt) (k : ByteArray) : Bool × Int := if k.size ≤ 64 then (Tm.ixHas c (nowOf s) k, 0) else (false, 7)
theorem Parts.drop {w : World} {X bw : Nat} {S : Nat → Prop} {bp : Nat} {K : Kit} {N bx by_ : Nat} {Sx Sy : Nat → Prop} {s : IxSt} {ds : List Tm.Deed} (h : Parts w X S bp K N bx by_ Sx Sy s ds) (hK : KitIs X bw K w) (hX : X ≤ w.heap.size) (hN : N ≤ 90000000) (k : ByteArray) :
  Both 58 145 [.string k] w X S bp K (N + 1) bx by_ (.tuple #[.bool (dropAns (cmpOf K.lns K.st K.sh) s k).1, .int .i64 (dropAns (cmpOf K.lns K.st K.sh) s k).2]) := by
 have hT := told_cmpOf K.lns K.st K.sh
 have hfew := h.few
 intro W hW
 have hKW := (hK.below hX hW).here
 have hz := hW.size
 refine (IxDelete_any K.lns K.bc K.bm K.st K.sh X Sx bx s k W hKW.1 hKW.2.ok (h.ix.below hW) (by omega)).mono ?_
 rintro e w1 ⟨rfl, h1⟩
 obtain ⟨_, _, hf⟩ := h.mid hK hX hW h1 (Below.refl _ _)
 refine ⟨by unfold dropAns; split <;> rfl, hf, fun W' hW' => ?_⟩
 obtain ⟨hy, hTB, _⟩ := h.mid hK hX hW h1 hW'
 refine (rxDelete_any k W' hTB hy (by have := hW'.size; omega) (by omega)).mono ?_
 rintro e w2 ⟨rfl, h2⟩
 refine ⟨by unfold dropAns; rw [h.ok.has]; split <;> rfl, h.done hW h1 hW' h2 ?_ ?_⟩
 ·by_cases h0 : k.size ≤ 64
  ·rw [nowOf_drop h0]
   unfold rxDropSt
   by_cases ht : Tm.thereD (normOf K.lns) ds k = true
   ·rw [if_pos ⟨h0, ht⟩]; exact h.ok.drop k _
   ·rw [if_neg (fun e => ht e.2)]
    have hno : Tm.ixDrop (cmpOf K.lns K.st K.sh) (nowOf s) k = nowOf s := by
     have hh : Tm.ixHas (cmpOf K.lns K.st K.sh) (nowOf s) k = false := by rw [h.ok.has]; simpa using ht
     exact Tm.ixDrop_gone hh
    rw [hno]; exact h.ok
  ·have e1 : dropSt (cmpOf K.lns K.st K.sh) s k = s := by unfold dropSt; rw [if_pos (by omega)]
   have e2 : rxDropSt (normOf K.lns) ds k = ds := by unfold rxDropSt; rw [if_neg (fun e => h0 e.1)]
   rw [e1, e2]
   exact h.ok
 ·unfold rxDropSt; split
  ·simp; omega
  ·omega
def getAns (c : ByteArray → ByteArray → Int) (s : IxSt) (k : ByteArray) : ByteArray × Bool × Int := if k.size ≤ 64 then ((Tm.ixGet c (nowOf s) k).getD ⟨#[]⟩, Tm.ixHas c (nowOf s) k, 0) else (⟨#[]⟩, false, 7)
theorem Parts.get {w : World} {X bw : Nat} {S : Nat → Prop} {bp : Nat} {K : Kit} {N bx by_ : Nat} {Sx Sy : Nat → Prop} {s : IxSt} {ds : List Tm.Deed} (h : Parts w X S bp K N bx by_ Sx Sy s ds) (hK : KitIs X bw K w) (hX : X ≤ w.heap.size) (hN : N ≤ 90000000) (k : ByteArray) :
  Both 25 146 [.string k] w X S bp K (N + 1) bx by_ (.tuple #[.string (getAns (cmpOf K.lns K.st K.sh) s k).1, .bool (getAns (cmpOf K.lns K.st K.sh) s k).2.1, .int .i64 (getAns (cmpOf K.lns K.st K.sh) s k).2.2]) := by
 have hT := told_cmpOf K.lns K.st K.sh
 have hfew := h.few
 intro W hW
 have hKW := (hK.below hX hW).here
 refine (IxGet_any K.lns K.bc K.bm K.st K.sh X Sx bx s k W hKW.1 hKW.2.ok (h.ix.below hW)).mono ?_
 rintro e w1 ⟨rfl, hb1⟩
 have h1 := IxStep.of_below (h.ix.below hW) hb1
 obtain ⟨_, _, hf⟩ := h.mid hK hX hW h1 (Below.refl _ _)
 refine ⟨by unfold getAns; split <;> rfl, hf, fun W' hW' => ?_⟩
 obtain ⟨hy, hTB, _⟩ := h.mid hK hX hW h1 hW'
 refine (rxGet_any k W' hTB hy (by omega)).mono ?_
 rintro e w2 ⟨rfl, hb2⟩
 refine ⟨?_, h.done hW h1 hW' (RxStep.of_below hy hb2) h.ok (by omega)⟩
 unfold getAns
 rw [h.ok.has]
 by_cases h0 : k.size ≤ 64
 ·rw [if_pos h0, if_pos h0]
  unfold rxGetV
  by_cases ht : Tm.thereD (normOf K.lns) ds k = true
  ·rw [if_pos ht, h.ok.get hT ht]; rfl
  ·rw [if_neg ht]
   have hh : Tm.ixHas (cmpOf K.lns K.st K.sh) (nowOf s) k = false := by rw [h.ok.has]; simpa using ht
   rw [Tm.ixGet_at hT h.ok.rises, if_neg (by rw [hh]; exact Bool.false_ne_true)]; rfl
 ·rw [if_neg h0, if_neg h0]
set_option maxRecDepth 100000 in
set_option maxHeartbeats 4000000 in
theorem onKey_put (X bw : Nat) (S : Nat → Prop) (bp : Nat) (K : Kit) (N : Nat) (ix : Int) (key val : ByteArray) (n lim : Int) (a : Option Addr) (m c : Nat) (w : World) (hS : Shelf w X S bp K N) (hK : KitIs X bw K w) (hX : X ≤ w.heap.size) (hN : N ≤ 90000000) :
  Calls Tryz.prog 103 #[.pointer (some ⟨bw, 0, none⟩), .pointer (some ⟨bp, 0, none⟩), .agg #[.int .i64 2, .int .i64 ix, .string key, .string val, .int .i64 n, .int .i64 lim, .slice a m c]] w fun e w' => e = .returned (.bool true) ∧ ShelfStep w w' X S bp K (N + 1) := by
 obtain ⟨bx, by_, Sx, Sy, s, ds, hP⟩ := hS.parts
 have C1 := hide (hP.put hK hX hN key val)
 generalize putErr (cmpOf K.lns K.st K.sh) s key val = er at C1
 unfold Both at C1
 have hbp := (hP.from_ bp hP.own).2
 have HSL : Hid (∀ i, S i → i < w.heap.size) := fun i hi => (hP.from_ i hi).2
 have HC0 := hide hP.c0
 obtain ⟨W0, hW0⟩ : ∃ W0, w.alloc (.cells #[.int .i64 2, .int .i64 ix, .string key, .string val, .int .i64 n, .int .i64 lim, .slice a m c] 110) = W0 := ⟨_, rfl⟩
 have HBW : Hid (Below w.heap.size w W0) := by unfold Hid; rw [← hW0]; exact (Below.refl _ _).alloc (Nat.le_refl _) _
 have c0 : W0.cell? ⟨bp, 0, none⟩ = some (.pointer (some ⟨bx, 0, none⟩)) := by rw [HBW.out.cell (p := ⟨bp, 0, none⟩) hbp]; exact HC0.out
 have k0 : W0.cell? ⟨w.heap.size, 0, none⟩ = some (.int .i64 2) := by rw [← hW0, cell_new rfl]; rfl
 have HKC : Hid (∀ w' : World, W0.heap.size ≤ w'.heap.size → w'.heap[w.heap.size]? = W0.heap[w.heap.size]? → w'.cell? ⟨w.heap.size, 2, none⟩ = some (.string key) ∧ w'.cell? ⟨w.heap.size, 3, none⟩ = some (.string val)) := fun w' _ h => by
  rw [World.cell?_of_block (a := ⟨w.heap.size, 2, none⟩) h, World.cell?_of_block (a := ⟨w.heap.size, 3, none⟩) h, ← hW0, cell_new rfl, cell_new rfl]
  exact ⟨rfl, rfl⟩
 obtain ⟨k2, k3⟩ := HKC.out W0 (Nat.le_refl _) rfl
 have hzW : W0.heap.size = w.heap.size + 1 := by rw [← hW0]; simp
 have HW0 := hide hW0
 clear hP hS hK hW0
 go_enter Tryz.func103, Tryz.ntmps103
 go_upto_region 1 with fail
 rw [HW0.out]
 go_upto_region 3 with fail
 go_cut [7] from 23 to 31 (fun t wx => t = .int .i64 er ∧ Hid ((Foot S W0 wx ∧ wx.cell? ⟨bp, 0, none⟩ = some (.pointer (some ⟨bx, 0, none⟩)) ∧ wx.cell? ⟨bp, 1, none⟩ = some (.pointer (some ⟨by_, 0, none⟩)) ∧ W0.heap.size ≤ wx.heap.size) ∧ ∀ W', Below wx.heap.size wx W' → Calls Tryz.prog 144 #[.pointer (some ⟨by_, 0, none⟩), .string key, .string val] W' fun e w2 => e = .returned (.int .i64 er) ∧ ShelfStep w w2 X S bp K (N + 1) ∧ Foot S wx w2 ∧ w2.cell? ⟨bp, 1, none⟩ = some (.pointer (some ⟨by_, 0, none⟩))))
 case first =>
  go_region_held3 (fun wx => wx.cell? ⟨bp, 0, none⟩ = some (.pointer (some ⟨bx, 0, none⟩)) ∧ wx.cell? ⟨w.heap.size, 2, none⟩ = some (.string key) ∧ wx.cell? ⟨w.heap.size, 3, none⟩ = some (.string val)) (go_keep)
   (first | (go_at_call 33; refine (C1.out _ HBW.out.drew).mono ?_; rintro e w1 ⟨rfl, hm, hc⟩; have HM : Hid (Foot S W0 w1 ∧ w1.cell? ⟨bp, 0, none⟩ = some (.pointer (some ⟨bx, 0, none⟩)) ∧ w1.cell? ⟨bp, 1, none⟩ = some (.pointer (some ⟨by_, 0, none⟩)) ∧ W0.heap.size ≤ w1.heap.size) := ⟨⟨hm.1.os, hm.1.tape, hm.1.output, hm.1.size, hm.1.block⟩, hm.2⟩; have HC := hide hc; obtain ⟨e2, e3⟩ := HKC.out w1 HM.out.2.2.2 (HM.out.1.block _ (by omega) (fun e => by have := HSL.out _ e; omega)); have e0 := HM.out.2.1; clear hm hc))
  all_goals (go_wp2_with fail; go_meet; exact ⟨rfl, HM.out, HC.out⟩)
 case rest =>
  obtain ⟨rfl, HM⟩ := hcut
  have hz1 := HM.out.1.2.2.2
  have hB1 : wc.heap[w.heap.size]? = W0.heap[w.heap.size]? := HM.out.1.1.block _ (by omega) (fun e => by have := HSL.out _ e; omega)
  have HB1 := hide hB1
  clear c0 k0 k2 k3 hB1
  have c1 := HM.out.1.2.2.1
  obtain ⟨k2, k3⟩ := HKC.out wc hz1 HB1.out
  go_upto_region 4 with fail
  obtain ⟨w1, rfl⟩ : ∃ w1 : World, w1 = wc := ⟨_, rfl⟩
  go_cut [8] from 32 to 40 (fun t wx => t = .int .i64 er ∧ Hid (ShelfStep w wx X S bp K (N + 1)))
  case first =>
   go_region_held3 (fun wx => wx.cell? ⟨bp, 1, none⟩ = some (.pointer (some ⟨by_, 0, none⟩)) ∧ wx.cell? ⟨w.heap.size, 2, none⟩ = some (.string key) ∧ wx.cell? ⟨w.heap.size, 3, none⟩ = some (.string val)) (go_keep)
    (first | (go_at_call 144; refine (HM.out.2 _ (Below.refl _ _).drew).mono ?_; rintro e w2 ⟨rfl, hs, hf, e1⟩; have HS := hide hs; obtain ⟨e2, e3⟩ := HKC.out w2 (by have := hf.size; omega) ((hf.block _ (by omega) (fun e => by have := HSL.out _ e; omega)).trans HB1.out); clear hs hf))
   all_goals (go_wp2_with fail; go_meet; exact ⟨rfl, HS.out⟩)
  case rest =>
   obtain ⟨rfl, HS⟩ := hcut
   go_wp2
   go_ret
   exact ⟨rfl, HS.out⟩
set_option maxRecDepth 100000 in
set_option maxHeartbeats 4000000 in
theorem onKey_drop (X bw : Nat) (S : Nat → Prop) (bp : Nat) (K : Kit) (N : Nat) (ix : Int) (key val : ByteArray) (n lim : Int) (a : Option Addr) (m c : Nat) (w : World) (hS : Shelf w X S bp K N) (hK : KitIs X bw K w) (hX : X ≤ w.heap.size) (hN : N ≤ 90000000) :
  Calls Tryz.prog 103 #[.pointer (some ⟨bw, 0, none⟩), .pointer (some ⟨bp, 0, none⟩), .agg #[.int .i64 3, .int .i64 ix, .string key, .string val, .int .i64 n, .int .i64 lim, .slice a m c]] w fun e w' => e = .returned (.bool true) ∧ ShelfStep w w' X S bp K (N + 1) := by
 obtain ⟨bx, by_, Sx, Sy, s, ds, hP⟩ := hS.parts
 have C1 := hide (hP.drop hK hX hN key)
 generalize dropAns (cmpOf K.lns K.st K.sh) s key = an at C1
 obtain ⟨ab, er⟩ := an
 simp only at C1
 unfold Both at C1
 have hbp := (hP.from_ bp hP.own).2
 have HSL : Hid (∀ i, S i → i < w.heap.size) := fun i hi => (hP.from_ i hi).2
 have HC0 := hide hP.c0
 obtain ⟨W0, hW0⟩ : ∃ W0, w.alloc (.cells #[.int .i64 3, .int .i64 ix, .string key, .string val, .int .i64 n, .int .i64 lim, .slice a m c] 110) = W0 := ⟨_, rfl⟩
 have HBW : Hid (Below w.heap.size w W0) := by unfold Hid; rw [← hW0]; exact (Below.refl _ _).alloc (Nat.le_refl _) _
 have c0 : W0.cell? ⟨bp, 0, none⟩ = some (.pointer (some ⟨bx, 0, none⟩)) := by rw [HBW.out.cell (p := ⟨bp, 0, none⟩) hbp]; exact HC0.out
 have k0 : W0.cell? ⟨w.heap.size, 0, none⟩ = some (.int .i64 3) := by rw [← hW0, cell_new rfl]; rfl
 have HKC : Hid (∀ w' : World, W0.heap.size ≤ w'.heap.size → w'.heap[w.heap.size]? = W0.heap[w.heap.size]? → w'.cell? ⟨w.heap.size, 2, none⟩ = some (.string key)) := fun w' _ h => by
  rw [World.cell?_of_block (a := ⟨w.heap.size, 2, none⟩) h, ← hW0, cell_new rfl]
  rfl
 have k2 := HKC.out W0 (Nat.le_refl _) rfl
 have hzW : W0.heap.size = w.heap.size + 1 := by rw [← hW0]; simp
 have HW0 := hide hW0
 clear hP hS hK hW0
 go_enter Tryz.func103, Tryz.ntmps103
 go_upto_region 1 with fail
 rw [HW0.out]
 go_upto_region 7 with fail
 go_cut [9, 10] from 46 to 55 (fun t u wx => t = .bool ab ∧ u = .int .i64 er ∧ Hid ((Foot S W0 wx ∧ wx.cell? ⟨bp, 0, none⟩ = some (.pointer (some ⟨bx, 0, none⟩)) ∧ wx.cell? ⟨bp, 1, none⟩ = some (.pointer (some ⟨by_, 0, none⟩)) ∧ W0.heap.size ≤ wx.heap.size) ∧ ∀ W', Below wx.heap.size wx W' → Calls Tryz.prog 145 #[.pointer (some ⟨by_, 0, none⟩), .string key] W' fun e w2 => e = .returned (.tuple #[.bool ab, .int .i64 er]) ∧ ShelfStep w w2 X S bp K (N + 1) ∧ Foot S wx w2 ∧ w2.cell? ⟨bp, 1, none⟩ = some (.pointer (some ⟨by_, 0, none⟩))))
 case first =>
  go_region_held3 (fun wx => wx.cell? ⟨bp, 0, none⟩ = some (.pointer (some ⟨bx, 0, none⟩)) ∧ wx.cell? ⟨w.heap.size, 2, none⟩ = some (.string key)) (go_keep)
   (first | (go_at_call 58; refine (C1.out _ HBW.out.drew).mono ?_; rintro e w1 ⟨rfl, hm, hc⟩; have HM : Hid (Foot S W0 w1 ∧ w1.cell? ⟨bp, 0, none⟩ = some (.pointer (some ⟨bx, 0, none⟩)) ∧ w1.cell? ⟨bp, 1, none⟩ = some (.pointer (some ⟨by_, 0, none⟩)) ∧ W0.heap.size ≤ w1.heap.size) := ⟨⟨hm.1.os, hm.1.tape, hm.1.output, hm.1.size, hm.1.block⟩, hm.2⟩; have HC := hide hc; have e2 := HKC.out w1 HM.out.2.2.2 (HM.out.1.block _ (by omega) (fun e => by have := HSL.out _ e; omega)); have e0 := HM.out.2.1; clear hm hc))
  all_goals (go_wp2_with fail; go_meet; exact ⟨rfl, rfl, HM.out, HC.out⟩)
 case rest =>
  obtain ⟨rfl, rfl, HM⟩ := hcut
  have hz1 := HM.out.1.2.2.2
  have hB1 : wc.heap[w.heap.size]? = W0.heap[w.heap.size]? := HM.out.1.1.block _ (by omega) (fun e => by have := HSL.out _ e; omega)
  have HB1 := hide hB1
  clear c0 k0 k2 hB1
  have c1 := HM.out.1.2.2.1
  have k2 := HKC.out wc hz1 HB1.out
  go_upto_region 8 with fail
  obtain ⟨w1, rfl⟩ : ∃ w1 : World, w1 = wc := ⟨_, rfl⟩
  go_cut [11, 12] from 56 to 65 (fun t u wx => t = .bool ab ∧ u = .int .i64 er ∧ Hid (ShelfStep w wx X S bp K (N + 1)))
  case first =>
   go_region_held3 (fun wx => wx.cell? ⟨bp, 1, none⟩ = some (.pointer (some ⟨by_, 0, none⟩)) ∧ wx.cell? ⟨w.heap.size, 2, none⟩ = some (.string key)) (go_keep)
    (first | (go_at_call 145; refine (HM.out.2 _ (Below.refl _ _).drew).mono ?_; rintro e w2 ⟨rfl, hs, hf, e1⟩; have HS := hide hs; have e2 := HKC.out w2 (by have := hf.size; omega) ((hf.block _ (by omega) (fun e => by have := HSL.out _ e; omega)).trans HB1.out); clear hs hf))
   all_goals (go_wp2_with fail; go_meet; exact ⟨rfl, rfl, HS.out⟩)
  case rest =>
   obtain ⟨rfl, rfl, HS⟩ := hcut
   go_wp2
   go_ret
   exact ⟨rfl, HS.out⟩
set_option maxRecDepth 100000 in
set_option maxHeartbeats 4000000 in
theorem onKey_get (X bw : Nat) (S : Nat → Prop) (bp : Nat) (K : Kit) (N : Nat) (ix : Int) (key val : ByteArray) (n lim : Int) (a : Option Addr) (m c : Nat) (w : World) (hS : Shelf w X S bp K N) (hK : KitIs X bw K w) (hX : X ≤ w.heap.size) (hN : N ≤ 90000000) :
  Calls Tryz.prog 103 #[.pointer (some ⟨bw, 0, none⟩), .pointer (some ⟨bp, 0, none⟩), .agg #[.int .i64 4, .int .i64 ix, .string key, .string val, .int .i64 n, .int .i64 lim, .slice a m c]] w fun e w' => e = .returned (.bool true) ∧ ShelfStep w w' X S bp K (N + 1) := by
 obtain ⟨bx, by_, Sx, Sy, s, ds, hP⟩ := hS.parts
 have C1 := hide (hP.get hK hX hN key)
 generalize getAns (cmpOf K.lns K.st K.sh) s key = an at C1
 obtain ⟨av, ab, er⟩ := an
 simp only at C1
 unfold Both at C1
 have hbp := (hP.from_ bp hP.own).2
 have HSL : Hid (∀ i, S i → i < w.heap.size) := fun i hi => (hP.from_ i hi).2
 have HC0 := hide hP.c0
 obtain ⟨W0, hW0⟩ : ∃ W0, w.alloc (.cells #[.int .i64 4, .int .i64 ix, .string key, .string val, .int .i64 n, .int .i64 lim, .slice a m c] 110) = W0 := ⟨_, rfl⟩
 have HBW : Hid (Below w.heap.size w W0) := by unfold Hid; rw [← hW0]; exact (Below.refl _ _).alloc (Nat.le_refl _) _
 have c0 : W0.cell? ⟨bp, 0, none⟩ = some (.pointer (some ⟨bx, 0, none⟩)) := by rw [HBW.out.cell (p := ⟨bp, 0, none⟩) hbp]; exact HC0.out
 have k0 : W0.cell? ⟨w.heap.size, 0, none⟩ = some (.int .i64 4) := by rw [← hW0, cell_new rfl]; rfl
 have HKC : Hid (∀ w' : World, W0.heap.size ≤ w'.heap.size → w'.heap[w.heap.size]? = W0.heap[w.heap.size]? → w'.cell? ⟨w.heap.size, 2, none⟩ = some (.string key)) := fun w' _ h => by
  rw [World.cell?_of_block (a := ⟨w.heap.size, 2, none⟩) h, ← hW0, cell_new rfl]
  rfl
 have k2 := HKC.out W0 (Nat.le_refl _) rfl
 have hzW : W0.heap.size = w.heap.size + 1 := by rw [← hW0]; simp
 have HW0 := hide hW0
 clear hP hS hK hW0
 go_enter Tryz.func103, Tryz.ntmps103
 go_upto_region 1 with fail
 rw [HW0.out]
 go_upto_region 10 with fail
 go_cut [13, 14, 15] from 74 to 84 (fun t u x wx => t = .string av ∧ u = .bool ab ∧ x = .int .i64 er ∧ Hid ((Foot S W0 wx ∧ wx.cell? ⟨bp, 0, none⟩ = some (.pointer (some ⟨bx, 0, none⟩)) ∧ wx.cell? ⟨bp, 1, none⟩ = some (.pointer (some ⟨by_, 0, none⟩)) ∧ W0.heap.size ≤ wx.heap.size) ∧ ∀ W', Below wx.heap.size wx W' → Calls Tryz.prog 146 #[.pointer (some ⟨by_, 0, none⟩), .string key] W' fun e w2 => e = .returned (.tuple #[.string av, .bool ab, .int .i64 er]) ∧ ShelfStep w w2 X S bp K (N + 1) ∧ Foot S wx w2 ∧ w2.cell? ⟨bp, 1, none⟩ = some (.pointer (some ⟨by_, 0, none⟩))))
 case first =>
  go_region_held3 (fun wx => wx.cell? ⟨bp, 0, none⟩ = some (.pointer (some ⟨bx, 0, none⟩)) ∧ wx.cell? ⟨w.heap.size, 2, none⟩ = some (.string key)) (go_keep)
   (first | (go_at_call 25; refine (C1.out _ HBW.out.drew).mono ?_; rintro e w1 ⟨rfl, hm, hc⟩; have HM : Hid (Foot S W0 w1 ∧ w1.cell? ⟨bp, 0, none⟩ = some (.pointer (some ⟨bx, 0, none⟩)) ∧ w1.cell? ⟨bp, 1, none⟩ = some (.pointer (some ⟨by_, 0, none⟩)) ∧ W0.heap.size ≤ w1.heap.size) := ⟨⟨hm.1.os, hm.1.tape, hm.1.output, hm.1.size, hm.1.block⟩, hm.2⟩; have HC := hide hc; have e2 := HKC.out w1 HM.out.2.2.2 (HM.out.1.block _ (by omega) (fun e => by have := HSL.out _ e; omega)); have e0 := HM.out.2.1; clear hm hc))
  all_goals (go_wp2_with fail; go_meet; exact ⟨rfl, rfl, rfl, HM.out, HC.out⟩)
 case rest =>
  obtain ⟨rfl, rfl, rfl, HM⟩ := hcut
  have hz1 := HM.out.1.2.2.2
  have hB1 : wc.heap[w.heap.size]? = W0.heap[w.heap.size]? := HM.out.1.1.block _ (by omega) (fun e => by have := HSL.out _ e; omega)
  have HB1 := hide hB1
  clear c0 k0 k2 hB1
  have c1 := HM.out.1.2.2.1
  have k2 := HKC.out wc hz1 HB1.out
  go_upto_region 11 with fail
  obtain ⟨w1, rfl⟩ : ∃ w1 : World, w1 = wc := ⟨_, rfl⟩
  go_cut [16, 17, 18] from 85 to 95 (fun t u x wx => t = .string av ∧ u = .bool ab ∧ x = .int .i64 er ∧ Hid (ShelfStep w wx X S bp K (N + 1)))
  case first =>
   go_region_held3 (fun wx => wx.cell? ⟨bp, 1, none⟩ = some (.pointer (some ⟨by_, 0, none⟩)) ∧ wx.cell? ⟨w.heap.size, 2, none⟩ = some (.string key)) (go_keep)
    (first | (go_at_call 146; refine (HM.out.2 _ (Below.refl _ _).drew).mono ?_; rintro e w2 ⟨rfl, hs, hf, e1⟩; have HS := hide hs; have e2 := HKC.out w2 (by have := hf.size; omega) ((hf.block _ (by omega) (fun e => by have := HSL.out _ e; omega)).trans HB1.out); clear hs hf))
   all_goals (go_wp2_with fail; go_meet; exact ⟨rfl, rfl, rfl, HS.out⟩)
  case rest =>
   obtain ⟨rfl, rfl, rfl, HS⟩ := hcut
   go_wp2
   go_ret
   exact ⟨rfl, HS.out⟩
theorem scan_both {K : Kit} {X : Nat} {Sx Sy : Nat → Prop} {bx by_ : Nat} {s : IxSt} {ds : List Tm.Deed} (lo hi : ByteArray) (limit : Int) (w : World) (hc : Coll w K.bc K.bm K.st K.sh K.lns) (hT : TabOk w K.vT K.st K.lns) (hx : Ix w X Sx bx K.bc K.st K.sh K.lns s) (hy : Rx w X Sy by_ K.vT K.st K.sh K.lns ds) (hok : Tm.DeedsOk (cmpOf K.lns K.st K.sh) (normOf K.lns) ds (nowOf s)) (hlim : -9223372036854775808 ≤ limit ∧ limit ≤ 9223372036854775807) (hfew : ds.length ≤ 90000000) :
  ∃ (l : Tm.Ents) (er : Int), l.length ≤ 64 ∧
   (Calls Tryz.prog 21 #[.pointer (some ⟨bx, 0, none⟩), .int .i64 0, .string lo, .string hi, .int .i64 limit] w fun e w' => ∃ v, e = .returned (.tuple #[v, .int .i64 er]) ∧ w'.ownsRow w.heap.size 67 2 v l.length (entCells l) ∧ Below w.heap.size w w') ∧
   ∀ W, Below w.heap.size w W → Calls Tryz.prog 137 #[.pointer (some ⟨by_, 0, none⟩), .int .i64 0, .string lo, .string hi, .int .i64 limit] W fun e w' => ∃ v, e = .returned (.tuple #[v, .int .i64 er]) ∧ Reads w' v 2 l.length (entCells l) ∧ Below W.heap.size W w' := by
 have c1 := IxScan_any K.lns K.bc K.bm K.st K.sh X Sx bx s lo hi limit w hc hT.ok hx hlim
 have c2 := fun W (hW : Below w.heap.size w W) => rxScan_any (by_ := by_) (sh := K.sh) lo hi limit W (hT.below hW) (hy.below hW) hlim hfew
 by_cases h1 : 64 < lo.size ∨ 64 < hi.size
 ·refine ⟨[], 7, by simp, c1.mono ?_, fun W hW => (c2 W hW).mono ?_⟩
  ·rintro e w' ⟨hb, he⟩
   rw [if_pos h1] at he
   exact ⟨_, he, World.ownsRow_nil _ _ _ _, hb⟩
  ·rintro e w' ⟨hb, he⟩
   rw [if_pos h1] at he
   exact ⟨_, he, Reads.of_owns (World.ownsRow_nil _ 0 67 _), hb⟩
 ·by_cases h2 : limit < 0
  ·refine ⟨[], 10, by simp, c1.mono ?_, fun W hW => (c2 W hW).mono ?_⟩
   ·rintro e w' ⟨hb, he⟩
    rw [if_neg h1, if_pos h2] at he
    exact ⟨_, he, World.ownsRow_nil _ _ _ _, hb⟩
   ·rintro e w' ⟨hb, he⟩
    rw [if_neg h1, if_pos h2] at he
    exact ⟨_, he, Reads.of_owns (World.ownsRow_nil _ 0 67 _), hb⟩
  ·refine ⟨(Tm.ixScan (cmpOf K.lns K.st K.sh) (nowOf s) lo hi).take limit.toNat, 0, ?_, c1.mono ?_, fun W hW => (c2 W hW).mono ?_⟩
   ·have := List.length_filter_le (Tm.within (cmpOf K.lns K.st K.sh) lo hi) (nowOf s)
    have h64 := hx.few
    rw [List.length_take]
    unfold Tm.ixScan
    omega
   ·rintro e w' ⟨hb, he⟩
    rw [if_neg h1, if_neg h2] at he
    obtain ⟨v, he, ho⟩ := he
    exact ⟨v, he, ho, hb⟩
   ·rintro e w' ⟨hb, he⟩
    rw [if_neg h1, if_neg h2, ← hok.scan (told_cmpOf _ _ _)] at he
    obtain ⟨v, he, ho⟩ := he
    exact ⟨v, he, ho, hb⟩
set_option maxRecDepth 100000 in
set_option maxHeartbeats 4000000 in
theorem scanned_any (X bw : Nat) (SB S : Nat → Prop) (vb : Value) (rows : List Value) (bp : Nat) (K : Kit) (N : Nat) (lo hi : ByteArray) (limit : Int) (w : World) (hB : NBook w bw 9 X SB vb rows) (hS : Shelf w X S bp K N) (hK : KitIs X bw K w) (hX : X ≤ w.heap.size) (hlim : -9223372036854775808 ≤ limit ∧ limit ≤ 9223372036854775807) (hN : N ≤ 90000000) (hr : rows.length ≤ 100000000) :
  Calls Tryz.prog 98 #[.pointer (some ⟨bw, 0, none⟩), .pointer (some ⟨bp, 0, none⟩), .int .i64 0, .string lo, .string hi, .int .i64 limit] w fun e w' => e = .returned (.bool true) ∧ BookStep w w' bw 9 X SB rows := by
 obtain ⟨bx, by_, Sx, Sy, s, ds, h0, h1, hx, hy, hsx, hsy, hok, hn⟩ := hS.is
 obtain ⟨l, er, hl, hc1, hc2⟩ := scan_both lo hi limit w hK.here.1 hK.here.2 hx hy hok hlim (by omega)
 have hbp := (hS.from_ bp hS.own).2
 have hbw := hB.lt
 have C1 := hide hc1
 have C2 := hide hc2
 have HB := hide hB
 have H1 := hide h1
 clear hc1 hc2 hx hy hsx hsy hok hS hK hB
 go_enter Tryz.func98, Tryz.ntmps98
 go_wp2_with fail
 refine C1.out.mono ?_
 rintro e w1 ⟨v1, rfl, ho1, hb1⟩
 have hz1 := hb1.size
 have h1' : w1.cell? ⟨bp, 1, none⟩ = some (.pointer (some ⟨by_, 0, none⟩)) := by rw [hb1.cell (p := ⟨bp, 1, none⟩) hbp]; exact H1.out
 have C2' := hide (C2.out w1 hb1)
 have HB1 := hide hb1
 have HO1 := hide ho1
 clear ho1 hb1 h0 h1
 go_wp2_with fail
 refine C2'.out.mono ?_
 rintro e w2 ⟨v2, rfl, hr2, hb2⟩
 have HB2 : Hid (Below w.heap.size w w2) := HB1.out.trans (hb2.mono hz1)
 have HO2 : Hid (w2.ownsRow w.heap.size 67 2 v1 l.length (entCells l)) := ownsRow_same HO1.out (fun g hg => hb2.block g (HO1.out.lt g hg).2)
 have CS := hide (lawSameEnts_any v1 v2 l w2 (Reads.of_owns HO2.out) hr2 (by omega))
 clear hr2 hb2
 go_wp2_with fail
 refine CS.out.mono ?_
 rintro e w3 ⟨rfl, q, rfl⟩
 have HB3 : Hid (Below w.heap.size w (w2.drewN q)) := ⟨HB2.out.os, HB2.out.tape, HB2.out.output, HB2.out.size, HB2.out.block⟩
 have hbk := HB.out.below HB3.out
 have CK := hide (keepEntries_any bw 9 X w.heap.size vb v1 rows l (w2.drewN q) hbk.cell hbk.free hbk.row (ownsRow_same HO2.out (fun _ _ => rfl)) hbw (fun g hg => ⟨(HB.out.from_ g (HB.out.own g hg)).2.1, (HB.out.from_ g (HB.out.own g hg)).2.2⟩) HB3.out.size hX hr (by omega))
 clear hbk
 have hbw2 : bw < w2.heap.size := by have := HB2.out.size; omega
 go_wp2_with fail
 refine CK.out.mono ?_
 rintro e w4 ⟨rfl, vb', u1, u2, u3, hk⟩
 have HR := hide (BookStep.of HB.out hX HB3.out hk (by omega))
 clear hk
 go_wp2
 go_ret
 exact ⟨rfl, HR.out⟩
set_option maxRecDepth 100000 in
theorem lawPick_any (c : Int) (n : Nat) (hc : -9223372036854775808 ≤ c ∧ c ≤ 9223372036854775807) (hn : 0 < n) (hn2 : n ≤ 1000000000) :
  ∃ k : Nat, k < n ∧ ∀ w, Calls Tryz.prog 97 #[.int .i64 c, .int .i64 n] w fun e w' => e = .returned (.int .i64 k) ∧ w' = w := by
 obtain ⟨h1, h2⟩ := hc
 have hn0 : (0 : Int) < (n : Int) := by omega
 have hmod : ∀ d : Int, 0 ≤ d → ∃ k : Nat, k < n ∧ d % (n : Int) = k := fun d _ => ⟨(d % (n : Int)).toNat, by have := Int.emod_lt_of_pos d hn0; have := Int.emod_nonneg d (by omega : (n : Int) ≠ 0); omega, by have := Int.emod_nonneg d (by omega : (n : Int) ≠ 0); omega⟩
 by_cases h : c < 0
 ·have HK : Hid (∃ k : Nat, k < n ∧ -(c + 1).tmod (n : Int) = k) := by
   unfold Hid
   rw [← Int.neg_tmod, Int.tmod_eq_emod_of_nonneg (by omega)]
   exact hmod _ (by omega)
  clear hmod
  obtain ⟨k, hk, he⟩ := HK.out
  refine ⟨k, hk, fun w => ?_⟩
  go_enter Tryz.func97, Tryz.ntmps97
  go_wp2
  go_ret
  exact ⟨rfl, rfl⟩
 ·have HK : Hid (∃ k : Nat, k < n ∧ c.tmod (n : Int) = k) := by
   unfold Hid
   rw [Int.tmod_eq_emod_of_nonneg (by omega)]
   exact hmod _ (by omega)
  clear hmod
  obtain ⟨k, hk, he⟩ := HK.out
  refine ⟨k, hk, fun w => ?_⟩
  go_enter Tryz.func97, Tryz.ntmps97
  go_wp2
  go_ret
  exact ⟨rfl, rfl⟩
structure Pr where
 bp : Nat
 S : Nat → Prop
 K : Kit
def prCells (ps : List Pr) : List Value := ps.map fun p => .pointer (some ⟨p.bp, 0, none⟩)
theorem prCells_length (ps : List Pr) : (prCells ps).length = ps.length := List.length_map _
def KitCells (w : World) (bw o : Nat) (K : Kit) : Prop := w.cell? ⟨bw, o, none⟩ = some (.pointer (some ⟨K.bc, 0, none⟩)) ∧ w.cell? ⟨bw, o + 1, none⟩ = some K.vT ∧ w.cell? ⟨bw, o + 2, none⟩ = some (.int .i64 K.st) ∧ w.cell? ⟨bw, o + 3, none⟩ = some (.bool K.sh)
structure Wd (w : World) (X bw : Nat) (K1 K2 : Kit) (SB : Nat → Prop) (vb : Value) (rows : List Value) (vp : Value) (ps : List Pr) (N : Nat) : Prop where
 book : NBook w bw 9 X SB vb rows
 cells1 : KitCells w bw 0 K1
 cells2 : KitCells w bw 4 K2
 most : w.cell? ⟨bw, 13, none⟩ = some (.int .i64 5)
 cp : w.cell? ⟨bw, 8, none⟩ = some vp
 free : ∀ o, w.frozen? ⟨bw, o, none⟩ = false
 row : w.ownsRow X 178 1 vp ps.length (prCells ps)
 rowN : ∀ g, vp.ownBlock = some g → g ≠ bw ∧ ¬ SB g ∧ ∀ p ∈ ps, ¬ p.S g
 kit1 : KitIs X bw K1 w
 kit2 : KitIs X bw K2 w
 kits : ∀ p ∈ ps, p.K = K1 ∨ p.K = K2
 shelf : ∀ p ∈ ps, Shelf w X p.S p.bp p.K N
 apart : ps.Pairwise (fun p q => ∀ i, p.S i → ¬ q.S i)
 apartB : ∀ p ∈ ps, ∀ i, p.S i → ¬ SB i ∧ i ≠ bw
 bwX : bw < X
 size : X ≤ w.heap.size
def WdStep (w w' : World) (X bw : Nat) (K1 K2 : Kit) (R P N : Nat) : Prop :=
 ∃ SB vb rows vp ps, Wd w' X bw K1 K2 SB vb rows vp ps N ∧ rows.length ≤ R ∧ 0 < ps.length ∧ ps.length ≤ P ∧ Foot (fun i => X ≤ i ∨ i = bw) w w'
theorem Wd.kitOf {w : World} {X bw : Nat} {K1 K2 : Kit} {SB : Nat → Prop} {vb : Value} {rows : List Value} {vp : Value} {ps : List Pr} {N : Nat} (h : Wd w X bw K1 K2 SB vb rows vp ps N) {p : Pr} (hp : p ∈ ps) : KitIs X bw p.K w := by
 rcases h.kits p hp with e | e
 ·rw [e]; exact h.kit1
 ·rw [e]; exact h.kit2
theorem KitCells.keep {w w' : World} {bw o : Nat} {K : Kit} (h : KitCells w bw o K) (hk : ∀ q, q ≤ o + 3 → w'.cell? ⟨bw, q, none⟩ = w.cell? ⟨bw, q, none⟩) : KitCells w' bw o K := by
 unfold KitCells
 rw [hk _ (by omega), hk _ (by omega), hk _ (by omega), hk _ (by omega)]
 exact h
theorem Wd.foot {w w' : World} {X bw : Nat} {K1 K2 : Kit} {SB T : Nat → Prop} {vb : Value} {rows : List Value} {vp : Value} {ps : List Pr} {N : Nat} (h : Wd w X bw K1 K2 SB vb rows vp ps N) (hf : Foot T w w') (hT : ∀ i, T i → X ≤ i) (hB : ∀ i, SB i → ¬ T i) (hP : ∀ p ∈ ps, ∀ i, p.S i → ¬ T i) (hv : ∀ g, vp.ownBlock = some g → ¬ T g) : Wd w' X bw K1 K2 SB vb rows vp ps N := by
 have hbw := h.book.lt
 have hnb : ¬ T bw := fun e => by have := hT bw e; have := h.bwX; omega
 have hc : ∀ q, w'.cell? ⟨bw, q, none⟩ = w.cell? ⟨bw, q, none⟩ := fun q => hf.cell (p := ⟨bw, q, none⟩) hbw hnb
 exact ⟨h.book.foot hf hB hnb, h.cells1.keep (fun q _ => hc q), h.cells2.keep (fun q _ => hc q), by rw [hc]; exact h.most, by rw [hc]; exact h.cp, fun o => by rw [hf.frozen (p := ⟨bw, o, none⟩) hbw hnb]; exact h.free o, hf.owns h.row hv, h.rowN, h.kit1.foot h.size hf (fun i e => .inl (hT i e)), h.kit2.foot h.size hf (fun i e => .inl (hT i e)), h.kits, fun p hp => (h.shelf p hp).foot hf (hP p hp), h.apart, h.apartB, h.bwX, Nat.le_trans h.size hf.size⟩
theorem Wd.below {w w' : World} {X bw : Nat} {K1 K2 : Kit} {SB : Nat → Prop} {vb : Value} {rows : List Value} {vp : Value} {ps : List Pr} {N : Nat} (h : Wd w X bw K1 K2 SB vb rows vp ps N) (hb : Below w.heap.size w w') : Wd w' X bw K1 K2 SB vb rows vp ps N :=
 h.foot (Foot.of (S := fun _ => False) hb) (fun _ e => e.elim) (fun _ _ e => e) (fun _ _ _ _ e => e) (fun _ _ e => e)
theorem Wd.mono {w : World} {X bw : Nat} {K1 K2 : Kit} {SB : Nat → Prop} {vb : Value} {rows : List Value} {vp : Value} {ps : List Pr} {N M : Nat} (h : Wd w X bw K1 K2 SB vb rows vp ps N) (hm : N ≤ M) : Wd w X bw K1 K2 SB vb rows vp ps M :=
 ⟨h.book, h.cells1, h.cells2, h.most, h.cp, h.free, h.row, h.rowN, h.kit1, h.kit2, h.kits, fun p hp => (h.shelf p hp).mono hm, h.apart, h.apartB, h.bwX, h.size⟩
theorem Wd.shelfStep {w w' : World} {X bw : Nat} {K1 K2 : Kit} {SB : Nat → Prop} {vb : Value} {rows : List Value} {vp : Value} {ps : List Pr} {N M : Nat} (h : Wd w X bw K1 K2 SB vb rows vp ps N) {k : Nat} (hk : k < ps.length) (hm : N ≤ M) (hs : ShelfStep w w' X ps[k].S ps[k].bp ps[k].K M) : ∃ S', Wd w' X bw K1 K2 SB vb rows vp (ps.set k ⟨ps[k].bp, S', ps[k].K⟩) M ∧ Foot (fun i => X ≤ i ∨ i = bw) w w' := by
 obtain ⟨S', hsh, hf, hS⟩ := hs
 have hmem := List.getElem_mem hk
 have hbw := h.book.lt
 have hlt : ∀ p ∈ ps, ∀ i, p.S i → i < w.heap.size := fun p hp i e => ((h.shelf p hp).from_ i e).2
 have hXS : ∀ i, ps[k].S i → X ≤ i := fun i e => ((h.shelf _ hmem).from_ i e).1
 have hnb : ¬ ps[k].S bw := fun e => (h.apartB _ hmem bw e).2 rfl
 have hc : ∀ q, w'.cell? ⟨bw, q, none⟩ = w.cell? ⟨bw, q, none⟩ := fun q => hf.cell (p := ⟨bw, q, none⟩) hbw hnb
 have hap := List.pairwise_iff_getElem.1 h.apart
 have hother : ∀ j (hj : j < ps.length), j ≠ k → ∀ i, ps[j].S i → ¬ ps[k].S i := fun j hj hne i e e2 => by
  rcases Nat.lt_or_gt_of_ne hne with h1 | h1
  ·exact hap j k hj hk h1 i e e2
  ·exact hap k j hk hj h1 i e2 e
 have hcells : prCells (ps.set k ⟨ps[k].bp, S', ps[k].K⟩) = prCells ps := by
  unfold prCells
  rw [List.map_set]
  refine List.ext_getElem (by simp) (fun i h1 h2 => ?_)
  rw [List.getElem_set]
  split
  ·rename_i e
   subst e
   simp
  ·rfl
 have hmemset : ∀ p ∈ ps.set k ⟨ps[k].bp, S', ps[k].K⟩, (p.bp = ps[k].bp ∧ p.S = S' ∧ p.K = ps[k].K) ∨ ∃ j, ∃ hj : j < ps.length, j ≠ k ∧ p = ps[j] := fun p hp => by
  obtain ⟨j, hj, rfl⟩ := List.mem_iff_getElem.1 hp
  rw [List.length_set] at hj
  by_cases e : j = k
  ·subst e
   exact .inl (by rw [List.getElem_set_self]; exact ⟨rfl, rfl, rfl⟩)
  ·exact .inr ⟨j, hj, e, by rw [List.getElem_set_ne (fun e2 => e e2.symm)]⟩
 refine ⟨S', ⟨h.book.foot hf (fun i e e2 => (h.apartB _ hmem i e2).1 e) hnb, h.cells1.keep (fun q _ => hc q), h.cells2.keep (fun q _ => hc q), by rw [hc]; exact h.most, by rw [hc]; exact h.cp, fun o => by rw [hf.frozen (p := ⟨bw, o, none⟩) hbw hnb]; exact h.free o, ?_, fun g e => ?_, h.kit1.foot h.size hf (fun i e => .inl (hXS i e)), h.kit2.foot h.size hf (fun i e => .inl (hXS i e)), fun p hp => ?_, fun p hp => ?_, ?_, fun p hp i e => ?_, h.bwX, Nat.le_trans h.size hf.size⟩, hf.mono (fun i e => .inl (hXS i e))⟩
 ·rw [hcells, List.length_set]
  exact hf.owns h.row (fun g e => (h.rowN g e).2.2 _ hmem)
 ·refine ⟨(h.rowN g e).1, (h.rowN g e).2.1, fun p hp => ?_⟩
  rcases hmemset p hp with ⟨_, e2, _⟩ | ⟨j, hj, _, rfl⟩
  ·rw [e2]
   intro e3
   rcases hS g e3 with e4 | e4
   ·exact (h.rowN g e).2.2 _ hmem e4
   ·have := (h.row.lt g e).2; omega
  ·exact (h.rowN g e).2.2 _ (List.getElem_mem hj)
 ·rcases hmemset p hp with ⟨_, _, e2⟩ | ⟨j, hj, _, rfl⟩
  ·rw [e2]; exact h.kits _ hmem
  ·exact h.kits _ (List.getElem_mem hj)
 ·rcases hmemset p hp with ⟨e1, e2, e3⟩ | ⟨j, hj, hne, rfl⟩
  ·rw [e1, e2, e3]; exact hsh
  ·exact ((h.shelf _ (List.getElem_mem hj)).foot hf (hother j hj hne)).mono hm
 ·refine List.pairwise_iff_getElem.2 fun a b ha hb hab i e1 e2 => ?_
  have ha' : a < ps.length := by rw [List.length_set] at ha; exact ha
  have hb' : b < ps.length := by rw [List.length_set] at hb; exact hb
  have hnew : ∀ j (hj : j < ps.length), j ≠ k → ∀ i, ps[j].S i → ¬ S' i := fun j hj hne i e e2 => by
   rcases hS i e2 with e3 | e3
   ·exact hother j hj hne i e e3
   ·have := hlt _ (List.getElem_mem hj) i e; omega
  by_cases ea : a = k
  ·subst ea
   have eb : b ≠ a := by omega
   rw [List.getElem_set_self] at e1
   rw [List.getElem_set_ne (fun e => eb e.symm)] at e2
   exact hnew b hb' eb i e2 e1
  ·rw [List.getElem_set_ne (fun e => ea e.symm)] at e1
   by_cases eb : b = k
   ·subst eb
    rw [List.getElem_set_self] at e2
    exact hnew a ha' ea i e1 e2
   ·rw [List.getElem_set_ne (fun e => eb e.symm)] at e2
    exact hap a b ha' hb' hab i e1 e2
 ·rcases hmemset p hp with ⟨_, e2, _⟩ | ⟨j, hj, _, rfl⟩
  ·rw [e2] at e
   rcases hS i e with e3 | e3
   ·exact h.apartB _ hmem i e3
   ·exact ⟨fun e4 => by have := (h.book.from_ i e4).2.1; omega, by omega⟩
  ·exact h.apartB _ (List.getElem_mem hj) i e
theorem Wd.bookStep {w w' : World} {X bw : Nat} {K1 K2 : Kit} {SB : Nat → Prop} {vb : Value} {rows : List Value} {vp : Value} {ps : List Pr} {N : Nat} (h : Wd w X bw K1 K2 SB vb rows vp ps N) (hs : BookStep w w' bw 9 X SB rows) : ∃ SB' vb' rows', Wd w' X bw K1 K2 SB' vb' rows' vp ps N ∧ rows'.length = rows.length + 4 ∧ Foot (fun i => X ≤ i ∨ i = bw) w w' := by
 obtain ⟨SB', vb', rows', hB, hr, hf, hS, hc, hfr⟩ := hs
 have hX : ∀ i, SB i ∨ i = bw → X ≤ i ∨ i = bw := fun i e => e.imp (fun e => (h.book.from_ i e).1) id
 have hdis : ∀ p ∈ ps, ∀ i, p.S i → ¬ (SB i ∨ i = bw) := fun p hp i e e2 => by
  rcases e2 with e2 | e2
  ·exact (h.apartB p hp i e).1 e2
  ·exact (h.apartB p hp i e).2 e2
 refine ⟨SB', vb', rows', ⟨hB, h.cells1.keep (fun q hq => hc q (by omega)), h.cells2.keep (fun q hq => hc q (by omega)), by rw [hc 13 (by omega)]; exact h.most, by rw [hc 8 (by omega)]; exact h.cp, fun o => by rw [hfr]; exact h.free o, hf.owns h.row (fun g e e2 => ?_), fun g e => ⟨(h.rowN g e).1, fun e2 => ?_, (h.rowN g e).2.2⟩, h.kit1.foot h.size hf hX, h.kit2.foot h.size hf hX, h.kits, fun p hp => (h.shelf p hp).foot hf (hdis p hp), h.apart, fun p hp i e => ⟨fun e2 => ?_, (h.apartB p hp i e).2⟩, h.bwX, Nat.le_trans h.size hf.size⟩, hr, hf.mono hX⟩
 ·rcases e2 with e2 | e2
  ·exact (h.rowN g e).2.1 e2
  ·exact (h.rowN g e).1 e2
 ·rcases hS g e2 with e3 | e3
  ·exact (h.rowN g e).2.1 e3
  ·have := (h.row.lt g e).2; omega
 ·rcases hS i e2 with e3 | e3
  ·exact (h.apartB p hp i e).1 e3
  ·have := ((h.shelf p hp).from_ i e).2; omega
theorem Tryz.infoPtrPair : (Tryz.prog.info? 178).map (fun i => (i.zero, i.size, i.bytes)) = some (some (.pointer none), 1, 8) := by kernel_rfl
theorem Wd.opened {w w3 w5 : World} {X bw : Nat} {K1 K2 K : Kit} {SB Sx Sy : Nat → Prop} {vb : Value} {rows : List Value} {vp v' : Value} {ps : List Pr} {N bx by_ : Nat} (h : Wd w X bw K1 K2 SB vb rows vp ps N) (hK : K = K1 ∨ K = K2) (hb : Below w.heap.size w w3) (hx : Ix w3 X Sx bx K.bc K.st K.sh K.lns ixNil) (hy : Rx w3 X Sy by_ K.vT K.st K.sh K.lns []) (hSx : ∀ i, Sx i → w.heap.size ≤ i) (hSy : ∀ i, Sy i → w.heap.size ≤ i ∧ ¬ Sx i)
  (hgr : ((w3.alloc (.cells #[.pointer (some ⟨bx, 0, none⟩), .pointer (some ⟨by_, 0, none⟩)] 183)).alloc (.cells #[.pointer (some ⟨w3.heap.size, 0, none⟩)] 178)).grownBy w5 vp.ownBlock) (hat : v'.ownBlock = vp.ownBlock ∨ v'.ownBlock = some (w3.heap.size + 2)) (hrow : w5.ownsRow X 178 1 v' (ps.length + 1) (prCells ps ++ [.pointer (some ⟨w3.heap.size, 0, none⟩)])) :
  ∃ p, Wd (w5.setCell ⟨bw, 8, none⟩ v') X bw K1 K2 SB vb rows v' (ps ++ [p]) N ∧ Foot (fun i => X ≤ i ∨ i = bw) w (w5.setCell ⟨bw, 8, none⟩ v') := by
 obtain ⟨W4, hW4⟩ : ∃ W4, (w3.alloc (.cells #[.pointer (some ⟨bx, 0, none⟩), .pointer (some ⟨by_, 0, none⟩)] 183)).alloc (.cells #[.pointer (some ⟨w3.heap.size, 0, none⟩)] 178) = W4 := ⟨_, rfl⟩
 rw [hW4] at hgr
 have hz4 : W4.heap.size = w3.heap.size + 2 := by rw [← hW4]; simp
 have hb4 : Below w3.heap.size w3 W4 := by rw [← hW4]; exact ((Below.refl _ _).alloc (Nat.le_refl _) _).alloc (by simp) _
 have hz3 := hb.size
 have hb04 : Below w.heap.size w W4 := hb.trans (hb4.mono hz3)
 have hX := h.size
 have hbwX := h.bwX
 have hvlt : ∀ g, vp.ownBlock = some g → g < w.heap.size := fun g e => (h.row.lt g e).2
 have hvX : ∀ g, vp.ownBlock = some g → X ≤ g := fun g e => (h.row.lt g e).1
 have hnbv : vp.ownBlock ≠ some bw := fun e => (h.rowN bw e).1 rfl
 have hf5 : Foot (fun i => vp.ownBlock = some i) W4 w5 := (Foot.refl _ W4).grown hgr (fun k e => .inl e)
 have hz5 := hf5.size
 have hf6 : Foot (fun i => vp.ownBlock = some i ∨ i = bw) W4 (w5.setCell ⟨bw, 8, none⟩ v') := Foot.setCell (p := ⟨bw, 8, none⟩) (hf5.mono (fun i e => .inl e)) (.inl (.inr rfl)) _
 have hf06 : Foot (fun i => vp.ownBlock = some i ∨ i = bw) w (w5.setCell ⟨bw, 8, none⟩ v') := (Foot.of (S := fun i => vp.ownBlock = some i ∨ i = bw) hb04).trans hf6 (fun i e => .inl e)
 have hXf : ∀ i, vp.ownBlock = some i ∨ i = bw → X ≤ i ∨ i = bw := fun i e => e.imp (hvX i) id
 have hbw := h.book.lt
 have hbwk : w5.heap[bw]? = w.heap[bw]? := by rw [hf5.block bw (by omega) hnbv, hb04.block bw hbw]
 have hc : ∀ q, q ≠ 8 → (w5.setCell ⟨bw, 8, none⟩ v').cell? ⟨bw, q, none⟩ = w.cell? ⟨bw, q, none⟩ := fun q hq => by
  rw [World.cell?_setCell_other _ _ _ _ (by intro e; cases e; exact hq rfl)]
  exact World.cell?_of_block (a := ⟨bw, q, none⟩) hbwk
 have hfr : ∀ o, (w5.setCell ⟨bw, 8, none⟩ v').frozen? ⟨bw, o, none⟩ = w.frozen? ⟨bw, o, none⟩ := fun o => by
  rw [World.frozen?_setCell]
  exact World.frozen?_of_block (a := ⟨bw, o, none⟩) hbwk
 have hnewlt : ∀ i, w.heap.size ≤ i → ¬ (vp.ownBlock = some i ∨ i = bw) := fun i hi e => by
  rcases e with e | e
  ·have := hvlt i e; omega
  ·omega
 have hv'ne : ∀ g, v'.ownBlock = some g → g ≠ w3.heap.size ∧ ¬ Sx g ∧ ¬ Sy g ∧ g ≠ bw := fun g e => by
  have hsl : ∀ i, Sx i → i < w3.heap.size := fun i e => (hx.from_ i e).2
  have hsl2 : ∀ i, Sy i → i < w3.heap.size := fun i e => (hy.from_ i e).2
  rcases hat with e1 | e1
  ·rw [e1] at e
   have := hvlt g e
   exact ⟨by omega, fun e2 => by have := hSx g e2; omega, fun e2 => by have := (hSy g e2).1; omega, fun e2 => hnbv (by rw [← e2]; exact e)⟩
  ·rw [e1] at e
   simp at e
   exact ⟨by omega, fun e2 => by have := hsl g e2; omega, fun e2 => by have := hsl2 g e2; omega, by omega⟩
 have hblkp : W4.heap[w3.heap.size]? = some (.cells #[.pointer (some ⟨bx, 0, none⟩), .pointer (some ⟨by_, 0, none⟩)] 183) := by
  rw [← hW4, Below.heap_alloc _ _ _ (by simp)]
  exact heap_alloc_new w3 _
 have hp6 : (w5.setCell ⟨bw, 8, none⟩ v').heap[w3.heap.size]? = some (.cells #[.pointer (some ⟨bx, 0, none⟩), .pointer (some ⟨by_, 0, none⟩)] 183) := by
  rw [hf6.block _ (by omega) (hnewlt _ hz3)]
  exact hblkp
 have hshelf : Shelf (w5.setCell ⟨bw, 8, none⟩ v') X (fun i => i = w3.heap.size ∨ Sx i ∨ Sy i) w3.heap.size K N := by
  have hx6 := (hx.below hb4).foot hf6 (fun i e => hnewlt i (hSx i e))
  have hy6 := (hy.below hb4).foot hf6 (fun i e => hnewlt i (hSy i e).1)
  refine ⟨fun i e => ?_, .inl rfl, bx, by_, Sx, Sy, ixNil, [], by simp [World.cell?, hp6], by simp [World.cell?, hp6], hx6, hy6, fun i e => ⟨.inr (.inl e), fun e2 => ?_⟩, fun i e => ⟨.inr (.inr e), fun e2 => ?_, (hSy i e).2⟩, ?_, Nat.zero_le _⟩
  ·rcases e with e | e | e
   ·subst e; exact ⟨by omega, by have := hf6.size; omega⟩
   ·exact hx6.from_ i e
   ·exact hy6.from_ i e
  ·have := (hx.from_ i e).2; omega
  ·have := (hy.from_ i e).2; omega
  ·rw [nowOf_nil]; exact Tm.DeedsOk.nil (fun a b => by rw [cmpOf_zero])
 refine ⟨⟨w3.heap.size, fun i => i = w3.heap.size ∨ Sx i ∨ Sy i, K⟩, ⟨(h.book.below hb04).keep hf6.size (fun i e => hf6.block i ((h.book.below hb04).from_ i e).2.1 (fun e2 => ?_)) (fun o h1 h2 => ?_) ?_, h.cells1.keep (fun q hq => hc q (by omega)), h.cells2.keep (fun q hq => hc q (by omega)), by rw [hc 13 (by omega)]; exact h.most, ?_, fun o => by rw [hfr]; exact h.free o, ?_, fun g e => ?_, h.kit1.foot h.size hf06 hXf, h.kit2.foot h.size hf06 hXf, fun p hp => ?_, fun p hp => ?_, ?_, fun p hp i e => ?_, h.bwX, Nat.le_trans h.size hf06.size⟩, hf06.mono hXf⟩
 ·rcases e2 with e2 | e2
  ·exact (h.rowN i e2).2.1 e
  ·exact (h.book.from_ i e).2.2 e2
 ·rw [hc o (by omega), hb04.cell (p := ⟨bw, o, none⟩) hbw]
 ·rw [hfr, hb04.frozen (p := ⟨bw, 9 + 2, none⟩) hbw]
 ·exact World.cell?_setCell_same _ _ _ ((World.cell?_of_block (a := ⟨bw, 8, none⟩) hbwk).trans h.cp)
 ·rw [show prCells (ps ++ [⟨w3.heap.size, fun i => i = w3.heap.size ∨ Sx i ∨ Sy i, K⟩]) = prCells ps ++ [.pointer (some ⟨w3.heap.size, 0, none⟩)] by simp [prCells], List.length_append]
  exact ownsRow_same hrow (fun g e => Below.heap_setCell _ _ _ _ (hv'ne g e).2.2.2)
 ·have h1 := hv'ne g e
  refine ⟨h1.2.2.2, fun e2 => ?_, fun p hp e2 => ?_⟩
  ·rcases hat with e1 | e1
   ·rw [e1] at e; exact (h.rowN g e).2.1 e2
   ·rw [e1] at e; simp at e; have := (h.book.from_ g e2).2.1; omega
  ·rcases List.mem_append.1 hp with hp | hp
   ·rcases hat with e1 | e1
    ·rw [e1] at e; exact (h.rowN g e).2.2 p hp e2
    ·rw [e1] at e; simp at e; have := ((h.shelf p hp).from_ g e2).2; omega
   ·have : p = ⟨w3.heap.size, fun i => i = w3.heap.size ∨ Sx i ∨ Sy i, K⟩ := List.mem_singleton.1 hp
    subst this
    rcases e2 with e2 | e2 | e2
    ·exact h1.1 e2
    ·exact h1.2.1 e2
    ·exact h1.2.2.1 e2
 ·rcases List.mem_append.1 hp with hp | hp
  ·exact h.kits p hp
  ·have : p = ⟨w3.heap.size, fun i => i = w3.heap.size ∨ Sx i ∨ Sy i, K⟩ := List.mem_singleton.1 hp
   subst this
   exact hK
 ·rcases List.mem_append.1 hp with hp | hp
  ·exact (h.shelf p hp).foot hf06 (fun i e e2 => by
    rcases e2 with e2 | e2
    ·exact (h.rowN i e2).2.2 p hp e
    ·exact (h.apartB p hp i e).2 e2)
  ·have : p = ⟨w3.heap.size, fun i => i = w3.heap.size ∨ Sx i ∨ Sy i, K⟩ := List.mem_singleton.1 hp
   subst this
   exact hshelf
 ·refine List.pairwise_append.2 ⟨h.apart, List.pairwise_singleton _ _, fun p hp q hq i e e2 => ?_⟩
  have : q = ⟨w3.heap.size, fun i => i = w3.heap.size ∨ Sx i ∨ Sy i, K⟩ := List.mem_singleton.1 hq
  subst this
  have h1 := ((h.shelf p hp).from_ i e).2
  rcases e2 with e2 | e2 | e2
  ·omega
  ·have := hSx i e2; omega
  ·have := (hSy i e2).1; omega
 ·rcases List.mem_append.1 hp with hp | hp
  ·exact h.apartB p hp i e
  ·have : p = ⟨w3.heap.size, fun i => i = w3.heap.size ∨ Sx i ∨ Sy i, K⟩ := List.mem_singleton.1 hp
   subst this
   have hge : w.heap.size ≤ i := by
    rcases e with e | e | e
    ·omega
    ·exact hSx i e
    ·exact (hSy i e).1
   exact ⟨fun e2 => by have := (h.book.from_ i e2).2.1; omega, by omega⟩
theorem news_oneH {w : World} {x : Value} {t : TypeId} {H : Nat} (hH : w.heap.size = H) : ∀ j u, [x][j]? = some u → (w.alloc (.cells #[x] t)).cell? ((⟨H, 0, none⟩ : Addr).add j) = some u := by
 subst hH
 exact news_one
set_option maxRecDepth 100000 in
set_option maxHeartbeats 4000000 in
theorem opened_step (X bw : Nat) (K1 K2 : Kit) (SB : Nat → Prop) (vb : Value) (rows : List Value) (vp : Value) (ps : List Pr) (N : Nat) (n : Int) (w : World) (h : Wd w X bw K1 K2 SB vb rows vp ps N) (hn : -9223372036854775808 ≤ n ∧ n ≤ 9223372036854775807) (hps : ps.length ≤ 1000000000) :
  Calls Tryz.prog 96 #[.pointer (some ⟨bw, 0, none⟩), .int .i64 n] w fun e w' => e = .returned (.bool true) ∧ ∃ v' p, Wd w' X bw K1 K2 SB vb rows v' (ps ++ [p]) N ∧ Foot (fun i => X ≤ i ∨ i = bw) w w' := by
 obtain ⟨i0, hi0, hz0, hzs, hzb⟩ := info_parts Tryz.infoPtrPair
 obtain ⟨n1, n2⟩ := hn
 have H := hide h
 have hbw := h.book.lt
 have c8 := h.cp
 have HROW := hide h.row
 obtain ⟨k0, k1, k2, k3⟩ := h.cells1
 obtain ⟨m0, m1, m2, m3⟩ := h.cells2
 obtain ⟨a1, cap1, hv1⟩ := h.kit1.here.2.rd.shape
 obtain ⟨a2, cap2, hv2⟩ := h.kit2.here.2.rd.shape
 rw [hv1] at k1
 rw [hv2] at m1
 obtain ⟨av, capv, rfl⟩ := (Reads.of_owns h.row).shape
 have HREST : Hid (∀ K : Kit, K = K1 ∨ K = K2 → ∀ W, Below w.heap.size w W → Coll W K.bc K.bm K.st K.sh K.lns) := fun K hK W hW => by
  rcases hK with e | e
  ·subst e; exact (H.out.kit1.below H.out.size hW).here.1
  ·subst e; exact (H.out.kit2.below H.out.size hW).here.1
 have HF8 := hide (h.free 8)
 have hX := h.size
 clear h
 go_enter Tryz.func96, Tryz.ntmps96
 by_cases hr : n.tmod 2 = 0
 case' pos =>
  go_upto_region 6 with fail
  obtain ⟨K, hKe⟩ : ∃ K, K = K1 := ⟨_, rfl⟩
  rw [← hKe]
  obtain ⟨aT, haT⟩ : ∃ aT, aT = a1 := ⟨_, rfl⟩
  obtain ⟨cT, hcT⟩ : ∃ cT, cT = cap1 := ⟨_, rfl⟩
  rw [← haT, ← hcT]
  rw [← hKe, ← haT, ← hcT] at hv1
  have hvT := hv1
  have hK : K = K1 ∨ K = K2 := .inl hKe
  clear hKe haT hcT
 case' neg =>
  go_upto_region 6 with fail
  obtain ⟨K, hKe⟩ : ∃ K, K = K2 := ⟨_, rfl⟩
  rw [← hKe]
  obtain ⟨aT, haT⟩ : ∃ aT, aT = a2 := ⟨_, rfl⟩
  obtain ⟨cT, hcT⟩ : ∃ cT, cT = cap2 := ⟨_, rfl⟩
  rw [← haT, ← hcT]
  rw [← hKe, ← haT, ← hcT] at hv2
  have hvT := hv2
  have hK : K = K1 ∨ K = K2 := .inr hKe
  clear hKe haT hcT
 all_goals
  obtain ⟨wc, hwc⟩ : ∃ wc, w.alloc (.cells #[.slice aT K.lns.length cT, .int .i64 K.st, .bool K.sh] 29) = wc := ⟨_, rfl⟩
  rw [hwc]
  have hbb : Below w.heap.size w wc := by rw [← hwc]; exact (Below.refl _ _).alloc (Nat.le_refl _) _
  have hsz : w.heap.size < wc.heap.size := by rw [← hwc]; simp
  have q0 : wc.cell? ⟨w.heap.size, 0, none⟩ = some (.slice aT K.lns.length cT) := by rw [← hwc, cell_new rfl]; rfl
  have q1 : wc.cell? ⟨w.heap.size, 1, none⟩ = some (.int .i64 K.st) := by rw [← hwc, cell_new rfl]; rfl
  have q2 : wc.cell? ⟨w.heap.size, 2, none⟩ = some (.bool K.sh) := by rw [← hwc, cell_new rfl]; rfl
  have HCOLL := hide (HREST.out K hK wc hbb)
  have HBB := hide hbb
  clear hbb k0 k1 k2 k3 m0 m1 m2 m3 hv1 hv2 hwc
  go_upto_region 7 with (go_at_call 57; refine (IxNew_any K.lns K.bc K.bm K.st K.sh _ X HCOLL.out (by omega)).mono ?_; rintro e w2 ⟨bx, Sx, rfl, hix, hb2, hSx⟩; have HIX := hide hix; have HB2 := hide hb2; have HSX := hide hSx; have hz2 := hb2.size; rw [← hb2.cell (p := ⟨w.heap.size, 0, none⟩) hsz] at q0; rw [← hb2.cell (p := ⟨w.heap.size, 1, none⟩) hsz] at q1; rw [← hb2.cell (p := ⟨w.heap.size, 2, none⟩) hsz] at q2; clear hix hb2 hSx)
  go_upto_region 8 with (go_at_call 136; refine (rxOpen_any aT K.lns.length cT K.st K.sh K.lns X _ (by omega)).mono ?_; rintro e w3 ⟨by_, Sy, rfl, hrx, hb3, hSy⟩; rw [← hvT] at hrx; have HRX := hide hrx; have HB3 := hide hb3; have HSY := hide hSy; have hz3 := hb3.size; clear hrx hb3 hSy q0 q1 q2)
  have HB03 : Hid (Below w.heap.size w w3) := (HBB.out.trans (HB2.out.mono (by omega))).trans (HB3.out.mono (by omega))
  have HIX3 : Hid (Ix w3 X Sx bx K.bc K.st K.sh K.lns ixNil) := HIX.out.below HB3.out
  have d8 : w3.cell? ⟨bw, 8, none⟩ = some (.slice av ps.length capv) := by rw [HB03.out.cell (p := ⟨bw, 8, none⟩) hbw]; exact c8
  have f8 : w3.frozen? ⟨bw, 8, none⟩ = false := by rw [HB03.out.frozen (p := ⟨bw, 8, none⟩) hbw]; exact HF8.out
  have HR3 : Hid (w3.ownsRow X 178 1 (.slice av ps.length capv) ps.length (prCells ps)) := ownsRow_same HROW.out (fun g e => HB03.out.block g (HROW.out.lt g e).2)
  clear c8 HF8
  have HANS : Hid (∀ v' w5, ((w3.alloc (.cells #[.pointer (some ⟨bx, 0, none⟩), .pointer (some ⟨by_, 0, none⟩)] 183)).alloc (.cells #[.pointer (some ⟨w3.heap.size, 0, none⟩)] 178)).grownBy w5 (Value.slice av ps.length capv).ownBlock → (v'.ownBlock = (Value.slice av ps.length capv).ownBlock ∨ v'.ownBlock = some (w3.heap.size + 2)) → w5.ownsRow X 178 1 v' (ps.length + 1) (prCells ps ++ [.pointer (some ⟨w3.heap.size, 0, none⟩)]) → ∃ v'' p, Wd (w5.setCell ⟨bw, 8, none⟩ v') X bw K1 K2 SB vb rows v'' (ps ++ [p]) N ∧ Foot (fun i => X ≤ i ∨ i = bw) w (w5.setCell ⟨bw, 8, none⟩ v')) := fun v' w5 h1 h2 h3 => by
   obtain ⟨p, hp⟩ := H.out.opened hK HB03.out HIX3.out HRX.out (fun i e => by have := HSX.out i e; omega) (fun i e => ⟨by have := HSY.out i e; omega, fun e2 => by have := (HIX.out.from_ i e2).2; have := HSY.out i e; omega⟩) h1 h2 h3
   exact ⟨v', p, hp⟩
  go_wp2_with (at_builtin; go_must (refine wpList_append_row rfl _ _ 106 106 rfl X 178 178 i0 (.pointer none) 1 8 Tryz.underlying106 Tryz.underlying106 hi0 hz0 hzs hzb rfl (by omega) _ _ _ rfl ((HR3.out.alloc _).alloc _) ⟨w3.heap.size + 1, 0, none⟩ 1 1 [.pointer (some ⟨w3.heap.size, 0, none⟩)] rfl rfl (news_oneH (by simp)) (by intro u hu; simp at hu; rcases hu with rfl; rfl) (by unfold maxLen; omega) (by omega) (by simp; omega) ?_))
  intro v' w5 hown hgr hat
  have HA5 := hide (HANS.out v' w5 hgr (by simpa using hat) hown)
  have hnb : (Value.slice av ps.length capv).ownBlock ≠ some bw := fun e => (H.out.rowN bw e).1 rfl
  have hz5 : bw < w5.heap.size := by have := hgr.size; simp at this; omega
  have hk5 : w5.heap[bw]? = w3.heap[bw]? := by
   rw [hgr.block bw (by simp; omega) (fun e => hnb e.symm), Below.heap_alloc _ _ _ (by simp; omega), Below.heap_alloc _ _ _ (by omega)]
  have e8 : w5.cell? ⟨bw, 8, none⟩ = some (.slice av ps.length capv) := (World.cell?_of_block (a := ⟨bw, 8, none⟩) hk5).trans d8
  have g8 : w5.frozen? ⟨bw, 8, none⟩ = false := (World.frozen?_of_block (a := ⟨bw, 8, none⟩) hk5).trans f8
  obtain ⟨a9, c9, hv9⟩ := (Reads.of_owns hown).shape
  subst hv9
  clear hown hgr hat d8 f8 hk5
  go_wp2
  go_ret
  exact ⟨rfl, HA5.out⟩
theorem Wd.copy {w : World} {X bw : Nat} {K1 K2 : Kit} {SB : Nat → Prop} {vb : Value} {rows : List Value} {vp : Value} {ps : List Pr} {N : Nat} (h : Wd w X bw K1 K2 SB vb rows vp ps N) (o : Obj) (q : Nat) : Wd ((w.alloc o).drewN q) X bw K1 K2 SB vb rows vp ps N ∧ Below w.heap.size w ((w.alloc o).drewN q) := by
 have hb : Below w.heap.size w ((w.alloc o).drewN q) := below_drewN ((Below.refl _ _).alloc (Nat.le_refl _) _) q
 exact ⟨h.below hb, hb⟩
set_option maxRecDepth 100000 in
set_option maxHeartbeats 4000000 in
theorem step_off (X bw : Nat) (K1 K2 : Kit) (SB : Nat → Prop) (vb : Value) (rows : List Value) (vp : Value) (ps : List Pr) (N : Nat) (kind ix n lim : Int) (key val : ByteArray) (a : Option Addr) (m c : Nat) (w : World) (h : Wd w X bw K1 K2 SB vb rows vp ps N) (hk : kind < 1 ∨ 5 < kind) :
  Calls Tryz.prog 53 #[.pointer (some ⟨bw, 0, none⟩), .agg #[.int .i64 kind, .int .i64 ix, .string key, .string val, .int .i64 n, .int .i64 lim, .slice a m c]] w fun e w' => e = .returned (.bool true) ∧ Wd w' X bw K1 K2 SB vb rows vp ps N ∧ Foot (fun i => X ≤ i ∨ i = bw) w w' := by
 have HC : Hid (∀ o q, Wd ((w.alloc o).drewN q) X bw K1 K2 SB vb rows vp ps N ∧ Below w.heap.size w ((w.alloc o).drewN q)) := fun o q => h.copy o q
 have c13 := h.most
 have hbw := h.book.lt
 clear h
 by_cases h1 : kind < 1
 ·have hd : decide (kind < 1) = true := by simp [h1]
  go_enter Tryz.func53, Tryz.ntmps53
  go_upto_region 1 with fail
  go_quiet (fail)
  go_wp2
  go_ret
  exact ⟨rfl, (HC.out _ _).1, Foot.of (HC.out _ _).2⟩
 ·have hd : decide (kind < 1) = false := by simp [h1]
  have hd5 : decide (kind > 5) = true := by simp; omega
  go_enter Tryz.func53, Tryz.ntmps53
  go_upto_region 1 with fail
  obtain ⟨W0, hW0⟩ : ∃ W0, w.alloc (.cells #[.int .i64 kind, .int .i64 ix, .string key, .string val, .int .i64 n, .int .i64 lim, .slice a m c] 110) = W0 := ⟨_, rfl⟩
  have d13 : W0.cell? ⟨bw, 13, none⟩ = some (.int .i64 5) := by rw [← hW0, ((Below.refl w.heap.size w).alloc (Nat.le_refl _) _).cell (p := ⟨bw, 13, none⟩) hbw]; exact c13
  have k0 : W0.cell? ⟨w.heap.size, 0, none⟩ = some (.int .i64 kind) := by rw [← hW0, cell_new rfl]; rfl
  rw [hW0]
  have HW0 := hide hW0
  clear hW0
  go_quiet (fail)
  go_wp2
  go_ret
  rw [← HW0.out]
  exact ⟨rfl, (HC.out _ _).1, Foot.of (HC.out _ _).2⟩
theorem Wd.pairAt {w : World} {X bw : Nat} {K1 K2 : Kit} {SB : Nat → Prop} {vb : Value} {rows : List Value} {av : Option Addr} {nv capv : Nat} {ps : List Pr} {N : Nat} (h : Wd w X bw K1 K2 SB vb rows (.slice av nv capv) ps N) {k : Nat} (hk : k < ps.length) : nv = ps.length ∧ ∃ g off, av = some ⟨g, off, none⟩ ∧ g < w.heap.size ∧ w.cell? ⟨g, off + k, none⟩ = some (.pointer (some ⟨ps[k].bp, 0, none⟩)) := by
 have hrd := Reads.of_owns h.row
 obtain ⟨a, c, he0⟩ := hrd.shape
 cases he0
 obtain ⟨g, off, cap, he, hg, hc⟩ := hrd.form (by have := prCells_length ps; omega)
 cases he
 exact ⟨rfl, g, off, rfl, hg, by have := hc k (.pointer (some ⟨ps[k].bp, 0, none⟩)) (by simp [prCells, hk]); simpa using this⟩
set_option maxRecDepth 100000 in
set_option maxHeartbeats 4000000 in
theorem step_open (X bw : Nat) (K1 K2 : Kit) (SB : Nat → Prop) (vb : Value) (rows : List Value) (vp : Value) (ps : List Pr) (N : Nat) (ix n lim : Int) (key val : ByteArray) (a : Option Addr) (m c : Nat) (w : World) (h : Wd w X bw K1 K2 SB vb rows vp ps N) (hn : -9223372036854775808 ≤ n ∧ n ≤ 9223372036854775807) (hps : ps.length ≤ 1000000000) :
  Calls Tryz.prog 53 #[.pointer (some ⟨bw, 0, none⟩), .agg #[.int .i64 1, .int .i64 ix, .string key, .string val, .int .i64 n, .int .i64 lim, .slice a m c]] w fun e w' => e = .returned (.bool true) ∧ ∃ v' p, Wd w' X bw K1 K2 SB vb rows v' (ps ++ [p]) N ∧ Foot (fun i => X ≤ i ∨ i = bw) w w' := by
 have hb0 := h.copy
 have c13 := h.most
 have hbw := h.book.lt
 clear h
 obtain ⟨W0, hW0⟩ : ∃ W0, w.alloc (.cells #[.int .i64 1, .int .i64 ix, .string key, .string val, .int .i64 n, .int .i64 lim, .slice a m c] 110) = W0 := ⟨_, rfl⟩
 have HC : Hid (∀ q, Wd (W0.drewN q) X bw K1 K2 SB vb rows vp ps N ∧ Below w.heap.size w (W0.drewN q)) := fun q => by rw [← hW0]; exact hb0 _ q
 have d13 : W0.cell? ⟨bw, 13, none⟩ = some (.int .i64 5) := by rw [← hW0, ((Below.refl w.heap.size w).alloc (Nat.le_refl _) _).cell (p := ⟨bw, 13, none⟩) hbw]; exact c13
 have k0 : W0.cell? ⟨w.heap.size, 0, none⟩ = some (.int .i64 1) := by rw [← hW0, cell_new rfl]; rfl
 have k4 : W0.cell? ⟨w.heap.size, 4, none⟩ = some (.int .i64 n) := by rw [← hW0, cell_new rfl]; rfl
 have HW0 := hide hW0
 clear hW0 hb0 c13
 go_enter Tryz.func53, Tryz.ntmps53
 go_upto_region 1 with fail
 rw [HW0.out]
 go_quiet (fail)
 have k0 : (W0.drewN nq).cell? ⟨w.heap.size, 0, none⟩ = some (.int .i64 1) := k0
 have k4 : (W0.drewN nq).cell? ⟨w.heap.size, 4, none⟩ = some (.int .i64 n) := k4
 go_wp2_with (go_at_call 96; refine (opened_step X bw K1 K2 SB vb rows vp ps N n _ (HC.out nq).1 hn hps).mono ?_; rintro e w1 ⟨rfl, v', p, hw1, hf1⟩; have HW1 := hide hw1; have HF1 : Hid (Foot (fun i => X ≤ i ∨ i = bw) w w1) := (Foot.of (HC.out nq).2).trans hf1 (fun i e => .inl e); clear hw1 hf1)
 go_ret
 exact ⟨rfl, v', p, HW1.out, HF1.out⟩
theorem cell_drewN (w : World) (q : Nat) (a : Addr) : (w.drewN q).cell? a = w.cell? a := rfl
theorem onKey_any (X bw : Nat) (S : Nat → Prop) (bp : Nat) (K : Kit) (N : Nat) (kind ix : Int) (hk : kind = 2 ∨ kind = 3 ∨ kind = 4) (key val : ByteArray) (n lim : Int) (a : Option Addr) (m c : Nat) (w : World) (hS : Shelf w X S bp K N) (hK : KitIs X bw K w) (hX : X ≤ w.heap.size) (hN : N ≤ 90000000) :
  Calls Tryz.prog 103 #[.pointer (some ⟨bw, 0, none⟩), .pointer (some ⟨bp, 0, none⟩), .agg #[.int .i64 kind, .int .i64 ix, .string key, .string val, .int .i64 n, .int .i64 lim, .slice a m c]] w fun e w' => e = .returned (.bool true) ∧ ShelfStep w w' X S bp K (N + 1) := by
 rcases hk with rfl | rfl | rfl
 ·exact onKey_put X bw S bp K N ix key val n lim a m c w hS hK hX hN
 ·exact onKey_drop X bw S bp K N ix key val n lim a m c w hS hK hX hN
 ·exact onKey_get X bw S bp K N ix key val n lim a m c w hS hK hX hN
set_option maxRecDepth 100000 in
set_option maxHeartbeats 4000000 in
theorem step_key (X bw : Nat) (K1 K2 : Kit) (SB : Nat → Prop) (vb : Value) (rows : List Value) (vp : Value) (ps : List Pr) (N : Nat) (kind ix n lim : Int) (hk : kind = 2 ∨ kind = 3 ∨ kind = 4) (key val : ByteArray) (a : Option Addr) (m c : Nat) (w : World) (h : Wd w X bw K1 K2 SB vb rows vp ps N) (hix : -9223372036854775808 ≤ ix ∧ ix ≤ 9223372036854775807) (hp0 : 0 < ps.length) (hps : ps.length ≤ 1000000000) (hN : N ≤ 90000000) :
  Calls Tryz.prog 53 #[.pointer (some ⟨bw, 0, none⟩), .agg #[.int .i64 kind, .int .i64 ix, .string key, .string val, .int .i64 n, .int .i64 lim, .slice a m c]] w fun e w' => e = .returned (.bool true) ∧ ∃ ps', ps'.length = ps.length ∧ Wd w' X bw K1 K2 SB vb rows vp ps' (N + 1) ∧ Foot (fun i => X ≤ i ∨ i = bw) w w' := by
 obtain ⟨kp, hkp, hpick⟩ := lawPick_any ix ps.length hix hp0 hps
 obtain ⟨av, capv, rfl⟩ := (Reads.of_owns h.row).shape
 obtain ⟨_, g, off, rfl, hg, hcp⟩ := h.pairAt hkp
 have c13 := h.most
 have c8 := h.cp
 have hbw := h.book.lt
 obtain ⟨W0, hW0⟩ : ∃ W0, w.alloc (.cells #[.int .i64 kind, .int .i64 ix, .string key, .string val, .int .i64 n, .int .i64 lim, .slice a m c] 110) = W0 := ⟨_, rfl⟩
 have hB0 : Below w.heap.size w W0 := by rw [← hW0]; exact (Below.refl w.heap.size w).alloc (Nat.le_refl _) _
 have d13 : W0.cell? ⟨bw, 13, none⟩ = some (.int .i64 5) := by rw [hB0.cell (p := ⟨bw, 13, none⟩) hbw]; exact c13
 have d8 : W0.cell? ⟨bw, 8, none⟩ = some (.slice (some ⟨g, off, none⟩) ps.length capv) := by rw [hB0.cell (p := ⟨bw, 8, none⟩) hbw]; exact c8
 obtain ⟨bp, hbp⟩ : ∃ bp, ps[kp].bp = bp := ⟨_, rfl⟩
 have dp : W0.cell? ⟨g, off + kp, none⟩ = some (.pointer (some ⟨bp, 0, none⟩)) := by rw [hB0.cell (p := ⟨g, off + kp, none⟩) hg, ← hbp]; exact hcp
 have k0 : W0.cell? ⟨w.heap.size, 0, none⟩ = some (.int .i64 kind) := by rw [← hW0, cell_new rfl]; rfl
 have k1 : W0.cell? ⟨w.heap.size, 1, none⟩ = some (.int .i64 ix) := by rw [← hW0, cell_new rfl]; rfl
 have k2 : W0.cell? ⟨w.heap.size, 2, none⟩ = some (.string key) := by rw [← hW0, cell_new rfl]; rfl
 have k3 : W0.cell? ⟨w.heap.size, 3, none⟩ = some (.string val) := by rw [← hW0, cell_new rfl]; rfl
 have k4 : W0.cell? ⟨w.heap.size, 4, none⟩ = some (.int .i64 n) := by rw [← hW0, cell_new rfl]; rfl
 have k5 : W0.cell? ⟨w.heap.size, 5, none⟩ = some (.int .i64 lim) := by rw [← hW0, cell_new rfl]; rfl
 have k6 : W0.cell? ⟨w.heap.size, 6, none⟩ = some (.slice a m c) := by rw [← hW0, cell_new rfl]; rfl
 have HON : Hid (∀ W, Below w.heap.size w W → Calls Tryz.prog 103 #[.pointer (some ⟨bw, 0, none⟩), .pointer (some ⟨bp, 0, none⟩), .agg #[.int .i64 kind, .int .i64 ix, .string key, .string val, .int .i64 n, .int .i64 lim, .slice a m c]] W fun e w' => e = .returned (.bool true) ∧ ∃ ps', ps'.length = ps.length ∧ Wd w' X bw K1 K2 SB vb rows (.slice (some ⟨g, off, none⟩) ps.length capv) ps' (N + 1) ∧ Foot (fun i => X ≤ i ∨ i = bw) w w') := fun W hW => by
  have h1 := h.below hW
  have hmem := List.getElem_mem hkp
  rw [← hbp]
  refine (onKey_any X bw _ _ _ N kind ix hk key val n lim a m c _ (h1.shelf _ hmem) (h1.kitOf hmem) h1.size hN).mono ?_
  rintro e w' ⟨rfl, hs⟩
  obtain ⟨S', hw', hf'⟩ := h1.shelfStep hkp (Nat.le_succ N) hs
  exact ⟨rfl, _, by simp, hw', (Foot.of hW).trans hf' (fun i e => .inl e)⟩
 have HW0 := hide hW0
 have HP := hide hpick
 clear h hW0 c13 c8 hpick hcp hbp
 rcases hk with rfl | rfl | rfl
 all_goals
  go_enter Tryz.func53, Tryz.ntmps53
  go_upto_region 1 with fail
  rw [HW0.out]
  go_quiet (fail)
  obtain ⟨W1, hW1⟩ : ∃ W1, W0.drewN nq = W1 := ⟨_, rfl⟩
  rw [hW1]
  have hB1 : Below w.heap.size w W1 := by rw [← hW1]; exact below_drewN hB0 _
  have k0 := (cell_drewN W0 nq _).trans k0
  rw [hW1] at k0
  have d13 : W1.cell? ⟨bw, 13, none⟩ = some (.int .i64 5) := by rw [← hW1]; exact d13
  have d8 : W1.cell? ⟨bw, 8, none⟩ = some (.slice (some ⟨g, off, none⟩) ps.length capv) := by rw [← hW1]; exact d8
  have dp : W1.cell? ⟨g, off + kp, none⟩ = some (.pointer (some ⟨bp, 0, none⟩)) := by rw [← hW1]; exact dp
  have k1 : W1.cell? ⟨w.heap.size, 1, none⟩ = some (.int .i64 ix) := by rw [← hW1]; exact k1
  have k2 : W1.cell? ⟨w.heap.size, 2, none⟩ = some (.string key) := by rw [← hW1]; exact k2
  have k3 : W1.cell? ⟨w.heap.size, 3, none⟩ = some (.string val) := by rw [← hW1]; exact k3
  have k4 : W1.cell? ⟨w.heap.size, 4, none⟩ = some (.int .i64 n) := by rw [← hW1]; exact k4
  have k5 : W1.cell? ⟨w.heap.size, 5, none⟩ = some (.int .i64 lim) := by rw [← hW1]; exact k5
  have k6 : W1.cell? ⟨w.heap.size, 6, none⟩ = some (.slice a m c) := by rw [← hW1]; exact k6
  clear hW1
  go_upto_region 5 with fail
  go_quiet (first | (go_at_call 97; refine Calls.quiet_of_same (HP.out _)))
  obtain ⟨W2, hW2⟩ : ∃ W2, W1.drewN nq = W2 := ⟨_, rfl⟩
  rw [hW2]
  have hB2 : Below w.heap.size w W2 := by rw [← hW2]; exact below_drewN hB1 _
  have k0 := (cell_drewN W1 nq _).trans k0
  rw [hW2] at k0
  have d13 : W2.cell? ⟨bw, 13, none⟩ = some (.int .i64 5) := by rw [← hW2]; exact d13
  have d8 : W2.cell? ⟨bw, 8, none⟩ = some (.slice (some ⟨g, off, none⟩) ps.length capv) := by rw [← hW2]; exact d8
  have dp : W2.cell? ⟨g, off + kp, none⟩ = some (.pointer (some ⟨bp, 0, none⟩)) := by rw [← hW2]; exact dp
  have k1 : W2.cell? ⟨w.heap.size, 1, none⟩ = some (.int .i64 ix) := by rw [← hW2]; exact k1
  have k2 : W2.cell? ⟨w.heap.size, 2, none⟩ = some (.string key) := by rw [← hW2]; exact k2
  have k3 : W2.cell? ⟨w.heap.size, 3, none⟩ = some (.string val) := by rw [← hW2]; exact k3
  have k4 : W2.cell? ⟨w.heap.size, 4, none⟩ = some (.int .i64 n) := by rw [← hW2]; exact k4
  have k5 : W2.cell? ⟨w.heap.size, 5, none⟩ = some (.int .i64 lim) := by rw [← hW2]; exact k5
  have k6 : W2.cell? ⟨w.heap.size, 6, none⟩ = some (.slice a m c) := by rw [← hW2]; exact k6
  clear hW2
  go_wp2_with (go_at_call 103; refine (HON.out _ hB2).mono ?_; rintro e w1 ⟨rfl, hans⟩; have HANS := hide hans; clear hans)
  go_ret
  exact ⟨rfl, HANS.out⟩
set_option maxRecDepth 100000 in
set_option maxHeartbeats 4000000 in
theorem step_scan (X bw : Nat) (K1 K2 : Kit) (SB : Nat → Prop) (vb : Value) (rows : List Value) (vp : Value) (ps : List Pr) (N : Nat) (ix n lim : Int) (key val : ByteArray) (a : Option Addr) (m c : Nat) (w : World) (h : Wd w X bw K1 K2 SB vb rows vp ps N) (hix : -9223372036854775808 ≤ ix ∧ ix ≤ 9223372036854775807) (hp0 : 0 < ps.length) (hps : ps.length ≤ 1000000000) (hN : N ≤ 90000000) (hlim : -9223372036854775808 ≤ lim ∧ lim ≤ 9223372036854775807) (hr : rows.length ≤ 100000000) :
  Calls Tryz.prog 53 #[.pointer (some ⟨bw, 0, none⟩), .agg #[.int .i64 5, .int .i64 ix, .string key, .string val, .int .i64 n, .int .i64 lim, .slice a m c]] w fun e w' => e = .returned (.bool true) ∧ ∃ SB' vb' rows', rows'.length = rows.length + 4 ∧ Wd w' X bw K1 K2 SB' vb' rows' vp ps N ∧ Foot (fun i => X ≤ i ∨ i = bw) w w' := by
 obtain ⟨kp, hkp, hpick⟩ := lawPick_any ix ps.length hix hp0 hps
 obtain ⟨av, capv, rfl⟩ := (Reads.of_owns h.row).shape
 obtain ⟨_, g, off, rfl, hg, hcp⟩ := h.pairAt hkp
 have c13 := h.most
 have c8 := h.cp
 have hbw := h.book.lt
 obtain ⟨W0, hW0⟩ : ∃ W0, w.alloc (.cells #[.int .i64 5, .int .i64 ix, .string key, .string val, .int .i64 n, .int .i64 lim, .slice a m c] 110) = W0 := ⟨_, rfl⟩
 have hB0 : Below w.heap.size w W0 := by rw [← hW0]; exact (Below.refl w.heap.size w).alloc (Nat.le_refl _) _
 have d13 : W0.cell? ⟨bw, 13, none⟩ = some (.int .i64 5) := by rw [hB0.cell (p := ⟨bw, 13, none⟩) hbw]; exact c13
 have d8 : W0.cell? ⟨bw, 8, none⟩ = some (.slice (some ⟨g, off, none⟩) ps.length capv) := by rw [hB0.cell (p := ⟨bw, 8, none⟩) hbw]; exact c8
 obtain ⟨bp, hbp⟩ : ∃ bp, ps[kp].bp = bp := ⟨_, rfl⟩
 have dp : W0.cell? ⟨g, off + kp, none⟩ = some (.pointer (some ⟨bp, 0, none⟩)) := by rw [hB0.cell (p := ⟨g, off + kp, none⟩) hg, ← hbp]; exact hcp
 have k0 : W0.cell? ⟨w.heap.size, 0, none⟩ = some (.int .i64 5) := by rw [← hW0, cell_new rfl]; rfl
 have k1 : W0.cell? ⟨w.heap.size, 1, none⟩ = some (.int .i64 ix) := by rw [← hW0, cell_new rfl]; rfl
 have k2 : W0.cell? ⟨w.heap.size, 2, none⟩ = some (.string key) := by rw [← hW0, cell_new rfl]; rfl
 have k3 : W0.cell? ⟨w.heap.size, 3, none⟩ = some (.string val) := by rw [← hW0, cell_new rfl]; rfl
 have k4 : W0.cell? ⟨w.heap.size, 4, none⟩ = some (.int .i64 n) := by rw [← hW0, cell_new rfl]; rfl
 have k5 : W0.cell? ⟨w.heap.size, 5, none⟩ = some (.int .i64 lim) := by rw [← hW0, cell_new rfl]; rfl
 have k6 : W0.cell? ⟨w.heap.size, 6, none⟩ = some (.slice a m c) := by rw [← hW0, cell_new rfl]; rfl
 have HON : Hid (∀ W, Below w.heap.size w W → Calls Tryz.prog 98 #[.pointer (some ⟨bw, 0, none⟩), .pointer (some ⟨bp, 0, none⟩), .int .i64 0, .string key, .string val, .int .i64 lim] W fun e w' => e = .returned (.bool true) ∧ ∃ SB' vb' rows', rows'.length = rows.length + 4 ∧ Wd w' X bw K1 K2 SB' vb' rows' (.slice (some ⟨g, off, none⟩) ps.length capv) ps N ∧ Foot (fun i => X ≤ i ∨ i = bw) w w') := fun W hW => by
  have h1 := h.below hW
  have hmem := List.getElem_mem hkp
  rw [← hbp]
  refine (scanned_any X bw SB _ vb rows _ _ N key val lim _ h1.book (h1.shelf _ hmem) (h1.kitOf hmem) h1.size hlim hN hr).mono ?_
  rintro e w' ⟨rfl, hs⟩
  obtain ⟨SB', vb', rows', hw', hl', hf'⟩ := h1.bookStep hs
  exact ⟨rfl, SB', vb', rows', hl', hw', (Foot.of hW).trans hf' (fun i e => .inl e)⟩
 have HW0 := hide hW0
 have HP := hide hpick
 clear h hW0 c13 c8 hpick hcp hbp
 ·skip
  go_enter Tryz.func53, Tryz.ntmps53
  go_upto_region 1 with fail
  rw [HW0.out]
  go_quiet (fail)
  obtain ⟨W1, hW1⟩ : ∃ W1, W0.drewN nq = W1 := ⟨_, rfl⟩
  rw [hW1]
  have hB1 : Below w.heap.size w W1 := by rw [← hW1]; exact below_drewN hB0 _
  have k0 := (cell_drewN W0 nq _).trans k0
  rw [hW1] at k0
  have d13 : W1.cell? ⟨bw, 13, none⟩ = some (.int .i64 5) := by rw [← hW1]; exact d13
  have d8 : W1.cell? ⟨bw, 8, none⟩ = some (.slice (some ⟨g, off, none⟩) ps.length capv) := by rw [← hW1]; exact d8
  have dp : W1.cell? ⟨g, off + kp, none⟩ = some (.pointer (some ⟨bp, 0, none⟩)) := by rw [← hW1]; exact dp
  have k1 : W1.cell? ⟨w.heap.size, 1, none⟩ = some (.int .i64 ix) := by rw [← hW1]; exact k1
  have k2 : W1.cell? ⟨w.heap.size, 2, none⟩ = some (.string key) := by rw [← hW1]; exact k2
  have k3 : W1.cell? ⟨w.heap.size, 3, none⟩ = some (.string val) := by rw [← hW1]; exact k3
  have k4 : W1.cell? ⟨w.heap.size, 4, none⟩ = some (.int .i64 n) := by rw [← hW1]; exact k4
  have k5 : W1.cell? ⟨w.heap.size, 5, none⟩ = some (.int .i64 lim) := by rw [← hW1]; exact k5
  have k6 : W1.cell? ⟨w.heap.size, 6, none⟩ = some (.slice a m c) := by rw [← hW1]; exact k6
  clear hW1
  go_upto_region 5 with fail
  go_quiet (first | (go_at_call 97; refine Calls.quiet_of_same (HP.out _)))
  obtain ⟨W2, hW2⟩ : ∃ W2, W1.drewN nq = W2 := ⟨_, rfl⟩
  rw [hW2]
  have hB2 : Below w.heap.size w W2 := by rw [← hW2]; exact below_drewN hB1 _
  have k0 := (cell_drewN W1 nq _).trans k0
  rw [hW2] at k0
  have d13 : W2.cell? ⟨bw, 13, none⟩ = some (.int .i64 5) := by rw [← hW2]; exact d13
  have d8 : W2.cell? ⟨bw, 8, none⟩ = some (.slice (some ⟨g, off, none⟩) ps.length capv) := by rw [← hW2]; exact d8
  have dp : W2.cell? ⟨g, off + kp, none⟩ = some (.pointer (some ⟨bp, 0, none⟩)) := by rw [← hW2]; exact dp
  have k1 : W2.cell? ⟨w.heap.size, 1, none⟩ = some (.int .i64 ix) := by rw [← hW2]; exact k1
  have k2 : W2.cell? ⟨w.heap.size, 2, none⟩ = some (.string key) := by rw [← hW2]; exact k2
  have k3 : W2.cell? ⟨w.heap.size, 3, none⟩ = some (.string val) := by rw [← hW2]; exact k3
  have k4 : W2.cell? ⟨w.heap.size, 4, none⟩ = some (.int .i64 n) := by rw [← hW2]; exact k4
  have k5 : W2.cell? ⟨w.heap.size, 5, none⟩ = some (.int .i64 lim) := by rw [← hW2]; exact k5
  have k6 : W2.cell? ⟨w.heap.size, 6, none⟩ = some (.slice a m c) := by rw [← hW2]; exact k6
  clear hW2
  go_wp2_with (go_at_call 98; refine (HON.out _ hB2).mono ?_; rintro e w1 ⟨rfl, hans⟩; have HANS := hide hans; clear hans)
  go_ret
  exact ⟨rfl, HANS.out⟩
theorem step_any (X bw : Nat) (K1 K2 : Kit) (SB : Nat → Prop) (vb : Value) (rows : List Value) (vp : Value) (ps : List Pr) (N : Nat) (kind ix n lim : Int) (key val : ByteArray) (a : Option Addr) (m c : Nat) (w : World) (h : Wd w X bw K1 K2 SB vb rows vp ps N) (hix : -9223372036854775808 ≤ ix ∧ ix ≤ 9223372036854775807) (hn : -9223372036854775808 ≤ n ∧ n ≤ 9223372036854775807) (hlim : -9223372036854775808 ≤ lim ∧ lim ≤ 9223372036854775807) (hp0 : kind = 1 ∨ 0 < ps.length) (hps : ps.length ≤ 90000000) (hN : N ≤ 90000000) (hr : rows.length ≤ 100000000) :
  Calls Tryz.prog 53 #[.pointer (some ⟨bw, 0, none⟩), .agg #[.int .i64 kind, .int .i64 ix, .string key, .string val, .int .i64 n, .int .i64 lim, .slice a m c]] w fun e w' => e = .returned (.bool true) ∧ WdStep w w' X bw K1 K2 (rows.length + 4) (ps.length + 1) (N + 1) := by
 by_cases h1 : kind = 1
 ·subst h1
  refine (step_open X bw K1 K2 SB vb rows vp ps N ix n lim key val a m c w h hn (by omega)).mono ?_
  rintro e w' ⟨rfl, v', p, hw, hf⟩
  exact ⟨rfl, SB, vb, rows, v', ps ++ [p], hw.mono (Nat.le_succ N), by omega, by simp, by simp, hf⟩
 have hp : 0 < ps.length := by rcases hp0 with e | e; exact absurd e h1; exact e
 by_cases h2 : kind < 1 ∨ 5 < kind
 ·refine (step_off X bw K1 K2 SB vb rows vp ps N kind ix n lim key val a m c w h h2).mono ?_
  rintro e w' ⟨rfl, hw, hf⟩
  exact ⟨rfl, SB, vb, rows, vp, ps, hw.mono (Nat.le_succ N), by omega, hp, by omega, hf⟩
 by_cases h5 : kind = 5
 ·subst h5
  refine (step_scan X bw K1 K2 SB vb rows vp ps N ix n lim key val a m c w h hix hp (by omega) hN hlim hr).mono ?_
  rintro e w' ⟨rfl, SB', vb', rows', hl, hw, hf⟩
  exact ⟨rfl, SB', vb', rows', vp, ps, hw.mono (Nat.le_succ N), by omega, hp, by omega, hf⟩
 refine (step_key X bw K1 K2 SB vb rows vp ps N kind ix n lim (by omega) key val a m c w h hix hp (by omega) hN).mono ?_
 rintro e w' ⟨rfl, ps', hl, hw, hf⟩
 exact ⟨rfl, SB, vb, rows, vp, ps', hw, by omega, by omega, by omega, hf⟩
set_option maxRecDepth 100000 in
set_option maxHeartbeats 4000000 in
theorem asked_any (X bw : Nat) (K1 K2 : Kit) (SB : Nat → Prop) (vb : Value) (rows : List Value) (vp : Value) (ps : List Pr) (N : Nat) (w : World) (h : Wd w X bw K1 K2 SB vb rows vp ps N) (hN : N ≤ 90000000) (hr : rows.length + 4 * ps.length ≤ 90000000) :
  Calls Tryz.prog 54 #[.pointer (some ⟨bw, 0, none⟩)] w fun e w' => e = .returned (.bool true) ∧ Foot (fun i => X ≤ i ∨ i = bw) w w' := by
 obtain ⟨av, capv, rfl⟩ := (Reads.of_owns h.row).shape
 obtain ⟨P, hP⟩ : ∃ P, ps.length = P := ⟨_, rfl⟩
 rw [hP] at h hr
 have H := hide h
 have HP := hide hP
 clear h hP
 go_enter Tryz.func54, Tryz.ntmps54
 go_wp2_with fail
 go_loopw [3] (fun i wr => ∃ k : Nat, k ≤ P ∧ i = .int .i64 k ∧ Hid (∃ SB vb rows', rows'.length = rows.length + 4 * k ∧ Wd wr X bw K1 K2 SB vb rows' (.slice av P capv) ps N ∧ Foot (fun i => X ≤ i ∨ i = bw) w wr)) (fun i _ => P - (intOf i).toNat)
 case atStart => exact ⟨0, Nat.zero_le _, rfl, SB, vb, rows, rfl, H.out, Foot.refl _ _⟩
 case round =>
  obtain ⟨k, hk, rfl, HR⟩ := hrel
  obtain ⟨SB', vb', rows', hl', hw', hf'⟩ := HR.out
  have c8 := hw'.cp
  have hbw := hw'.book.lt
  by_cases hlt : k < P
  ·have hkp : k < ps.length := by have := HP.out; omega
   obtain ⟨-, g, off, hav, hg, hcp⟩ := hw'.pairAt hkp
   subst hav
   obtain ⟨bp, hbp⟩ : ∃ bp, ps[k].bp = bp := ⟨_, rfl⟩
   rw [hbp] at hcp
   have i1 : (0 : Int) ≤ (k : Int) := by omega
   have i2 : (k : Int) < (P : Int) := by omega
   have HS : Hid (Calls Tryz.prog 98 #[.pointer (some ⟨bw, 0, none⟩), .pointer (some ⟨bp, 0, none⟩), .int .i64 0, .string ⟨#[]⟩, .string ⟨#[]⟩, .int .i64 1000] wr fun e w1 => e = .returned (.bool true) ∧ w1.cell? ⟨bw, 13, none⟩ = some (.int .i64 5) ∧ bw < w1.heap.size ∧ Hid (∃ SB vb rows', rows'.length = rows.length + 4 * (k + 1) ∧ Wd w1 X bw K1 K2 SB vb rows' (.slice (some ⟨g, off, none⟩) P capv) ps N ∧ Foot (fun i => X ≤ i ∨ i = bw) w w1)) := by
    have hmem := List.getElem_mem hkp
    unfold Hid
    rw [← hbp]
    refine (scanned_any X bw SB' _ vb' rows' _ _ N ⟨#[]⟩ ⟨#[]⟩ 1000 _ hw'.book (hw'.shelf _ hmem) (hw'.kitOf hmem) hw'.size (by omega) hN (by omega)).mono ?_
    rintro e w1 ⟨rfl, hs⟩
    obtain ⟨SB2, vb2, rows2, hw2, hl2, hf2⟩ := hw'.bookStep hs
    exact ⟨rfl, hw2.most, hw2.book.lt, SB2, vb2, rows2, by omega, hw2, hf'.trans hf2 (fun i e => .inl e)⟩
   clear hw' hf' HR hbp
   go_wp2_with (go_at_call 98; refine HS.out.mono ?_; rintro e w1 ⟨rfl, c13, hbw1, HN⟩; clear c8 hcp)
   go_roundw
   case rel => exact ⟨k + 1, by omega, by go_num, HN⟩
   case measure => simp [intOf]; omega
  ·have HW : Hid (Calls Tryz.prog 16 #[.pointer (some ⟨bw, 9, none⟩)] wr fun e w' => e = .returned (.bool true) ∧ Hid (Foot (fun i => X ≤ i ∨ i = bw) w w')) := by
    refine (wholeN_any bw 9 X SB' vb' rows' wr hw'.book (by omega)).mono ?_
    rintro e w1 ⟨rfl, hb⟩
    exact ⟨rfl, hf'.trans (Foot.of hb) (fun i e => .inl e)⟩
   clear hw' hf' HR
   go_wp2_with (go_at_call 16; refine HW.out.mono ?_; rintro e w1 ⟨rfl, HN⟩)
   go_ret
   exact ⟨rfl, HN.out⟩
end Go.Proofs.YtmnjjjhmnhfapaaGreatDoor
