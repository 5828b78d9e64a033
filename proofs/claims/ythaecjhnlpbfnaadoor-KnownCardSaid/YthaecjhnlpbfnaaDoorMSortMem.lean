import Derived.Deep.RegionLaw
import Derived.BigRegion
import Derived.Deep.QuietTactic
import Derived.BigQuiet
import Derived.Test.YthaecjhnlpbfnaaDoorMCodeRank
import Derived.Test.YthaecjhnlpbfnaaDoorMCodeEnds
import Derived.Test.YthaecjhnlpbfnaaDoorMOrder
namespace Go.Proofs.YthaecjhnlpbfnaaDoor
open Go.RowKit

/-- append onto a slice that the call owns, as one step of a region that draws. -/
theorem step_append_own {P : Program} {ops : Array Oper} {o : Oper} {a : Act} {w : World} {K : Act → World → Prop} {Q : Exit → Act → World → Prop} {E : Prop} (hgd : o.guard = none) (s x : Operand) (t : TypeId)
    (ho : o.op = .call { callee := .builtin .append, args := #[s, x], argTypes := #[t, t] })
    (base : Nat) (e : TypeId) (i : TypeInfo) (z : Value) (size bytes : Nat) (ht : P.underlying t = some (.slice e)) (hi : P.info? e = some i) (hz : i.zero = some z)
    (hsize : i.size = size) (hby : i.bytes = bytes) (hzs : z.cells.size = size) (hsz : 0 < size)
    (v : Value) (n : Nat) (xs : List Value) (hs : a.eval s = v) (hown : w.ownsRow base e size v n xs)
    (ad : Addr) (m c : Nat) (news : List Value) (hx : a.eval x = .slice (some ad) m c) (hl : news.length = m * size) (hnews : ∀ j u, news[j]? = some u → w.cell? (ad.add j) = some u) (h1 : ∀ u ∈ news, u.oneCell' = true)
    (h63 : n + m ≤ maxLen) (hbytes : (n + m) * bytes ≤ 140737488355328) (hbase : base ≤ w.heap.size)
    (h : ∀ v' w', w'.ownsRow base e size v' (n + m) (xs ++ news) → w.grownBy w' v.ownBlock → (v'.ownBlock = v.ownBlock ∨ v'.ownBlock = some w.heap.size) → K (a.put o.dst v') w') :
    if Region.wanted o (yielded ops a.tmps) = true then Oper.wp P o a w K Q else E := by
  have hw : Region.wanted o (yielded ops a.tmps) = true := by simp [Region.wanted, hgd]
  rw [if_pos hw]
  obtain ⟨v', w', hr, h2, h3, _, h5⟩ := run_append_own_at (P := P) w base t o.type e i z size bytes ht hi hz hsize hby hzs hsz v n xs hown ad m c news hl hnews h1 h63 hbytes hbase
  unfold Oper.wp execOp
  simp only [ho, resolve, invoke, builtin, Sem.run_bind, Sem.run_pure, Result.andThen_ok, List.map_toArray, List.map_cons, List.map_nil, hs, hx, hr]
  exact h v' w' h2 h3 h5

/-- Blocks that are to come are only read. -/
def freshCol (col : Nat → Int) (B : Nat) : Nat → Int := fun g => if g < B then col g else -1
theorem Rep.fresh {w : World} {col : Nat → Int} {base bd bm : Nat} {line : Int} {vp vw : Value} {lns : List Tm.Ln} (h : Rep w col base bd bm line vp vw lns) : Rep w (freshCol col w.heap.size) base bd bm line vp vw lns :=
  h.keep ⟨Nat.le_refl _, fun _ _ _ => rfl, fun g hg => by unfold freshCol; rw [if_pos hg]⟩
theorem freshCol_new {col : Nat → Int} {B g : Nat} (h : B ≤ g) : freshCol col B g = -1 := by unfold freshCol; rw [if_neg (by omega)]

theorem dLines_le (lns : List Tm.Ln) : (Tm.dLines lns).length ≤ lns.length := List.length_filter_le _ _
theorem wLines_le (lns : List Tm.Ln) : (Tm.wLines lns).length ≤ lns.length := List.length_filter_le _ _
theorem seqsAt_le (lns : List Tm.Ln) (r : Int) : (Tm.seqsAt lns r).length ≤ lns.length := List.length_filter_le _ _

/-- The row of lines d has grown, and the draft has its new slice. -/
theorem Rep.parts {w w4 : World} {o : Obj} {col : Nat → Int} {base bd bm : Nat} {line : Int} {vp vw v' : Value} {lns : List Tm.Ln} {l : Tm.Ln} (hdr : Dr w col base bd bm line vp vw) (hnd : Nd w col base bm (lns ++ [l])) (hpt : Pt w col base vp lns) (hwt : Wt w col base vw lns) (hfit : ∀ o ∈ lns, Tm.Fit o) (hlow : ∀ g, g < base → col g ≠ -1) (hl : Tm.Fit l) (hk : l.kind = [100])
    (hown : w4.ownsRow base 149 2 v' ((Tm.dLines lns).length + 1) (partCells (Tm.dLines lns) ++ [.int .i64 l.num, .int .i64 (l.runes.getD 0 0)])) (hg : (w.drew.alloc o).grownBy w4 vp.ownBlock) (hat : v'.ownBlock = vp.ownBlock ∨ v'.ownBlock = some (w.drew.alloc o).heap.size) :
    Rep (w4.setCell ⟨bd, 2, none⟩ v') (recol col (w.drew.alloc o).heap.size (-4)) base bd bm line v' vw (lns ++ [l]) := by
  have hsz : (w.drew.alloc o).heap.size = w.heap.size + 1 := by simp
  have hbl : ∀ g, g < w.heap.size → (w.drew.alloc o).heap[g]? = w.heap[g]? := fun g hg => Below.heap_alloc w.drew o g hg
  have hlt := hdr.lt
  have hw4 : w.heap.size + 1 ≤ w4.heap.size := by have := hg.size; omega
  have hneb : vp.ownBlock ≠ some bd := fun e => by have := hpt.2 bd e; rw [hdr.hue] at this; omega
  have hneb' : v'.ownBlock ≠ some bd := by
    rcases hat with e | e
    · rw [e]; exact hneb
    · rw [e, hsz]; simp; omega
  have k0 : Keeps w w4 col (recol col (w.drew.alloc o).heap.size (-4)) (· ≠ -4) := by
    refine ⟨by omega, fun g hg' hc => ?_, fun g hg' => by unfold recol; rw [if_neg (by omega)]⟩
    rw [hg.block g (by omega) (fun e => hc (hpt.2 g e.symm)), hbl g hg']
  have k : Keeps w (w4.setCell ⟨bd, 2, none⟩ v') col (recol col (w.drew.alloc o).heap.size (-4)) (fun c => c ≠ -4 ∧ c ≠ -3) := by
    refine ⟨by simp [World.setCell]; omega, fun g hg' hc => ?_, k0.same⟩
    rw [Below.heap_setCell _ _ _ _ (by simp only; intro e; subst e; exact hc.2 hdr.hue)]
    exact k0.block g hg' hc.1
  have d0 := hdr.keep k0 (by decide)
  refine ⟨⟨d0.hue, d0.from_, by simpa [World.setCell] using d0.lt, ?_, ?_, ?_, ?_, fun q => ?_⟩, ?_, ?_, ?_, fit_snoc hfit hl, fun q hq => by rw [k0.same q (by have := hdr.from_; omega)]; exact hlow q hq⟩
  · rw [World.cell?_setCell_other _ _ _ _ (by simp)]; exact d0.c0
  · rw [World.cell?_setCell_other _ _ _ _ (by simp)]; exact d0.c1
  · exact World.cell?_setCell_same _ _ _ d0.c2
  · rw [World.cell?_setCell_other _ _ _ _ (by simp)]; exact d0.c3
  · rw [World.frozen?_setCell]; exact d0.free q
  · exact hnd.keep k (by decide) (by decide) (fun r hr => by omega)
  · unfold Pt
    rw [Tm.dLines_snoc, if_pos hk, partCells_snoc]
    refine ⟨?_, ?_⟩
    · exact ownsRow_same (by simpa using hown) (fun g hg' => Below.heap_setCell _ _ _ _ (by simp only; intro e; subst e; exact hneb' hg'))
    · intro g hg'
      rcases hat with e | e
      · rw [e] at hg'
        have h1 := hpt.2 g hg'
        unfold recol
        split
        · rfl
        · exact h1
      · rw [e] at hg'; cases hg'
        unfold recol; rw [if_pos rfl]
  · unfold Wt
    rw [Tm.wLines_snoc, if_neg (by rw [hk]; simp)]
    exact hwt.keep k (by decide) (by decide)
theorem news_two {w : World} {x y : Value} {t : TypeId} {H : Nat} (hH : w.heap.size = H) : ∀ j u, [x, y][j]? = some u → (w.alloc (.cells #[x, y] t)).cell? ((⟨H, 0, none⟩ : Addr).add j) = some u := by
  subst hH
  intro j u hj
  match j, hj with
  | 0, hj => simp at hj; subst hj; simp [Addr.add]
  | 1, hj => simp at hj; subst hj; simp [Addr.add]
theorem news_three {w : World} {x y z : Value} {t : TypeId} {H : Nat} (hH : w.heap.size = H) : ∀ j u, [x, y, z][j]? = some u → (w.alloc (.cells #[x, y, z] t)).cell? ((⟨H, 0, none⟩ : Addr).add j) = some u := by
  subst hH
  intro j u hj
  match j, hj with
  | 0, hj => simp at hj; subst hj; simp [Addr.add]
  | 1, hj => simp at hj; subst hj; simp [Addr.add]
  | 2, hj => simp at hj; subst hj; simp [Addr.add]
end Go.Proofs.YthaecjhnlpbfnaaDoor
namespace Go.Proofs.YthaecjhnlpbfnaaDoor
open Go.RowKit

theorem seqOf_some {lns : List Tm.Ln} {q : List Int} : ((Tm.seqsAt lns (q.getD 0 0)).any fun o => decide (o.runes = q)) = !(Tm.seqOf lns q).isNone := by
  unfold Tm.seqsAt Tm.seqOf
  rw [List.any_filter]
  have e : (fun o => Tm.isHead (q.getD 0 0) o && decide (o.runes = q)) = Tm.isSeq q := by
    funext o
    unfold Tm.isHead Tm.isSeq
    by_cases h : o.runes = q
    · subst h; simp
    · simp [h]
  rw [e]
  cases h : lns.find? (Tm.isSeq q) with
  | none =>
    have := List.find?_eq_none.1 h
    simp only [Option.map_none, Option.isNone_none, Bool.not_true]
    rw [List.any_eq_false]; exact this
  | some o =>
    simp only [Option.map_some, Option.isNone_some, Bool.not_false]
    exact List.any_eq_true.2 ⟨o, List.mem_of_find?_eq_some h, List.find?_some h⟩

set_option maxRecDepth 100000 in
set_option maxHeartbeats 1000000 in
theorem hasSequence_any (lns : List Tm.Ln) (bm : Nat) (vr : Value) (q : List Int) (w : World) (hrd : NodesRd w bm lns) (hr : Reads w vr 1 q.length (ints q)) (hq : 0 < q.length) (hrg : ∀ r ∈ q, 0 ≤ r ∧ r ≤ 1114111) (hl : q.length ≤ 3) (hn : lns.length ≤ 8192) (hf : ∀ o ∈ lns, Tm.Fit o) :
    Calls Tryd.prog 77 #[.map (some bm), vr] w fun e w' => e = .returned (.bool (!(Tm.seqOf lns q).isNone)) ∧ Below w.heap.size w w' := by
  obtain ⟨r, rs, rfl⟩ : ∃ r rs, q = r :: rs := by
    cases q with
    | nil => simp at hq
    | cons x y => exact ⟨x, y, rfl⟩
  have hr0 := hrg r (by simp)
  obtain ⟨f, vp, vs, hmap, hfv, _, hs⟩ := hrd.at hr0.1
  obtain ⟨a, cap, rfl⟩ := hr.shape
  obtain ⟨g, off, rfl, hg, c0⟩ := hr.at (k := 0) (by simp)
  rw [Nat.add_zero] at c0
  have HMAP := hide hmap
  have HR := hide hr
  have HSQ := hide hs
  have HE := hide (seqOf_some (lns := lns) (q := r :: rs))
  have hf1 := field_weighing
  have hle := seqsAt_le lns r
  have HFEW : Hid (∀ o ∈ Tm.seqsAt lns r, o.runes.length ≤ 1000000) := fun o ho => by have := (hf o (List.mem_filter.1 ho).1).few; omega
  have HELS := hide (seqs_els hf (r := r))
  clear hmap hr hs hrd hf
  have c0' : w.cell? ⟨g, off, none⟩ = some (.int .i64 r) := c0
  generalize hln : (r :: rs).length = ln at *
  have HLN := hide hln
  clear hln c0
  go_enter Tryd.func77, Tryd.ntmps77
  go_wp2_with (at_lookup; go_must (refine wpList_look rfl _ _ rfl bm lns.length f rfl HMAP.out r rfl (wf_rune hr0) _ hfv ?_))
  refine (has_any vs _ (Tm.seqsAt lns r) (r :: rs) _ HSQ.out (by rw [HLN.out]; exact HR.out) (by omega) HFEW.out (by rw [HLN.out]; omega) HELS.out).mono ?_
  rintro e w1 ⟨rfl, hb⟩
  have HB := hide hb
  clear hb
  go_wp2
  go_ret
  exact ⟨ret_bool HE.out, HB.out⟩
theorem Reads.two {w : World} {g off n cap : Nat} {l : List Int} (h : Reads w (.slice (some ⟨g, off, none⟩) n cap) 1 l.length (ints l)) {k : Nat} (hk : k ≤ l.length) :
    Reads w (.slice (some ⟨g, off, none⟩) k cap) 1 (l.take k).length (ints (l.take k)) := by
  obtain ⟨h1, hlt, a, cap', he, hcap, hc⟩ := h
  cases he
  have hlen : (l.take k).length = k := by simp; omega
  refine ⟨by rw [ints_length]; omega, fun g' hg' => hlt g' (by simpa [Value.ownBlock] using hg'), _, _, by rw [hlen], ⟨by omega, by omega⟩, fun j u hu => ?_⟩
  have hj : (ints l)[j]? = some u := by
    have : j < (l.take k).length := by
      by_cases e : j < (l.take k).length
      · exact e
      · rw [List.getElem?_eq_none (by rw [ints_length]; omega)] at hu; cases hu
    rw [← hu]
    simp only [ints, List.getElem?_map, List.getElem?_take]
    rw [if_pos (by omega)]
  obtain ⟨g', off', he, hcell⟩ := hc j u hj
  cases he
  exact ⟨g, off, rfl, hcell⟩

end Go.Proofs.YthaecjhnlpbfnaaDoor
/-
  A row of numbers that is sorted in place.
-/
namespace Go.Proofs.YthaecjhnlpbfnaaDoor
open Go.RowKit

/-- Cells that hold these numbers, and may be written. -/
def Ints (w : World) (g off : Nat) (d : List Int) : Prop := ∀ j x, d[j]? = some x → w.cell? ⟨g, off + j, none⟩ = some (.int .i64 x) ∧ w.frozen? ⟨g, off + j, none⟩ = false
/-- Nothing has turned but n cells of block g from off on. -/
structure Turn (g off n : Nat) (w w' : World) : Prop where
  os : w'.os = w.os
  tape : w'.tape = w.tape
  output : w'.output = w.output
  size : w'.heap.size = w.heap.size
  other : ∀ k, k ≠ g → w'.heap[k]? = w.heap[k]?
  cells : ∀ cur e p, w.heap[g]? = some (.cells cur e p) → ∃ cur', w'.heap[g]? = some (.cells cur' e p) ∧ cur'.size = cur.size ∧ ∀ o, o < off ∨ off + n ≤ o → cur'[o]? = cur[o]?
theorem Turn.refl (g off n : Nat) (w : World) : Turn g off n w w := ⟨rfl, rfl, rfl, rfl, fun _ _ => rfl, fun cur _ _ h => ⟨cur, h, rfl, fun _ _ => rfl⟩⟩
theorem Turn.drew {g off n : Nat} {w w' : World} (h : Turn g off n w w') : Turn g off n w w'.drew := ⟨h.os, h.tape, h.output, h.size, h.other, h.cells⟩
theorem Turn.drewN {g off n : Nat} {w w' : World} (h : Turn g off n w w') (m : Nat) : Turn g off n w (w'.drewN m) := ⟨h.os, h.tape, h.output, h.size, h.other, h.cells⟩
theorem Turn.trans {g off n : Nat} {a b c : World} (h : Turn g off n a b) (k : Turn g off n b c) : Turn g off n a c := by
  refine ⟨k.os.trans h.os, k.tape.trans h.tape, k.output.trans h.output, k.size.trans h.size, fun i hi => (k.other i hi).trans (h.other i hi), fun cur e p hc => ?_⟩
  obtain ⟨c1, h1, h2, h3⟩ := h.cells cur e p hc
  obtain ⟨c2, k1, k2, k3⟩ := k.cells c1 e p h1
  exact ⟨c2, k1, k2.trans h2, fun o ho => (k3 o ho).trans (h3 o ho)⟩
theorem Turn.wide {g off n off' n' : Nat} {w w' : World} (h : Turn g off n w w') (h1 : off' ≤ off) (h2 : off + n ≤ off' + n') : Turn g off' n' w w' := by
  refine ⟨h.os, h.tape, h.output, h.size, h.other, fun cur e p hc => ?_⟩
  obtain ⟨c, a, b, d⟩ := h.cells cur e p hc
  exact ⟨c, a, b, fun o ho => d o (by omega)⟩
theorem Turn.setCell {g off n : Nat} {w w' : World} (h : Turn g off n w w') {o : Nat} (h1 : off ≤ o) (h2 : o < off + n) (v : Value) : Turn g off n w (w'.setCell ⟨g, o, none⟩ v) := by
  refine h.trans ⟨rfl, rfl, rfl, by simp [World.setCell], fun k hk => Below.heap_setCell _ _ _ _ hk, fun cur e p hc => ?_⟩
  refine ⟨cur.setIfInBounds o v, ?_, by simp, fun q hq => ?_⟩
  · simp only [World.setCell, Array.getElem?_modify, hc]; rfl
  · rw [Array.getElem?_setIfInBounds, if_neg (by omega)]
theorem Turn.below {g off n B : Nat} {w0 w w' : World} (h : Turn g off n w w') (hb : Below B w0 w) (hg : B ≤ g) : Below B w0 w' :=
  hb.trans ⟨h.os, h.tape, h.output, by rw [h.size]; exact Nat.le_refl _, fun k hk => h.other k (by omega)⟩

theorem Ints.at {w : World} {g off : Nat} {d : List Int} (h : Ints w g off d) {j : Nat} (hj : j < d.length) : w.cell? ⟨g, off + j, none⟩ = some (.int .i64 d[j]) ∧ w.frozen? ⟨g, off + j, none⟩ = false := h j d[j] (by simp [hj])
theorem Ints.drewN {w : World} {g off : Nat} {d : List Int} (h : Ints w g off d) (m : Nat) : Ints (w.drewN m) g off d := h
/-- Two of them exchanged. -/
theorem Ints.swap {w : World} {g off : Nat} {a b c : List Int} {x y : Int} {i j : Nat} (h : Ints w g off (a ++ x :: (b ++ y :: c))) (hi : i = a.length) (hj : j = a.length + 1 + b.length) :
    Ints ((w.setCell ⟨g, off + i, none⟩ (.int .i64 y)).setCell ⟨g, off + j, none⟩ (.int .i64 x)) g off (a ++ y :: (b ++ x :: c)) := by
  subst hi hj
  have hx := h a.length x (by simp)
  have hy := h (a.length + 1 + b.length) y (by rw [List.getElem?_append_right (by omega), show a.length + 1 + b.length - a.length = b.length + 1 from by omega]; simp)
  intro q u hu
  rw [World.frozen?_setCell, World.frozen?_setCell]
  by_cases e1 : q = a.length + 1 + b.length
  · subst e1
    rw [List.getElem?_append_right (by omega), show a.length + 1 + b.length - a.length = b.length + 1 from by omega] at hu
    simp at hu
    subst hu
    exact ⟨World.cell?_setCell_same _ _ _ ((World.cell?_setCell_other _ _ _ _ (by simp <;> omega)).trans hy.1), hy.2⟩
  · rw [World.cell?_setCell_other _ _ _ _ (by simp <;> omega)]
    by_cases e2 : q = a.length
    · subst e2
      simp at hu
      subst hu
      exact ⟨World.cell?_setCell_same _ _ _ hx.1, hx.2⟩
    · rw [World.cell?_setCell_other _ _ _ _ (by simp <;> omega)]
      refine h q u ?_
      rw [← hu]
      by_cases e3 : q < a.length
      · rw [List.getElem?_append_left e3, List.getElem?_append_left e3]
      · rw [List.getElem?_append_right (by omega), List.getElem?_append_right (by omega)]
        obtain ⟨t, ht⟩ : ∃ t, q - a.length = t + 1 := ⟨q - a.length - 1, by omega⟩
        rw [ht, List.getElem?_cons_succ, List.getElem?_cons_succ]
        by_cases e4 : t < b.length
        · rw [List.getElem?_append_left e4, List.getElem?_append_left e4]
        · rw [List.getElem?_append_right (by omega), List.getElem?_append_right (by omega)]
          obtain ⟨s, hs⟩ : ∃ s, t - b.length = s + 1 := ⟨t - b.length - 1, by omega⟩
          rw [hs, List.getElem?_cons_succ, List.getElem?_cons_succ]

/-- .. the hinder one first. -/
theorem Ints.swapR {w : World} {g off : Nat} {a b c : List Int} {x y : Int} {i j : Nat} (h : Ints w g off (a ++ x :: (b ++ y :: c))) (hi : i = a.length) (hj : j = a.length + 1 + b.length) :
    Ints ((w.setCell ⟨g, off + j, none⟩ (.int .i64 x)).setCell ⟨g, off + i, none⟩ (.int .i64 y)) g off (a ++ y :: (b ++ x :: c)) := by
  subst hi hj
  have hx := h a.length x (by simp)
  have hy := h (a.length + 1 + b.length) y (by rw [List.getElem?_append_right (by omega), show a.length + 1 + b.length - a.length = b.length + 1 from by omega]; simp)
  intro q u hu
  rw [World.frozen?_setCell, World.frozen?_setCell]
  by_cases e1 : q = a.length + 1 + b.length
  · subst e1
    rw [List.getElem?_append_right (by omega), show a.length + 1 + b.length - a.length = b.length + 1 from by omega] at hu
    simp at hu
    subst hu
    rw [World.cell?_setCell_other _ _ _ _ (by simp <;> omega)]
    exact ⟨World.cell?_setCell_same _ _ _ hy.1, hy.2⟩
  · by_cases e2 : q = a.length
    · subst e2
      simp at hu
      subst hu
      exact ⟨World.cell?_setCell_same _ _ _ ((World.cell?_setCell_other _ _ _ _ (by simp <;> omega)).trans hx.1), hx.2⟩
    · rw [World.cell?_setCell_other _ _ _ _ (by simp <;> omega), World.cell?_setCell_other _ _ _ _ (by simp <;> omega)]
      refine h q u ?_
      rw [← hu]
      by_cases e3 : q < a.length
      · rw [List.getElem?_append_left e3, List.getElem?_append_left e3]
      · rw [List.getElem?_append_right (by omega), List.getElem?_append_right (by omega)]
        obtain ⟨t, ht⟩ : ∃ t, q - a.length = t + 1 := ⟨q - a.length - 1, by omega⟩
        rw [ht, List.getElem?_cons_succ, List.getElem?_cons_succ]
        by_cases e4 : t < b.length
        · rw [List.getElem?_append_left e4, List.getElem?_append_left e4]
        · rw [List.getElem?_append_right (by omega), List.getElem?_append_right (by omega)]
          obtain ⟨s, hs⟩ : ∃ s, t - b.length = s + 1 := ⟨t - b.length - 1, by omega⟩
          rw [hs, List.getElem?_cons_succ, List.getElem?_cons_succ]

/-- How two numbers compare. -/
def cmpInt (a b : Int) : Int := if a < b then -1 else if b < a then 1 else 0
theorem cmpInt_neg {a b : Int} : decide (cmpInt a b < 0) = decide (a < b) := by
  unfold cmpInt
  by_cases h : a < b
  · simp [h]
  · rw [if_neg h]
    by_cases h2 : b < a
    · simp [h, h2]
    · simp [h, h2]

set_option maxRecDepth 100000 in
theorem isNaN_any (a : Int) (w : World) : Calls Tryd.prog 76 #[.int .i64 a] w fun e w' => e = .returned (.bool false) ∧ w' = w := by
  go_enter Tryd.func76, Tryd.ntmps76
  go_wp2
  go_ret
  refine ⟨ret_bool (by simp), rfl⟩
set_option maxRecDepth 100000 in
set_option maxHeartbeats 1000000 in
theorem Compare_any (a b : Int) (w : World) : Calls Tryd.prog 59 #[.int .i64 a, .int .i64 b] w fun e w' => e = .returned (.int .i64 (cmpInt a b)) ∧ w' = w := by
  have HC : Hid (cmpInt a b = if a < b then -1 else if b < a then 1 else 0) := rfl
  by_cases h1 : a < b
  · have hd : decide (a < b) = true := by simpa using h1
    go_enter Tryd.func59, Tryd.ntmps59
    go_wp2_with fail
    refine (isNaN_any a _).mono ?_
    rintro e w' ⟨rfl, rfl⟩
    go_wp2_with fail
    refine (isNaN_any b _).mono ?_
    rintro e w' ⟨rfl, rfl⟩
    go_wp2
    go_ret
    exact ⟨ret_int (by rw [HC.out, if_pos (by omega)]), rfl⟩
  · have hd : decide (a < b) = false := by simpa using h1
    by_cases h2 : b < a
    · have hd2 : decide (b < a) = true := by simpa using h2
      go_enter Tryd.func59, Tryd.ntmps59
      go_wp2_with fail
      refine (isNaN_any a _).mono ?_
      rintro e w' ⟨rfl, rfl⟩
      go_wp2_with fail
      refine (isNaN_any b _).mono ?_
      rintro e w' ⟨rfl, rfl⟩
      go_wp2
      go_ret
      exact ⟨ret_int (by rw [HC.out, if_neg (by omega), if_pos (by omega)]), rfl⟩
    · have hd2 : decide (b < a) = false := by simpa using h2
      go_enter Tryd.func59, Tryd.ntmps59
      go_wp2_with fail
      refine (isNaN_any a _).mono ?_
      rintro e w' ⟨rfl, rfl⟩
      go_wp2_with fail
      refine (isNaN_any b _).mono ?_
      rintro e w' ⟨rfl, rfl⟩
      go_wp2
      go_ret
      exact ⟨ret_int (by rw [HC.out, if_neg (by omega), if_neg (by omega)]), rfl⟩
theorem field_class (c : Int) (w : World) : (Instr.field 134 (.agg #[.int .i64 c]) 0).run Tryd.prog w = .ok (.int .i64 c) w := by kernel_rfl
set_option maxRecDepth 100000 in
set_option maxHeartbeats 1000000 in
theorem byClass_any (lns : List Tm.Ln) (bm : Nat) (a b : Int) (w : World) (hrd : NodesRd w bm lns) (ha : 0 ≤ a ∧ a ≤ 1114111) (hb : 0 ≤ b ∧ b ≤ 1114111) :
    Calls Tryd.prog 84 #[.map (some bm), .int .i64 a, .int .i64 b] w fun e w' => e = .returned (.int .i64 (cmpInt (Tm.classOf lns a) (Tm.classOf lns b))) ∧ w' = w := by
  obtain ⟨f, hmap, hok⟩ := hrd
  obtain ⟨vp, vs, hfa, _, _⟩ := hok a ha.1
  obtain ⟨vp', vs', hfb, _, _⟩ := hok b hb.1
  have HMAP := hide hmap
  have hf1 := field_rank
  have hf2 := field_class
  clear hmap hok
  go_enter Tryd.func84, Tryd.ntmps84
  go_wp2_with (at_lookup; first | (refine wpList_look rfl _ _ rfl bm lns.length f rfl HMAP.out a rfl (wf_rune ha) _ hfa ?_) | (refine wpList_look rfl _ _ rfl bm lns.length f rfl HMAP.out b rfl (wf_rune hb) _ hfb ?_))
  refine (Compare_any _ _ _).mono ?_
  rintro e w' ⟨rfl, rfl⟩
  go_wp2
  go_ret
  exact ⟨rfl, rfl⟩
end Go.Proofs.YthaecjhnlpbfnaaDoor
