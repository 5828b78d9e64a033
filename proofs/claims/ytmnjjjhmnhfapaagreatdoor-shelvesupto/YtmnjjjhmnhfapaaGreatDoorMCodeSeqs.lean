import Derived.Deep.RegionLaw
import Derived.Test.YtmnjjjhmnhfapaaGreatDoorMCodeRank
namespace Go.Proofs.YtmnjjjhmnhfapaaGreatDoor
open Go.RowKit
theorem step_append_own {P : Program} {ops : Array Oper} {o : Oper} {a : Act} {w : World} {K : Act → World → Prop} {Q : Exit → Act → World → Prop} {E : Prop} (hgd : o.guard = none) (s x : Operand) (t : TypeId)
  (ho : o.op = .call { callee := .builtin .append, args := #[s, x], argTypes := #[t, t] })
  (base : Nat) (e : TypeId) (i : TypeInfo) (z : Value) (size bytes : Nat) (ht : P.underlying t = some (.slice e)) (hi : P.info? e = some i) (hz : i.zero = some z)
  (hsize : i.size = size) (hby : i.bytes = bytes) (hzs : z.cells.size = size) (hsz : 0 < size)
  (v : Value) (n : Nat) (xs : List Value) (hs : a.eval s = v) (hown : w.ownsRow base e size v n xs)
  (ad : Addr) (m c : Nat) (news : List Value) (hx : a.eval x = .slice (some ad) m c) (hl : news.length = m * size) (hnews : ∀ j u, news[j]? = some u → w.cell? (ad.add j) = some u) (h1 : ∀ u ∈ news, u.oneCell' = true)
  (h63 : n + m ≤ maxLen) (hbytes : (n + m) * bytes ≤ 140737488355328) (hbase : base ≤ w.heap.size)
  (h : ∀ v' w', w'.ownsRow base e size v' (n + m) (xs ++ news) → w.grownBy w' v.ownBlock → (v'.ownBlock = v.ownBlock ∨ v'.ownBlock = some w.heap.size) → K (a.put o.dst v') w') :
  if Region.wanted o (yielded ops a.tmps) = true then Oper.wp P o a w K Q else E := by
 have hw : Region.wanted o (yielded ops a.tmps) = true := by simp [Region.wanted, hgd]
 rw [if_pos hw]
 obtain ⟨v', w', hr, h2, h3, _, h5⟩ := run_append_own_at (P := P) w base t o.type e i z size bytes ht hi hz hsize hby hzs hsz v n xs hown ad m c news hl hnews h1 h63 hbytes hbase
 unfold Oper.wp execOp
 simp only [ho, resolve, invoke, builtin, Sem.run_bind, Sem.run_pure, Result.andThen_ok, List.map_toArray, List.map_cons, List.map_nil, hs, hx, hr]
 exact h v' w' h2 h3 h5
def freshCol (col : Nat → Int) (B : Nat) : Nat → Int := fun g => if g < B then col g else -1
theorem Rep.fresh {w : World} {col : Nat → Int} {base bd bm : Nat} {line : Int} {vp vw : Value} {lns : List Tm.Ln} (h : Rep w col base bd bm line vp vw lns) : Rep w (freshCol col w.heap.size) base bd bm line vp vw lns :=
 h.keep ⟨Nat.le_refl _, fun _ _ _ => rfl, fun g hg => by unfold freshCol; rw [if_pos hg]⟩
theorem freshCol_new {col : Nat → Int} {B g : Nat} (h : B ≤ g) : freshCol col B g = -1 := by unfold freshCol; rw [if_neg (by omega)]
theorem dLines_le (lns : List Tm.Ln) : (Tm.dLines lns).length ≤ lns.length := List.length_filter_le _ _
theorem wLines_le (lns : List Tm.Ln) : (Tm.wLines lns).length ≤ lns.length := List.length_filter_le _ _
theorem seqsAt_le (lns : List Tm.Ln) (r : Int) : (Tm.seqsAt lns r).length ≤ lns.length := List.length_filter_le _ _
theorem Rep.parts {w w4 : World} {o : Obj} {col : Nat → Int} {base bd bm : Nat} {line : Int} {vp vw v' : Value} {lns : List Tm.Ln} {l : Tm.Ln} (hdr : Dr w col base bd bm line vp vw) (hnd : Nd w col base bm (lns ++ [l])) (hpt : Pt w col base vp lns) (hwt : Wt w col base vw lns) (hfit : ∀ o ∈ lns, Tm.Fit o) (hlow : ∀ g, g < base → col g ≠ -1) (hl : Tm.Fit l) (hk : l.kind = [100])
  (hown : w4.ownsRow base 234 2 v' ((Tm.dLines lns).length + 1) (partCells (Tm.dLines lns) ++ [.int .i64 l.num, .int .i64 (l.runes.getD 0 0)])) (hg : (w.drew.alloc o).grownBy w4 vp.ownBlock) (hat : v'.ownBlock = vp.ownBlock ∨ v'.ownBlock = some (w.drew.alloc o).heap.size) :
  Rep (w4.setCell ⟨bd, 2, none⟩ v') (recol col (w.drew.alloc o).heap.size (-4)) base bd bm line v' vw (lns ++ [l]) := by
 have hsz : (w.drew.alloc o).heap.size = w.heap.size + 1 := by simp
 have hbl : ∀ g, g < w.heap.size → (w.drew.alloc o).heap[g]? = w.heap[g]? := fun g hg => Below.heap_alloc w.drew o g hg
 have hlt := hdr.lt
 have hw4 : w.heap.size + 1 ≤ w4.heap.size := by have := hg.size; omega
 have hneb : vp.ownBlock ≠ some bd := fun e => by have := hpt.2 bd e; rw [hdr.hue] at this; omega
 have hneb' : v'.ownBlock ≠ some bd := by
  rcases hat with e | e
  ·rw [e]; exact hneb
  ·rw [e, hsz]; simp; omega
 have k0 : Keeps w w4 col (recol col (w.drew.alloc o).heap.size (-4)) (· ≠ -4) := by
  refine ⟨by omega, fun g hg' hc => ?_, fun g hg' => by unfold recol; rw [if_neg (by omega)]⟩
  rw [hg.block g (by omega) (fun e => hc (hpt.2 g e.symm)), hbl g hg']
 have k : Keeps w (w4.setCell ⟨bd, 2, none⟩ v') col (recol col (w.drew.alloc o).heap.size (-4)) (fun c => c ≠ -4 ∧ c ≠ -3) := by
  refine ⟨by simp [World.setCell]; omega, fun g hg' hc => ?_, k0.same⟩
  rw [Below.heap_setCell _ _ _ _ (by simp only; intro e; subst e; exact hc.2 hdr.hue)]
  exact k0.block g hg' hc.1
 have d0 := hdr.keep k0 (by decide)
 refine ⟨⟨d0.hue, d0.from_, by simpa [World.setCell] using d0.lt, ?_, ?_, ?_, ?_, fun q => ?_⟩, ?_, ?_, ?_, fit_snoc hfit hl, fun q hq => by rw [k0.same q (by have := hdr.from_; omega)]; exact hlow q hq⟩
 ·rw [World.cell?_setCell_other _ _ _ _ (by simp)]; exact d0.c0
 ·rw [World.cell?_setCell_other _ _ _ _ (by simp)]; exact d0.c1
 ·exact World.cell?_setCell_same _ _ _ d0.c2
 ·rw [World.cell?_setCell_other _ _ _ _ (by simp)]; exact d0.c3
 ·rw [World.frozen?_setCell]; exact d0.free q
 ·exact hnd.keep k (by decide) (by decide) (fun r hr => by omega)
 ·unfold Pt
  rw [Tm.dLines_snoc, if_pos hk, partCells_snoc]
  refine ⟨?_, ?_⟩
  ·exact ownsRow_same (by simpa using hown) (fun g hg' => Below.heap_setCell _ _ _ _ (by simp only; intro e; subst e; exact hneb' hg'))
  ·intro g hg'
   rcases hat with e | e
   ·rw [e] at hg'
    have h1 := hpt.2 g hg'
    unfold recol
    split
    ·rfl
    ·exact h1
   ·rw [e] at hg'; cases hg'
    unfold recol; rw [if_pos rfl]
 ·unfold Wt
  rw [Tm.wLines_snoc, if_neg (by rw [hk]; simp)]
  exact hwt.keep k (by decide) (by decide)
theorem news_two {w : World} {x y : Value} {t : TypeId} {H : Nat} (hH : w.heap.size = H) : ∀ j u, [x, y][j]? = some u → (w.alloc (.cells #[x, y] t)).cell? ((⟨H, 0, none⟩ : Addr).add j) = some u := by
 subst hH
 intro j u hj
 match j, hj with
 | 0, hj => simp at hj; subst hj; simp [Addr.add]
 | 1, hj => simp at hj; subst hj; simp [Addr.add]
theorem news_three {w : World} {x y z : Value} {t : TypeId} {H : Nat} (hH : w.heap.size = H) : ∀ j u, [x, y, z][j]? = some u → (w.alloc (.cells #[x, y, z] t)).cell? ((⟨H, 0, none⟩ : Addr).add j) = some u := by
 subst hH
 intro j u hj
 match j, hj with
 | 0, hj => simp at hj; subst hj; simp [Addr.add]
 | 1, hj => simp at hj; subst hj; simp [Addr.add]
 | 2, hj => simp at hj; subst hj; simp [Addr.add]
theorem seqOf_some {lns : List Tm.Ln} {q : List Int} : ((Tm.seqsAt lns (q.getD 0 0)).any fun o => decide (o.runes = q)) = !(Tm.seqOf lns q).isNone := by
 unfold Tm.seqsAt Tm.seqOf
 rw [List.any_filter]
 have e : (fun o => Tm.isHead (q.getD 0 0) o && decide (o.runes = q)) = Tm.isSeq q := by
  funext o
  unfold Tm.isHead Tm.isSeq
  by_cases h : o.runes = q
  ·subst h; simp
  ·simp [h]
 rw [e]
 cases h : lns.find? (Tm.isSeq q) with
 | none =>
  have := List.find?_eq_none.1 h
  simp only [Option.map_none, Option.isNone_none, Bool.not_true]
  rw [List.any_eq_false]; exact this
 | some o =>
  simp only [Option.map_some, Option.isNone_some, Bool.not_false]
  exact List.any_eq_true.2 ⟨o, List.mem_of_find?_eq_some h, List.find?_some h⟩
set_option maxRecDepth 100000 in
set_option maxHeartbeats 1000000 in
theorem hasSequence_any (lns : List Tm.Ln) (bm : Nat) (vr : Value) (q : List Int) (w : World) (hrd : NodesRd w bm lns) (hr : Reads w vr 1 q.length (ints q)) (hq : 0 < q.length) (hrg : ∀ r ∈ q, 0 ≤ r ∧ r ≤ 1114111) (hl : q.length ≤ 3) (hn : lns.length ≤ 8192) (hf : ∀ o ∈ lns, Tm.Fit o) :
  Calls Tryz.prog 158 #[.map (some bm), vr] w fun e w' => e = .returned (.bool (!(Tm.seqOf lns q).isNone)) ∧ Below w.heap.size w w' := by
 obtain ⟨r, rs, rfl⟩ : ∃ r rs, q = r :: rs := by
  cases q with
  | nil => simp at hq
  | cons x y => exact ⟨x, y, rfl⟩
 have hr0 := hrg r (by simp)
 obtain ⟨f, vp, vs, hmap, hfv, _, hs⟩ := hrd.at hr0.1
 obtain ⟨a, cap, rfl⟩ := hr.shape
 obtain ⟨g, off, rfl, hg, c0⟩ := hr.at (k := 0) (by simp)
 rw [Nat.add_zero] at c0
 have HMAP := hide hmap
 have HR := hide hr
 have HSQ := hide hs
 have HE := hide (seqOf_some (lns := lns) (q := r :: rs))
 have hf1 := field_weighing
 have hle := seqsAt_le lns r
 have HFEW : Hid (∀ o ∈ Tm.seqsAt lns r, o.runes.length ≤ 1000000) := fun o ho => by have := (hf o (List.mem_filter.1 ho).1).few; omega
 have HELS := hide (seqs_els hf (r := r))
 clear hmap hr hs hrd hf
 have c0' : w.cell? ⟨g, off, none⟩ = some (.int .i64 r) := c0
 generalize hln : (r :: rs).length = ln at *
 have HLN := hide hln
 clear hln c0
 go_enter Tryz.func158, Tryz.ntmps158
 go_wp2_with (at_lookup; go_must (refine wpList_look rfl _ _ rfl bm lns.length f rfl HMAP.out r rfl (wf_rune hr0) _ hfv ?_))
 refine (has_any vs _ (Tm.seqsAt lns r) (r :: rs) _ HSQ.out (by rw [HLN.out]; exact HR.out) (by omega) HFEW.out (by rw [HLN.out]; omega) HELS.out).mono ?_
 rintro e w1 ⟨rfl, hb⟩
 have HB := hide hb
 clear hb
 go_wp2
 go_ret
 exact ⟨ret_bool HE.out, HB.out⟩
theorem Reads.two {w : World} {g off n cap : Nat} {l : List Int} (h : Reads w (.slice (some ⟨g, off, none⟩) n cap) 1 l.length (ints l)) {k : Nat} (hk : k ≤ l.length) :
  Reads w (.slice (some ⟨g, off, none⟩) k cap) 1 (l.take k).length (ints (l.take k)) := by
 obtain ⟨h1, hlt, a, cap', he, hcap, hc⟩ := h
 cases he
 have hlen : (l.take k).length = k := by simp; omega
 refine ⟨by rw [ints_length]; omega, fun g' hg' => hlt g' (by simpa [Value.ownBlock] using hg'), _, _, by rw [hlen], ⟨by omega, by omega⟩, fun j u hu => ?_⟩
 have hj : (ints l)[j]? = some u := by
  have : j < (l.take k).length := by
   by_cases e : j < (l.take k).length
   ·exact e
   ·rw [List.getElem?_eq_none (by rw [ints_length]; omega)] at hu; cases hu
  rw [← hu]
  simp only [ints, List.getElem?_map, List.getElem?_take]
  rw [if_pos (by omega)]
 obtain ⟨g', off', he, hcell⟩ := hc j u hj
 cases he
 exact ⟨g, off, rfl, hcell⟩
end Go.Proofs.YtmnjjjhmnhfapaaGreatDoor
