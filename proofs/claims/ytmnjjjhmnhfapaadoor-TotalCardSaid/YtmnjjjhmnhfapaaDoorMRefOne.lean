import Derived.Test.YtmnjjjhmnhfapaaDoorTie
import Derived.Test.YtmnjjjhmnhfapaaDoorCards
import Derived.ProofKit
import Derived.OpenShut
import Derived.ShutString
import Derived.Lay
import Derived.SevenTiedAt
import Derived.Stop.Joined
import Derived.Maps.AppendAt
import Derived.Laws.RangeAny
import Derived.Test.YtmnjjjhmnhfapaaDoorMLawTables
import Derived.Test.YtmnjjjhmnhfapaaDoorMCodeNew
import Derived.Test.YtmnjjjhmnhfapaaDoorMOwnTab
import Derived.Test.YtmnjjjhmnhfapaaDoorMRefNum
namespace Go.Proofs.YtmnjjjhmnhfapaaDoor
open Go.ChangeShapes Go.WideShapes Go.ChangeAt Go.RowKit
open Go.ChangeMaps (open_string shut_string)

theorem own : ownKnob Tryd.prog.godebug = none := by kernel_rfl

set_option maxRecDepth 100000 in
theorem tables_lifted {K : ByteArray → Int → Bool → Nat → Option Addr → World → Prop} (hNew : NewSaid K) (os : Os) (started : os.Started) (H : Type) (enc : TypeId × Value → H) :
    ReturnsInHanded {} Tryd.checked os 3 .any (fun w args => (Rows.tablesSpec.pre enc Tryd.prog Tryd.f3 Rows.tablesRow.domain false w args ∧ laidMetH Tryd.prog Rows.tablesRow.laid w) ∧ sizedMet enc Tryd.prog Tryd.f3 (OpenSpec.ofChange Rows.tablesSpec) false w args)
      (Rows.tablesSpec.post enc Tryd.prog Tryd.f3 false true false false) := by
  refine returnsInHanded_of_change_and (C := Tryd.checked) (X := fun w _ => laidMetH Tryd.prog Rows.tablesRow.laid w) (fun _ _ _ hh h => h.of_heap hh) own started (by kernel_rfl) Tryd.func3
    (ChangeSpec.witness_shaped (enc := enc) (C := Tryd.checked) (os := os) (X := fun w _ => laidMetH Tryd.prog Rows.tablesRow.laid w) false (World.laidAll Tryd.prog os Rows.tablesRow.laid) #[.string ByteArray.empty, .int .i64 0, .bool false] 8 (World.laidAll_os _ _ _)
      (World.shaped_of_ZipB (by kernel_rfl) (by kernel_rfl)) (by kernel_rfl) (by kernel_rfl) (by kernel_rfl)
      (by rw [MakeChecks.laidMetH_plain _ _ _ (by kernel_rfl)]; exact laidMet_laidAll _ (by kernel_rfl) (by kernel_rfl))) ?_
  intro W base args ds gs before hval0 hW _ _ _ _
  have hval : ∀ (j : Nat) t v, Tryd.f3.params[j]? = some t → args[j]? = some v → Value.okWide Tryd.prog W .any base t v := hval0
  have hW' := hW
  obtain ⟨p, q, hA0, hV, rfl, _, _⟩ := hW
  have hA : DataW.TrodAll enc Tryd.prog W 0 (fun _ => true) true Tryd.f3.params.toList args.toList ds p := hA0
  rw [Tryd.params3] at hA hval
  obtain ⟨v0, v1, v2, d0, d1, d2, p0, p1, p2, rfl, rfl, rfl, h0, h1, h2⟩ := trodAll_three hA
  obtain ⟨rfl, rfl⟩ := trodVars_none hV
  obtain ⟨a0, rfl, rfl, rfl, w0⟩ := open_string Tryd.underlying9 (hval 0 9 v0 rfl rfl) h0
  obtain ⟨a1, rfl, rfl, rfl, w1⟩ := open_int Tryd.underlying3 (hval 1 3 v1 rfl rfl) h1
  obtain ⟨a2, rfl, rfl, rfl⟩ := open_bool Tryd.underlying4 (hval 2 4 v2 rfl rfl) h2
  simp only [List.append_nil] at hW'
  refine (Tables_any hNew a0 a1 a2 W w0).mono fun e W' ⟨he, hb⟩ => ?_
  subst he
  exact ⟨_, rfl, _, _, _, [], [], [], hW', trodAll_mk1 (shut_bool Tryd.underlying4 _), trodAll_mk3 (shut_string Tryd.underlying9 w0) (shut_int Tryd.underlying3 w1) (shut_bool Tryd.underlying4 _), rfl, hb.frame _, fun h => by cases h⟩

theorem tables_holds {K : ByteArray → Int → Bool → Nat → Option Addr → World → Prop} (hNew : NewSaid K) : Rows.TablesSaid :=
  OpenClaim.holds_of_wide 3 Tryd.f3 rfl rfl rfl rfl rfl rfl rfl ⟨rfl, rfl, rfl, rfl, rfl⟩ rfl rfl rfl rfl rfl (by kernel_rfl) Tryd.func3 (by kernel_rfl)
    (of_decide_eq_true (by kernel_rfl)) (by unfold Func.isWrapper; first | (rw [if_pos (by decide +kernel)]; kernel_rfl) | (rw [if_neg (by decide +kernel)]; exact ⟨rfl, rfl⟩))
    (fun os started H enc _ => tables_lifted hNew os started H enc)

theorem tables_card_of {K : ByteArray → Int → Bool → Nat → Option Addr → World → Prop} (hNew : NewSaid K) : Rows.TablesCardSaid := by
  unfold Rows.TablesCardSaid Rows.tablesCard
  exact Claim7.holds_tied_plain_at .later [] _ _ _ _
    (tables_holds hNew) (fun _ h => by cases h) (by kernel_rfl) (fun _ h => by cases h) tables_row_tie rfl ⟨rfl, rfl⟩ (by kernel_rfl) rfl
    (fun f fn hf hfn => by
      obtain rfl : f = 3 := Option.some.inj ((show Tryd.prog.funcNamed Rows.tablesRow.func = some 3 by kernel_rfl).symm.trans hf) |>.symm
      obtain rfl : fn = Tryd.f3 := (Option.some.inj (Tryd.func3.symm.trans hfn)).symm
      exact ⟨by kernel_rfl, fun j t ht => by
        rw [Tryd.params3] at ht
        have hm : t ∈ [9, 3, 4] := by simpa using Array.mem_of_getElem? ht
        have hall : ([9, 3, 4].all fun u => !Tryd.prog.wantsStandIn u) = true := by kernel_rfl
        exact (show Tryd.prog.wantsStandIn t = false by simpa using List.all_eq_true.1 hall t hm)⟩)
    (by kernel_rfl)
end Go.Proofs.YtmnjjjhmnhfapaaDoor
/- Tables is true for every table, strength and shift: New of package collate answers the line and the error that the document's reading of the table gives, a collator just where there is none, and never panics (P3 to P5). -/
namespace Go.Proofs.YtmnjjjhmnhfapaaDoor

theorem tables_card_said : Rows.TablesCardSaid := tables_card_of new_said
#print axioms tables_card_said
end Go.Proofs.YtmnjjjhmnhfapaaDoor
/-
  An append onto a row of one's own, and what the old slice reads as behind it: the same.
-/
namespace Go.Proofs.YtmnjjjhmnhfapaaDoor
open Go.RowKit

theorem run_append_keep {P : Program} (w : World) (base : Nat) (t ty e : TypeId) (i : TypeInfo) (z : Value) (bytes : Nat) (ht : P.underlying t = some (.slice e)) (hi : P.info? e = some i) (hz : i.zero = some z)
    (hsize : i.size = 1) (hby : i.bytes = bytes) (hzs : z.cells.size = 1)
    (v : Value) (n : Nat) (xs : List Value) (hown : w.ownsRow base e 1 v n xs)
    (a : Addr) (m c : Nat) (news : List Value) (hl : news.length = m * 1) (hnews : ∀ j u, news[j]? = some u → w.cell? (a.add j) = some u) (h1 : ∀ u ∈ news, u.oneCell' = true)
    (h63 : n + m ≤ maxLen) (hbytes : (n + m) * bytes ≤ 140737488355328) (hbase : base ≤ w.heap.size) :
    ∃ v' w', (Builtin.append_ #[t, t] ty #[v, .slice (some a) m c]).run P w = .ok v' w' ∧ w'.ownsRow base e 1 v' (n + m) (xs ++ news) ∧ w.grownBy w' v.ownBlock ∧
      (v'.ownBlock = v.ownBlock ∨ v'.ownBlock = some w.heap.size) ∧ Reads w' v 1 n xs := by
  obtain ⟨v', w', hr, h2, h3, h4, h5⟩ := run_append_own_at (P := P) w base t ty e i z 1 bytes ht hi hz hsize hby hzs (by omega) v n xs hown a m c news hl hnews h1 h63 hbytes hbase
  refine ⟨v', w', hr, h2, h3, h5, ?_⟩
  have hrd := Reads.of_owns hown
  rcases hown.2 with ⟨rfl, rfl⟩ | ⟨g, cap, cur, rfl, hbg, hg, hnc, hcm, hcs, htake⟩
  · exact hrd.of_blocks h3.size (fun g hg => by simp [Value.ownBlock] at hg)
  · by_cases hroom : n + m ≤ cap
    · have hfit : n * i.size + news.length ≤ cur.size := by rw [hl, hcs, hsize]; omega
      have hr' := run_append_room (P := P) w t ty e i ht hi g n cap cur hg a m c news (by rw [hsize]; exact hl) hnews h1 hroom hfit
      rw [hr] at hr'
      have hv : v' = .slice (some ⟨g, 0, none⟩) (n + m) cap := by injection hr'
      subst hv
      have hc := h2.cells (g := g) rfl
      refine ⟨hown.1, fun g' hg' => by simp [Value.ownBlock] at hg'; subst hg'; exact (h2.lt g rfl).2, _, cap, rfl, ⟨hnc, hcm⟩, fun j u hu => ⟨g, 0, rfl, ?_⟩⟩
      have hj : (xs ++ news)[j]? = some u := by
        rw [List.getElem?_append_left (List.getElem?_eq_some_iff.1 hu).1]; exact hu
      have := hc j u hj
      have hadd : (⟨g, 0, none⟩ : Addr).add j = ⟨g, 0 + j, none⟩ := by unfold Addr.add; split <;> simp_all
      rw [hadd] at this
      exact this
    · have holds : ∀ j u, xs[j]? = some u → w.cell? ((⟨g, 0, none⟩ : Addr).add j) = some u := hown.cells (g := g) rfl
      have hr' := run_append_grow (P := P) w t ty e i z ht hi hz ⟨g, 0, none⟩ n cap xs (by rw [hsize]; exact hown.1) holds a m c news (by rw [hsize]; exact hl) hnews (by omega) (by unfold maxLen at h63; omega) (growslice_fits (by omega) (by rw [hby]; exact hbytes))
      rw [hr] at hr'
      have hw : w' = w.drew.alloc (.cells (xs.toArray ++ news.toArray ++ Builtin.zeroCells z.cells (grownCap w (n + m) cap e - (n + m))) e) := by injection hr'
      refine hrd.of_blocks h3.size (fun g' hg' => ?_)
      have hlt := hrd.2.1 g' hg'
      rw [hw]
      exact heap_alloc_old w.drew _ hlt

/-- At the operation, for the walk. -/
theorem wpList_append_keep {P : Program} {w : World} {ops : Array Oper} {rest : List Oper} {o : Oper} {a : Act} {Q : Exit → Act → World → Prop} (hgd : o.guard = none) (s x : Operand) (t : TypeId)
    (ho : o.op = .call { callee := .builtin .append, args := #[s, x], argTypes := #[t, t] })
    (base : Nat) (e : TypeId) (i : TypeInfo) (z : Value) (bytes : Nat) (ht : P.underlying t = some (.slice e)) (hi : P.info? e = some i) (hz : i.zero = some z)
    (hsize : i.size = 1) (hby : i.bytes = bytes) (hzs : z.cells.size = 1)
    (v : Value) (n : Nat) (xs : List Value) (hs : a.eval s = v) (hown : w.ownsRow base e 1 v n xs)
    (ad : Addr) (m c : Nat) (news : List Value) (hx : a.eval x = .slice (some ad) m c) (hl : news.length = m * 1) (hnews : ∀ j u, news[j]? = some u → w.cell? (ad.add j) = some u) (h1 : ∀ u ∈ news, u.oneCell' = true)
    (h63 : n + m ≤ maxLen) (hbytes : (n + m) * bytes ≤ 140737488355328) (hbase : base ≤ w.heap.size)
    (h : ∀ v' w', w'.ownsRow base e 1 v' (n + m) (xs ++ news) → w.grownBy w' v.ownBlock → (v'.ownBlock = v.ownBlock ∨ v'.ownBlock = some w.heap.size) → Reads w' v 1 n xs → wpList P ops Q rest (a.put o.dst v') w') :
    wpList P ops Q (o :: rest) a w := by
  refine wpList_plain hgd fun K hK => ?_
  obtain ⟨v', w', hr, h2, h3, h4, h5⟩ := run_append_keep (P := P) w base t o.type e i z bytes ht hi hz hsize hby hzs v n xs hown ad m c news hl hnews h1 h63 hbytes hbase
  unfold Oper.wp execOp
  simp only [ho, resolve, invoke, builtin, Sem.run_bind, Sem.run_pure, Result.andThen_ok, List.map_toArray, List.map_cons, List.map_nil, hs, hx, hr]
  exact hK _ _ (h v' w' h2 h3 h4 h5)
end Go.Proofs.YtmnjjjhmnhfapaaDoor
/-
  The first rune of a text: the reference's own decoding is the model's.
-/
namespace Go.Proofs.YtmnjjjhmnhfapaaDoor
open Go.RowKit

/-- A byte of a text, as a number; 0 behind its end. -/
def byteAt (s : ByteArray) (k : Nat) : Nat := (s.get! k).toNat
theorem byteAt_get {s : ByteArray} {k : Nat} (h : k < s.size) : s[k].toNat = byteAt s k := by
  unfold byteAt
  rw [show s.get! k = s.get! (k + 0) from rfl, get_at s k h]
theorem byteAt_lt (s : ByteArray) (k : Nat) : byteAt s k < 256 := (s.get! k).toNat_lt
theorem byteAt_off {s : ByteArray} {k : Nat} (h : s.size ≤ k) : byteAt s k = 0 := by
  have h1 : s.data.size ≤ k := h
  show (s.data[k]!).toNat = 0
  rw [getElem!_neg _ _ (by omega)]
  rfl

/-- Decoding, on numbers: how many bytes are there, and the first four. -/
def decB (n b0 b1 b2 b3 : Nat) : Nat × Nat :=
  if b0 < 128 then (b0, 1)
  else if b0 / 32 = 6 ∧ 1 < n ∧ b1 / 64 = 2 then
    if 128 ≤ b0 % 32 * 64 + b1 % 64 then (b0 % 32 * 64 + b1 % 64, 2) else (65533, 1)
  else if b0 / 16 = 14 ∧ (1 < n ∧ b1 / 64 = 2) ∧ 2 < n ∧ b2 / 64 = 2 then
    if 2048 ≤ b0 % 16 * 4096 + b1 % 64 * 64 + b2 % 64 ∧ (b0 % 16 * 4096 + b1 % 64 * 64 + b2 % 64 < 55296 ∨ 57344 ≤ b0 % 16 * 4096 + b1 % 64 * 64 + b2 % 64 ∧ b0 % 16 * 4096 + b1 % 64 * 64 + b2 % 64 ≤ 1114111) then (b0 % 16 * 4096 + b1 % 64 * 64 + b2 % 64, 3) else (65533, 1)
  else if b0 / 8 = 30 ∧ (1 < n ∧ b1 / 64 = 2) ∧ (2 < n ∧ b2 / 64 = 2) ∧ 3 < n ∧ b3 / 64 = 2 then
    if 65536 ≤ b0 % 8 * 262144 + b1 % 64 * 4096 + b2 % 64 * 64 + b3 % 64 ∧ (b0 % 8 * 262144 + b1 % 64 * 4096 + b2 % 64 * 64 + b3 % 64 < 55296 ∨ 57344 ≤ b0 % 8 * 262144 + b1 % 64 * 4096 + b2 % 64 * 64 + b3 % 64 ∧ b0 % 8 * 262144 + b1 % 64 * 4096 + b2 % 64 * 64 + b3 % 64 ≤ 1114111) then (b0 % 8 * 262144 + b1 % 64 * 4096 + b2 % 64 * 64 + b3 % 64, 4) else (65533, 1)
  else (65533, 1)

theorem decode_decB (s : ByteArray) (i : Nat) : Utf8.decode s i = decB (s.size - i) (byteAt s i) (byteAt s (i + 1)) (byteAt s (i + 2)) (byteAt s (i + 3)) := by
  have e : ∀ k, (s.get! k).toNat = byteAt s k := fun k => rfl
  have e1 : ∀ k, i + k < s.size ↔ k < s.size - i := fun k => by omega
  simp only [Utf8.decode, e, e1, Utf8.valid, Utf8.runeError, Nat.add_zero]
  generalize byteAt s i = b0
  generalize byteAt s (i + 1) = b1
  generalize byteAt s (i + 2) = b2
  generalize byteAt s (i + 3) = b3
  generalize s.size - i = n
  unfold decB
  by_cases h0 : b0 < 128
  · rw [if_pos h0, if_pos h0]
  rw [if_neg h0, if_neg h0]
  by_cases h1 : b0 / 32 = 6 ∧ 1 < n ∧ b1 / 64 = 2
  · rw [if_pos h1, if_pos (by simp [h1])]
  rw [if_neg h1, if_neg (by simpa using h1)]
  by_cases h2 : b0 / 16 = 14 ∧ (1 < n ∧ b1 / 64 = 2) ∧ 2 < n ∧ b2 / 64 = 2
  · rw [if_pos h2, if_pos (by simp [h2])]
    generalize b0 % 16 * 4096 + b1 % 64 * 64 + b2 % 64 = c
    by_cases h3 : 2048 ≤ c ∧ (c < 55296 ∨ 57344 ≤ c ∧ c ≤ 1114111)
    · rw [if_pos h3, if_pos (by simp; omega)]
    · rw [if_neg h3, if_neg (by simp; omega)]
  rw [if_neg h2, if_neg (by simp; omega)]
  by_cases h3 : b0 / 8 = 30 ∧ (1 < n ∧ b1 / 64 = 2) ∧ (2 < n ∧ b2 / 64 = 2) ∧ 3 < n ∧ b3 / 64 = 2
  · rw [if_pos h3, if_pos (by simp [h3])]
    generalize b0 % 8 * 262144 + b1 % 64 * 4096 + b2 % 64 * 64 + b3 % 64 = c
    by_cases h3 : 65536 ≤ c ∧ (c < 55296 ∨ 57344 ≤ c ∧ c ≤ 1114111)
    · rw [if_pos h3, if_pos (by simp; omega)]
    · rw [if_neg h3, if_neg (by simp; omega)]
  rw [if_neg h3, if_neg (by simp; omega)]

theorem extract_size (s : ByteArray) {i : Nat} (_ : i ≤ s.size) : (s.extract i s.size).size = s.size - i := by simp [ByteArray.size_extract]
theorem byteAt_extract (s : ByteArray) {i : Nat} (h : i ≤ s.size) (k : Nat) : byteAt (s.extract i s.size) k = byteAt s (i + k) := by
  by_cases hk : i + k < s.size
  · have h1 : k < (s.extract i s.size).size := by rw [extract_size s h]; omega
    rw [← byteAt_get h1, ← byteAt_get hk]
    congr 1
    simp [ByteArray.getElem_extract]
  · rw [byteAt_off (by rw [extract_size s h]; omega), byteAt_off (by omega)]
theorem decode_extract (s : ByteArray) {i : Nat} (h : i ≤ s.size) : Utf8.decode (s.extract i s.size) 0 = Utf8.decode s i := by
  rw [decode_decB, decode_decB, extract_size s h]
  simp only [byteAt_extract s h, Nat.sub_zero, Nat.zero_add, Nat.add_zero]

/-- The number that the following bytes make. -/
def foldR (s : ByteArray) (r0 : Int) : Nat → Int
  | 0 => r0
  | 1 => r0
  | k + 2 => 64 * foldR s r0 (k + 1) + (byteAt s (k + 1) : Int) - 128
theorem foldR_step (s : ByteArray) (r0 : Int) {k : Nat} (h : 1 ≤ k) : foldR s r0 (k + 1) = 64 * foldR s r0 k + (byteAt s k : Int) - 128 := by
  cases k with
  | zero => omega
  | succ k => rfl

theorem foldR1 (s : ByteArray) (r0 : Int) : foldR s r0 1 = r0 := rfl
theorem foldR2 (s : ByteArray) (r0 : Int) : foldR s r0 2 = 64 * r0 + (byteAt s 1 : Int) - 128 := rfl
theorem foldR3 (s : ByteArray) (r0 : Int) : foldR s r0 3 = 64 * (64 * r0 + (byteAt s 1 : Int) - 128) + (byteAt s 2 : Int) - 128 := rfl
theorem foldR4 (s : ByteArray) (r0 : Int) : foldR s r0 4 = 64 * (64 * (64 * r0 + (byteAt s 1 : Int) - 128) + (byteAt s 2 : Int) - 128) + (byteAt s 3 : Int) - 128 := rfl

/-- The first byte's kinds. -/
def Lead (s : ByteArray) (n : Nat) (least r0 : Int) : Prop :=
  (n = 2 ∧ least = 128 ∧ 192 ≤ byteAt s 0 ∧ byteAt s 0 < 224 ∧ r0 = (byteAt s 0 : Int) - 192) ∨
  (n = 3 ∧ least = 2048 ∧ 224 ≤ byteAt s 0 ∧ byteAt s 0 < 240 ∧ r0 = (byteAt s 0 : Int) - 224) ∨
  (n = 4 ∧ least = 65536 ∧ 240 ≤ byteAt s 0 ∧ byteAt s 0 < 248 ∧ r0 = (byteAt s 0 : Int) - 240)
theorem Lead.bound {s : ByteArray} {n : Nat} {least r0 : Int} (h : Lead s n least r0) (k : Nat) (hk : k ≤ n) (hc : ∀ j, 1 ≤ j → j < k → 128 ≤ byteAt s j ∧ byteAt s j < 192) : 0 ≤ foldR s r0 k ∧ foldR s r0 k ≤ 8388607 := by
  have b0 : 0 ≤ r0 ∧ r0 ≤ 31 := by unfold Lead at h; omega
  have hn : n ≤ 4 := by unfold Lead at h; omega
  clear h
  rcases (by omega : k = 0 ∨ k = 1 ∨ k = 2 ∨ k = 3 ∨ k = 4) with rfl | rfl | rfl | rfl | rfl
  · rw [show foldR s r0 0 = r0 from rfl]; omega
  · rw [foldR1]; omega
  · have := hc 1 (by omega) (by omega)
    rw [foldR2]; omega
  · have := hc 1 (by omega) (by omega)
    have := hc 2 (by omega) (by omega)
    rw [foldR3]; omega
  · have := hc 1 (by omega) (by omega)
    have := hc 2 (by omega) (by omega)
    have := hc 3 (by omega) (by omega)
    rw [foldR4]; omega
theorem Lead.yes {s : ByteArray} {n : Nat} {least r0 : Int} (h : Lead s n least r0) (hs : n ≤ s.size) (hc : ∀ j, 1 ≤ j → j < n → 128 ≤ byteAt s j ∧ byteAt s j < 192) (h1 : least ≤ foldR s r0 n) (h2 : foldR s r0 n ≤ 1114111) (h3 : foldR s r0 n < 55296 ∨ 57344 ≤ foldR s r0 n) :
    ((Utf8.decode s 0).1 : Int) = foldR s r0 n ∧ ((Utf8.decode s 0).2 : Int) = n := by
  rw [decode_decB]
  simp only [Nat.zero_add, Nat.sub_zero]
  rcases h with ⟨rfl, rfl, h4, h5, rfl⟩ | ⟨rfl, rfl, h4, h5, rfl⟩ | ⟨rfl, rfl, h4, h5, rfl⟩
  · have c1 := hc 1 (by omega) (by omega)
    rw [foldR2] at h1 h2 h3 ⊢
    unfold decB
    rw [if_neg (by omega), if_pos (by omega), if_pos (by omega)]
    refine ⟨?_, rfl⟩
    show ((byteAt s 0 % 32 * 64 + byteAt s 1 % 64 : Nat) : Int) = _
    omega
  · have c1 := hc 1 (by omega) (by omega)
    have c2 := hc 2 (by omega) (by omega)
    rw [foldR3] at h1 h2 h3 ⊢
    unfold decB
    rw [if_neg (by omega), if_neg (by omega), if_pos (by omega), if_pos (by omega)]
    refine ⟨?_, rfl⟩
    show ((byteAt s 0 % 16 * 4096 + byteAt s 1 % 64 * 64 + byteAt s 2 % 64 : Nat) : Int) = _
    omega
  · have c1 := hc 1 (by omega) (by omega)
    have c2 := hc 2 (by omega) (by omega)
    have c3 := hc 3 (by omega) (by omega)
    rw [foldR4] at h1 h2 h3 ⊢
    unfold decB
    rw [if_neg (by omega), if_neg (by omega), if_neg (by omega), if_pos (by omega), if_pos (by omega)]
    refine ⟨?_, rfl⟩
    show ((byteAt s 0 % 8 * 262144 + byteAt s 1 % 64 * 4096 + byteAt s 2 % 64 * 64 + byteAt s 3 % 64 : Nat) : Int) = _
    omega
theorem Lead.short {s : ByteArray} {n : Nat} {least r0 : Int} (h : Lead s n least r0) (hs : s.size < n) : Utf8.decode s 0 = (65533, 1) := by
  rw [decode_decB]
  simp only [Nat.zero_add, Nat.sub_zero]
  unfold decB
  unfold Lead at h
  rw [if_neg (by omega), if_neg (by omega), if_neg (by omega), if_neg (by omega)]
theorem Lead.odd {s : ByteArray} {n : Nat} {least r0 : Int} (h : Lead s n least r0) {j : Nat} (h1 : 1 ≤ j) (h2 : j < n) (h3 : byteAt s j < 128 ∨ 192 ≤ byteAt s j) : Utf8.decode s 0 = (65533, 1) := by
  rw [decode_decB]
  simp only [Nat.zero_add, Nat.sub_zero]
  unfold decB
  unfold Lead at h
  have hj : j = 1 ∨ j = 2 ∨ j = 3 := by omega
  have := byteAt_lt s j
  rcases hj with rfl | rfl | rfl
  all_goals rw [if_neg (by omega), if_neg (by omega), if_neg (by omega), if_neg (by omega)]
theorem Lead.no {s : ByteArray} {n : Nat} {least r0 : Int} (h : Lead s n least r0) (hs : n ≤ s.size) (hc : ∀ j, 1 ≤ j → j < n → 128 ≤ byteAt s j ∧ byteAt s j < 192) (h1 : foldR s r0 n < least ∨ 1114111 < foldR s r0 n ∨ (55296 ≤ foldR s r0 n ∧ foldR s r0 n < 57344)) : Utf8.decode s 0 = (65533, 1) := by
  rw [decode_decB]
  simp only [Nat.zero_add, Nat.sub_zero]
  rcases h with ⟨rfl, rfl, h4, h5, rfl⟩ | ⟨rfl, rfl, h4, h5, rfl⟩ | ⟨rfl, rfl, h4, h5, rfl⟩
  · have c1 := hc 1 (by omega) (by omega)
    rw [foldR2] at h1
    unfold decB
    rw [if_neg (by omega), if_pos (by omega), if_neg (by omega)]
  · have c1 := hc 1 (by omega) (by omega)
    have c2 := hc 2 (by omega) (by omega)
    rw [foldR3] at h1
    unfold decB
    rw [if_neg (by omega), if_neg (by omega), if_pos (by omega), if_neg (by omega)]
  · have c1 := hc 1 (by omega) (by omega)
    have c2 := hc 2 (by omega) (by omega)
    have c3 := hc 3 (by omega) (by omega)
    rw [foldR4] at h1
    unfold decB
    rw [if_neg (by omega), if_neg (by omega), if_neg (by omega), if_pos (by omega), if_neg (by omega)]
theorem decode_default {s : ByteArray} (h : (128 ≤ byteAt s 0 ∧ byteAt s 0 < 192) ∨ 248 ≤ byteAt s 0) : Utf8.decode s 0 = (65533, 1) := by
  rw [decode_decB]
  simp only [Nat.zero_add, Nat.sub_zero]
  unfold decB
  have := byteAt_lt s 0
  rw [if_neg (by omega), if_neg (by omega), if_neg (by omega), if_neg (by omega)]
theorem decode_small {s : ByteArray} (h : byteAt s 0 < 128) : Utf8.decode s 0 = (byteAt s 0, 1) := by
  rw [decode_decB]
  unfold decB
  rw [if_pos h]
theorem decode_fits (s : ByteArray) (pos : Nat) (h : pos < s.size) : pos + (Utf8.decode s pos).2 ≤ s.size := by
  rw [decode_decB]
  unfold decB
  repeat' split
  all_goals (simp only; omega)
end Go.Proofs.YtmnjjjhmnhfapaaDoor
