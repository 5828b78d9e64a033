/- Shelves is true for every table, every strength, both ways of shifting and every script whose bulk together is at most 1048576: indexes over the table's collator and over the example's, Put, Delete, Get and Scan in any order answer as the document says, each index stays by itself, and every list that came out stays as its owner wrote it (P10, P11, P2). -/
import Derived.Test.YtmnjjjhmnhfapaaGreatDoorMCardOps
namespace Go.Proofs.YtmnjjjhmnhfapaaGreatDoor
open Go.ChangeShapes Go.WideShapes Go.ChangeAt Go.RowKit
open Go.ChangeMaps (open_string shut_string)
set_option maxRecDepth 100000 in
theorem shelves_lifted (os : Os) (started : os.Started) (H : Type) (enc : TypeId × Value → H) (F : Stop.Interp) :
  ReturnsInHanded {} Tryz.checked os 4 .any ((Rows.OpenSpec.upto Rows.shelvesSpec).preRow enc Tryz.prog Tryz.f4 Rows.shelvesUptoRow.domain false Rows.shelvesUptoRow.laid) (((Rows.OpenSpec.upto Rows.shelvesSpec).at F).post enc Tryz.prog Tryz.f4 false true false false) := by
 have hx : ∃ places, DataW.whole enc Tryz.prog ((World.laidAll Tryz.prog os Rows.shelvesUptoRow.laid).forCall (fun _ _ => 0) ⟨#[], #[(.string ByteArray.empty : Value), .int .i64 0, .bool false, .slice none 0 0], []⟩).memory Tryz.f4.params.toList Rows.shelvesSpec.vars false #[(.string ByteArray.empty : Value), .int .i64 0, .bool false, .slice none 0 0].toList 8 = some ([.lit (.string []), .lit (.int .i64 0), .lit (.bool false), .nil], [], places) := ⟨[], by kernel_rfl⟩
 obtain ⟨places, hx⟩ := hx
 refine returnsInHanded_of_row (C := Tryz.checked) (s := Rows.OpenSpec.upto Rows.shelvesSpec) own started (by kernel_rfl) Tryz.func4
  (witness_row_shaped (enc := enc) (C := Tryz.checked) false (World.laidAll Tryz.prog os Rows.shelvesUptoRow.laid) #[(.string ByteArray.empty : Value), .int .i64 0, .bool false, .slice none 0 0] (World.laidAll_os _ _ _)
   (World.shaped_of_ZipB (by kernel_rfl) (by kernel_rfl)) (by kernel_rfl)
   (OpenSpec.preRow_of_cond 8 hx (by kernel_rfl) (fun k hk => by cases hk; kernel_rfl) (by kernel_rfl)
    (by rw [MakeChecks.laidMetH_plain _ _ _ (by kernel_rfl)]; exact laidMet_laidAll _ (by kernel_rfl) (by kernel_rfl)))) ?_
 intro W base args ds gs before hval0 hW _ hcond _ _ _ _
 have hval : ∀ (j : Nat) t v, Tryz.f4.params[j]? = some t → args[j]? = some v → Value.okWide Tryz.prog W .any base t v := hval0
 have hW' := hW
 obtain ⟨p, q, hA0, hV, rfl, _, _⟩ := hW
 have hA : DataW.TrodAll enc Tryz.prog W 0 (fun _ => true) true Tryz.f4.params.toList args.toList ds p := hA0
 rw [Tryz.params4] at hA hval
 obtain ⟨v0, vs0, d0, ds0, p0, q0, hargs, rfl, rfl, h0, k0⟩ := trodAll_cons hA
 obtain ⟨v1, vs1, d1, ds1, p1, q1, rfl, rfl, rfl, h1, k1⟩ := trodAll_cons k0
 obtain ⟨v2, vs2, d2, ds2, p2, q2, rfl, rfl, rfl, h2, k2⟩ := trodAll_cons k1
 obtain ⟨v3, vs3, d3, ds3, p3, q3, rfl, rfl, rfl, h3, k3⟩ := trodAll_cons k2
 obtain ⟨rfl, rfl, rfl⟩ := trodAll_nil k3
 obtain rfl : args = #[v0, v1, v2, v3] := by cases args; simp_all
 obtain ⟨rfl, rfl⟩ := trodVars_none hV
 obtain ⟨a0, rfl, rfl, rfl, w0⟩ := open_string Tryz.underlying9 (hval 0 9 v0 rfl rfl) h0
 obtain ⟨a1, rfl, rfl, rfl, w1⟩ := open_int Tryz.underlying3 (hval 1 3 v1 rfl rfl) h1
 have r1 := bounds_i64 w1
 obtain ⟨a2, rfl, rfl, rfl⟩ := open_bool Tryz.underlying4 (hval 2 4 v2 rfl rfl) h2
 obtain ⟨a3, n3, c3, rfl, t3, b3⟩ := open_ops (hval 3 47 v3 rfl rfl) h3
 have hk := bulk_le (hcond _ rfl)
 simp only [List.append_nil] at hk
 simp only [Rows.uptoBulkAll] at hk
 simp only [List.append_nil] at hW'
 refine (Shelves_any a0 a1 a2 a3 n3 c3 W w0 t3 (by omega)).mono fun e W' ⟨he, hbl⟩ => ?_
 subst he
 exact ⟨_, rfl, _, _, _, [], _, [], hW', trodAll_mk1 (shut_bool Tryz.underlying4 _), args_again hbl (by rw [Tryz.params4]; decide +kernel) hA0, rfl, hbl.frame _, fun h => by cases h⟩
theorem shelves_holds : Rows.ShelvesUptoSaid :=
 holds_goes rfl rfl rfl (by kernel_rfl) (OpenClaim.holds_of_cond 4 Tryz.f4 rfl rfl rfl rfl rfl rfl rfl ⟨rfl, rfl, rfl, rfl, rfl⟩ rfl rfl rfl rfl rfl (by kernel_rfl) Tryz.func4 (by kernel_rfl)
  (of_decide_eq_true (by kernel_rfl)) (by unfold Func.isWrapper; first | (rw [if_pos (by decide +kernel)]; kernel_rfl) | (rw [if_neg (by decide +kernel)]; exact ⟨rfl, rfl⟩))
  (fun os started H enc _ F => by rw [OpenClaim.pre_eq_preRow]; exact shelves_lifted os started H enc F))
theorem shelves_upto_card_said : Rows.ShelvesUptoCardSaid := by
 unfold Rows.ShelvesUptoCardSaid Rows.shelvesUptoCard
 exact card_goes .later _ _ _ _
  shelves_holds (by kernel_rfl) shelvesUpto_row_tie rfl ⟨rfl, rfl⟩ (by kernel_rfl) rfl
  (fun f fn hf hfn => by
   obtain rfl : f = 4 := Option.some.inj ((show Tryz.prog.funcNamed Rows.shelvesUptoRow.func = some 4 by kernel_rfl).symm.trans hf) |>.symm
   obtain rfl : fn = Tryz.f4 := (Option.some.inj (Tryz.func4.symm.trans hfn)).symm
   exact ⟨by kernel_rfl, fun j t ht => by
    rw [Tryz.params4] at ht
    have hm : t ∈ [9, 3, 4, 47] := List.mem_of_getElem? (l := [9, 3, 4, 47]) (by simpa using ht)
    have hall : ([9, 3, 4, 47].all fun u => !Tryz.prog.wantsStandIn u) = true := by kernel_rfl
    exact (show Tryz.prog.wantsStandIn t = false by simpa using List.all_eq_true.1 hall t hm)⟩)
  (by kernel_rfl)
#print axioms shelves_upto_card_said
end Go.Proofs.YtmnjjjhmnhfapaaGreatDoor
