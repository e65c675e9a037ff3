/- CircularEnds, proved: called with any data, the law returns true, and each argument reads as before. Conditions: the listed package-level variables read as the program lays them, which the card ties. -/
import Derived.Test.YtiddbhhhmeopeaaGreatDoorCircularEndsWalkE7
import Derived.Test.YtiddbhhhmeopeaaGreatDoorRows
import Derived.Test.YtiddbhhhmeopeaaGreatDoorJE74
import Derived.Test.YtiddbhhhmeopeaaGreatDoorCards
import Derived.Test.YtiddbhhhmeopeaaGreatDoorTie
import Derived.SevenTiedAt
import Derived.LaidMore
import Derived.Stop.Joined
import Derived.Lib.LaidTab
import Derived.ProofKit
import Derived.OpenShut
import Derived.ChangeOld
import Derived.Below
namespace Go.Proofs.YtiddbhhhmeopeaaGreatDoor.circularEnds
set_option maxHeartbeats 64000000
open Go.ChangeShapes Go.WideShapes Go.ChangeAt Go.RowKit
open Go.ChangeMaps (open_string shut_string)
set_option linter.unusedVariables false

theorem own : ownKnob Tryz.prog.godebug = none:=by kernel_rfl
theorem laidOut : laidOutB Tryz.prog = true:=by kernel_rfl
theorem gTab : Tryz.prog.globalNamed "math/bits.deBruijn32tab" = some 0:=by kernel_rfl
theorem tTab : (Tryz.prog.globals[0]?).map (·.type) = some 211:=by kernel_rfl
def laidList : List (String × DataW Unit):=[("math/bits.deBruijn32tab", Rows.laid_math_bits_deBruijn32tab)]
theorem tab_of_laid {W : World} (h : laidMetH Tryz.prog laidList W) : Tab W:=by
 rw [MakeChecks.laidMetH_plain _ _ _ (by kernel_rfl)] at h
 have h2 : laidMet Tryz.prog ((_, Lib.tabData .u8 (Lib.deBruijn32tab.map fun n : Nat => (n : Int))) :: []) W:=h
 have ht:=Lib.tabIs_of_head gTab tTab Tryz.underlying211 Tryz.underlying5 (by kernel_rfl) (by kernel_rfl) h2
 have hc:=fun j hj => ht.cell gTab j hj
 have hl : (Lib.deBruijn32tab.map fun n : Nat => (n : Int)).length = Lib.deBruijn32tab.length:=List.length_map _
 refine ⟨World.block_lt_of_cell? W ⟨0, 0, none⟩ (hc 0 (by rw [hl]; decide)), fun j hj => ?_⟩
 rw [hc j (by rw [hl]; exact hj)]
 have e : (Lib.deBruijn32tab.map fun n : Nat => (n : Int)).getD j 0 = ((Lib.deBruijn32tab.getD j 0 : Nat) : Int):=by
  rw [List.getD_eq_getElem?_getD, List.getD_eq_getElem?_getD, List.getElem?_map, List.getElem?_eq_getElem hj]; rfl
 rw [e]
theorem door_met (os : Os) (args : Array Value) : laidMetH Tryz.prog laidList ((World.doorLaid Tryz.prog 400 os).forCall (fun _ _ => 0) ⟨#[], args, []⟩).memory:=
 laidMetH_of_parts3 (fuel:=8) (laidMet_of_run' 8 (by kernel_rfl) (by kernel_rfl)) (by kernel_rfl) (by kernel_rfl)

set_option maxRecDepth 100000 in
theorem lifted (os : Os) (started : os.Started) (H : Type) (enc : TypeId × Value → H) :
  ReturnsInHanded {} Tryz.checked os 8 .any (fun w args => (Rows.circularEndsSpec.pre enc Tryz.prog Tryz.f8 [] false w args ∧ laidMetH Tryz.prog laidList w) ∧ sizedMet enc Tryz.prog Tryz.f8 (OpenSpec.ofChange Rows.circularEndsSpec) false w args)
   (Rows.circularEndsSpec.post enc Tryz.prog Tryz.f8 false true false false):=by
 refine returnsInHanded_of_change_and (C:=Tryz.checked) (X:=fun w _ => laidMetH Tryz.prog laidList w) (fun _ _ _ hh h => h.of_heap hh) own started (by kernel_rfl) Tryz.func8
  (ChangeSpec.witness_shaped (enc:=enc) (C:=Tryz.checked) (os:=os) (X:=fun w _ => laidMetH Tryz.prog laidList w) false (World.doorLaid Tryz.prog 400 os) #[.agg #[.bool false, .slice none 0 0, .int .i64 0, .bool false, .slice none 0 0, .int .i64 0], .int .i64 0, .int .i64 0] 8 rfl (World.shaped_of_RefB (by kernel_rfl) (by kernel_rfl)) (by kernel_rfl) (by kernel_rfl) (by kernel_rfl) (door_met os _)) ?_
 intro W base args ds gs before hval0 hW _ _ hL _
 have hval : ∀ (j : Nat) t v, Tryz.f8.params[j]? = some t → args[j]? = some v → Value.okWide Tryz.prog W .any base t v:=hval0
 have hW':=hW
 obtain ⟨p, q, hA0, hV, rfl, hfz, hnd⟩:=hW
 have hA : DataW.TrodAll enc Tryz.prog W 0 (fun _ => true) true Tryz.f8.params.toList args.toList ds p:=hA0
 rw [Tryz.params8] at hA hval
 obtain ⟨v0, vs0, d0, ds0, p0, q0, hargs, rfl, rfl, h0, r0⟩:=trodAll_cons hA
 obtain ⟨v1, vs1, d1, ds1, p1, q1, rfl, rfl, rfl, h1, r1⟩:=trodAll_cons r0
 obtain ⟨v2, vs2, d2, ds2, p2, q2, rfl, rfl, rfl, h2, r2⟩:=trodAll_cons r1
 obtain ⟨rfl, rfl, rfl⟩:=trodAll_nil r2
 obtain rfl : args = #[v0, v1, v2]:=by cases args; simp_all
 obtain ⟨rfl, rfl⟩:=trodVars_none hV
 have k0:=h0
 have lt0 : ∀ x ∈ p0, x.block < W.heap.size:=by obtain ⟨m, hm⟩:=k0; exact DataW.trod_lt m _ _ _ hm
 obtain ⟨b0, a0, len0, cap0, z0, f0, bb0, aa0, ll0, cc0, zz0, ff0, rfl, w0, ww0⟩:=open_iv (hval 0 28 v0 rfl rfl) h0
 obtain ⟨a1, rfl, rfl, rfl, w1⟩:=open_int Tryz.underlying3 (hval 1 3 v1 rfl rfl) h1
 obtain ⟨a2, rfl, rfl, rfl, w2⟩:=open_int Tryz.underlying3 (hval 2 3 v2 rfl rfl) h2
 clear hA0 hval0
 refine (walk_CircularEnds b0 a0 len0 cap0 z0 f0 bb0 aa0 ll0 cc0 zz0 ff0 a1 a2 W w0 ww0 (bounds_i64 w1) (bounds_i64 w2) (tab_of_laid hL)).mono fun e W' ⟨he, bel⟩ => ?_
 subst he
 exact ⟨_, rfl, _, _, _, [], _, [], hW', trodAll_mk1 (shut_bool Tryz.underlying4 _), (trodAll_cons_mk (Below.trod laidOut (by kernel_rfl) (of_decide_eq_true (by kernel_rfl)) k0 bel lt0) (trodAll_cons_mk (shut_int Tryz.underlying3 w1) (trodAll_cons_mk (shut_int Tryz.underlying3 w2) trodAll_mk0))), rfl, bel.frame _, fun h => by cases h⟩

theorem over : Rows.circularEndsRow.holds Tryz.pinned (OpenSpec.ofChange Rows.circularEndsSpec):=
 OpenClaim.holds_of_wide 8 Tryz.f8 rfl rfl rfl rfl rfl rfl rfl ⟨rfl, rfl, rfl, rfl, rfl⟩ rfl rfl rfl rfl rfl (by kernel_rfl) Tryz.func8 (by kernel_rfl)
  (of_decide_eq_true (by kernel_rfl)) (by unfold Func.isWrapper; first | (rw [if_pos (by decide +kernel)]; kernel_rfl) | (rw [if_neg (by decide +kernel)]; exact ⟨rfl, rfl⟩))
  (fun os started H enc _ => lifted os started H enc)

theorem proved : Rows.CircularEndsSaid:=over
theorem card_proved : Rows.CircularEndsCardSaid:=
 Claim7.holds_tied_plain_at .later [] [.data] true Rows.circularEndsCard.stood.harness false
  proved (fun _ h => by cases h) (by kernel_rfl) (fun _ h => by cases h) circularEnds_row_tie rfl ⟨rfl, rfl⟩ (by kernel_rfl) rfl
  (fun f fn hf hfn => by
   obtain rfl : f = 8:=Option.some.inj ((show Tryz.prog.funcNamed Tryz.f8.name = some 8 by kernel_rfl).symm.trans hf) |>.symm
   obtain rfl : fn = Tryz.f8:=(Option.some.inj (Tryz.func8.symm.trans hfn)).symm
   exact ⟨by kernel_rfl, fun j t ht => by
    rw [Tryz.params8] at ht
    have hm : t ∈ [28, 3, 3]:=by simpa using Array.mem_of_getElem? ht
    have hall : ([28, 3, 3].all fun u => !Tryz.prog.wantsStandIn u) = true:=by kernel_rfl
    exact (show Tryz.prog.wantsStandIn t = false by simpa using List.all_eq_true.1 hall t hm)⟩)
  (by kernel_rfl)
end Go.Proofs.YtiddbhhhmeopeaaGreatDoor.circularEnds
