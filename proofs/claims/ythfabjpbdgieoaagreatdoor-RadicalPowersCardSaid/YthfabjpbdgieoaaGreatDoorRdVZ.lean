/- Powers of short intervals: program and reference give the same. -/
import Derived.Test.YthfabjpbdgieoaaGreatDoorRdUZ
import Derived.Test.YthfabjpbdgieoaaGreatDoorRefRdPZ
namespace Go.Proofs.YthfabjpbdgieoaaGreatDoor
open Go.RowKit
set_option linter.unusedVariables false
set_option linter.unusedSimpArgs false
set_option maxRecDepth 100000
attribute [local go_sem ↓] Go.wp_at_zero Go.wp_at_succ

theorem mkE_ge (C e : Int) : min e 0 ≤ mkE C e := by
  unfold mkE oddE
  (repeat' split) <;> omega
theorem pws_ok {m e n f : Int} {i : Nat} (hv : Dv m e) (hv2 : Dv n f) (hd : dcm m e n f ≤ 0) (h1 : Bd (dq m e) i) (h2 : Bd (dq n f) i) (hi : i ≤ 199) (hE : -64 ≤ e) (hF : -64 ≤ f) {w : World} (hT : Tab w) {j k : Int} (hk1 : -9223372036854775808 ≤ k) (hk2 : k ≤ 9223372036854775807) : ∃ M E N G r : Int, (zl M ≤ 400 ∧ (-10000 ≤ E ∧ E ≤ 10000)) ∧ (zl N ≤ 400 ∧ (-10000 ≤ G ∧ G ≤ 10000)) ∧ (∀ v W, IsI W v m e n f → Below w.heap.size w W → Calls Tryz.prog 27 #[v, .int .i64 j, .int .i64 k] W (RetIE W M E N G r)) ∧ (∀ v W, IsI W v m e n f → Calls Tryz.prog 28 #[v, .int .i64 j, .int .i64 k] W (RetIE W M E N G r)) := by
  obtain ⟨M, E, N, G, r, fx, b1, b2, _⟩ := RetPw.fix m e n f j k
  have p1 := pb_gen hv h1 hE
  have p2 := pb_gen hv2 h2 hF
  have hpb : powB j = true → PB m e j ∧ PB n f j := fun h => ⟨pb_of hv h1 hE hi h, pb_of hv2 h2 hF hi h⟩
  have hsm := small_bd h1 h2 (by omega) (by omega) (by omega) hd
  refine ⟨M, E, N, G, r, b1, b2, fun v W h hW => ?_, fun v W h => ?_⟩
  · rw [← fx W]
    exact dpw_any m e n f j k v W h (by omega) (by omega) (by omega) (by omega) hv hv2 hd hpb hk1 hk2 hsm (hT.mono hW)
  · rw [← fx W]
    exact rpw12_any m e n f j k v W h (by omega) (by omega) (by omega) (by omega) hv hv2 hd hpb hk1 hk2
theorem plainN_3 (N0 N1 N2 : Int) : Plain #[.int .i64 N0, .int .i64 N1, .int .i64 N2] := fun j x => by
  match j with
  | 0 => simp
  | 1 => simp
  | 2 => simp
  | j + 3 => simp
theorem plainN_2 (N0 N1 : Int) : Plain #[.int .i64 N0, .int .i64 N1] := fun j x => by
  match j with
  | 0 => simp
  | 1 => simp
  | j + 2 => simp
theorem rowN3_cell {w : World} {g : Nat} {N0 N1 N2 : Int} {t : TypeId} (h : Var w g t #[.int .i64 N0, .int .i64 N1, .int .i64 N2]) (hN : ∀ N ∈ [N0, N1, N2], -9223372036854775808 ≤ N ∧ N ≤ 9223372036854775807) (j : Nat) (hj : j < 3) : ∃ N : Int, w.cell? ⟨g, j, none⟩ = some (.int .i64 N) ∧ -9223372036854775808 ≤ N ∧ N ≤ 9223372036854775807 := by
  rcases (show j = 0 ∨ j = 1 ∨ j = 2 by omega) with rfl | rfl | rfl
  · exact ⟨N0, h.cell 0, hN _ (by simp)⟩
  · exact ⟨N1, h.cell 1, hN _ (by simp)⟩
  · exact ⟨N2, h.cell 2, hN _ (by simp)⟩
theorem rowN2_cell {w : World} {g : Nat} {N0 N1 : Int} {t : TypeId} (h : Var w g t #[.int .i64 N0, .int .i64 N1]) (hN : ∀ N ∈ [N0, N1], -9223372036854775808 ≤ N ∧ N ≤ 9223372036854775807) (j : Nat) (hj : j < 2) : ∃ N : Int, w.cell? ⟨g, j, none⟩ = some (.int .i64 N) ∧ -9223372036854775808 ≤ N ∧ N ≤ 9223372036854775807 := by
  rcases (show j = 0 ∨ j = 1 by omega) with rfl | rfl
  · exact ⟨N0, h.cell 0, hN _ (by simp)⟩
  · exact ⟨N1, h.cell 1, hN _ (by simp)⟩


end Go.Proofs.YthfabjpbdgieoaaGreatDoor
