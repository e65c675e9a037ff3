/- The walk of IntegerEnds: whatever the input, the law returns true and turns nothing that was there. -/
import Derived.Test.YtajegednakenbaaDoorAwake5
namespace Go.Proofs.YtajegednakenbaaDoor
open Go.RowKit
set_option linter.unusedVariables false
set_option linter.unusedSimpArgs false

theorem own_three (w : World) (x y z : Nat) (hx : x < W32) (hy : y < W32) (hz : z < W32) : Own (w.alloc (.cells #[.int .u32 (x : Int), .int .u32 (y : Int), .int .u32 (z : Int)] 34)) w.heap.size (.slice (some ⟨w.heap.size, 0, none⟩) 3 3) [x, y, z] :=
  ⟨World.ownsRow_lit w #[.int .u32 (x : Int), .int .u32 (y : Int), .int .u32 (z : Int)] 3 (Nat.le_refl _) (by unfold maxLen; omega) rfl, small_cons hx (small_cons hy (small_one hz))⟩
/-- One element of the list of numbers. -/
def U64At (w : World) (g : Nat) : Prop := g < w.heap.size ∧ ∀ j, j < 5 → ∃ u : Nat, w.cell? ⟨g, j, none⟩ = some (.int .u64 (u : Int)) ∧ u < 18446744073709551616
theorem U64At.mono {w w' : World} {g : Nat} (h : U64At w g) (hb : Below w.heap.size w w') : U64At w' g :=
  ⟨Nat.lt_of_lt_of_le h.1 hb.size, fun j hj => by
    obtain ⟨u, h1, h2⟩ := h.2 j hj
    exact ⟨u, (hb.cell (p := ⟨g, j, none⟩) h.1).trans h1, h2⟩⟩
/-- One element of the list of lists. -/
def RowAt (w : World) (g : Nat) : Prop := g < w.heap.size ∧ ∀ j, j < 2 → ∃ A n l, w.cell? ⟨g, j, none⟩ = some (.slice A n n) ∧ Sl w A n n l ∧ n ≤ 3
theorem RowAt.mono {w w' : World} {g : Nat} (h : RowAt w g) (hb : Below w.heap.size w w') : RowAt w' g :=
  ⟨Nat.lt_of_lt_of_le h.1 hb.size, fun j hj => by
    obtain ⟨A, n, l, h1, h2, h3⟩ := h.2 j hj
    exact ⟨A, n, l, (hb.cell (p := ⟨g, j, none⟩) h.1).trans h1, h2.mono hb, h3⟩⟩

set_option maxHeartbeats 4000000 in
theorem walk_IntegerEnds (a0 : Int) (a1 : Int) (a2 : Bool) (w : World) (hb0 : 0 ≤ a0 ∧ a0 ≤ 18446744073709551615) (hb1 : 0 ≤ a1 ∧ a1 ≤ 4294967295) (hT : Tab w) :
    Calls Tryd.prog 4 #[.int .u64 a0, .int .u32 a1, .bool a2] w (fun e w' => e = .returned (.bool true) ∧ Below w.heap.size w w') := by
  obtain ⟨n0, rfl⟩ : ∃ k : Nat, a0 = (k : Int) := ⟨a0.toNat, by omega⟩
  obtain ⟨h0, rfl⟩ : ∃ k : Nat, a1 = (k : Int) := ⟨a1.toNat, by omega⟩
  have hn0 : n0 < 18446744073709551616 := by omega
  have hh0 : h0 < 4294967296 := by omega
  clear hb0 hb1
  go_enter Tryd.func4, Tryd.ntmps4
  go_wp2_with fail
  refine (awake5_any _ hT).mono ?_
  rintro e w1 ⟨rfl, be⟩
  have L := (Lz.mk0 w).step be
  clear be hT
  go_wp2_with fail
  have HU : U64At (w1.alloc (.cells #[.int .u64 (n0 : Int), .int .u64 9223372036854775808, .int .u64 9223372036854775807, .int .u64 9223372036854775809, .int .u64 18446744073709551615] 33)) w1.heap.size := by
    refine ⟨by simp, fun j hj => ?_⟩
    rw [cell_of_row _ _ j _ _ _ (heap_alloc_new w1 _)]
    rcases (show j = 0 ∨ j = 1 ∨ j = 2 ∨ j = 3 ∨ j = 4 by omega) with rfl | rfl | rfl | rfl | rfl
    · exact ⟨n0, rfl, hn0⟩
    · exact ⟨9223372036854775808, rfl, by omega⟩
    · exact ⟨9223372036854775807, rfl, by omega⟩
    · exact ⟨9223372036854775809, rfl, by omega⟩
    · exact ⟨18446744073709551615, rfl, by omega⟩
  have L2 := L.step ((Below.refl w1.heap.size w1).alloc (Nat.le_refl _) (.cells #[.int .u64 (n0 : Int), .int .u64 9223372036854775808, .int .u64 9223372036854775807, .int .u64 9223372036854775809, .int .u64 18446744073709551615] 33))
  generalize w1.alloc (.cells #[.int .u64 (n0 : Int), .int .u64 9223372036854775808, .int .u64 9223372036854775807, .int .u64 9223372036854775809, .int .u64 18446744073709551615] 33) = wb at *
  generalize w1.heap.size = g at *
  clear L hn0
  go_loopw [21] (fun i wr => ∃ j : Nat, i = .int .i64 j ∧ j ≤ 5 ∧ Below wb.heap.size wb wr) (fun i _ => 5 - (intOf i).toNat)
  case atStart => exact ⟨0, rfl, by omega, Below.refl _ _⟩
  case round =>
    obtain ⟨j, rfl, hj, B⟩ := hrel
    have L := L2.step B
    rcases Nat.eq_or_lt_of_le hj with rfl | hjl
    · go_wp2_with fail
      go_ret
      exact ⟨rfl, L.below⟩
    · have hjb : decide ((j : Int) < 5) = true := decide_eq_true (by omega)
      obtain ⟨u, hcu, hu⟩ := (HU.mono B).2 j hjl
      obtain ⟨x, hx⟩ : ∃ x, x = u % 4294967296 := ⟨_, rfl⟩
      obtain ⟨y, hy⟩ : ∃ y, y = u / 4294967296 := ⟨_, rfl⟩
      have e1 : (u : Int) % 4294967296 = (x : Int) := by omega
      have e2 : (u : Int) / 4294967296 = (y : Int) := by omega
      have e3 : (y : Int) % 4294967296 = (y : Int) := by omega
      have hx32 : x < 4294967296 := by omega
      have hy32 : y < 4294967296 := by omega
      clear hx hy
      go_wp2_with fail
      have L3 := ((L.step ((Below.refl wr.heap.size wr).alloc (Nat.le_refl _) (.cells #[.int .u32 (x : Int), .int .u32 (y : Int)] 34))).step ((Below.refl _ _).alloc (Nat.le_refl _) (.cells #[.int .u32 (x : Int), .int .u32 (y : Int), .int .u32 (h0 : Int)] 34))).step ((Below.refl _ _).alloc (Nat.le_refl _) (.cells #[.slice (some ⟨wr.heap.size, 0, none⟩) 2 2, .slice (some ⟨wr.heap.size + 1, 0, none⟩) 3 3] 22))
      have B3 : Below wb.heap.size wb (((wr.alloc (.cells #[.int .u32 (x : Int), .int .u32 (y : Int)] 34)).alloc (.cells #[.int .u32 (x : Int), .int .u32 (y : Int), .int .u32 (h0 : Int)] 34)).alloc (.cells #[.slice (some ⟨wr.heap.size, 0, none⟩) 2 2, .slice (some ⟨wr.heap.size + 1, 0, none⟩) 3 3] 22)) := by
        have h1 := B.size
        exact ((B.alloc h1 _).alloc (by simp; omega) _).alloc (by simp; omega) _
      have HR : RowAt (((wr.alloc (.cells #[.int .u32 (x : Int), .int .u32 (y : Int)] 34)).alloc (.cells #[.int .u32 (x : Int), .int .u32 (y : Int), .int .u32 (h0 : Int)] 34)).alloc (.cells #[.slice (some ⟨wr.heap.size, 0, none⟩) 2 2, .slice (some ⟨wr.heap.size + 1, 0, none⟩) 3 3] 22)) (wr.heap.size + 2) := by
        refine ⟨by simp, fun i hi => ?_⟩
        have hsz : ((wr.alloc (.cells #[.int .u32 (x : Int), .int .u32 (y : Int)] 34)).alloc (.cells #[.int .u32 (x : Int), .int .u32 (y : Int), .int .u32 (h0 : Int)] 34)).heap.size = wr.heap.size + 2 := by simp
        rw [cell_of_row _ _ i _ _ _ (hsz ▸ heap_alloc_new ((wr.alloc (.cells #[.int .u32 (x : Int), .int .u32 (y : Int)] 34)).alloc (.cells #[.int .u32 (x : Int), .int .u32 (y : Int), .int .u32 (h0 : Int)] 34)) _)]
        have s1 := (own_two wr x y hx32 hy32).sl
        have s2 := (own_three (wr.alloc (.cells #[.int .u32 (x : Int), .int .u32 (y : Int)] 34)) x y h0 hx32 hy32 hh0).sl
        have s3 := (s1.mono ((Below.refl _ _).alloc (Nat.le_refl _) (.cells #[.int .u32 (x : Int), .int .u32 (y : Int), .int .u32 (h0 : Int)] 34))).mono ((Below.refl _ _).alloc (Nat.le_refl _) (.cells #[.slice (some ⟨wr.heap.size, 0, none⟩) 2 2, .slice (some ⟨wr.heap.size + 1, 0, none⟩) 3 3] 22))
        have s4 := s2.mono ((Below.refl _ _).alloc (Nat.le_refl _) (.cells #[.slice (some ⟨wr.heap.size, 0, none⟩) 2 2, .slice (some ⟨wr.heap.size + 1, 0, none⟩) 3 3] 22))
        rw [show (wr.alloc (.cells #[.int .u32 (x : Int), .int .u32 (y : Int)] 34)).heap.size = wr.heap.size + 1 from by simp] at s4
        rcases (show i = 0 ∨ i = 1 by omega) with rfl | rfl
        · exact ⟨_, _, _, rfl, s3, by omega⟩
        · exact ⟨_, _, _, rfl, s4, by omega⟩
      generalize ((wr.alloc (.cells #[.int .u32 (x : Int), .int .u32 (y : Int)] 34)).alloc (.cells #[.int .u32 (x : Int), .int .u32 (y : Int), .int .u32 (h0 : Int)] 34)).alloc (.cells #[.slice (some ⟨wr.heap.size, 0, none⟩) 2 2, .slice (some ⟨wr.heap.size + 1, 0, none⟩) 3 3] 22) = wc at *
      clear e1 e2 e3 hcu hu
      go_loopw [40] (fun i wr2 => ∃ k : Nat, i = .int .i64 k ∧ k ≤ 2 ∧ Below wc.heap.size wc wr2) (fun i _ => 2 - (intOf i).toNat)
      case atStart => exact ⟨0, rfl, by omega, Below.refl _ _⟩
      case round =>
        obtain ⟨k, rfl, hk, B4⟩ := hrel
        rcases Nat.eq_or_lt_of_le hk with rfl | hkl
        · go_wp2_with fail
          go_roundw
          case rel => exact ⟨j + 1, by go_num, by omega, B3.trans (B4.mono B3.size)⟩
          case measure => simp [intOf] <;> omega
        · obtain ⟨A, n, l, hcA, hs, hn3⟩ := (HR.mono B4).2 k hkl
          have hnn := fun W h => rznat_any a2 l A n n W h (by omega)
          obtain ⟨z, hz⟩ : ∃ z, sg a2 (val l) = z := ⟨_, rfl⟩
          rw [hz] at hnn
          have HN := Lib.hid hnn
          have HC := Lib.hid (fun vx W h => zint_any z vx W h)
          have HD := Lib.hid (fun vx W h => rzint_any z vx W h)
          clear hnn hz
          generalize zi z = iz at *
          generalize zb z = bz at *
          go_wp2_with fail
          refine (HN.out _ hs).mono ?_
          rintro e w5 ⟨vx, rfl, ix, be⟩
          have L4 := ((Lz.mk0 wr).step be).z ix
          obtain ⟨A2, c2, rfl, _⟩ := ix.form
          clear be ix hcA hs
          replace L4 := L4.box w5.heap.size rfl (ng z) A2 (zl z) c2
          go_wp2_with fail
          have HX := HC.out _ _ L4.hz
          generalize w5.alloc (.cells #[.bool (ng z), .slice A2 (zl z) c2] 24) = w6 at *
          generalize w5.heap.size = g6 at *
          refine HX.mono ?_
          rintro e w7 ⟨rfl, be⟩
          replace L4 := L4.step be
          clear be HX
          have c0 := L4.b0.c0
          have c1 := L4.b0.c1
          go_wp2_with fail
          refine (HD.out _ _ L4.hz).mono ?_
          rintro e w8 ⟨rfl, be⟩
          replace L4 := L4.step be
          clear be c0 c1
          go_wp2_with fail
          go_roundw
          case rel => exact ⟨k + 1, by go_num, by omega, B4.trans (L4.below.mono B4.size)⟩
          case measure => simp [intOf] <;> omega

end Go.Proofs.YtajegednakenbaaDoor
