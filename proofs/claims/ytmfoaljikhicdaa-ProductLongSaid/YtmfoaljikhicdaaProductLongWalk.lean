/- The walk of ProductLong: whatever the input, the law returns true and turns nothing that was there. -/
import Derived.Test.YtmfoaljikhicdaaAwake2
import Derived.Test.YtmfoaljikhicdaaRefProd
import Derived.Deep.RegionWith
import Derived.Deep.OwnRows
import Derived.Deep.Cut
import Derived.Deep.CutRange
namespace Go.Proofs.Ytmfoaljikhicdaa
open Go.RowKit

/-- Two new rows in two blocks. -/
def TwoRows (w : World) (base N M : Nat) (u v : Value) (p q : List Nat) : Prop :=
  ∃ g h, g ≠ h ∧ u = .slice (some ⟨g, 0, none⟩) N N ∧ v = .slice (some ⟨h, 0, none⟩) M M ∧ base ≤ g ∧ base ≤ h ∧ Own w base u p ∧ Own w base v q
theorem own_made (w : World) (base n : Nat) (hb : base ≤ w.heap.size) (hn : n ≤ 1000000) : Own (w.alloc (.cells (madeCells #[.int .u32 0] n) 29)) base (.slice (some ⟨w.heap.size, 0, none⟩) n n) (List.replicate n 0) := by
  have e : (madeCells #[Value.int .u32 0] n).toList = u32s (List.replicate n 0) := by rw [u32s_zeros]; exact toList_madeCells_one _ n
  have h : (w.alloc (.cells (madeCells #[.int .u32 0] n) 29)).heap[w.heap.size]? = some (.cells (u32s (List.replicate n 0)).toArray 29 (0, 0)) := by
    rw [← e]
    show (w.heap.push _)[w.heap.size]? = _
    simp
  have := own_of_row h hb (small_replicate n) (by rw [List.length_replicate]; unfold maxLen; omega)
  rwa [List.length_replicate] at this
theorem Own.away {w : World} {base g n c : Nat} {l : List Nat} (h : Own w base (.slice (some ⟨g, 0, none⟩) n c) l) {g' j : Nat} (hne : g ≠ g') (v : Value) : Own (w.setCell ⟨g', j, none⟩ v) base (.slice (some ⟨g, 0, none⟩) n c) l := by
  obtain ⟨⟨h1, h2⟩, hs⟩ := h
  refine ⟨⟨h1, ?_⟩, hs⟩
  rcases h2 with h2 | ⟨g2, cap, cur, e1, e2, e3, e4⟩
  · exact .inl h2
  · refine .inr ⟨g2, cap, cur, e1, e2, ?_, e4⟩
    injection e1 with e1
    injection e1 with e1
    injection e1 with e1
    subst e1
    rw [heap_setCell_other w ⟨g', j, none⟩ g v hne]
    exact e3

/-- What two makes leave, in either order. -/
theorem two_made {w w1 : World} (b : Below w.heap.size w w1) {N M : Nat} (hN : N ≤ 1000000) (hM : M ≤ 1000000) :
    TwoRows ((w1.alloc (.cells (madeCells #[.int .u32 0] N) 29)).alloc (.cells (madeCells #[.int .u32 0] M) 29)).drew w.heap.size N M (.slice (some ⟨w1.heap.size, 0, none⟩) N N) (.slice (some ⟨w1.heap.size + 1, 0, none⟩) M M) (List.replicate N 0) (List.replicate M 0)
      ∧ Below w.heap.size w ((w1.alloc (.cells (madeCells #[.int .u32 0] N) 29)).alloc (.cells (madeCells #[.int .u32 0] M) 29)).drew := by
  have h1 := own_made w1 w.heap.size N b.size hN
  have b1 := b.alloc b.size (.cells (madeCells #[.int .u32 0] N) 29)
  have h2 := own_made (w1.alloc (.cells (madeCells #[.int .u32 0] N) 29)) w.heap.size M b1.size hM
  have b2 := (b1.alloc b1.size (.cells (madeCells #[.int .u32 0] M) 29)).drew
  simp only [World.size_alloc] at h2
  exact ⟨⟨_, _, by omega, rfl, rfl, b.size, by have := b.size; omega, (h1.alloc _).below (Below.refl _ _).drew, h2.below (Below.refl _ _).drew⟩, b2⟩
theorem TwoRows.swap {w : World} {base N M : Nat} {u v : Value} {p q : List Nat} (h : TwoRows w base N M u v p q) : TwoRows w base M N v u q p := by
  obtain ⟨g, h, h1, h2, h3, h4, h5, h6, h7⟩ := h
  exact ⟨h, g, h1.symm, h3, h2, h5, h4, h7, h6⟩

theorem filled_step (x k n : Nat) (hk : k < n) : (List.replicate k x ++ List.replicate (n - k) 0).set k x = List.replicate (k + 1) x ++ List.replicate (n - (k + 1)) 0 := by
  rw [show n - k = n - (k + 1) + 1 from by omega, set_end _ _ _ (List.length_replicate ..), ← List.replicate_succ']

set_option maxHeartbeats 2000000 in
theorem walk_ProductLong (a0 a1 a2 a3 : Int) (w : World) (hb0 : -9223372036854775808 ≤ a0 ∧ a0 ≤ 9223372036854775807) (hb1 : -9223372036854775808 ≤ a1 ∧ a1 ≤ 9223372036854775807) (hb2 : 0 ≤ a2 ∧ a2 ≤ 4294967295) (hb3 : 0 ≤ a3 ∧ a3 ≤ 4294967295) :
    Calls Try.prog 4 #[.int .i64 a0, .int .i64 a1, .int .u32 a2, .int .u32 a3] w fun e w' => e = .returned (.bool true) ∧ Below w.heap.size w w' := by
  obtain ⟨x, rfl⟩ : ∃ x : Nat, a2 = (x : Int) := ⟨a2.toNat, by omega⟩
  obtain ⟨y, rfl⟩ : ∃ y : Nat, a3 = (y : Int) := ⟨a3.toNat, by omega⟩
  have hx32 : x < 4294967296 := by omega
  have hy32 : y < 4294967296 := by omega
  have HM1 := fun W => mod_any a0 150 W (by omega) (by omega) hb0.1 hb0.2
  have HM2 := fun W => mod_any a1 150 W (by omega) (by omega) hb1.1 hb1.2
  obtain ⟨n, hn⟩ : ∃ n : Nat, a0 % 150 = (n : Int) := ⟨(a0 % 150).toNat, by omega⟩
  obtain ⟨m, hm⟩ : ∃ m : Nat, a1 % 150 = (m : Int) := ⟨(a1 % 150).toNat, by omega⟩
  obtain ⟨N, hN⟩ : ∃ N : Nat, N = n + 1 := ⟨_, rfl⟩
  obtain ⟨M, hM⟩ : ∃ M : Nat, M = m + 1 := ⟨_, rfl⟩
  have hN2 : N ≤ 150 := by omega
  have hM2 : M ≤ 150 := by omega
  have EN : IntKind.i64.wrap (1 + (n : Int)) = (N : Int) := by rw [IntKind.wrap_i64]; omega
  have EM : IntKind.i64.wrap (1 + (m : Int)) = (M : Int) := by rw [IntKind.wrap_i64]; omega
  have HEN := Lib.hid EN
  have HEM := Lib.hid EM
  rw [hn] at HM1
  rw [hm] at HM2
  have HA := Lib.hid HM1
  have HB := Lib.hid HM2
  have KN := Lib.hid (run_make_row' (P := Try.prog) 22 29 (.int .u32 0) 4 Try.underlying22 info_u32 rfl .i64 .i64 N (by omega) (by omega))
  have KM := Lib.hid (run_make_row' (P := Try.prog) 22 29 (.int .u32 0) 4 Try.underlying22 info_u32 rfl .i64 .i64 M (by omega) (by omega))
  clear HM1 HM2 hn hm hb0 hb1 hN hM EN EM hb2 hb3
  go_enter Try.func4, Try.ntmps4
  go_wp2_with fail
  refine (awake2_any w).mono ?_
  rintro e w1 ⟨rfl, b⟩
  go_wp2_with fail
  go_cut [9, 10] from 15 to 22 (fun s9 s10 wx => TwoRows wx w.heap.size N M s9 s10 (List.replicate N 0) (List.replicate M 0) ∧ Below w.heap.size w wx)
  case first =>
    have EN := HEN.out
    have EM := HEM.out
    have RN := KN.out
    have RM := KM.out
    go_region_with (first
      | (go_at_call_of 15 (Value.int .i64 a0); refine (HA.out _).mono ?_; rintro e w' ⟨rfl, rfl⟩)
      | (go_at_call_of 15 (Value.int .i64 a1); refine (HB.out _).mono ?_; rintro e w' ⟨rfl, rfl⟩))
    all_goals
      go_wp2_with fail
      go_meet
      first
      | exact two_made b (by omega) (by omega)
      | exact ⟨(two_made b (by omega) (by omega)).1.swap, (two_made b (by omega) (by omega)).2⟩
  case rest =>
    obtain ⟨⟨g, h, hne, rfl, rfl, hg, hh, o1, o2⟩, b2⟩ := hcut
    clear HA HB KN KM HEN HEM b
    generalize hB : w.heap.size = B at *
    go_wp2_with fail
    go_loopw [25] (fun i wr => ∃ k : Nat, i = .int .i64 k ∧ k ≤ N ∧ Own wr B (.slice (some ⟨g, 0, none⟩) N N) (List.replicate k x ++ List.replicate (N - k) 0) ∧ Own wr B (.slice (some ⟨h, 0, none⟩) M M) (List.replicate M 0) ∧ Below B w wr) (fun i _ => N - (intOf i).toNat)
    case atStart => exact ⟨0, rfl, by omega, o1, o2, b2⟩
    case round =>
      obtain ⟨k, rfl, hk, h1, h2, hb⟩ := hrel
      clear o1 o2 b2
      rcases Nat.eq_or_lt_of_le hk with hke | hkN
      · have hNk : N ≤ k := by omega
        subst hke
        rw [Nat.sub_self, List.replicate_zero, List.append_nil] at h1
        clear hNk
        go_wp2_with fail
        go_loopw [35] (fun i wr => ∃ j : Nat, i = .int .i64 j ∧ j ≤ M ∧ Own wr B (.slice (some ⟨g, 0, none⟩) k k) (List.replicate k x) ∧ Own wr B (.slice (some ⟨h, 0, none⟩) M M) (List.replicate j y ++ List.replicate (M - j) 0) ∧ Below B w wr) (fun i _ => M - (intOf i).toNat)
        case atStart => exact ⟨0, rfl, by omega, h1, h2, hb⟩
        case round =>
          obtain ⟨j, rfl, hj, h3, h4, hb3⟩ := hrel
          clear h1 h2 hb
          rcases Nat.eq_or_lt_of_le hj with hje | hjM
          · subst hje
            rw [Nat.sub_self, List.replicate_zero, List.append_nil] at h4
            have e3 := dig_val h3.small
            have e4 := dig_val h4.small
            have l3 : len (val (List.replicate k x)) ≤ 150 := Nat.le_trans (len_val_le h3.small) (by rw [List.length_replicate]; exact hN2)
            have l4 : len (val (List.replicate j y)) ≤ 150 := Nat.le_trans (len_val_le h4.small) (by rw [List.length_replicate]; exact hM2)
            have R3 := Lib.hid (fun W (hW : Below wr.heap.size wr W) => rtrim_any _ _ _ _ W (h3.sl.mono hW) (by omega))
            have R4 := Lib.hid (fun W (hW : Below wr.heap.size wr W) => rtrim_any _ _ _ _ W (h4.sl.mono hW) (by omega))
            rw [← e3] at R3
            rw [← e4] at R4
            have L : Live w wr [] := Live.mk (by rw [hB]; exact hb3)
            clear e3 e4 h3 h4 hb3
            generalize val (List.replicate k x) = X at *
            generalize val (List.replicate j y) = Y at *
            generalize hw0 : wr = W0 at *
            have LB := Below.refl W0.heap.size W0
            clear hw0
            go_wp2_with fail
            refine (R3.out W0 LB).mono ?_
            rintro e w2 ⟨v1, rfl, o⟩
            replace L := L.add o
            replace LB := LB.trans o.below
            clear o
            go_wp2_with fail
            refine (R4.out w2 LB).mono ?_
            rintro e w3 ⟨v2, rfl, o⟩
            replace L := L.add o
            clear o LB R3 R4
            go_wp2_with fail
            refine (mul_any X Y _ _ w3 (L.get (by simp)) (L.get (by simp)) (by omega) (by omega)).mono ?_
            rintro e w4 ⟨v3, rfl, o⟩
            replace L := L.add o
            clear o
            go_wp2_with fail
            refine (rmul_any X Y _ _ w4 (L.get (by simp)) (L.get (by simp)) (by omega) (by omega)).mono ?_
            rintro e w5 ⟨v4, rfl, o⟩
            replace L := L.add o
            clear o
            go_wp2_with fail
            refine (same_yes (X * Y) (X * Y) _ _ w5 (L.get (by simp)) (L.get (by simp)) rfl).mono ?_
            rintro e w' ⟨rfl, rfl⟩
            go_wp2_with fail
            refine (square_any X _ w5 (L.get (by simp)) (by omega)).mono ?_
            rintro e w6 ⟨v5, rfl, o⟩
            replace L := L.add o
            clear o
            go_wp2_with fail
            refine (rmul_any X X _ _ w6 (L.get (by simp)) (L.get (by simp)) (by omega) (by omega)).mono ?_
            rintro e w7 ⟨v6, rfl, o⟩
            replace L := L.add o
            clear o
            go_wp2_with fail
            refine (same_yes (X * X) (X * X) _ _ w7 (L.get (by simp)) (L.get (by simp)) rfl).mono ?_
            rintro e w' ⟨rfl, rfl⟩
            go_wp2_with fail
            go_ret
            exact ⟨rfl, L.below⟩
          · have hfree := h4.free j
            obtain ⟨z, hz, _, _⟩ := h4.cell (j := j) (by omega)
            have hst := h4.store (j := j) (x := y) hy32
            rw [filled_step y j M hjM] at hst
            have ho := h3.away (g' := h) (j := j) hne (.int .u32 (y : Int))
            have hb2 := hb3.setCell (p := ⟨h, j, none⟩) hh (.int .u32 (y : Int))
            have HST := Lib.hid hst
            have HO := Lib.hid ho
            clear h3 h4 hst ho
            go_wp2_with fail
            go_roundw
            case rel => exact ⟨j + 1, by go_num, by omega, HO.out, HST.out, hb2⟩
            case measure => simp [intOf]; omega
      · have hfree := h1.free k
        obtain ⟨z, hz, _, _⟩ := h1.cell (j := k) (by omega)
        have hst := h1.store (j := k) (x := x) hx32
        rw [filled_step x k N hkN] at hst
        have ho := h2.away (g' := g) (j := k) (Ne.symm hne) (.int .u32 (x : Int))
        have hb2 := hb.setCell (p := ⟨g, k, none⟩) hg (.int .u32 (x : Int))
        have HST := Lib.hid hst
        have HO := Lib.hid ho
        clear h1 h2 hst ho
        go_wp2_with fail
        go_roundw
        case rel => exact ⟨k + 1, by go_num, by omega, HST.out, HO.out, hb2⟩
        case measure => simp [intOf]; omega

end Go.Proofs.Ytmfoaljikhicdaa
