/- The reference's Ten, strip. -/
import Derived.Test.YtbndgggjfjdfbabGreatDoorRefRatC
import Derived.Deep.RegionHeld3
import Derived.Deep.DrawnRows
namespace Go.Proofs.YtbndgggjfjdfbabGreatDoor
open Go.RowKit
set_option linter.unusedVariables false
set_option linter.unusedSimpArgs false
set_option maxRecDepth 100000
attribute [local go_sem ↓] Go.wp_at_zero Go.wp_at_succ

set_option maxHeartbeats 2000000 in
theorem rten_any (n : Nat) (w : World) (hn : n ≤ 1000) :
    Calls Tryz.prog 57 #[.int .i64 (n : Int)] w (RetZ w ((10 ^ n : Nat) : Int)) := by
  have HLP := Lib.hid (fun e (he : e ≤ 1000) => show len (10 ^ e) ≤ 1001 by
    have h1 := len_pow 10 e
    have h2 : len 10 ≤ 1 := len_le1 (by omega)
    have h3 : e * len 10 ≤ 1000 * 1 := Nat.mul_le_mul he h2
    omega)
  have HS := Lib.hid (fun k v W h (hk : k ≤ n) => rznatN_any false (10 ^ k) v W h (Nat.le_trans (HLP.out k (by omega)) (by omega)))
  go_enter Tryz.func57, Tryz.ntmps57
  go_wp2_with fail
  have L := ((Lq.mk0 w).varZ (w.heap.size) (by simp) false none 0 0)
  have c00 := L.b0.c20
  have f00 := L.b0.fr 0
  have c01 := L.b0.c21
  have f01 := L.b0.fr 1
  refine (rof_any 1 _ (by omega)).mono ?_
  rintro e w1 ⟨v1, rfl, o⟩
  clear c00 f00 c01 f01
  replace L := L.step o.below
  have i1 := o.isN
  clear o
  have HM := Lib.hid (fun k v W h (hk : k < n) => rsmall_any (10 ^ k) 10 0 v W h (Nat.le_trans (HLP.out k (by omega)) (by omega)) (by omega) (by omega))
  go_wp2_with fail
  go_loopw [3, 6] (fun v i wr => ∃ k : Nat, i = .int .i64 k ∧ k ≤ n ∧ IsN wr v (10 ^ k) ∧ Lq w wr [] [] [] [(w.heap.size, 24, #[.bool false, .slice none 0 0])]) (fun _ i _ => n - (intOf i).toNat)
  case atStart => exact ⟨0, rfl, by omega, by rw [Nat.pow_zero]; exact i1, L⟩
  case round =>
    obtain ⟨k, rfl, hk, iv, L⟩ := hrel
    clear i1
    rcases Nat.eq_or_lt_of_le hk with rfl | hkn
    · have HR := Lib.hid (HS.out k _ _ iv (by omega))
      clear iv HS HM HLP
      go_wp2_with fail
      refine HR.out.mono ?_
      rintro e w3 ⟨v3, rfl, iz, be⟩
      replace L := (L.step be).z iz
      obtain ⟨A3, c3, rfl, _⟩ := iz.form
      clear iz be
      have c00 := L.b0.c20
      have f00 := L.b0.fr 0
      have c01 := L.b0.c21
      have f01 := L.b0.fr 1
      go_wp2_with fail
      have LP := L.putZ (by omega) (by first | (simp; done) | (simp; omega)) (ng (sg false (10 ^ k))) A3 (zl (sg false (10 ^ k))) c3
      have k0 := LP.b0.c20
      have k1 := LP.b0.c21
      unfold put2 at k0 k1
      exact bodyPost_ret (v := .agg #[.bool (ng (sg false (10 ^ k))), .slice A3 (zl (sg false (10 ^ k))) c3]) (by simp [results, Tryz.results57, go_sem, k0, k1]) rfl ⟨_, rfl, LP.hz, LP.below⟩
    · have HR := Lib.hid (HM.out k _ _ iv hkn)
      clear iv
      go_wp2_with fail
      refine HR.out.mono ?_
      rintro e w3 ⟨v3, rfl, o⟩
      have i3 := o.isN
      rw [Nat.add_zero, ← Nat.pow_succ] at i3
      replace L := L.step o.below
      clear o HR
      go_wp2_with fail
      go_roundw
      case rel => exact ⟨k + 1, by go_num, by omega, i3, L⟩
      case measure => simp [intOf]; omega

/-- How often a number is divided by another, and what is left. -/
def RetStrip (w : World) (p x : Nat) (e : Ending) (w' : World) : Prop := ∃ v b k, e = .returned (.tuple #[v, .int .i64 ((k : Nat) : Int)]) ∧ IsN w' v b ∧ Below w.heap.size w w' ∧ Hid (x = b * p ^ k ∧ 0 < b ∧ b % p ≠ 0) ∧ len b ≤ len x ∧ k ≤ 32 * len x
theorem strip_le {x b p k : Nat} (h : x = b * p ^ k) (hb : 0 < b) (hp : 2 ≤ p) : k ≤ 32 * len x ∧ len b ≤ len x := by
  have h1 : x < W32 ^ len x := len_le_iff.1 (Nat.le_refl _)
  have h2 : p ^ k ≤ x := by rw [h]; exact Nat.le_mul_of_pos_left _ hb
  have h3 : 2 ^ k ≤ p ^ k := Nat.pow_le_pow_left hp k
  have h4 : W32 ^ len x = 2 ^ (32 * len x) := by rw [show W32 = 2 ^ 32 from rfl, ← Nat.pow_mul]
  rw [h4] at h1
  have h5 : 2 ^ k < 2 ^ (32 * len x) := by omega
  refine ⟨Nat.le_of_lt ((Nat.pow_lt_pow_iff_right (by omega)).1 h5), len_mono ?_⟩
  rw [h]
  exact Nat.le_mul_of_pos_right _ (Nat.pow_pos (by omega))
theorem strip_step {x b p k : Nat} (h : x = b * p ^ k) (hb : 0 < b) (hp : 2 ≤ p) (hr : b % p = 0) : x = (b / p) * p ^ (k + 1) ∧ 0 < b / p := by
  have h1 : b = p * (b / p) := by have := Nat.div_add_mod b p; omega
  constructor
  · rw [Nat.pow_succ, Nat.mul_comm (p ^ k) p, ← Nat.mul_assoc, Nat.mul_comm (b / p) p, ← h1]; exact h
  · rcases Nat.eq_zero_or_pos (b / p) with h2 | h2
    · rw [h2] at h1; omega
    · exact h2

set_option maxHeartbeats 2000000 in
theorem rstrip_any (x p : Nat) (va : Value) (w : World) (ha : IsN w va x) (hx : len x ≤ 100000) (h0 : 0 < x) (hp : 2 ≤ p) (hp2 : p < 4294967296) :
    Calls Tryz.prog 55 #[va, .int .u64 (p : Int)] w (RetStrip w p x) := by
  have HO := Lib.hid (fun W => rof_any p W (by omega))
  have HE := Lib.hid (fun b va vb W h1 h2 (hb : len b ≤ 100000) => rexact_any b p va vb W h1 h2 (Nat.le_trans hb (by omega)) (Nat.le_trans (len_le1 hp2) (by omega)))
  go_enter Tryz.func55, Tryz.ntmps55
  go_wp2_with fail
  go_wp2_with fail
  go_loopw [0, 6] (fun v i wr => ∃ b k : Nat, i = .int .i64 k ∧ IsN wr v b ∧ Below w.heap.size w wr ∧ Hid (x = b * p ^ k) ∧ 0 < b) (fun _ i _ => 32 * len x + 1 - (intOf i).toNat)
  case atStart => exact ⟨x, 0, rfl, ha, Below.refl _ _, Lib.hid (by rw [Nat.pow_zero, Nat.mul_one]), h0⟩
  case round =>
    obtain ⟨b, k, rfl, ib, be, hx0, hb⟩ := hrel
    clear ha h0
    obtain ⟨hk, hlb⟩ := strip_le hx0.out hb hp
    go_wp2_with fail
    refine (HO.out _).mono ?_
    rintro e w1 ⟨v1, rfl, o⟩
    have i1 := o.isN
    have hbe := be.trans (o.below.mono be.size)
    have ib1 := ib.mono o.below
    clear o be ib
    have HR := HE.out b _ _ w1 ib1 i1 (by omega)
    rcases Nat.eq_zero_or_pos (b % p) with hr | hr
    · rw [exQ_yes (by omega) hr, exB_yes (by omega) hr] at HR
      obtain ⟨h1, h2⟩ := strip_step hx0.out hb hp hr
      obtain ⟨hk2, _⟩ := strip_le h1 h2 hp
      have H1 := Lib.hid h1
      clear h1 hx0
      go_wp2_with fail
      refine HR.mono ?_
      rintro e w2 ⟨v2, rfl, o⟩
      have i2 := o.isN
      have hbe2 := hbe.trans (o.below.mono hbe.size)
      clear o HR
      go_wp2_with fail
      go_roundw
      case rel => exact ⟨b / p, k + 1, by go_num, i2, hbe2, H1, h2⟩
      case measure => simp [intOf]; omega
    · rw [exQ_no hr, exB_no hr] at HR
      go_wp2_with fail
      refine HR.mono ?_
      rintro e w2 ⟨v2, rfl, o⟩
      have ib2 := ib1.mono o.below
      have hbe2 := hbe.trans (o.below.mono hbe.size)
      clear o HR
      go_wp2_with fail
      go_ret2
      exact ⟨_, b, k, rfl, ib2, hbe2, Lib.hid ⟨hx0.out, hb, by omega⟩, hlb, hk⟩

end Go.Proofs.YtbndgggjfjdfbabGreatDoor
