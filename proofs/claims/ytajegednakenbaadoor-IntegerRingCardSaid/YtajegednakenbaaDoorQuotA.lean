/- Walks: bits.Add32, bits.Div32; quotient.subtractMultiple, addBack, Small. -/
import Derived.Test.YtajegednakenbaaDoorQuotMath
import Derived.Test.YtajegednakenbaaDoorNatA
namespace Go.Proofs.YtajegednakenbaaDoor
open Go.RowKit
set_option linter.unusedVariables false
set_option linter.unusedSimpArgs false

/-- A call that writes only the row g. -/
theorem grown_set {w w' : World} {g : Nat} (h : w.grownBy w' (some g)) (j : Nat) (v : Value) : w.grownBy (w'.setCell ⟨g, j, none⟩ v) (some g) :=
  ⟨h.os, h.tape, h.output, by have := h.size; simpa [World.setCell] using this, fun k hk hne => by
    rw [heap_setCell_other w' ⟨g, j, none⟩ k v (fun e => hne (by rw [e]))]
    exact h.block k hk hne⟩
theorem grown_trans {a b c : World} {row : Option Nat} (h : a.grownBy b row) (k : b.grownBy c row) : a.grownBy c row :=
  ⟨k.os.trans h.os, k.tape.trans h.tape, k.output.trans h.output, Nat.le_trans h.size k.size, fun i hi hne => (k.block i (Nat.lt_of_lt_of_le hi h.size) hne).trans (h.block i hi hne)⟩
theorem grown_drewN (w : World) (n : Nat) (row : Option Nat) : w.grownBy (w.drewN n) row := ⟨rfl, rfl, rfl, Nat.le_refl _, fun _ _ _ => rfl⟩
theorem grown_below {w0 w w' : World} {g : Nat} (hb : Below w0.heap.size w0 w) (h : w.grownBy w' (some g)) (hg : w0.heap.size ≤ g) : Below w0.heap.size w0 w' :=
  hb.grown h hb.size (fun k hk => by injection hk with hk; omega)

theorem mod_nat {q : Nat} (h : q < 4294967296) : (q : Int) % 4294967296 = q := by omega

theorem add32_any (x y c : Nat) (w : World) (hx : x < 4294967296) (hy : y < 4294967296) (hc : c ≤ 1) :
    Calls Tryd.prog 81 #[.int .u32 (x : Int), .int .u32 (y : Int), .int .u32 (c : Int)] w fun e w' => e = .returned (.tuple #[.int .u32 (((c + (y + x)) % W32 : Nat) : Int), .int .u32 (((c + (y + x)) / W32 : Nat) : Int)]) ∧ w = w' := by
  have E1 := Lib.hid (show ((x : Int) + y + c) % 4294967296 = (((c + (y + x)) % W32 : Nat) : Int) by unfold W32; omega)
  have E2 := Lib.hid (show ((x : Int) + y + c) / 4294967296 = (((c + (y + x)) / W32 : Nat) : Int) by unfold W32; omega)
  go_enter Tryd.func81, Tryd.ntmps81
  go_wp2
  go_ret2
  exact ⟨by rw [← E1.out, ← E2.out]; rfl, rfl⟩

theorem div32_any (hi lo d : Nat) (w : World) (h1 : hi < d) (h2 : lo < 4294967296) (h3 : d < 4294967296) :
    Calls Tryd.prog 76 #[.int .u32 (hi : Int), .int .u32 (lo : Int), .int .u32 (d : Int)] w fun e w' => e = .returned (.tuple #[.int .u32 (((lo + 4294967296 * hi) / d : Nat) : Int), .int .u32 (((lo + 4294967296 * hi) % d : Nat) : Int)]) ∧ ∃ n, w' = w.drewN n := by
  have EO := or_digit hi lo (by omega) h2
  have hq : (lo + 4294967296 * hi) / d < 4294967296 := by
    rw [Nat.div_lt_iff_lt_mul (by omega)]
    omega
  have hr : (lo + 4294967296 * hi) % d < d := Nat.mod_lt _ (by omega)
  have hd0 : ((d : Int) == 0) = false := by rw [beq_eq_false_iff_ne]; omega
  have hle : ¬ (d : Int) ≤ hi := by omega
  have e0 : (lo : Int) + 4294967296 * hi = ((lo + 4294967296 * hi : Nat) : Int) := by omega
  have EQ := Lib.hid (show ((lo : Int) + 4294967296 * hi) / d % 4294967296 = (((lo + 4294967296 * hi) / d : Nat) : Int) by rw [e0, ← Int.natCast_ediv]; exact mod_nat hq)
  have ER := Lib.hid (show ((lo : Int) + 4294967296 * hi) % d % 4294967296 = (((lo + 4294967296 * hi) % d : Nat) : Int) by rw [e0, ← Int.natCast_emod]; exact mod_nat (Nat.lt_trans hr h3))
  clear e0
  go_enter Tryd.func76, Tryd.ntmps76
  go_wp2_with fail
  go_quiet (fail)
  go_wp2
  go_ret2
  exact ⟨by rw [← EQ.out, ← ER.out]; rfl, _, rfl⟩

/-- What subtractMultiple leaves: it turns only the row that it was handed. -/
def RetSubM (w0 w : World) (g N n : Nat) (a t z l : List Nat) (m : Nat) (e : Ending) (w' : World) : Prop :=
  ∃ (cy : Nat) (s : List Nat), e = .returned (.int .u32 (cy : Int)) ∧ cy < 4294967296 ∧ MulSub t l m s n cy ∧ Own w' w0.heap.size (.slice (some ⟨g, 0, none⟩) N N) (a ++ s ++ t.drop n ++ z) ∧ w.grownBy w' (some g)

set_option maxHeartbeats 400000 in
theorem subMul_any (w0 w : World) (g off N M C T n c m : Nat) (B : Option Addr) (a t z l : List Nat) (hown : Own w w0.heap.size (.slice (some ⟨g, 0, none⟩) N N) (a ++ t ++ z)) (ha : a.length = off) (ht : t.length = T) (hC : off + C = N) (hM : M ≤ C) (hn : n ≤ M) (hT : n ≤ T)
    (hb : Sl w0 B n c l) (hbel : Below w0.heap.size w0 w) (hm : m < 4294967296) (hN : N ≤ 4398046511104) :
    Calls Tryd.prog 79 #[.slice (some ⟨g, off, none⟩) M C, .slice B n c, .int .u32 (m : Int)] w (RetSubM w0 w g N n a t z l m) := by
  have HA := Lib.hid ha; clear ha
  have HT := Lib.hid ht; clear ht
  have hg := hown.row.2
  have HG := Lib.hid hg; clear hg
  have h0 : Own w w0.heap.size (.slice (some ⟨g, 0, none⟩) N N) (a ++ [] ++ t.drop 0 ++ z) := by simpa using hown
  clear hown
  go_enter Tryd.func79, Tryd.ntmps79
  go_wp2_with fail
  go_loopw [7, 13] (fun t' i wr => ∃ (k cy : Nat) (s : List Nat), i = .int .i64 k ∧ t' = .int .u64 cy ∧ k ≤ n ∧ MulSub t l m s k cy ∧ Own wr w0.heap.size (.slice (some ⟨g, 0, none⟩) N N) (a ++ s ++ t.drop k ++ z) ∧ w.grownBy wr (some g)) (fun _ i _ => n - (intOf i).toNat)
  case atStart => exact ⟨0, 0, [], rfl, rfl, by omega, mulSub_zero t l m, h0, World.grownBy.refl w _⟩
  case round =>
    obtain ⟨k, cy, s, rfl, rfl, hk, HS, hown, hgr⟩ := hrel
    clear h0
    have hcy : cy < 4294967296 := HS.2.2.1
    rcases Nat.eq_or_lt_of_le hk with rfl | hkn
    · go_wp2_with fail
      go_ret
      exact ⟨cy, s, rfl, hcy, HS, hown, hgr⟩
    · have hbe := grown_below hbel hgr HG.out
      have hfree := hown.free (off + k)
      obtain ⟨v, hz, HV, hv⟩ := hown.cell (j := off + k) (by omega)
      obtain ⟨b, offb, u, rfl, _, hxc, HU, hu⟩ := hb.get hbe (k := k) hkn
      have hlt : k < t.length := by rw [HT.out]; omega
      have hV : nth t k = v := by rw [← HV.out, nth_row HA.out HS.1 hlt]
      obtain ⟨p, hp⟩ : ∃ p, p = u * m := ⟨_, rfl⟩
      have hpb : p ≤ 18446744065119617025 := by rw [hp]; exact mul_digits hu hm
      have hw : IntKind.u64.wrap ((u : Int) * (m : Int)) = (p : Int) := by
        rw [← Int.natCast_mul, ← hp, IntKind.wrap_u64]
        omega
      obtain ⟨lo, hlo⟩ : ∃ lo, lo = (cy + p) % 4294967296 := ⟨_, rfl⟩
      obtain ⟨hi, hhi⟩ : ∃ hi, hi = (cy + p) / 4294967296 := ⟨_, rfl⟩
      have hsum : cy + p = lo + 4294967296 * hi := by omega
      have hlo2 : lo < 4294967296 := by omega
      have hhi2 : hi < 4294967295 ∨ hi = 4294967295 ∧ lo = 0 := by omega
      have E1 : ((cy : Int) + p) % 4294967296 = (lo : Int) := by omega
      have E2 : ((cy : Int) + p) / 4294967296 = (hi : Int) := by omega
      have HSUM := Lib.hid hsum
      clear hlo hhi hsum
      rcases Nat.lt_or_ge v lo with hvl | hvl
      · have E3 : IntKind.u32.wrap ((v : Int) - lo) = ((v + 4294967296 - lo : Nat) : Int) := by rw [IntKind.wrap_u32]; omega
        have hst := hown.store (j := off + k) (x := v + 4294967296 - lo) (by unfold W32; omega)
        rw [set_row _ HA.out HS.1 hlt] at hst
        have hg2 := grown_set hgr (off + k) (.int .u32 ((v + 4294967296 - lo : Nat) : Int))
        have HST := Lib.hid hst
        have HS2 := Lib.hid (mulSub_step (d := v + 4294967296 - lo) (c' := hi + 1) HS HU.out hV hp (by have := HSUM.out; omega) (by omega) (by omega))
        clear hown hst HV hV hp hlt hgr
        have hvl2 : (v : Int) < lo := by omega
        go_wp2_with fail
        go_roundw
        case rel => exact ⟨k + 1, hi + 1, _, by go_num, by go_num, by omega, HS2.out, HST.out, hg2⟩
        case measure => simp [intOf]; omega
      · have E3 : IntKind.u32.wrap ((v : Int) - lo) = ((v - lo : Nat) : Int) := by rw [IntKind.wrap_u32]; omega
        have hst := hown.store (j := off + k) (x := v - lo) (by unfold W32; omega)
        rw [set_row _ HA.out HS.1 hlt] at hst
        have hg2 := grown_set hgr (off + k) (.int .u32 ((v - lo : Nat) : Int))
        have HST := Lib.hid hst
        have HS2 := Lib.hid (mulSub_step (d := v - lo) (c' := hi) HS HU.out hV hp (by have := HSUM.out; omega) (by omega) (by omega))
        clear hown hst HV hV hp hlt hgr
        have hvl2 : ¬ (v : Int) < lo := by omega
        go_wp2_with fail
        go_roundw
        case rel => exact ⟨k + 1, hi, _, by go_num, rfl, by omega, HS2.out, HST.out, hg2⟩
        case measure => simp [intOf]; omega

/-- What addBack leaves. -/
def RetAddB (w0 w : World) (g N n : Nat) (a t z l : List Nat) (e : Ending) (w' : World) : Prop :=
  ∃ (cy : Nat) (s : List Nat), e = .returned (.int .u32 (cy : Int)) ∧ cy ≤ 1 ∧ MulAdd t l 1 s n cy ∧ Own w' w0.heap.size (.slice (some ⟨g, 0, none⟩) N N) (a ++ s ++ t.drop n ++ z) ∧ w.grownBy w' (some g)

set_option maxHeartbeats 400000 in
theorem addBack_any (w0 w : World) (g off N M C T n c : Nat) (B : Option Addr) (a t z l : List Nat) (hown : Own w w0.heap.size (.slice (some ⟨g, 0, none⟩) N N) (a ++ t ++ z)) (ha : a.length = off) (ht : t.length = T) (hC : off + C = N) (hM : M ≤ C) (hn : n ≤ M) (hT : n ≤ T)
    (hb : Sl w0 B n c l) (hbel : Below w0.heap.size w0 w) (hN : N ≤ 4398046511104) :
    Calls Tryd.prog 80 #[.slice (some ⟨g, off, none⟩) M C, .slice B n c] w (RetAddB w0 w g N n a t z l) := by
  have HA := Lib.hid ha; clear ha
  have HT := Lib.hid ht; clear ht
  have hg := hown.row.2
  have HG := Lib.hid hg; clear hg
  have h0 : Own w w0.heap.size (.slice (some ⟨g, 0, none⟩) N N) (a ++ [] ++ t.drop 0 ++ z) := by simpa using hown
  clear hown
  go_enter Tryd.func80, Tryd.ntmps80
  go_wp2_with fail
  go_loopw [5, 10] (fun t' i wr => ∃ (k cy : Nat) (s : List Nat), i = .int .i64 k ∧ t' = .int .u32 cy ∧ k ≤ n ∧ cy ≤ 1 ∧ MulAdd t l 1 s k cy ∧ Own wr w0.heap.size (.slice (some ⟨g, 0, none⟩) N N) (a ++ s ++ t.drop k ++ z) ∧ w.grownBy wr (some g)) (fun _ i _ => n - (intOf i).toNat)
  case atStart => exact ⟨0, 0, [], rfl, rfl, by omega, by omega, mulAdd_zero t l 1, h0, World.grownBy.refl w _⟩
  case round =>
    obtain ⟨k, cy, s, rfl, rfl, hk, hcy, HS, hown, hgr⟩ := hrel
    clear h0
    rcases Nat.eq_or_lt_of_le hk with rfl | hkn
    · go_wp2_with fail
      go_ret
      exact ⟨cy, s, rfl, hcy, HS, hown, hgr⟩
    · have hbe := grown_below hbel hgr HG.out
      have hfree := hown.free (off + k)
      obtain ⟨v, hz, HV, hv⟩ := hown.cell (j := off + k) (by omega)
      obtain ⟨b, offb, u, rfl, _, hxc, HU, hu⟩ := hb.get hbe (k := k) hkn
      have hlt : k < t.length := by rw [HT.out]; omega
      have hV : nth t k = v := by rw [← HV.out, nth_row HA.out HS.1 hlt]
      have HADD := Lib.hid (add32_any v u cy wr hv hu hcy)
      have HS2 := mulAdd_step (p := u * 1) HS HU.out hV rfl hu hv (by omega)
      rw [Nat.mul_one] at HS2
      have hst := hown.store (j := off + k) (x := (cy + (u + v)) % W32) (Nat.mod_lt _ W32_pos)
      rw [set_row _ HA.out HS.1 hlt] at hst
      have hc2 : (cy + (u + v)) / W32 ≤ 1 := by unfold W32; omega
      generalize (cy + (u + v)) % W32 = s1 at *
      generalize (cy + (u + v)) / W32 = c1 at *
      have hg2 := grown_set hgr (off + k) (.int .u32 (s1 : Int))
      have HST := Lib.hid hst
      have HS2' := Lib.hid HS2
      clear hown hst HV hV hlt hgr HS2
      go_wp2_with fail
      refine HADD.out.mono ?_
      rintro e w' ⟨rfl, rfl⟩
      go_wp2_with fail
      go_roundw
      case rel => exact ⟨k + 1, c1, _, by go_num, rfl, by omega, hc2, HS2'.out, HST.out, hg2⟩
      case measure => simp [intOf]; omega

end Go.Proofs.YtajegednakenbaaDoor
