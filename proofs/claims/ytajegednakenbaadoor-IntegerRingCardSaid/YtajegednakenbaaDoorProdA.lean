/- Walks: product.addMultiple, Mul, Square, Small. -/
import Derived.Test.YtajegednakenbaaDoorProdMath
import Derived.Test.YtajegednakenbaaDoorNatA
namespace Go.Proofs.YtajegednakenbaaDoor
open Go.RowKit
set_option linter.unusedVariables false
set_option linter.unusedSimpArgs false

/-- What addMultiple leaves: it turns only the row that it was handed. -/
def RetAdd (w0 : World) (g N n : Nat) (a t z l : List Nat) (m : Nat) (e : Ending) (w' : World) : Prop :=
  ∃ (cy : Nat) (s : List Nat), e = .returned (.int .u32 (cy : Int)) ∧ cy < 4294967296 ∧ MulAdd t l m s n cy ∧ Own w' w0.heap.size (.slice (some ⟨g, 0, none⟩) N N) (a ++ s ++ z) ∧ Below w0.heap.size w0 w'

set_option maxHeartbeats 400000 in
theorem addMul_any (w0 w : World) (g off N M n c m : Nat) (B : Option Addr) (a t z l : List Nat) (hown : Own w w0.heap.size (.slice (some ⟨g, 0, none⟩) N N) (a ++ t ++ z)) (ha : a.length = off) (ht : t.length = n) (hM : off + M = N) (hn : n ≤ M)
    (hb : Sl w0 B n c l) (hbel : Below w0.heap.size w0 w) (hm : m < 4294967296) (hN : N ≤ 4398046511104) :
    Calls Tryd.prog 71 #[.slice (some ⟨g, off, none⟩) M M, .slice B n c, .int .u32 (m : Int)] w (RetAdd w0 g N n a t z l m) := by
  have HA := Lib.hid ha; clear ha
  have HT := Lib.hid ht; clear ht
  have hg := hown.row.2
  have HG := Lib.hid hg; clear hg
  have h0 : Own w w0.heap.size (.slice (some ⟨g, 0, none⟩) N N) (a ++ [] ++ t.drop 0 ++ z) := by simpa using hown
  clear hown
  go_enter Tryd.func71, Tryd.ntmps71
  go_wp2_with fail
  go_loopw [7, 12] (fun t' i wr => ∃ (k cy : Nat) (s : List Nat), i = .int .i64 k ∧ t' = .int .u64 cy ∧ k ≤ n ∧ MulAdd t l m s k cy ∧ Own wr w0.heap.size (.slice (some ⟨g, 0, none⟩) N N) (a ++ s ++ t.drop k ++ z) ∧ Below w0.heap.size w0 wr) (fun _ i _ => n - (intOf i).toNat)
  case atStart => exact ⟨0, 0, [], rfl, rfl, by omega, mulAdd_zero t l m, h0, hbel⟩
  case round =>
    obtain ⟨k, cy, s, rfl, rfl, hk, HS, hown, hbe⟩ := hrel
    clear h0 hbel
    have hcy : cy < 4294967296 := HS.2.2.1
    rcases Nat.eq_or_lt_of_le hk with rfl | hkn
    · rw [drop_all HT.out, List.append_nil] at hown
      go_wp2_with fail
      go_ret
      exact ⟨cy, s, rfl, hcy, HS, hown, hbe⟩
    · have hfree := hown.free (off + k)
      obtain ⟨v, hz, HV, hv⟩ := hown.cell (j := off + k) (by omega)
      obtain ⟨b, offb, u, rfl, _, hxc, HU, hu⟩ := hb.get hbe (k := k) hkn
      have hV : nth t k = v := by rw [← HV.out, nth_row HA.out HS.1 (by rw [HT.out]; exact hkn)]
      obtain ⟨p, hp⟩ : ∃ p, p = u * m := ⟨_, rfl⟩
      have hpb : p ≤ 18446744065119617025 := by rw [hp]; exact mul_digits hu hm
      have hw : IntKind.u64.wrap ((u : Int) * (m : Int)) = (p : Int) := by
        rw [← Int.natCast_mul, ← hp, IntKind.wrap_u64]
        omega
      have hst := hown.store (j := off + k) (x := (cy + (p + v)) % W32) (Nat.mod_lt _ W32_pos)
      rw [set_row _ HA.out HS.1 (by rw [HT.out]; exact hkn), show (((cy + (p + v)) % W32 : Nat) : Int) = ((cy : Int) + (p + v)) % 4294967296 from by unfold W32; omega] at hst
      have hb2 := hbe.setCell (p := ⟨g, off + k, none⟩) HG.out (.int .u32 (((cy : Int) + (p + v)) % 4294967296))
      have HST := Lib.hid hst
      have HS2 := Lib.hid (mulAdd_step HS HU.out hV hp hu hv hm)
      clear hown hst HV hV hp
      go_wp2_with fail
      go_roundw
      case rel => exact ⟨k + 1, (cy + (p + v)) / W32, _, by go_num, congrArg (Value.int .u64) (by unfold W32; omega), by omega, HS2.out, HST.out, hb2⟩
      case measure => simp [intOf]; omega

set_option maxHeartbeats 400000 in
theorem mul_any (x y : Nat) (va vb : Value) (w : World) (ha : IsN w va x) (hb : IsN w vb y) (hx : len x ≤ 1099511627776) (hy : len y ≤ 1099511627776) :
    Calls Tryd.prog 57 #[va, vb] w (RetN w (x * y)) := by
  obtain ⟨A, n, c, rfl, ha⟩ := ha
  obtain ⟨B, m, d, rfl, hb⟩ := hb
  have hlx : len x = n := ha.len
  have hly : len y = m := hb.len
  have hn : n ≤ 1099511627776 := by omega
  have hm : m ≤ 1099511627776 := by omega
  have HLX := Lib.hid hlx; clear hlx
  have HLY := Lib.hid hly; clear hly
  go_enter Tryd.func57, Tryd.ntmps57
  go_wp2_with (at_make; refine wp_mk _ rfl _ _ rfl w.heap.size _ _ (n + m) rfl rfl (by omega) (by omega) (by omega) (Nat.le_refl _) ?_)
  intro w1 h1 g1
  have b1 : Below w.heap.size w w1 := (Below.refl _ _).grown g1 (Nat.le_refl _) (fun k h => by cases h)
  obtain ⟨g, hg⟩ : ∃ g, g = w.heap.size := ⟨_, rfl⟩
  rw [← hg] at h1 ⊢
  have HG := Lib.hid hg; clear hg
  clear g1
  have h0 : Own w1 g (.slice (some ⟨g, 0, none⟩) (n + m) (n + m)) (List.replicate (len y) 0 ++ List.replicate (n - 0) 0) := by
    rw [List.replicate_append_replicate, HLY.out, show m + (n - 0) = n + m from by omega]; exact h1
  clear h1
  go_wp2_with fail
  go_loopw [17] (fun i wr => ∃ (k : Nat) (q : List Nat), i = .int .i64 k ∧ k ≤ n ∧ MulIs x y k q ∧ Own wr g (.slice (some ⟨g, 0, none⟩) (n + m) (n + m)) (q ++ List.replicate (n - k) 0) ∧ Below w.heap.size w wr) (fun i _ => n - (intOf i).toNat)
  case atStart => exact ⟨0, _, rfl, by omega, mulIs_zero x y, h0, b1⟩
  case round =>
    obtain ⟨k, q, rfl, hk, HS, hown, hbe⟩ := hrel
    clear h0 b1
    rcases Nat.eq_or_lt_of_le hk with hke | hkn
    · have hkn : n ≤ k := by omega
      rw [show n - k = 0 from by omega, List.replicate_zero, List.append_nil] at hown
      have hl := HS.1
      have HTR := Lib.hid (trim_any q _ _ _ wr hown.sl (by omega))
      have HE := Lib.hid (mulIs_end HS (by rw [HLX.out]; exact hkn))
      clear hown hl hke
      go_wp2_with fail
      refine HTR.out.mono ?_
      rintro e w' ⟨v, rfl, o⟩
      go_wp2_with fail
      go_ret
      exact ⟨_, rfl, by rw [← HE.out]; exact o.own.base_le hbe.size, hbe.trans (o.below.mono hbe.size)⟩
    · obtain ⟨b, off, u, rfl, _, hxc, HU, hu⟩ := ha.get hbe (k := k) hkn
      obtain ⟨hl1, hl2⟩ := mulIs_len HS
      rw [← List.take_append_drop k q] at hown
      have HAD := Lib.hid (addMul_any w wr g k (n + m) (n + m - k) m d u B (q.take k) (q.drop k) (List.replicate (n - k) 0) (dig y) (by rw [← HG.out]; exact hown) hl1 (by rw [hl2, HLY.out]) (by omega) (by omega) hb hbe hu (by omega))
      have HL1 := Lib.hid hl1
      clear hown hl1 hl2
      go_wp2_with fail
      refine HAD.out.mono ?_
      rintro e w2 ⟨cy, s, rfl, hcy, hs, hown2, hbe2⟩
      rw [← HG.out] at hown2
      have hfree := hown2.free (k + m)
      obtain ⟨v0, hz, _, _⟩ := hown2.cell (j := k + m) (by omega)
      have hst := hown2.store (j := k + m) (x := cy) hcy
      rw [show n - k = n - (k + 1) + 1 from by omega, set_end _ _ _ (show (q.take k ++ s).length = k + m by rw [List.length_append, HL1.out, hs.1])] at hst
      have hb3 := hbe2.setCell (p := ⟨g, k + m, none⟩) (by rw [HG.out]; exact Nat.le_refl _) (.int .u32 (cy : Int))
      have HST := Lib.hid hst
      have HS2 := Lib.hid (mulIs_step HS HU.out (by rw [HLY.out]; exact hs))
      clear hst hown2
      go_wp2_with fail
      go_roundw
      case rel => exact ⟨k + 1, _, by go_num, by omega, HS2.out, HST.out, hb3⟩
      case measure => simp [intOf]; omega

end Go.Proofs.YtajegednakenbaaDoor
