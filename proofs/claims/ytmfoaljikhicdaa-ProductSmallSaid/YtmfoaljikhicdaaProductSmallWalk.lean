/- The walk of ProductSmall: whatever the input, the law returns true and turns nothing that was there. -/
import Derived.Test.YtmfoaljikhicdaaAwake2
import Derived.Test.YtmfoaljikhicdaaRefProd
import Derived.Test.YtmfoaljikhicdaaRefB
namespace Go.Proofs.Ytmfoaljikhicdaa
open Go.RowKit

def term (x : Nat) (l : List Nat) (j : Nat) : Nat := x * nth l j + nth l j

set_option maxHeartbeats 2000000 in
theorem walk_ProductSmall (a0 : Option Addr) (len0 cap0 : Nat) (z0 : List Nat) (a1 a2 : Int) (a3 : Option Addr) (len3 cap3 : Nat) (z3 : List Nat) (w : World) (h0 : Sl w a0 len0 cap0 z0) (hb1 : 0 ≤ a1 ∧ a1 ≤ 4294967295) (hb2 : 0 ≤ a2 ∧ a2 ≤ 4294967295) (h3 : Sl w a3 len3 cap3 z3) :
    Calls Try.prog 6 #[.slice a0 len0 cap0, .int .u32 a1, .int .u32 a2, .slice a3 len3 cap3] w fun e w' => e = .returned (.bool true) ∧ Below w.heap.size w w' := by
  obtain ⟨m, rfl⟩ : ∃ m : Nat, a1 = (m : Int) := ⟨a1.toNat, by omega⟩
  obtain ⟨c, rfl⟩ : ∃ c : Nat, a2 = (c : Int) := ⟨a2.toNat, by omega⟩
  have hm : m < 4294967296 := by omega
  have hc : c < 4294967296 := by omega
  have h63 := h3.le63
  clear hb1 hb2
  go_enter Try.func6, Try.ntmps6
  go_wp2_with fail
  refine (awake2_any w).mono ?_
  rintro e w1 ⟨rfl, b⟩
  have L := Live.mk b
  clear b
  go_wp2_with fail
  refine (mill_any z0 90 _ _ _ w1 (h0.mono L.below) (by omega)).mono ?_
  rintro e w2 ⟨vx, ok, x, rfl, ix, lx, b⟩
  replace L := (L.step b).cons ix
  clear b ix h0
  cases ok
  · go_wp2_with fail
    go_ret
    exact ⟨rfl, L.below⟩
  · rcases Nat.lt_or_ge 40 len3 with hbig | hsm
    · go_wp2_with fail
      go_ret
      exact ⟨rfl, L.below⟩
    · replace h3 := h3.mono L.below
      obtain ⟨B, hB⟩ : ∃ B, B = w2.heap.size := ⟨_, rfl⟩
      have HB := Lib.hid hB; clear hB
      have HF := Lib.hid (show ∀ j, len (term x z3 j) ≤ 91 from fun j => Nat.le_trans (len_small x _ _ (h3.small.get j) (h3.small.get j)) (by omega))
      have HS := Lib.hid (fun k (hk : k ≤ 40) => Nat.le_trans (len_sumTo 40 (fun j _ => HF.out j) k hk) (show 91 + k ≤ 1000 by omega))
      go_wp2_with fail
      go_loopw [11, 12, 32] (fun t s i wr => ∃ k : Nat, i = .int .i64 k ∧ k ≤ len3 ∧ Terms wr B t (term x z3) k ∧ Own wr B s (dig (sumTo (term x z3) k)) ∧ Below w2.heap.size w2 wr) (fun _ _ i _ => len3 - (intOf i).toNat)
      case atStart => exact ⟨0, rfl, by omega, Terms.nil _ _ _, by rw [show sumTo (term x z3) 0 = 0 from rfl, dig_zero]; exact Own.nil _ _, Below.refl _ _⟩
      case round =>
        obtain ⟨k, rfl, hk, hT, hO, hbe⟩ := hrel
        rcases Nat.eq_or_lt_of_le hk with hke | hkn
        · have L2 := L.step hbe
          have hnk : len3 ≤ k := by omega
          have hk40 : k ≤ 40 := by omega
          subst hke
          clear hnk
          have iS := isN_of_own hO rfl
          replace L2 := L2.cons iS
          obtain ⟨A, cc, rfl, hN⟩ := hT.nats
          have HN := Lib.hid (fun W (hW : Below wr.heap.size wr W) => sum_any (term x z3) A k cc W (hN.mono hW) (by omega) (fun j _ => Nat.le_trans (HF.out j) (by omega)))
          have HSK := Lib.hid (HS.out k hk40)
          have LB := Below.refl wr.heap.size wr
          clear hT hO iS hN HF HS L
          generalize sumTo (term x z3) k = S at *
          go_wp2_with fail
          refine (small_any x m c _ wr (L2.get (by simp)) (by omega) hm hc).mono ?_
          rintro e w3 ⟨v1, rfl, o⟩
          replace L2 := L2.add o
          replace LB := LB.trans o.below
          clear o
          go_wp2_with fail
          refine (rsmall_any x m c _ w3 (L2.get (by simp)) (by omega) hm hc).mono ?_
          rintro e w4 ⟨v2, rfl, o⟩
          replace L2 := L2.add o
          replace LB := LB.trans (o.below.mono LB.size)
          clear o
          go_wp2_with fail
          refine (same_yes (x * m + c) (x * m + c) _ _ w4 (L2.get (by simp)) (L2.get (by simp)) rfl).mono ?_
          rintro e w' ⟨rfl, rfl⟩
          go_wp2_with fail
          refine (HN.out w4 LB).mono ?_
          rintro e w5 ⟨v3, rfl, o⟩
          replace L2 := L2.add o
          clear o
          go_wp2_with fail
          refine (same_yes S S _ _ w5 (L2.get (by simp)) (L2.get (by simp)) rfl).mono ?_
          rintro e w' ⟨rfl, rfl⟩
          go_wp2_with fail
          go_ret
          exact ⟨rfl, L2.below⟩
        · have L2 := L.step hbe
          obtain ⟨b, off, u, rfl, _, hxc, HU, hu⟩ := h3.get hbe (k := k) hkn
          have hterm : term x z3 k = x * u + u := by unfold term; rw [HU.out]
          have HSM := Lib.hid (rsmall_any x u u _ wr (L2.get (v := vx) (by simp)) (by omega) hu hu)
          rw [← hterm] at HSM
          clear L2 hterm
          go_wp2_with fail
          refine HSM.out.mono ?_
          rintro e w3 ⟨v1, rfl, o⟩
          have hbe3 := hbe.trans (o.below.mono hbe.size)
          obtain ⟨V, vm, vc, rfl⟩ := o.slice
          have hv := o.own.base_le (show B ≤ wr.heap.size by rw [HB.out]; exact hbe.size)
          have hT3 := hT.below o.below
          have hO3 := hO.below o.below
          have hBs : B ≤ w3.heap.size := by rw [HB.out]; exact hbe3.size
          have ba : Below w3.heap.size w3 (w3.alloc (.cells #[.slice V vm vc] 22)) := (Below.refl _ _).alloc (Nat.le_refl _) _
          have hcl : (w3.alloc (.cells #[.slice V vm vc] 22)).cell? ⟨w3.heap.size, 0, none⟩ = some (.slice V vm vc) := by simp
          have HCL := Lib.hid hcl
          clear hT hO hbe o hcl
          go_wp2_with (at_builtin; refine wp_appT _ rfl _ _ rfl B _ (term x z3) k rfl (hT3.below ba) w3.heap.size V vm vc rfl HCL.out (hv.below ba) (by omega) (Nat.le_trans hBs ba.size) ?_)
          intro t2 w4 hT4 g4 hkeep
          have hbe4 := (hbe3.alloc hbe3.size (.cells #[.slice V vm vc] 22)).grown g4 (Nat.le_trans hbe3.size ba.size) (fun kk hkk => by rw [← HB.out]; exact hT3.blockGe kk hkk)
          have hv4 := hkeep _ _ _ (hv.below ba)
          have hO4 := hkeep _ _ _ (hO3.below ba)
          have HAD := Lib.hid (radd_any (sumTo (term x z3) k) (term x z3 k) _ _ w4 (isN_of_own hO4 rfl) (isN_of_own hv4 rfl) (Nat.le_trans (HS.out k (by omega)) (by omega)) (Nat.le_trans (HF.out k) (by omega)))
          clear hT3 hO3 hv hkeep hv4 hO4 g4 ba HCL
          go_wp2_with fail
          refine HAD.out.mono ?_
          rintro e w5 ⟨v2, rfl, o⟩
          have hT5 := hT4.below o.below
          have hO5 := o.own.base_le (show B ≤ w4.heap.size by rw [HB.out]; exact hbe4.size)
          have hbe5 := hbe4.trans (o.below.mono hbe4.size)
          clear hT4 o hbe4 hbe3
          go_wp2_with fail
          go_roundw
          case rel => exact ⟨k + 1, by go_num, by omega, hT5, hO5, hbe5⟩
          case measure => simp [intOf]; omega

end Go.Proofs.Ytmfoaljikhicdaa
