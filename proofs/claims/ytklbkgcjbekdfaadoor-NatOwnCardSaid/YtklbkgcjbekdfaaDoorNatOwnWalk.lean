/- The walk of NatOwn: whatever the input, the law returns true and turns nothing that was there. -/
import Derived.Test.YtklbkgcjbekdfaaDoorOwn
namespace Go.Proofs.YtklbkgcjbekdfaaDoor
open Go.RowKit

set_option maxHeartbeats 4000000 in
theorem walk_NatOwn (a0 : Option Addr) (len0 cap0 : Nat) (z0 : List Nat) (a1 : Option Addr) (len1 cap1 : Nat) (z1 : List Nat) (a2 : Int) (w : World) (h0 : Sl w a0 len0 cap0 z0) (h1 : Sl w a1 len1 cap1 z1) (hb : -9223372036854775808 ≤ a2 ∧ a2 ≤ 9223372036854775807) (hT : Tab w) :
    Calls Tryd.prog 8 #[.slice a0 len0 cap0, .slice a1 len1 cap1, .int .i64 a2] w fun e w' => e = .returned (.bool true) ∧ Below w.heap.size w w' := by
  go_enter Tryd.func8, Tryd.ntmps8
  go_wp2_with fail
  refine (awake_any w hT).mono ?_
  rintro e w1 ⟨rfl, b⟩
  have L := Live.mk b
  clear hT b
  go_wp2_with fail
  refine (mill_any z0 60 _ _ _ w1 (h0.mono L.below) (by omega)).mono ?_
  rintro e w2 ⟨vx, ok1, x, rfl, ix, lx, b⟩
  replace L := (L.step b).cons ix
  clear b ix
  go_wp2_with fail
  refine (mill_any z1 60 _ _ _ w2 (h1.mono L.below) (by omega)).mono ?_
  rintro e w3 ⟨vy, ok2, y, rfl, ix, ly, b⟩
  replace L := (L.step b).cons ix
  clear b ix
  clear h0 h1
  by_cases hok : (ok1 && ok2) = true
  · simp only [Bool.and_eq_true] at hok
    obtain ⟨rfl, rfl⟩ := hok
    have hm1 := Int.emod_nonneg a2 (show (3 : Int) ≠ 0 by omega)
    have hm2 := Int.emod_lt_of_pos a2 (show (0 : Int) < 3 by omega)
    have HM1 := fun W => mod_any a2 3 W (by omega) (by omega) hb.1 hb.2
    obtain ⟨k0, hk0⟩ : ∃ k : Nat, a2 % 3 = (k : Int) := ⟨(a2 % 3).toNat, by omega⟩
    rw [hk0] at HM1 hm1 hm2
    have HA := Lib.hid HM1
    have hk0b : k0 < 3 := by omega
    clear HM1 hk0 hm1 hm2 hb
    obtain ⟨A, n, c, rfl, hsx⟩ : IsN w3 vx x := L.get (by simp)
    obtain ⟨A', n', c', rfl, hsy⟩ : IsN w3 vy y := L.get (by simp)
    have hnx : n ≤ 60 := by rw [← hsx.len]; exact lx
    have hny : n' ≤ 60 := by rw [← hsy.len]; exact ly
    obtain ⟨m0, hm0⟩ : ∃ m, m = 32 * k0 := ⟨_, rfl⟩
    have ek : (k0 : Int) * 32 = (m0 : Int) := by omega
    have hm0b : m0 ≤ 64 := by omega
    clear hm0
    go_wp2_with fail
    refine (HA.out w3).mono ?_
    rintro e w' ⟨rfl, rfl⟩
    skip
    have bx1 := (Below.refl w3.heap.size w3).alloc (Nat.le_refl _) (.cells #[] 44)
    go_wp2_with (at_builtin; refine wp_appS _ rfl (.tmp 39) (.tmp 40) rfl w3.heap.size _ [] rfl (own_none w3) _ n c (dig x) rfl (hsx.mono bx1) (by simp; omega) (by simp) ?_)
    intro va wa oa ga
    have bxa := bx1.grown ga (by simp) (fun k hk => (own_none w3).blockGe k hk)
    clear bx1 ga
    have ba1 := (Below.refl wa.heap.size wa).alloc (Nat.le_refl _) (.cells #[] 44)
    go_wp2_with (at_builtin; refine wp_appS _ rfl (.tmp 42) (.tmp 43) rfl wa.heap.size _ [] rfl (own_none wa) _ n' c' (dig y) rfl ((hsy.mono bxa).mono ba1) (by simp; omega) (by simp) ?_)
    intro vb w4 ob gb
    have bab := ba1.grown gb (by simp) (fun k hk => (own_none wa).blockGe k hk)
    have ia := (isN_of_own (x := x) oa (List.nil_append _)).mono bab
    have ib := isN_of_own (x := y) ob (List.nil_append _)
    replace L := ((L.step (bxa.trans (bab.mono bxa.size))).cons ia).cons ib
    clear ba1 gb bxa bab oa ob hsx hsy ia ib
    have R := Res.mk w4
    have L4 := L
    have hl0 : len 0 ≤ 60 := by rw [len_zero]; omega
    have hq := fun k => len_mono (Nat.div_le_self x (2 ^ k))
    go_wp2_with fail
    refine (sub_any x y _ _ w4 (L.get (by simp)) (L.get (by simp)) (by omega)).mono ?_
    rintro e w5 ⟨v8, rfl, o⟩
    obtain ⟨Av8, nv8, cv8, rfl⟩ := o.slice
    replace L := L.step o.below
    replace R := R.add o
    clear o
    go_wp2_with fail
    refine (trimN_any x _ w5 (L.get (by simp)) (by omega)).mono ?_
    rintro e w6 ⟨v1, rfl, o⟩
    obtain ⟨Av1, nv1, cv1, rfl⟩ := o.slice
    replace L := L.step o.below
    replace R := R.add o
    clear o
    go_wp2_with fail
    refine (add_any x y _ _ w6 (L.get (by simp)) (L.get (by simp)) (by omega) (by omega)).mono ?_
    rintro e w7 ⟨v2, rfl, o⟩
    obtain ⟨Av2, nv2, cv2, rfl⟩ := o.slice
    replace L := L.step o.below
    replace R := R.add o
    clear o
    go_wp2_with fail
    refine (add_any x 0 _ _ w7 (L.get (by simp)) (IsN.zero _) (by omega) (by omega)).mono ?_
    rintro e w8 ⟨v3, rfl, o⟩
    obtain ⟨Av3, nv3, cv3, rfl⟩ := o.slice
    replace L := L.step o.below
    replace R := R.add o
    clear o
    go_wp2_with fail
    refine (shlK_any x 0 _ w8 (L.get (by simp)) (by omega) (by omega)).mono ?_
    rintro e w9 ⟨v4, rfl, o⟩
    obtain ⟨Av4, nv4, cv4, rfl⟩ := o.slice
    replace L := L.step o.below
    replace R := R.add o
    clear o
    go_wp2_with fail
    refine (shrK_any x 0 _ w9 (L.get (by simp)) (by omega) (by omega)).mono ?_
    rintro e w10 ⟨v5, rfl, o⟩
    obtain ⟨Av5, nv5, cv5, rfl⟩ := o.slice
    replace L := L.step o.below
    replace R := R.add o
    clear o
    go_wp2_with fail
    refine (lowK_any x 4000 _ w10 (L.get (by simp)) (by omega) (by omega)).mono ?_
    rintro e w11 ⟨v6, rfl, o⟩
    obtain ⟨Av6, nv6, cv6, rfl⟩ := o.slice
    replace L := L.step o.below
    replace R := R.add o
    clear o
    go_wp2_with fail
    refine (shrK_any x m0 _ w11 (L.get (by simp)) (by omega) (by omega)).mono ?_
    rintro e w12 ⟨v7, rfl, o⟩
    obtain ⟨Av7, nv7, cv7, rfl⟩ := o.slice
    replace L := L.step o.below
    replace R := R.add o
    clear o
    go_wp2_with fail
    have hlit : Lit (w12.alloc (.cells #[Value.slice Av1 nv1 cv1, Value.slice Av2 nv2 cv2, Value.slice Av3 nv3 cv3, Value.slice Av4 nv4 cv4, Value.slice Av5 nv5 cv5, Value.slice Av6 nv6 cv6, Value.slice Av7 nv7 cv7, Value.slice Av8 nv8 cv8] 22)) w12.heap.size [Value.slice Av1 nv1 cv1, Value.slice Av2 nv2 cv2, Value.slice Av3 nv3 cv3, Value.slice Av4 nv4 cv4, Value.slice Av5 nv5 cv5, Value.slice Av6 nv6 cv6, Value.slice Av7 nv7 cv7, Value.slice Av8 nv8 cv8] := heap_alloc_new w12 _
    replace R := R.step ((Below.refl w12.heap.size w12).alloc (Nat.le_refl _) (.cells #[Value.slice Av1 nv1 cv1, Value.slice Av2 nv2 cv2, Value.slice Av3 nv3 cv3, Value.slice Av4 nv4 cv4, Value.slice Av5 nv5 cv5, Value.slice Av6 nv6 cv6, Value.slice Av7 nv7 cv7, Value.slice Av8 nv8 cv8] 22))
    have hU : UBs (w12.alloc (.cells #[Value.slice Av1 nv1 cv1, Value.slice Av2 nv2 cv2, Value.slice Av3 nv3 cv3, Value.slice Av4 nv4 cv4, Value.slice Av5 nv5 cv5, Value.slice Av6 nv6 cv6, Value.slice Av7 nv7 cv7, Value.slice Av8 nv8 cv8] 22)) w4.heap.size [Value.slice Av1 nv1 cv1, Value.slice Av2 nv2 cv2, Value.slice Av3 nv3 cv3, Value.slice Av4 nv4 cv4, Value.slice Av5 nv5 cv5, Value.slice Av6 nv6 cv6, Value.slice Av7 nv7 cv7, Value.slice Av8 nv8 cv8] := fun v hv => R.2 v (by
      simp only [List.mem_cons, List.not_mem_nil, or_false] at hv ⊢
      rcases hv with h | h | h | h | h | h | h | h <;> simp [h])
    have hbel := R.1
    clear R L
    generalize w12.alloc (.cells #[Value.slice Av1 nv1 cv1, Value.slice Av2 nv2 cv2, Value.slice Av3 nv3 cv3, Value.slice Av4 nv4 cv4, Value.slice Av5 nv5 cv5, Value.slice Av6 nv6 cv6, Value.slice Av7 nv7 cv7, Value.slice Av8 nv8 cv8] 22) = wb at *
    have hvl : [Value.slice Av1 nv1 cv1, Value.slice Av2 nv2 cv2, Value.slice Av3 nv3 cv3, Value.slice Av4 nv4 cv4, Value.slice Av5 nv5 cv5, Value.slice Av6 nv6 cv6, Value.slice Av7 nv7 cv7, Value.slice Av8 nv8 cv8].length = 8 := rfl
    generalize [Value.slice Av1 nv1 cv1, Value.slice Av2 nv2 cv2, Value.slice Av3 nv3 cv3, Value.slice Av4 nv4 cv4, Value.slice Av5 nv5 cv5, Value.slice Av6 nv6 cv6, Value.slice Av7 nv7 cv7, Value.slice Av8 nv8 cv8] = vs at *
    generalize w12.heap.size = g at *
    go_loopw [70] (fun i wr => ∃ j : Nat, i = .int .i64 j ∧ j ≤ 8 ∧ Below w4.heap.size w4 wr ∧ Lit wr g vs ∧ UBs wr w4.heap.size vs) (fun i _ => 8 - (intOf i).toNat)
    case atStart => exact ⟨0, rfl, by omega, hbel, hlit, hU⟩
    case round =>
      clear hbel hlit hU
      obtain ⟨j, rfl, hj, hbel, hlit, hU⟩ := hrel
      rcases Nat.eq_or_lt_of_le hj with rfl | hjl
      · have L := L4.step hbel
        clear hlit hU L4
        go_wp2_with fail
        refine (same_yes x x _ _ wr (L.get (by simp)) (L.get (by simp)) rfl).mono ?_
        rintro e w' ⟨rfl, rfl⟩
        skip
        go_wp2_with fail
        refine (same_yes y y _ _ wr (L.get (by simp)) (L.get (by simp)) rfl).mono ?_
        rintro e w' ⟨rfl, rfl⟩
        skip
        go_wp2_with fail
        go_ret
        exact ⟨rfl, L.below⟩
      · obtain ⟨v, hv⟩ : ∃ v, vs[j]? = some v := ⟨vs[j], List.getElem?_eq_getElem (by omega)⟩
        have hcell := hlit.cell hv
        obtain ⟨Ax, nx, cx, rfl, hnx2⟩ := (hU.get hv).form
        unfold maxLen at hnx2
        have HV := Lib.hid hv
        clear hv
        obtain ⟨wo, rfl⟩ : ∃ wo : World, wo = wr := ⟨_, rfl⟩
        go_wp2_with fail
        go_loopw [76] (fun i wr => ∃ k : Nat, i = .int .i64 k ∧ k ≤ nx ∧ Below w4.heap.size w4 wr ∧ Lit wr g vs ∧ UBs wr w4.heap.size vs) (fun i _ => nx - (intOf i).toNat)
        case atStart => exact ⟨0, rfl, by omega, hbel, hlit, hU⟩
        case round =>
          clear hbel hlit hU hcell
          obtain ⟨k, rfl, hk, hbel, hlit, hU⟩ := hrel
          rcases Nat.eq_or_lt_of_le hk with rfl | hkl
          · go_wp2_with fail
            go_roundw
            case rel => exact ⟨j + 1, by go_num, by omega, hbel, hlit, hU⟩
            case measure => simp [intOf]; omega
          · obtain ⟨b, cur, xx, rfl, hbb, hheap, hc, hf, hxx⟩ := (hU.get HV.out).at_ hkl
            have hxm : (xx + 1) % 4294967296 < 4294967296 := Nat.mod_lt _ (by omega)
            have ex : (((xx + 1) % 4294967296 : Nat) : Int) = ((xx : Int) + 1) % 4294967296 := by omega
            have hU2 := hU.store b k hxm
            have hl2 := hlit.store (j := k) hheap (.int .u32 (((xx : Int) + 1) % 4294967296))
            have hb2 := hbel.setCell (p := ⟨b, k, none⟩) hbb (.int .u32 (((xx : Int) + 1) % 4294967296))
            rw [ex] at hU2
            clear ex hxm hheap
            go_wp2_with fail
            go_roundw
            case rel => exact ⟨k + 1, by go_num, by omega, hb2, hl2, hU2⟩
            case measure => simp [intOf]; omega
  · cases ok1 <;> cases ok2 <;> first | (exact absurd rfl hok) | (go_wp2_with fail; go_ret; exact ⟨rfl, L.below⟩)

end Go.Proofs.YtklbkgcjbekdfaaDoor
