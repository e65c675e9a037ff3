/- The reference's Parse of dyadics. -/
import Derived.Test.YtpgiolbnmlbjbaaGreatDoorDyTxt
import Derived.Test.YtpgiolbnmlbjbaaGreatDoorDyWays
import Derived.Test.YtpgiolbnmlbjbaaGreatDoorRefDyB
import Derived.Test.YtpgiolbnmlbjbaaGreatDoorRefPars
import Derived.Test.YtpgiolbnmlbjbaaGreatDoorBaseJ
import Derived.Deep.RegionHeld3
import Derived.Deep.DrawnRows
namespace Go.Proofs.YtpgiolbnmlbjbaaGreatDoor
open Go.RowKit
set_option linter.unusedVariables false
set_option linter.unusedSimpArgs false
set_option maxRecDepth 100000
attribute [local go_sem ↓] Go.wp_at_zero Go.wp_at_succ

theorem Lq.pull3 {w0 w : World} {ns : List (Value × Nat)} {zs : List (Value × Int)} {qs : List (Value × Int × Nat)} {bs : List (Nat × TypeId × Array Value)} {p q r s : Nat × TypeId × Array Value} (h : Lq w0 w ns zs qs (p :: q :: r :: s :: bs)) : Lq w0 w ns zs qs (s :: p :: q :: r :: bs) :=
  ⟨h.below, h.ns, h.zs, h.qs, fun t ht => h.bs t (by simp only [List.mem_cons] at ht ⊢; rcases ht with h | h | h | h | h <;> simp [h])⟩

set_option maxHeartbeats 1000000 in
theorem rparse8_long (l : List Nat) (w : World) (hl : 20010 < l.length) (hl2 : l.length ≤ 1000000) :
    Calls Tryz.prog 49 #[.string (str l)] w (RetDE w 0 0 7) := by
  have hsz := str_size l
  obtain ⟨n, hn⟩ : ∃ n, l.length = n := ⟨_, rfl⟩
  rw [hn] at hsz hl hl2
  have hd : decide ((20010 : Int) < (n : Int)) = true := decide_eq_true (by omega)
  generalize str l = s at *
  clear hn hl
  go_enter Tryz.func49, Tryz.ntmps49
  go_wp2_with fail
  have L := ((Lq.mk0 w).varD (w.heap.size) (by simp) false none 0 0 0)
  have c00 := L.b0.c30
  have f00 := L.b0.fr 0
  have c01 := L.b0.c31
  have f01 := L.b0.fr 1
  have c02 := L.b0.c32
  have f02 := L.b0.fr 2
  (try go_wp2_with fail)
  exact bodyPost_ret (v := .tuple #[.agg #[.bool false, .slice none 0 0, .int .i64 0], .int .i64 7]) (by simp [results, Tryz.results49, go_sem, c00, c01, c02]) rfl ⟨_, rfl, isD_zero _, L.below⟩
set_option maxHeartbeats 2000000 in
theorem rparse8_no (l : List Nat) (w : World) (hb : Byt l) (hl : l.length ≤ 20010) (hm : 112 ∉ l) :
    Calls Tryz.prog 49 #[.string (str l)] w (RetDE w 0 0 6) := by
  have hsz := str_size l
  have HB := Lib.hid hb
  obtain ⟨n, hn⟩ : ∃ n, l.length = n := ⟨_, rfl⟩
  rw [hn] at hsz hl
  have HN := Lib.hid hn
  have hd : decide ((20010 : Int) < (n : Int)) = false := decide_eq_false (by omega)
  clear hb hn
  have HM := Lib.hid (fun m (h : m < n) => show nth l m ≠ 112 from fun e => hm (by
    rw [nth_eq, List.getElem?_eq_getElem (show m < l.length by rw [HN.out]; exact h)] at e
    exact e ▸ List.getElem_mem _))
  clear hm
  go_enter Tryz.func49, Tryz.ntmps49
  go_wp2_with fail
  have L := ((Lq.mk0 w).varD (w.heap.size) (by simp) false none 0 0 0)
  obtain ⟨V, hV⟩ : ∃ V, w.alloc (.cells #[.bool false, .slice none 0 0, .int .i64 0] 26) = V := ⟨_, rfl⟩
  have hVs : V.heap.size = w.heap.size + 1 := by rw [← hV]; simp
  rw [hV] at L ⊢
  clear hV
  have LL := Lib.hid L
  clear L
  (try go_wp2_with fail)
  go_loopw [4] (fun i wr => ∃ m : Nat, i = .int .i64 (m : Int) ∧ m ≤ n ∧ wr = V) (fun i _ => n - (intOf i).toNat)
  case atStart => exact ⟨0, rfl, by omega, rfl⟩
  case round =>
    obtain ⟨m, rfl, hm, rfl⟩ := hrel
    rcases Nat.eq_or_lt_of_le hm with rfl | hmn
    · have L := LL.out
      have c00 := L.b0.c30
      have c01 := L.b0.c31
      have c02 := L.b0.c32
      have f00 := L.b0.fr 0
      have f01 := L.b0.fr 1
      have f02 := L.b0.fr 2
      go_wp2_with fail
      have LP := L.putD (by omega) (by simp) false none 0 0 0
      have k0 := LP.b0.c30
      have k1 := LP.b0.c31
      have k2 := LP.b0.c32
      unfold put3 at k0 k1 k2
      exact bodyPost_ret (v := .tuple #[.agg #[.bool false, .slice none 0 0, .int .i64 0], .int .i64 6]) (by simp [results, Tryz.results49, go_sem, k0, k1, k2]) rfl ⟨_, rfl, isD_zero _, LP.below⟩
    · obtain ⟨c, hc⟩ : ∃ c, nth l m = c := ⟨_, rfl⟩
      have hget : ∀ h, ((str l)[m]'h).toNat = c := fun h => (str_get HB.out m h).trans hc
      have hc1 : c ≠ 112 := hc ▸ HM.out m hmn
      have hcb : ((c : Int) == 112) = false := by rw [beq_eq_false_iff_ne]; omega
      have hcb2 : ((c : Int) != 112) = true := by simp only [bne, hcb, Bool.not_false]
      have i0 : (0 : Int) ≤ (m : Int) := by omega
      have i1 : (m : Int) < (n : Int) := by omega
      clear hc
      go_wp2_with fail
      go_roundw
      case rel => exact ⟨m + 1, by go_num, by omega, by first | trivial | rfl⟩
      case measure => simp [intOf]; omega
set_option maxHeartbeats 8000000 in
theorem rparse8_cut (a b : List Nat) (w : World) (ha : Byt a) (hb : Byt b) (hl : a.length + 1 + b.length ≤ 20010) (hm : 112 ∉ a) :
    Calls Tryz.prog 49 #[.string (str (a ++ 112 :: b))] w (RetDE w (if okD8 a b then valP a else 0) (if okD8 a b then zi (valP b) else 0) (if okD8 a b then 0 else 6)) := by
  have hbl : Byt (a ++ 112 :: b) := fun x hx => by
    rcases List.mem_append.1 hx with h | h
    · exact ha x h
    · rcases List.mem_cons.1 h with rfl | h
      · omega
      · exact hb x h
  have HB := Lib.hid hbl
  have hsz := str_size (a ++ 112 :: b)
  rw [List.length_append, List.length_cons] at hsz
  have hx1 : (str (a ++ 112 :: b)).extract 0 a.length = str a := by rw [str_extract, List.drop_zero, Nat.sub_zero, List.take_left']; rfl
  have hx2 : (str (a ++ 112 :: b)).extract (a.length + 1) (a.length + 1 + b.length) = str b := by
    rw [str_extract, show a.length + 1 + b.length - (a.length + 1) = b.length from by omega, show a ++ 112 :: b = (a ++ [112]) ++ b from by simp, List.drop_left' (by simp), List.take_of_length_le (Nat.le_refl _)]
  have HM := Lib.hid (fun m (h : m < a.length) => show nth (a ++ 112 :: b) m ≠ 112 from fun e => hm (by
    rw [nth_append_left h, nth_eq, List.getElem?_eq_getElem h] at e
    exact e ▸ List.getElem_mem _))
  have HP := Lib.hid (show nth (a ++ 112 :: b) a.length = 112 from by rw [nth_eq, List.getElem?_append_right (Nat.le_refl _), Nat.sub_self]; rfl)
  have HA := Lib.hid (fun W => rparse_any a W ha (by omega))
  have HBB := Lib.hid (fun W => rparse_any b W hb (by omega))
  have hza := zl_parse8 (l := a) (n := 20010) (by omega)
  have hs1 := str_size a
  have hs2 := str_size b
  obtain ⟨R, hR⟩ : ∃ R : Int, (if okD8 a b then 0 else 6) = R := ⟨_, rfl⟩
  obtain ⟨M2, hM2⟩ : ∃ M2 : Int, (if okD8 a b then valP a else 0) = M2 := ⟨_, rfl⟩
  obtain ⟨N2, hN2⟩ : ∃ N2 : Int, (if okD8 a b then zi (valP b) else 0) = N2 := ⟨_, rfl⟩
  rw [hR, hM2, hN2]
  have HV := Lib.hid (fun W v h => rvalid8_d (valP a) (zi (valP b)) v W h (by omega))
  rw [show (if valP a = 0 then decide (zi (valP b) = 0) else fits8 (valP a) (zi (valP b))) = vd8 (valP a) (zi (valP b)) from rfl] at HV
  have HI := Lib.hid (fun W v h => rzint_any (valP b) v W h)
  unfold okD8 at hR hM2 hN2
  generalize vd8 (valP a) (zi (valP b)) = vd at *
  obtain ⟨E1, hE1⟩ : ∃ E1, errP a = E1 := ⟨_, rfl⟩
  obtain ⟨E2, hE2⟩ : ∃ E2, errP b = E2 := ⟨_, rfl⟩
  rw [hE1] at hR hM2 hN2 HA
  rw [hE2] at hR hM2 hN2 HBB
  have HF : ((decide (E1 = 0) && (decide (E2 = 0) && (zb (valP b) && vd))) = true → R = 0 ∧ M2 = valP a ∧ N2 = zi (valP b)) ∧ ((decide (E1 = 0) && (decide (E2 = 0) && (zb (valP b) && vd))) = false → R = 6 ∧ M2 = 0 ∧ N2 = 0) := by
    refine ⟨fun h => ?_, fun h => ?_⟩ <;> rw [h] at hR hM2 hN2 <;> exact ⟨hR.symm, hM2.symm, hN2.symm⟩
  generalize zb (valP b) = ok at *
  generalize zi (valP b) = N at *
  generalize valP a = M at *
  generalize valP b = X at *
  obtain ⟨P, hP⟩ : ∃ P, a.length = P := ⟨_, rfl⟩
  obtain ⟨Q, hQ⟩ : ∃ Q, b.length = Q := ⟨_, rfl⟩
  rw [hP] at hsz hx1 hx2 HM HP hl hs1
  rw [hQ] at hsz hx2 hl hs2
  obtain ⟨n, hn⟩ : ∃ n, P + (Q + 1) = n := ⟨_, rfl⟩
  rw [hn] at hsz
  rw [show P + 1 + Q = n from by omega] at hx2
  have hd : decide ((20010 : Int) < (n : Int)) = false := decide_eq_false (by omega)
  have HPn := Lib.hid (show P < n by omega)
  have hPQ := Lib.hid hn
  generalize (a ++ 112 :: b) = l at *
  generalize str a = sa at *
  generalize str b = sb at *
  clear hR hM2 hN2 hE1 hE2 hP hQ hn ha hb hm hbl
  go_enter Tryz.func49, Tryz.ntmps49
  go_wp2_with fail
  have L := ((Lq.mk0 w).varD (w.heap.size) (by simp) false none 0 0 0)
  obtain ⟨V, hV⟩ : ∃ V, w.alloc (.cells #[.bool false, .slice none 0 0, .int .i64 0] 26) = V := ⟨_, rfl⟩
  have hVs : V.heap.size = w.heap.size + 1 := by rw [← hV]; simp
  rw [hV] at L ⊢
  clear hV
  have LL := Lib.hid L
  clear L
  (try go_wp2_with fail)
  go_loopw [4] (fun i wr => ∃ m : Nat, i = .int .i64 (m : Int) ∧ m ≤ P ∧ wr = V) (fun i _ => n - (intOf i).toNat)
  case atStart => exact ⟨0, rfl, by omega, rfl⟩
  case round =>
    obtain ⟨m, rfl, hm, rfl⟩ := hrel
    obtain ⟨c, hc⟩ : ∃ c, nth l m = c := ⟨_, rfl⟩
    have hget : ∀ h, ((str l)[m]'h).toNat = c := fun h => (str_get HB.out m h).trans hc
    have i0 : (0 : Int) ≤ (m : Int) := by omega
    have i1 : (m : Int) < (n : Int) := by have := HPn.out; omega
    rcases Nat.eq_or_lt_of_le hm with rfl | hmn
    · obtain rfl : c = 112 := hc ▸ HP.out
      have L := LL.out
      have i2 : (m : Int) ≤ (n : Int) := by omega
      have i3 : ((m : Int) == (n : Int)) = false := by rw [beq_eq_false_iff_ne]; omega
      have i4 : (0 : Int) ≤ (m : Int) + 1 := by omega
      have i5 : (m : Int) + 1 ≤ (n : Int) := by omega
      have i6 : IntKind.i64.wrap ((m : Int) + 1) = (m : Int) + 1 := by rw [IntKind.wrap_i64]; omega
      clear hc HM HP HPn
      have c00 := L.b0.c30
      have f00 := L.b0.fr 0
      have c01 := L.b0.c31
      have f01 := L.b0.fr 1
      have c02 := L.b0.c32
      have f02 := L.b0.fr 2
      go_wp2_with fail
      refine (HA.out _).mono ?_
      rintro e w1 ⟨v1, rfl, iz, be⟩
      clear c00 f00 c01 f01 c02 f02
      replace L := (L.step be).z iz
      obtain ⟨A1, c1, rfl, _⟩ := iz.form
      clear be iz
      have hlt := L.b0.lt
      have c00 := L.b0.c30
      have f00 := L.b0.fr 0
      have c01 := L.b0.c31
      have f01 := L.b0.fr 1
      have c02 := L.b0.c32
      have f02 := L.b0.fr 2
      replace L := L.varZ w1.heap.size rfl (ng M) A1 (zl M) c1
      go_wp2_with fail
      clear c00 f00 c01 f01 c02 f02
      refine (HBB.out _).mono ?_
      rintro e w2 ⟨v2, rfl, iz, be⟩
      replace L := (L.step be).z iz
      obtain ⟨A2, c2, rfl, _⟩ := iz.form
      clear be iz
      have hlt2 := L.b0.lt
      replace L := L.varZ w2.heap.size rfl (ng X) A2 (zl X) c2
      have c00 := L.b0.c20
      have c01 := L.b0.c21
      have c10 := L.tl.b0.c20
      have c11 := L.tl.b0.c21
      have c20 := L.tl.tl.b0.c30
      have c21 := L.tl.tl.b0.c31
      have c22 := L.tl.tl.b0.c32
      go_wp2_with fail
      clear c00 c01 c10 c11 c20 c21 c22
      refine (HI.out _ _ (L.getZ (by simp))).mono ?_
      rintro e w3 ⟨rfl, be⟩
      replace L := L.step be
      clear be
      have hlt3 := L.b0.lt
      have hlt4 := L.tl.tl.b0.lt
      have hlt5 : w.heap.size ≠ w3.heap.size := by omega
      have c00 := L.b0.c20
      have c01 := L.b0.c21
      have c10 := L.tl.b0.c20
      have c11 := L.tl.b0.c21
      have c20 := L.tl.tl.b0.c30
      have c21 := L.tl.tl.b0.c31
      have c22 := L.tl.tl.b0.c32
      have LP0 := L.pull2.putD (by omega) (by simp; omega) false none 0 0 0
      have f20 := L.tl.tl.b0.fr 0
      have f21 := L.tl.tl.b0.fr 1
      have f22 := L.tl.tl.b0.fr 2
      replace L := L.varD w3.heap.size rfl (ng M) A1 (zl M) c1 N
      by_cases q1 : E1 = 0
      · subst q1
        by_cases q2 : E2 = 0
        · subst q2
          cases ok
          · obtain ⟨rfl, rfl, rfl⟩ := HF.2 (by simp [])
            go_wp2_with fail
            have LP := LP0.varD _ rfl (ng M) A1 (zl M) c1 N
            have k0 := LP.tl.b0.c30
            have k1 := LP.tl.b0.c31
            have k2 := LP.tl.b0.c32
            unfold put3 at k0 k1 k2
            exact bodyPost_ret (v := .tuple #[.agg #[.bool false, .slice none 0 0, .int .i64 0], .int .i64 6]) (by simp [results, Tryz.results49, go_sem, k0, k1, k2]) rfl ⟨_, rfl, isD_zero _, LP.below⟩
          · clear LP0
            have y0 := L.b0.c30
            have y1 := L.b0.c31
            have y2 := L.b0.c32
            go_wp2_with fail
            refine (HV.out _ _ (isD_z (L.getZ (by simp)))).mono ?_
            rintro e9 w4 ⟨rfl, be⟩
            replace L := L.step be
            clear c00 c01 c10 c11 c20 c21 c22 f20 f21 f22
            have c00 := L.b0.c30
            have f00 := L.b0.fr 0
            have c01 := L.b0.c31
            have f01 := L.b0.fr 1
            have c02 := L.b0.c32
            have f02 := L.b0.fr 2
            have c10 := L.tl.b0.c20
            have c11 := L.tl.b0.c21
            have c20 := L.tl.tl.b0.c20
            have c21 := L.tl.tl.b0.c21
            have c30 := L.tl.tl.tl.b0.c30
            have f30 := L.tl.tl.tl.b0.fr 0
            have c31 := L.tl.tl.tl.b0.c31
            have f31 := L.tl.tl.tl.b0.fr 1
            have c32 := L.tl.tl.tl.b0.c32
            have f32 := L.tl.tl.tl.b0.fr 2
            cases vd
            · obtain ⟨rfl, rfl, rfl⟩ := HF.2 (by simp)
              go_wp2_with fail
              have LP := L.pull3.putD (by omega) (by simp; omega) false none 0 0 0
              have k0 := LP.b0.c30
              have k1 := LP.b0.c31
              have k2 := LP.b0.c32
              unfold put3 at k0 k1 k2
              exact bodyPost_ret (v := .tuple #[.agg #[.bool false, .slice none 0 0, .int .i64 0], .int .i64 6]) (by simp [results, Tryz.results49, go_sem, k0, k1, k2]) rfl ⟨_, rfl, isD_zero _, LP.below⟩
            · obtain ⟨rfl, rfl, rfl⟩ := HF.1 (by simp)
              go_wp2_with fail
              have LP := L.pull3.putD (by omega) (by simp; omega) (ng M2) A1 (zl M2) c1 N2
              have k0 := LP.b0.c30
              have k1 := LP.b0.c31
              have k2 := LP.b0.c32
              unfold put3 at k0 k1 k2
              exact bodyPost_ret (v := .tuple #[.agg #[.bool (ng M2), .slice A1 (zl M2) c1, .int .i64 N2], .int .i64 0]) (by simp [results, Tryz.results49, go_sem, k0, k1, k2]) rfl ⟨_, rfl, isD_z (LP.getZ (by simp)), LP.below⟩
        · have q3 : (E2 != 0) = true := by simpa using q2
          have q4 : (E2 == 0) = false := by simpa using q2
          obtain ⟨rfl, rfl, rfl⟩ := HF.2 (by simp [q2])
          go_wp2_with fail
          have LP := LP0.varD _ rfl (ng M) A1 (zl M) c1 N
          have k0 := LP.tl.b0.c30
          have k1 := LP.tl.b0.c31
          have k2 := LP.tl.b0.c32
          unfold put3 at k0 k1 k2
          exact bodyPost_ret (v := .tuple #[.agg #[.bool false, .slice none 0 0, .int .i64 0], .int .i64 6]) (by simp [results, Tryz.results49, go_sem, k0, k1, k2]) rfl ⟨_, rfl, isD_zero _, LP.below⟩
      · have q3 : (E1 != 0) = true := by simpa using q1
        have q4 : (E1 == 0) = false := by simpa using q1
        obtain ⟨rfl, rfl, rfl⟩ := HF.2 (by simp [q1])
        go_wp2_with fail
        have LP := LP0.varD _ rfl (ng M) A1 (zl M) c1 N
        have k0 := LP.tl.b0.c30
        have k1 := LP.tl.b0.c31
        have k2 := LP.tl.b0.c32
        unfold put3 at k0 k1 k2
        exact bodyPost_ret (v := .tuple #[.agg #[.bool false, .slice none 0 0, .int .i64 0], .int .i64 6]) (by simp [results, Tryz.results49, go_sem, k0, k1, k2]) rfl ⟨_, rfl, isD_zero _, LP.below⟩
    · have hc1 : c ≠ 112 := hc ▸ HM.out m hmn
      have hcb : ((c : Int) == 112) = false := by rw [beq_eq_false_iff_ne]; omega
      have hcb2 : ((c : Int) != 112) = true := by simp only [bne, hcb, Bool.not_false]
      clear hc
      go_wp2_with fail
      go_roundw
      case rel => exact ⟨m + 1, by go_num, by omega, by first | trivial | rfl⟩
      case measure => simp [intOf]; have := HPn.out; omega

theorem rparse8_any (l : List Nat) (w : World) (hb : Byt l) (hl : l.length ≤ 1000000) :
    Calls Tryz.prog 49 #[.string (str l)] w (RetDE w (valM8 l) (valE8 l) (errD8 l)) := by
  by_cases hlen : 20010 < l.length
  · obtain ⟨e1, e2, e3⟩ := err8_long hlen
    rw [e1, e2, e3]
    exact rparse8_long l w hlen hl
  · by_cases hm : 112 ∈ l
    · obtain ⟨a, b, e, h⟩ := cut8 l hm
      subst e
      have ho : ok8 (a ++ 112 :: b) = okD8 a b := by unfold ok8; rw [decide_eq_true hm, Bool.true_and, hd8_cut h, tl8_cut h]
      have hlen2 : a.length + 1 + b.length ≤ 20010 := by rw [List.length_append, List.length_cons] at hlen; omega
      have H := rparse8_cut a b w (fun x hx => hb x (List.mem_append_left _ hx)) (fun x hx => hb x (List.mem_append_right _ (List.mem_cons_of_mem _ hx))) hlen2 h
      cases hk : okD8 a b
      · obtain ⟨e1, e2, e3⟩ := err8_bad hlen (ho.trans hk)
        rw [e1, e2, e3]
        rw [hk] at H
        exact H
      · obtain ⟨e1, e2, e3⟩ := err8_good hlen (ho.trans hk)
        rw [e1, e2, e3, hd8_cut h, tl8_cut h]
        rw [hk] at H
        exact H
    · obtain ⟨e1, e2, e3⟩ := err8_bad hlen (show ok8 l = false by unfold ok8; rw [decide_eq_false hm, Bool.false_and])
      rw [e1, e2, e3]
      exact rparse8_no l w hb (by omega) hm


end Go.Proofs.YtpgiolbnmlbjbaaGreatDoor
