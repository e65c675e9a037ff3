/- The reference's Power: exponents below zero, and out of range. -/
import Derived.Test.YthfabjpbdgieoaaGreatDoorRefRatP
import Derived.Test.YthfabjpbdgieoaaGreatDoorRefRatP2
import Derived.Test.YthfabjpbdgieoaaGreatDoorBaseD
import Derived.Deep.RegionHeld3
import Derived.Deep.DrawnRows
import Derived.Deep.Cut
import Derived.Deep.CutRange
namespace Go.Proofs.YthfabjpbdgieoaaGreatDoor
open Go.RowKit
set_option linter.unusedVariables false
set_option linter.unusedSimpArgs false
set_option maxRecDepth 100000
attribute [local go_sem ↓] Go.wp_at_zero Go.wp_at_succ

theorem rpow7_nn (n : Nat) (a : Int) (d : Nat) (vx : Value) (w : World) (hx : IsP w vx a d) (la : zl a ≤ 1000) (ld : len d ≤ 1000) (hn : n ≤ 64) :
    Calls Tryz.prog 31 #[vx, .int .i64 (n : Int)] w (RetPE w (sg (ng a && n % 2 == 1) (a.natAbs ^ n)) (d ^ n) 0) := by
  cases h : ng a
  · have := rpow7_plus n a d vx w hx la ld hn h
    rwa [h] at this
  · have := rpow7_minus n a d vx w hx la ld hn h
    rwa [h] at this
theorem inv_pair {a : Int} {d : Nat} (hd : 0 < d) (ha : a ≠ 0) (h : Nat.gcd a.natAbs d = 1) : (Rat.divInt (1 * (d : Int)) (((1 : Nat) : Int) * a)).num = sg (ng a) d ∧ (Rat.divInt (1 * (d : Int)) (((1 : Nat) : Int) * a)).den = a.natAbs := by
  have e : ((1 : Nat) : Int) * a = a := by omega
  rw [e, Int.one_mul]
  obtain ⟨e1, e2⟩ := divInt_pair (d : Int) a ha
  rw [e1, e2, ng_nat, Int.natAbs_natCast, Nat.gcd_comm, h, Nat.div_one, Nat.div_one]
  refine ⟨?_, rfl⟩
  cases ng a <;> rfl

set_option maxHeartbeats 1000000 in
theorem rpow7_lo (a : Int) (d : Nat) (n : Int) (vx : Value) (w : World) (hx : IsP w vx a d) (h : n < -64) :
    Calls Tryz.prog 31 #[vx, .int .i64 n] w (RetPE w 0 0 1) := by
  obtain ⟨A, c, B, g, rfl, _, _, _⟩ := hx.form
  have L0 := (Lq.mk0 w).q hx
  clear hx
  have b1 : decide (n < -64) = true := decide_eq_true h
  clear h
  go_enter Tryz.func31, Tryz.ntmps31
  go_wp2_with fail
  have L := ((L0.varQ (w.heap.size) (by simp) (ng a) A B (zl a) c (len d) g).varQ (w.heap.size + 1) (by simp) false none none 0 0 0 0)
  have c00 := L.b0.c30
  have f00 := L.b0.fr 0
  have c01 := L.b0.c31
  have f01 := L.b0.fr 1
  have c02 := L.b0.c32
  have f02 := L.b0.fr 2
  have c10 := L.tl.b0.c30
  have c11 := L.tl.b0.c31
  have c12 := L.tl.b0.c32
  go_wp2_with fail
  exact bodyPost_ret (v := .tuple #[.agg #[.bool false, .slice none 0 0, .slice none 0 0], .int .i64 1]) (by simp [results, Tryz.results31, go_sem, c00, c01, c02]) rfl ⟨_, rfl, isP_zero _, L.below⟩
set_option maxHeartbeats 1000000 in
theorem rpow7_hi (a : Int) (d : Nat) (n : Int) (vx : Value) (w : World) (hx : IsP w vx a d) (h : 64 < n) :
    Calls Tryz.prog 31 #[vx, .int .i64 n] w (RetPE w 0 0 1) := by
  obtain ⟨A, c, B, g, rfl, _, _, _⟩ := hx.form
  have L0 := (Lq.mk0 w).q hx
  clear hx
  have b1 : decide (n < -64) = false := decide_eq_false (by omega)
  have b2 : decide (64 < n) = true := decide_eq_true h
  clear h
  go_enter Tryz.func31, Tryz.ntmps31
  go_wp2_with fail
  have L := ((L0.varQ (w.heap.size) (by simp) (ng a) A B (zl a) c (len d) g).varQ (w.heap.size + 1) (by simp) false none none 0 0 0 0)
  have c00 := L.b0.c30
  have f00 := L.b0.fr 0
  have c01 := L.b0.c31
  have f01 := L.b0.fr 1
  have c02 := L.b0.c32
  have f02 := L.b0.fr 2
  have c10 := L.tl.b0.c30
  have c11 := L.tl.b0.c31
  have c12 := L.tl.b0.c32
  go_wp2_with fail
  exact bodyPost_ret (v := .tuple #[.agg #[.bool false, .slice none 0 0, .slice none 0 0], .int .i64 1]) (by simp [results, Tryz.results31, go_sem, c00, c01, c02]) rfl ⟨_, rfl, isP_zero _, L.below⟩
set_option maxHeartbeats 4000000 in
theorem rpow7_zero (k : Nat) (d : Nat) (N : Int) (hN : N = -(k : Int)) (vx : Value) (w : World) (hx : IsP w vx 0 d) (la : zl 0 ≤ 1000) (ld : len d ≤ 1000) (hk : k ≤ 64) (hk0 : 0 < k) (hd0 : 0 < d) :
    Calls Tryz.prog 31 #[vx, .int .i64 N] w (RetPE w 0 0 2) := by
  obtain ⟨A, c, B, g, rfl, _, _, _⟩ := hx.form
  have h1 := fun W => rofn7_any 1 W (by omega) (by omega)
  unfold RetQ at h1
  rw [show ((1 : Int) : Rat).num = 1 from rfl, show ((1 : Int) : Rat).den = 1 from rfl] at h1
  have H1 := Lib.hid h1
  clear h1
  have l1 : zl 1 ≤ 1 := len_le1 (show 1 < 4294967296 by omega)
  have l2 : len 1 ≤ 1 := len_le1 (by omega)
  have H2 := Lib.hid (fun v u W k1 k2 => rdiv7_zero 1 1 d v u W k1 k2 (by omega) (by omega) (by omega) (by omega))
  have b1 : decide (N < -64) = false := decide_eq_false (by omega)
  have b2 : decide (64 < N) = false := decide_eq_false (by omega)
  have b3 : decide (N < 0) = true := decide_eq_true (by omega)
  clear hN hk0 hk hd0 la ld l1 l2
  go_enter Tryz.func31, Tryz.ntmps31
  go_wp2_with fail
  have L := (((Lq.mk0 w).varQ (w.heap.size) (by simp) (ng 0) A B (zl 0) c (len d) g).varQ (w.heap.size + 1) (by simp) false none none 0 0 0 0)
  obtain ⟨V, hV⟩ : ∃ V, (w.alloc (.cells #[.bool (ng 0), .slice A (zl 0) c, .slice B (len d) g] 57)).alloc (.cells #[.bool false, .slice none 0 0, .slice none 0 0] 57) = V := ⟨_, rfl⟩
  rw [hV] at L ⊢
  clear hV
  have hgm0 := L.b0.lt
  have hgx : w.heap.size < V.heap.size := by omega
  have Q0 := Lib.hid (fun Z (hZ : Below V.heap.size V Z) => (L.tl.b0.mono hZ).c30)
  have Q1 := Lib.hid (fun Z (hZ : Below V.heap.size V Z) => (L.tl.b0.mono hZ).c31)
  have Q2 := Lib.hid (fun Z (hZ : Below V.heap.size V Z) => (L.tl.b0.mono hZ).c32)
  have GX := Lib.hid (hx.mono L.below)
  have LL := Lib.hid L
  have D0 : Dq V V [] [] [(.agg #[.bool (ng 0), .slice A (zl 0) c, .slice B (len d) g], 0, d)] [] := ⟨(Lq.mk0 V).q GX.out, List.nodup_nil, fun p hp => by cases hp⟩
  clear L GX hx
  have D := D0.drew
  obtain ⟨M, hM⟩ : ∃ M, V.heap.size = M := ⟨_, rfl⟩
  have hz0 : M ≤ V.heap.size := by omega
  have hmx : w.heap.size < M := by omega
  have hmd : V.drew.heap.size = M := hM
  go_cut [6, 7] from 17 to 22 (fun s6 s7 wx => Made1Q V 0 0 s6 wx ∧ s7 = .int .i64 2)
  case first =>
    go_region_held3 (fun w' => w'.cell? ⟨w.heap.size, 0, none⟩ = some (.bool (ng 0)) ∧ w'.cell? ⟨w.heap.size, 1, none⟩ = some (.slice A (zl 0) c) ∧ w'.cell? ⟨w.heap.size, 2, none⟩ = some (.slice B (len d) g)) (((try dsimp only); refine ⟨?_, ?_, ?_⟩ <;> (repeat (first | (with_reducible exact Q0.out _ D.lq.below) | (with_reducible exact Q0.out _ D0.lq.below) | (with_reducible exact Q1.out _ D.lq.below) | (with_reducible exact Q1.out _ D0.lq.below) | (with_reducible exact Q2.out _ D.lq.below) | (with_reducible exact Q2.out _ D0.lq.below) | (with_reducible refine c_alloc _ ?_) | (with_reducible refine c_drew ?_) | (with_reducible refine c_set ?_ (by assumption) ?_) | omega)))) (first | (go_at_call 66; (with_reducible refine (H1.out _ ).mono ?_); rintro e wh ⟨vh, rfl, iq, be⟩; (first | (replace D := (D.step be).q iq) | (replace D := ((D.boxM hmd false none none 0 0 0 0).step be).q iq) | (replace D := ((D.box false none none 0 0 0 0).step be).q iq)); have hz := be.size; (try simp at hz); (try (have x00 := D.lq.b0.c30; have x01 := D.lq.b0.c31; have x02 := D.lq.b0.c32; have y00 := D.lq.b0.fr 0; have y01 := D.lq.b0.fr 1; have y02 := D.lq.b0.fr 2)); (try obtain ⟨na, nb, nc, nd, nl⟩ := D.n0)) | (go_at_call 69; (with_reducible refine (H2.out _ _ _ ?_ ?_ ).mono ?_); (· (first | (with_reducible refine D.getQ ?_; (repeat (first | (with_reducible exact List.mem_cons_self) | apply List.mem_cons_of_mem))) | (with_reducible refine (D.box false none none 0 0 0 0).getQ ?_; (repeat (first | (with_reducible exact List.mem_cons_self) | apply List.mem_cons_of_mem))) | (with_reducible refine (D0.box false none none 0 0 0 0).drew.getQ ?_; (repeat (first | (with_reducible exact List.mem_cons_self) | apply List.mem_cons_of_mem))))); (· (first | (with_reducible refine D.getQ ?_; (repeat (first | (with_reducible exact List.mem_cons_self) | apply List.mem_cons_of_mem))) | (with_reducible refine (D.box false none none 0 0 0 0).getQ ?_; (repeat (first | (with_reducible exact List.mem_cons_self) | apply List.mem_cons_of_mem))) | (with_reducible refine (D0.box false none none 0 0 0 0).drew.getQ ?_; (repeat (first | (with_reducible exact List.mem_cons_self) | apply List.mem_cons_of_mem))))); rintro e wh ⟨vh, rfl, iq, be⟩; (first | (replace D := (D.step be).q iq) | (replace D := ((D.boxM hmd false none none 0 0 0 0).step be).q iq) | (replace D := ((D.box false none none 0 0 0 0).step be).q iq)); have hz := be.size; (try simp at hz); obtain ⟨A9, c9, B9, d9, rfl, _, _, _⟩ := iq.form; (try (have x00 := D.lq.b0.c30; have x01 := D.lq.b0.c31; have x02 := D.lq.b0.c32; have y00 := D.lq.b0.fr 0; have y01 := D.lq.b0.fr 1; have y02 := D.lq.b0.fr 2)); (try obtain ⟨na, nb, nc, nd, nl⟩ := D.n0)))
    all_goals
      go_wp2_with fail
      go_meet
      refine ⟨?_, rfl⟩
      first
      | ((with_reducible refine made1q_a D ?_) <;> (repeat (first | (with_reducible exact List.mem_cons_self) | apply List.mem_cons_of_mem)))
      | ((with_reducible refine made1q_b D ?_) <;> (repeat (first | (with_reducible exact List.mem_cons_self) | apply List.mem_cons_of_mem)))
  case rest =>
    obtain ⟨⟨g2, A3, c5, B3, d5, rfl, hg2, bw, hbx, hqq⟩, rfl⟩ := hcut
    have L := (LL.out.step bw).q hqq
    clear D D0 hmd hz0 hmx Q0 Q1 Q2 LL H1 H2
    generalize wc = wd at *
    have hne : w.heap.size + 1 ≠ g2 := by omega
    have hne0 : w.heap.size ≠ g2 := by omega
    replace L := L.b hbx
    clear hM hgm0 hg2 hgx bw hbx hqq
    replace L := L.swap
    have c00 := L.b0.c30
    have f00 := L.b0.fr 0
    have c01 := L.b0.c31
    have f01 := L.b0.fr 1
    have c02 := L.b0.c32
    have f02 := L.b0.fr 2
    have c10 := L.tl.b0.c30
    have c11 := L.tl.b0.c31
    have c12 := L.tl.b0.c32
    have c20 := L.tl.tl.b0.c30
    have c21 := L.tl.tl.b0.c31
    have c22 := L.tl.tl.b0.c32
    go_wp2_with fail
    have LP := L.putQ (by omega) (by first | (simp; done) | (simp; omega)) false none none 0 0 0 0
    have d0 := LP.b0.c30
    have d1 := LP.b0.c31
    have d2 := LP.b0.c32
    unfold put3 at d0 d1 d2
    exact bodyPost_ret (v := .tuple #[.agg #[.bool false, .slice none 0 0, .slice none 0 0], .int .i64 2]) (by simp [results, Tryz.results31, go_sem, d0, d1, d2]) rfl ⟨_, rfl, isP_zero _, LP.below⟩
set_option maxHeartbeats 4000000 in
theorem rpow7_neg (k : Nat) (a : Int) (d : Nat) (N : Int) (hN : N = -(k : Int)) (vx : Value) (w : World) (hx : IsP w vx a d) (la : zl a ≤ 1000) (ld : len d ≤ 1000) (hk : k ≤ 64) (hk0 : 0 < k) (hd0 : 0 < d) (ha0 : a ≠ 0) (hgc : Nat.gcd a.natAbs d = 1) :
    Calls Tryz.prog 31 #[vx, .int .i64 N] w (RetPE w (sg (ng a && k % 2 == 1) (d ^ k)) (a.natAbs ^ k) 0) := by
  obtain ⟨A, c, B, g, rfl, _, _, _⟩ := hx.form
  have h1 := fun W => rofn7_any 1 W (by omega) (by omega)
  unfold RetQ at h1
  rw [show ((1 : Int) : Rat).num = 1 from rfl, show ((1 : Int) : Rat).den = 1 from rfl] at h1
  have H1 := Lib.hid h1
  clear h1
  have l1 : zl 1 ≤ 1 := len_le1 (show 1 < 4294967296 by omega)
  have l2 : len 1 ≤ 1 := len_le1 (by omega)
  obtain ⟨i1, i2⟩ := inv_pair hd0 ha0 hgc
  have h2 := fun v u W k1 k2 => rdiv7_any 1 1 a d v u W k1 k2 (by omega) (by omega) (by omega) (by omega) (by omega) ha0
  rw [i1, i2] at h2
  have H2 := Lib.hid h2
  have la' : len a.natAbs ≤ 1000 := la
  have h3 := fun v W k1 => rpow7_nn k (sg (ng a) d) a.natAbs v W k1 (by rw [zl_sg]; exact ld) la' hk
  rw [sg_abs, sg_ng, decide_eq_true hd0, Bool.and_true] at h3
  have H3 := Lib.hid h3
  clear h2 h3 i1 i2 la' hgc ha0
  generalize sg (ng a) d = rn at *
  generalize a.natAbs = rd at *
  generalize sg (ng a && k % 2 == 1) (d ^ k) = fn at *
  generalize rd ^ k = fd at *
  have hw : IntKind.i64.wrap (-N) = (k : Int) := by rw [IntKind.wrap_i64]; omega
  have b1 : decide (N < -64) = false := decide_eq_false (by omega)
  have b2 : decide (64 < N) = false := decide_eq_false (by omega)
  have b3 : decide (N < 0) = true := decide_eq_true (by omega)
  clear hN hk0 hk hd0 la ld l1 l2
  go_enter Tryz.func31, Tryz.ntmps31
  go_wp2_with fail
  have L := (((Lq.mk0 w).varQ (w.heap.size) (by simp) (ng a) A B (zl a) c (len d) g).varQ (w.heap.size + 1) (by simp) false none none 0 0 0 0)
  obtain ⟨V, hV⟩ : ∃ V, (w.alloc (.cells #[.bool (ng a), .slice A (zl a) c, .slice B (len d) g] 57)).alloc (.cells #[.bool false, .slice none 0 0, .slice none 0 0] 57) = V := ⟨_, rfl⟩
  rw [hV] at L ⊢
  clear hV
  have hgm0 := L.b0.lt
  have hgx : w.heap.size < V.heap.size := by omega
  have Q0 := Lib.hid (fun Z (hZ : Below V.heap.size V Z) => (L.tl.b0.mono hZ).c30)
  have Q1 := Lib.hid (fun Z (hZ : Below V.heap.size V Z) => (L.tl.b0.mono hZ).c31)
  have Q2 := Lib.hid (fun Z (hZ : Below V.heap.size V Z) => (L.tl.b0.mono hZ).c32)
  have GX := Lib.hid (hx.mono L.below)
  have LL := Lib.hid L
  have D0 : Dq V V [] [] [(.agg #[.bool (ng a), .slice A (zl a) c, .slice B (len d) g], a, d)] [] := ⟨(Lq.mk0 V).q GX.out, List.nodup_nil, fun p hp => by cases hp⟩
  clear L GX hx
  have D := D0.drew
  obtain ⟨M, hM⟩ : ∃ M, V.heap.size = M := ⟨_, rfl⟩
  have hz0 : M ≤ V.heap.size := by omega
  have hmx : w.heap.size < M := by omega
  have hmd : V.drew.heap.size = M := hM
  go_cut [6, 7] from 17 to 22 (fun s6 s7 wx => Made1Q V rn rd s6 wx ∧ s7 = .int .i64 0)
  case first =>
    go_region_held3 (fun w' => w'.cell? ⟨w.heap.size, 0, none⟩ = some (.bool (ng a)) ∧ w'.cell? ⟨w.heap.size, 1, none⟩ = some (.slice A (zl a) c) ∧ w'.cell? ⟨w.heap.size, 2, none⟩ = some (.slice B (len d) g)) (((try dsimp only); refine ⟨?_, ?_, ?_⟩ <;> (repeat (first | (with_reducible exact Q0.out _ D.lq.below) | (with_reducible exact Q0.out _ D0.lq.below) | (with_reducible exact Q1.out _ D.lq.below) | (with_reducible exact Q1.out _ D0.lq.below) | (with_reducible exact Q2.out _ D.lq.below) | (with_reducible exact Q2.out _ D0.lq.below) | (with_reducible refine c_alloc _ ?_) | (with_reducible refine c_drew ?_) | (with_reducible refine c_set ?_ (by assumption) ?_) | omega)))) (first | (go_at_call 66; (with_reducible refine (H1.out _ ).mono ?_); rintro e wh ⟨vh, rfl, iq, be⟩; (first | (replace D := (D.step be).q iq) | (replace D := ((D.boxM hmd false none none 0 0 0 0).step be).q iq) | (replace D := ((D.box false none none 0 0 0 0).step be).q iq)); have hz := be.size; (try simp at hz); (try (have x00 := D.lq.b0.c30; have x01 := D.lq.b0.c31; have x02 := D.lq.b0.c32; have y00 := D.lq.b0.fr 0; have y01 := D.lq.b0.fr 1; have y02 := D.lq.b0.fr 2)); (try obtain ⟨na, nb, nc, nd, nl⟩ := D.n0)) | (go_at_call 69; (with_reducible refine (H2.out _ _ _ ?_ ?_ ).mono ?_); (· (first | (with_reducible refine D.getQ ?_; (repeat (first | (with_reducible exact List.mem_cons_self) | apply List.mem_cons_of_mem))) | (with_reducible refine (D.box false none none 0 0 0 0).getQ ?_; (repeat (first | (with_reducible exact List.mem_cons_self) | apply List.mem_cons_of_mem))) | (with_reducible refine (D0.box false none none 0 0 0 0).drew.getQ ?_; (repeat (first | (with_reducible exact List.mem_cons_self) | apply List.mem_cons_of_mem))))); (· (first | (with_reducible refine D.getQ ?_; (repeat (first | (with_reducible exact List.mem_cons_self) | apply List.mem_cons_of_mem))) | (with_reducible refine (D.box false none none 0 0 0 0).getQ ?_; (repeat (first | (with_reducible exact List.mem_cons_self) | apply List.mem_cons_of_mem))) | (with_reducible refine (D0.box false none none 0 0 0 0).drew.getQ ?_; (repeat (first | (with_reducible exact List.mem_cons_self) | apply List.mem_cons_of_mem))))); rintro e wh ⟨vh, rfl, iq, be⟩; (first | (replace D := (D.step be).q iq) | (replace D := ((D.boxM hmd false none none 0 0 0 0).step be).q iq) | (replace D := ((D.box false none none 0 0 0 0).step be).q iq)); have hz := be.size; (try simp at hz); obtain ⟨A9, c9, B9, d9, rfl, _, _, _⟩ := iq.form; (try (have x00 := D.lq.b0.c30; have x01 := D.lq.b0.c31; have x02 := D.lq.b0.c32; have y00 := D.lq.b0.fr 0; have y01 := D.lq.b0.fr 1; have y02 := D.lq.b0.fr 2)); (try obtain ⟨na, nb, nc, nd, nl⟩ := D.n0)))
    all_goals
      go_wp2_with fail
      go_meet
      refine ⟨?_, rfl⟩
      first
      | ((with_reducible refine made1q_a D ?_) <;> (repeat (first | (with_reducible exact List.mem_cons_self) | apply List.mem_cons_of_mem)))
      | ((with_reducible refine made1q_b D ?_) <;> (repeat (first | (with_reducible exact List.mem_cons_self) | apply List.mem_cons_of_mem)))
  case rest =>
    obtain ⟨⟨g2, A3, c5, B3, d5, rfl, hg2, bw, hbx, hqq⟩, rfl⟩ := hcut
    have L := (LL.out.step bw).q hqq
    clear D D0 hmd hz0 hmx Q0 Q1 Q2 LL H1 H2
    generalize wc = wd at *
    have hne : w.heap.size + 1 ≠ g2 := by omega
    have hne0 : w.heap.size ≠ g2 := by omega
    replace L := L.b hbx
    clear hM hgm0 hg2 hgx bw hbx hqq
    replace L := L.swap
    have c00 := L.b0.c30
    have f00 := L.b0.fr 0
    have c01 := L.b0.c31
    have f01 := L.b0.fr 1
    have c02 := L.b0.c32
    have f02 := L.b0.fr 2
    have c10 := L.tl.b0.c30
    have c11 := L.tl.b0.c31
    have c12 := L.tl.b0.c32
    have c20 := L.tl.tl.b0.c30
    have c21 := L.tl.tl.b0.c31
    have c22 := L.tl.tl.b0.c32
    go_wp2_with fail
    refine (H3.out _ _ (L.getQ (by simp))).mono ?_
    rintro e w7 ⟨v7, rfl, iq, be⟩
    clear c00 f00 c01 f01 c02 f02 c10 c11 c12 c20 c21 c22
    replace L := (L.step be).q iq
    obtain ⟨A9, c9, B9, d9, rfl, _, _, _⟩ := iq.form
    clear iq be
    have c00 := L.b0.c30
    have f00 := L.b0.fr 0
    have c01 := L.b0.c31
    have f01 := L.b0.fr 1
    have c02 := L.b0.c32
    have f02 := L.b0.fr 2
    have c10 := L.tl.b0.c30
    have c11 := L.tl.b0.c31
    have c12 := L.tl.b0.c32
    have c20 := L.tl.tl.b0.c30
    have c21 := L.tl.tl.b0.c31
    have c22 := L.tl.tl.b0.c32
    go_wp2_with fail
    have LP := L.putQ (by omega) (by first | (simp; done) | (simp; omega)) (ng (fn)) A9 B9 (zl (fn)) c9 (len (fd)) d9
    have k0 := LP.b0.c30
    have k1 := LP.b0.c31
    have k2 := LP.b0.c32
    unfold put3 at k0 k1 k2
    exact bodyPost_ret (v := .tuple #[.agg #[.bool (ng (fn)), .slice A9 (zl (fn)) c9, .slice B9 (len (fd)) d9], .int .i64 0]) (by simp [results, Tryz.results31, go_sem, k0, k1, k2]) rfl ⟨_, rfl, LP.hq, LP.below⟩

end Go.Proofs.YthfabjpbdgieoaaGreatDoor
