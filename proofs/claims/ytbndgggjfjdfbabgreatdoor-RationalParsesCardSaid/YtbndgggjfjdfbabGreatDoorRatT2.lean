/- The program's Parse of fractions. -/
import Derived.Test.YtbndgggjfjdfbabGreatDoorRatT
import Derived.Deep.RegionHeld3
import Derived.Deep.DrawnRows
namespace Go.Proofs.YtbndgggjfjdfbabGreatDoor
open Go.RowKit
set_option linter.unusedVariables false
set_option linter.unusedSimpArgs false
set_option maxRecDepth 100000
attribute [local go_sem ↓] Go.wp_at_zero Go.wp_at_succ

theorem parts_cat (l : List Nat) : (whl l ++ frc l).length ≤ l.length ∧ (∀ x ∈ whl l, x ∈ l) ∧ (∀ x ∈ frc l, x ∈ l) := by
  rcases cut_cases l with h | ⟨a, b, rfl, h⟩
  · obtain ⟨e1, e2, _⟩ := parts_no h
    rw [e1, e2, List.append_nil]
    exact ⟨Nat.le_refl _, fun x hx => hx, fun x hx => by cases hx⟩
  · obtain ⟨e1, e2, _⟩ := parts_yes (b := b) h
    rw [e1, e2, List.length_append, List.length_append, List.length_cons]
    exact ⟨by omega, fun x hx => List.mem_append_left _ hx, fun x hx => List.mem_append_right _ (List.mem_cons_of_mem _ hx)⟩
theorem frc_plain {l : List Nat} (h : hasP l = false) : frc l = [] := by
  rcases cut_cases l with h1 | ⟨a, b, rfl, h1⟩
  · exact (parts_no h1).2.1
  · rw [(parts_yes h1).2.2] at h; cases h

set_option maxHeartbeats 1000000 in
theorem pparse_long (l : List Nat) (w : World) (hl : 400 < l.length) (hl2 : l.length ≤ 1000000) :
    Calls Tryz.prog 22 #[.string (str l)] w (RetPE w 0 0 7) := by
  have hsz := str_size l
  obtain ⟨n, hn⟩ : ∃ n, l.length = n := ⟨_, rfl⟩
  rw [hn] at hsz hl hl2
  have hd : decide ((400 : Int) < (n : Int)) = true := decide_eq_true (by omega)
  generalize str l = s at *
  clear hn hl
  go_enter Tryz.func22, Tryz.ntmps22
  go_wp2_with fail
  have L := ((Lq.mk0 w).varQ (w.heap.size) (by simp) false none none 0 0 0 0)
  have c00 := L.b0.c30
  have f00 := L.b0.fr 0
  have c01 := L.b0.c31
  have f01 := L.b0.fr 1
  have c02 := L.b0.c32
  have f02 := L.b0.fr 2
  go_wp2_with fail
  exact bodyPost_ret (v := .tuple #[.agg #[.bool false, .slice none 0 0, .slice none 0 0], .int .i64 7]) (by simp [results, Tryz.results22, go_sem, c00, c01, c02]) rfl ⟨_, rfl, isP_zero _, L.below⟩
set_option maxHeartbeats 1000000 in
theorem pparse_bad (l : List Nat) (w : World) (hb : Byt l) (hl : l.length ≤ 400) (hg : good (whl l) = false) :
    Calls Tryz.prog 22 #[.string (str l)] w (RetPE w 0 0 6) := by
  have hsz := str_size l
  have hd : decide ((400 : Int) < (l.length : Int)) = false := decide_eq_false (by omega)
  obtain ⟨q1, q2, q3⟩ := parts_cat l
  have hbw : Byt (whl l) := fun x hx => hb x (q2 x hx)
  have hbf : Byt (frc l) := fun x hx => hb x (q3 x hx)
  rw [List.length_append] at q1
  have HC := Lib.hid (fun W => cut7_any l W hb (by omega))
  have hN := fun W => natural_any (whl l) W hbw (by omega)
  obtain ⟨e1, e2⟩ := errN_of (l := whl l) (by omega)
  rw [e1, e2, hg] at hN
  rw [if_neg (by simp), if_neg (by simp)] at hN
  have HN := Lib.hid hN
  clear hN e1 e2 q1 q2 q3 hbw hbf
  generalize hasP l = hp at *
  generalize str (whl l) = sw at *
  generalize str (frc l) = sf at *
  obtain ⟨n, hn⟩ : ∃ n, l.length = n := ⟨_, rfl⟩
  rw [hn] at hsz hd hl
  generalize str l = s at *
  clear hn hb hg
  go_enter Tryz.func22, Tryz.ntmps22
  go_wp2_with fail
  have L := ((Lq.mk0 w).varQ (w.heap.size) (by simp) false none none 0 0 0 0)
  have c00 := L.b0.c30
  have f00 := L.b0.fr 0
  have c01 := L.b0.c31
  have f01 := L.b0.fr 1
  have c02 := L.b0.c32
  have f02 := L.b0.fr 2
  go_wp2_with fail
  refine (HC.out _).mono ?_
  rintro e w1 ⟨rfl, be⟩
  clear c00 f00 c01 f01 c02 f02
  replace L := L.step be
  clear be
  have c00 := L.b0.c30
  have f00 := L.b0.fr 0
  have c01 := L.b0.c31
  have f01 := L.b0.fr 1
  have c02 := L.b0.c32
  have f02 := L.b0.fr 2
  go_wp2_with fail
  refine (HN.out _).mono ?_
  rintro e w2 ⟨v2, rfl, i2, be⟩
  clear c00 f00 c01 f01 c02 f02
  replace L := (L.step be).n i2
  obtain ⟨A2, c2, rfl⟩ := i2.form
  clear be i2
  have c00 := L.b0.c30
  have f00 := L.b0.fr 0
  have c01 := L.b0.c31
  have f01 := L.b0.fr 1
  have c02 := L.b0.c32
  have f02 := L.b0.fr 2
  go_wp2_with fail
  have LP := L.putQ (by omega) (by simp) false none none 0 0 0 0
  have d0 := LP.b0.c30
  have d1 := LP.b0.c31
  have d2 := LP.b0.c32
  unfold put3 at d0 d1 d2
  exact bodyPost_ret (v := .tuple #[.agg #[.bool false, .slice none 0 0, .slice none 0 0], .int .i64 6]) (by simp [results, Tryz.results22, go_sem, d0, d1, d2]) rfl ⟨_, rfl, isP_zero _, LP.below⟩
set_option maxHeartbeats 1000000 in
theorem pparse_plain (l : List Nat) (w : World) (hb : Byt l) (hl : l.length ≤ 400) (hg : good (whl l) = true) (hp : hasP l = false) :
    Calls Tryz.prog 22 #[.string (str l)] w (RetPE w (valD l).num (valD l).den 0) := by
  have hsz := str_size l
  have hd : decide ((400 : Int) < (l.length : Int)) = false := decide_eq_false (by omega)
  obtain ⟨q1, q2, q3⟩ := parts_cat l
  have hbw : Byt (whl l) := fun x hx => hb x (q2 x hx)
  have hbf : Byt (frc l) := fun x hx => hb x (q3 x hx)
  rw [List.length_append] at q1
  have HC := Lib.hid (fun W => cut7_any l W hb (by omega))
  have hN := fun W => natural_any (whl l) W hbw (by omega)
  obtain ⟨e1, e2⟩ := errN_of (l := whl l) (by omega)
  rw [e1, e2, hg] at hN
  rw [if_pos rfl, if_pos rfl] at hN
  have HN := Lib.hid hN
  clear hN e1 e2
  have hall : (whl l ++ frc l).all isD = true := by rw [List.all_append, good_all hg, frc_plain hp]; rfl
  have hlt : num (whl l ++ frc l) < 10 ^ (whl l ++ frc l).length := num_lt hall
  have hle : len (num (whl l ++ frc l)) ≤ 2001 := Nat.le_trans (len_mono (Nat.le_of_lt (Nat.lt_of_lt_of_le hlt (Nat.pow_le_pow_right (by omega) (show _ ≤ 400 by rw [List.length_append]; omega))))) (ten_len (m := 400) (by omega))
  have l10 := ten_len (m := (frc l).length) (by omega)
  have hsf := str_size (frc l)
  have HP := Lib.hid (fun W => ppow_any 10 (by omega) (frc l).length (by omega) W)
  have hL := fun v u W h1 h2 => plow_any ((num (whl l ++ frc l) : Nat) : Int) (10 ^ (frc l).length) v u W h1 h2 (by rw [zl_nat]; omega) (by omega) (Nat.pow_pos (by omega))
  unfold RetQ at hL
  have hv : Rat.divInt ((num (whl l ++ frc l) : Nat) : Int) ((10 ^ (frc l).length : Nat) : Int) = valD l := rfl
  rw [hv] at hL
  rw [frc_plain hp] at hL hsf HP
  rw [List.append_nil] at hL
  have HL := Lib.hid hL
  generalize (valD l).num = rn at *
  generalize (valD l).den = rd at *
  clear hL hv hall hlt hle l10
  generalize num (whl l) = N at *
  rw [show ([] : List Nat).length = 0 from rfl] at HP HL hsf
  rw [frc_plain hp] at HC
  clear q1 q2 q3 hbw hbf
  rw [hp] at HC
  clear hp
  generalize str (whl l) = sw at *
  generalize str ([] : List Nat) = sf at *
  obtain ⟨n, hn⟩ : ∃ n, l.length = n := ⟨_, rfl⟩
  rw [hn] at hsz hd hl
  generalize str l = s at *
  clear hn hb hg
  go_enter Tryz.func22, Tryz.ntmps22
  go_wp2_with fail
  have L := ((Lq.mk0 w).varQ (w.heap.size) (by simp) false none none 0 0 0 0)
  have c00 := L.b0.c30
  have f00 := L.b0.fr 0
  have c01 := L.b0.c31
  have f01 := L.b0.fr 1
  have c02 := L.b0.c32
  have f02 := L.b0.fr 2
  go_wp2_with fail
  refine (HC.out _).mono ?_
  rintro e w1 ⟨rfl, be⟩
  clear c00 f00 c01 f01 c02 f02
  replace L := L.step be
  clear be
  have c00 := L.b0.c30
  have f00 := L.b0.fr 0
  have c01 := L.b0.c31
  have f01 := L.b0.fr 1
  have c02 := L.b0.c32
  have f02 := L.b0.fr 2
  go_wp2_with fail
  refine (HN.out _).mono ?_
  rintro e w2 ⟨v2, rfl, i2, be⟩
  clear c00 f00 c01 f01 c02 f02
  replace L := (L.step be).n i2
  obtain ⟨A2, c2, rfl⟩ := i2.form
  clear be i2
  have c00 := L.b0.c30
  have f00 := L.b0.fr 0
  have c01 := L.b0.c31
  have f01 := L.b0.fr 1
  have c02 := L.b0.c32
  have f02 := L.b0.fr 2
  have HZ := Lib.hid (isZ_nat L.hn)
  go_wp2_with fail
  refine (HP.out _).mono ?_
  rintro e w3 ⟨v5, rfl, o⟩
  have HZ2 := Lib.hid (HZ.out.mono o.below)
  replace L := (L.step o.below).n o.isN
  clear o HZ
  clear c00 f00 c01 f01 c02 f02
  have c00 := L.b0.c30
  have f00 := L.b0.fr 0
  have c01 := L.b0.c31
  have f01 := L.b0.fr 1
  have c02 := L.b0.c32
  have f02 := L.b0.fr 2
  go_wp2_with fail
  refine (HL.out _ _ _ HZ2.out L.hn).mono ?_
  rintro e w4 ⟨v6, rfl, iq, be⟩
  clear c00 f00 c01 f01 c02 f02
  replace L := (L.step be).q iq
  obtain ⟨A9, c9, B9, d9, rfl, _, _, _⟩ := iq.form
  clear be iq
  have c00 := L.b0.c30
  have f00 := L.b0.fr 0
  have c01 := L.b0.c31
  have f01 := L.b0.fr 1
  have c02 := L.b0.c32
  have f02 := L.b0.fr 2
  go_wp2_with fail
  have LP := L.putQ (by omega) (by first | (simp; done) | (simp; omega)) (ng (rn)) A9 B9 (zl (rn)) c9 (len (rd)) d9
  have k0 := LP.b0.c30
  have k1 := LP.b0.c31
  have k2 := LP.b0.c32
  unfold put3 at k0 k1 k2
  exact bodyPost_ret (v := .tuple #[.agg #[.bool (ng (rn)), .slice A9 (zl (rn)) c9, .slice B9 (len (rd)) d9], .int .i64 0]) (by simp [results, Tryz.results22, go_sem, k0, k1, k2]) rfl ⟨_, rfl, LP.hq, LP.below⟩
set_option maxHeartbeats 1000000 in
theorem pparse_no (l : List Nat) (w : World) (hb : Byt l) (hl : l.length ≤ 400) (hg : good (whl l) = true) (hp : hasP l = true) (ho : okF (frc l) = false) :
    Calls Tryz.prog 22 #[.string (str l)] w (RetPE w 0 0 6) := by
  have hsz := str_size l
  have hd : decide ((400 : Int) < (l.length : Int)) = false := decide_eq_false (by omega)
  obtain ⟨q1, q2, q3⟩ := parts_cat l
  have hbw : Byt (whl l) := fun x hx => hb x (q2 x hx)
  have hbf : Byt (frc l) := fun x hx => hb x (q3 x hx)
  rw [List.length_append] at q1
  have HC := Lib.hid (fun W => cut7_any l W hb (by omega))
  have hN := fun W => natural_any (whl l) W hbw (by omega)
  obtain ⟨e1, e2⟩ := errN_of (l := whl l) (by omega)
  rw [e1, e2, hg] at hN
  rw [if_pos rfl, if_pos rfl] at hN
  have HN := Lib.hid hN
  clear hN e1 e2
  have hJ := fun W => join_any (whl l) (frc l) W hbw hbf (by rw [List.length_append]; omega) hg
  rw [ho, if_neg (by simp), if_neg (by simp)] at hJ
  have HJ := Lib.hid hJ
  clear hJ
  clear q1 q2 q3 hbw hbf ho
  rw [hp] at HC
  clear hp
  generalize str (whl l) = sw at *
  generalize str (frc l) = sf at *
  obtain ⟨n, hn⟩ : ∃ n, l.length = n := ⟨_, rfl⟩
  rw [hn] at hsz hd hl
  generalize str l = s at *
  clear hn hb hg
  go_enter Tryz.func22, Tryz.ntmps22
  go_wp2_with fail
  have L := ((Lq.mk0 w).varQ (w.heap.size) (by simp) false none none 0 0 0 0)
  have c00 := L.b0.c30
  have f00 := L.b0.fr 0
  have c01 := L.b0.c31
  have f01 := L.b0.fr 1
  have c02 := L.b0.c32
  have f02 := L.b0.fr 2
  go_wp2_with fail
  refine (HC.out _).mono ?_
  rintro e w1 ⟨rfl, be⟩
  clear c00 f00 c01 f01 c02 f02
  replace L := L.step be
  clear be
  have c00 := L.b0.c30
  have f00 := L.b0.fr 0
  have c01 := L.b0.c31
  have f01 := L.b0.fr 1
  have c02 := L.b0.c32
  have f02 := L.b0.fr 2
  go_wp2_with fail
  refine (HN.out _).mono ?_
  rintro e w2 ⟨v2, rfl, i2, be⟩
  clear c00 f00 c01 f01 c02 f02
  replace L := (L.step be).n i2
  obtain ⟨A2, c2, rfl⟩ := i2.form
  clear be i2
  have c00 := L.b0.c30
  have f00 := L.b0.fr 0
  have c01 := L.b0.c31
  have f01 := L.b0.fr 1
  have c02 := L.b0.c32
  have f02 := L.b0.fr 2
  go_wp2_with fail
  refine (HJ.out _).mono ?_
  rintro e w3 ⟨v3, rfl, i3, be⟩
  clear c00 f00 c01 f01 c02 f02
  replace L := (L.step be).n i3
  obtain ⟨A3, c3, rfl⟩ := i3.form
  clear be i3
  have c00 := L.b0.c30
  have f00 := L.b0.fr 0
  have c01 := L.b0.c31
  have f01 := L.b0.fr 1
  have c02 := L.b0.c32
  have f02 := L.b0.fr 2
  go_wp2_with fail
  have LP := L.putQ (by omega) (by simp) false none none 0 0 0 0
  have d0 := LP.b0.c30
  have d1 := LP.b0.c31
  have d2 := LP.b0.c32
  unfold put3 at d0 d1 d2
  exact bodyPost_ret (v := .tuple #[.agg #[.bool false, .slice none 0 0, .slice none 0 0], .int .i64 6]) (by simp [results, Tryz.results22, go_sem, d0, d1, d2]) rfl ⟨_, rfl, isP_zero _, LP.below⟩
set_option maxHeartbeats 1000000 in
theorem pparse_yes (l : List Nat) (w : World) (hb : Byt l) (hl : l.length ≤ 400) (hg : good (whl l) = true) (hp : hasP l = true) (ho : okF (frc l) = true) :
    Calls Tryz.prog 22 #[.string (str l)] w (RetPE w (valD l).num (valD l).den 0) := by
  have hsz := str_size l
  have hd : decide ((400 : Int) < (l.length : Int)) = false := decide_eq_false (by omega)
  obtain ⟨q1, q2, q3⟩ := parts_cat l
  have hbw : Byt (whl l) := fun x hx => hb x (q2 x hx)
  have hbf : Byt (frc l) := fun x hx => hb x (q3 x hx)
  rw [List.length_append] at q1
  have HC := Lib.hid (fun W => cut7_any l W hb (by omega))
  have hN := fun W => natural_any (whl l) W hbw (by omega)
  obtain ⟨e1, e2⟩ := errN_of (l := whl l) (by omega)
  rw [e1, e2, hg] at hN
  rw [if_pos rfl, if_pos rfl] at hN
  have HN := Lib.hid hN
  clear hN e1 e2
  have hJ := fun W => join_any (whl l) (frc l) W hbw hbf (by rw [List.length_append]; omega) hg
  rw [ho, if_pos rfl, if_pos rfl] at hJ
  have HJ := Lib.hid hJ
  clear hJ
  have hall : (whl l ++ frc l).all isD = true := by rw [List.all_append, good_all hg, (okF_all ho).2.2]; rfl
  have hlt : num (whl l ++ frc l) < 10 ^ (whl l ++ frc l).length := num_lt hall
  have hle : len (num (whl l ++ frc l)) ≤ 2001 := Nat.le_trans (len_mono (Nat.le_of_lt (Nat.lt_of_lt_of_le hlt (Nat.pow_le_pow_right (by omega) (show _ ≤ 400 by rw [List.length_append]; omega))))) (ten_len (m := 400) (by omega))
  have l10 := ten_len (m := (frc l).length) (by omega)
  have hsf := str_size (frc l)
  have HP := Lib.hid (fun W => ppow_any 10 (by omega) (frc l).length (by omega) W)
  have hL := fun v u W h1 h2 => plow_any ((num (whl l ++ frc l) : Nat) : Int) (10 ^ (frc l).length) v u W h1 h2 (by rw [zl_nat]; omega) (by omega) (Nat.pow_pos (by omega))
  unfold RetQ at hL
  have hv : Rat.divInt ((num (whl l ++ frc l) : Nat) : Int) ((10 ^ (frc l).length : Nat) : Int) = valD l := rfl
  rw [hv] at hL
  have HL := Lib.hid hL
  generalize (valD l).num = rn at *
  generalize (valD l).den = rd at *
  clear hL hv hall hlt hle l10
  generalize num (whl l ++ frc l) = N at *
  obtain ⟨m, hm⟩ : ∃ m, (frc l).length = m := ⟨_, rfl⟩
  rw [hm] at hsf HP HL q1
  have hm4 : m ≤ 400 := by omega
  clear hm
  clear q1 q2 q3 hbw hbf ho
  rw [hp] at HC
  clear hp
  generalize str (whl l) = sw at *
  generalize str (frc l) = sf at *
  obtain ⟨n, hn⟩ : ∃ n, l.length = n := ⟨_, rfl⟩
  rw [hn] at hsz hd hl
  generalize str l = s at *
  clear hn hb hg
  go_enter Tryz.func22, Tryz.ntmps22
  go_wp2_with fail
  have L := ((Lq.mk0 w).varQ (w.heap.size) (by simp) false none none 0 0 0 0)
  have c00 := L.b0.c30
  have f00 := L.b0.fr 0
  have c01 := L.b0.c31
  have f01 := L.b0.fr 1
  have c02 := L.b0.c32
  have f02 := L.b0.fr 2
  go_wp2_with fail
  refine (HC.out _).mono ?_
  rintro e w1 ⟨rfl, be⟩
  clear c00 f00 c01 f01 c02 f02
  replace L := L.step be
  clear be
  have c00 := L.b0.c30
  have f00 := L.b0.fr 0
  have c01 := L.b0.c31
  have f01 := L.b0.fr 1
  have c02 := L.b0.c32
  have f02 := L.b0.fr 2
  go_wp2_with fail
  refine (HN.out _).mono ?_
  rintro e w2 ⟨v2, rfl, i2, be⟩
  clear c00 f00 c01 f01 c02 f02
  replace L := (L.step be).n i2
  obtain ⟨A2, c2, rfl⟩ := i2.form
  clear be i2
  have c00 := L.b0.c30
  have f00 := L.b0.fr 0
  have c01 := L.b0.c31
  have f01 := L.b0.fr 1
  have c02 := L.b0.c32
  have f02 := L.b0.fr 2
  go_wp2_with fail
  refine (HJ.out _).mono ?_
  rintro e w3 ⟨v3, rfl, i3, be⟩
  clear c00 f00 c01 f01 c02 f02
  replace L := (L.step be).n i3
  obtain ⟨A3, c3, rfl⟩ := i3.form
  clear be i3
  have c00 := L.b0.c30
  have f00 := L.b0.fr 0
  have c01 := L.b0.c31
  have f01 := L.b0.fr 1
  have c02 := L.b0.c32
  have f02 := L.b0.fr 2
  have HZ := Lib.hid (isZ_nat L.hn)
  go_wp2_with fail
  refine (HP.out _).mono ?_
  rintro e w4 ⟨v5, rfl, o⟩
  have HZ2 := Lib.hid (HZ.out.mono o.below)
  replace L := (L.step o.below).n o.isN
  clear o HZ
  clear c00 f00 c01 f01 c02 f02
  have c00 := L.b0.c30
  have f00 := L.b0.fr 0
  have c01 := L.b0.c31
  have f01 := L.b0.fr 1
  have c02 := L.b0.c32
  have f02 := L.b0.fr 2
  go_wp2_with fail
  refine (HL.out _ _ _ HZ2.out L.hn).mono ?_
  rintro e w5 ⟨v6, rfl, iq, be⟩
  clear c00 f00 c01 f01 c02 f02
  replace L := (L.step be).q iq
  obtain ⟨A9, c9, B9, d9, rfl, _, _, _⟩ := iq.form
  clear be iq
  have c00 := L.b0.c30
  have f00 := L.b0.fr 0
  have c01 := L.b0.c31
  have f01 := L.b0.fr 1
  have c02 := L.b0.c32
  have f02 := L.b0.fr 2
  go_wp2_with fail
  have LP := L.putQ (by omega) (by first | (simp; done) | (simp; omega)) (ng (rn)) A9 B9 (zl (rn)) c9 (len (rd)) d9
  have k0 := LP.b0.c30
  have k1 := LP.b0.c31
  have k2 := LP.b0.c32
  unfold put3 at k0 k1 k2
  exact bodyPost_ret (v := .tuple #[.agg #[.bool (ng (rn)), .slice A9 (zl (rn)) c9, .slice B9 (len (rd)) d9], .int .i64 0]) (by simp [results, Tryz.results22, go_sem, k0, k1, k2]) rfl ⟨_, rfl, LP.hq, LP.below⟩
theorem pparse_any (l : List Nat) (w : World) (hb : Byt l) (hl : l.length ≤ 1000000) :
    Calls Tryz.prog 22 #[.string (str l)] w (RetPE w (numD l) (denD l) (errD l)) := by
  unfold numD denD
  by_cases hlen : 400 < l.length
  · rw [show errD l = 7 from if_pos hlen, if_neg (by decide), if_neg (by decide)]
    exact pparse_long l w hlen hl
  · have he : errD l = if okD l then 0 else 6 := if_neg hlen
    cases hg : good (whl l)
    · have ho : okD l = false := by unfold okD; rw [hg]; rfl
      rw [he, ho, if_neg (by simp), if_neg (by decide), if_neg (by decide)]
      exact pparse_bad l w hb (by omega) hg
    · cases hp : hasP l
      · have ho : okD l = true := by unfold okD; rw [hg, hp]; rfl
        rw [he, ho, if_pos rfl, if_pos rfl, if_pos rfl]
        exact pparse_plain l w hb (by omega) hg hp
      · cases hf : okF (frc l)
        · have ho : okD l = false := by unfold okD; rw [hg, hp, hf]; rfl
          rw [he, ho, if_neg (by simp), if_neg (by decide), if_neg (by decide)]
          exact pparse_no l w hb (by omega) hg hp hf
        · have ho : okD l = true := by unfold okD; rw [hg, hp, hf]; rfl
          rw [he, ho, if_pos rfl, if_pos rfl, if_pos rfl]
          exact pparse_yes l w hb (by omega) hg hp hf


end Go.Proofs.YtbndgggjfjdfbabGreatDoor
