/- The program's power, countFives, point and join. -/
import Derived.Test.YtbndgggjfjdfbabGreatDoorTx
import Derived.Test.YtbndgggjfjdfbabGreatDoorRep
import Derived.Test.YtbndgggjfjdfbabGreatDoorNatu
import Derived.Test.YtbndgggjfjdfbabGreatDoorBaseP
import Derived.Test.YtbndgggjfjdfbabGreatDoorBaseS
namespace Go.Proofs.YtbndgggjfjdfbabGreatDoor
open Go.RowKit
set_option linter.unusedVariables false
set_option linter.unusedSimpArgs false
set_option maxRecDepth 100000
attribute [local go_sem ↓] Go.wp_at_zero Go.wp_at_succ

theorem Out.after {w w1 w2 : World} {v : Value} {l : List Nat} (o : Out w1 w2 v l) (h : Below w.heap.size w w1) : Out w w2 v l := ⟨o.own.base_le h.size, h.trans (o.below.mono h.size)⟩
set_option maxHeartbeats 1000000 in
theorem ppow_any (b : Nat) (hb : b ≤ 10) (n : Nat) : n ≤ 2000 → ∀ w : World,
    Calls Tryz.prog 52 #[.int .u32 (b : Int), .int .i64 (n : Int)] w (RetN w (b ^ n)) := by
  induction n using Nat.strongRecOn with
  | _ n IH =>
    intro hn w
    rcases Nat.eq_zero_or_pos n with h0 | h0
    · subst h0
      rw [Nat.pow_zero]
      have HO := Lib.hid (fun W => of_any 1 W (by omega))
      clear IH
      go_enter Tryz.func52, Tryz.ntmps52
      go_wp2_with fail
      refine (HO.out _).mono ?_
      rintro e w' ⟨v, rfl, o⟩
      go_wp2_with fail
      go_ret
      exact ⟨_, rfl, o⟩
    · obtain ⟨q, hq⟩ : ∃ q, n / 2 = q := ⟨_, rfl⟩
      have HI := Lib.hid (IH q (by omega) (by omega))
      have hlen : len (b ^ q) ≤ 2001 := by
        have h1 := len_pow b q
        have h2 : len b ≤ 1 := len_le1 (by omega)
        have h3 : q * len b ≤ 2000 * 1 := Nat.mul_le_mul (by omega) h2
        omega
      have hl2 : len (b ^ q * b ^ q) ≤ 4002 := by
        have := len_mul (b ^ q) (b ^ q)
        omega
      have HS := Lib.hid (fun v W h => square_any (b ^ q) v W h (by omega))
      have e1 : (n : Int) / 2 = (q : Int) := by omega
      have e3 : (n : Int).tdiv 2 = (q : Int) := by rw [Int.tdiv_eq_ediv_of_nonneg (by omega)]; exact e1
      have hn0 : ((n : Int) == 0) = false := by rw [beq_eq_false_iff_ne]; omega
      rcases Nat.mod_two_eq_zero_or_one n with h2 | h2
      · have e2 : (n : Int) % 2 = 0 := by omega
        have e4 : (n : Int).tmod 2 = 0 := by rw [Int.tmod_eq_emod_of_nonneg (by omega)]; exact e2
        have HR := Lib.hid (show b ^ q * b ^ q = b ^ n by rw [← Nat.pow_add]; congr 1; omega)
        obtain ⟨r, hr⟩ : ∃ r, b ^ n = r := ⟨_, rfl⟩
        rw [hr] at HR ⊢
        clear hr IH h0 hlen hl2 h2 hq
        go_enter Tryz.func52, Tryz.ntmps52
        go_wp2_with fail
        refine (HI.out _).mono ?_
        rintro e w1 ⟨v1, rfl, o1⟩
        go_wp2_with fail
        refine (HS.out _ _ o1.isN).mono ?_
        rintro e w2 ⟨v2, rfl, o2⟩
        rw [HR.out] at o2
        have o3 := o2.after o1.below
        clear o1 o2
        go_wp2_with fail
        go_ret
        exact ⟨_, rfl, o3⟩
      · have e2 : (n : Int) % 2 = 1 := by omega
        have e4 : (n : Int).tmod 2 = 1 := by rw [Int.tmod_eq_emod_of_nonneg (by omega)]; exact e2
        have HM := Lib.hid (fun v W h => small_any (b ^ q * b ^ q) b 0 v W h (by omega) (by omega) (by omega))
        have HR := Lib.hid (show b ^ q * b ^ q * b + 0 = b ^ n by rw [← Nat.pow_add, Nat.add_zero, ← Nat.pow_succ]; congr 1; omega)
        obtain ⟨r, hr⟩ : ∃ r, b ^ n = r := ⟨_, rfl⟩
        rw [hr] at HR ⊢
        clear hr IH h0 hlen hl2 h2 hq
        go_enter Tryz.func52, Tryz.ntmps52
        go_wp2_with fail
        refine (HI.out _).mono ?_
        rintro e w1 ⟨v1, rfl, o1⟩
        go_wp2_with fail
        refine (HS.out _ _ o1.isN).mono ?_
        rintro e w2 ⟨v2, rfl, o2⟩
        go_wp2_with fail
        refine (HM.out _ _ o2.isN).mono ?_
        rintro e w3 ⟨v3, rfl, o3⟩
        rw [HR.out] at o3
        have o4 := (o3.after o2.below).after o1.below
        clear o1 o2 o3
        go_wp2_with fail
        go_ret
        exact ⟨_, rfl, o4⟩

theorem five_pos (k : Nat) : 0 < 5 ^ k := Nat.pow_pos (by omega)
theorem five_inj {j k : Nat} (h : 5 ^ j = 5 ^ k) : j = k := by
  rcases Nat.lt_trichotomy j k with h1 | h1 | h1
  · have := Nat.pow_lt_pow_right (a := 5) (by omega) h1; omega
  · exact h1
  · have := Nat.pow_lt_pow_right (a := 5) (by omega) h1; omega
/-- The exponent of a power of five, and whether a number is one. -/
def RetFive (w : World) (x : Nat) (e : Ending) (w' : World) : Prop := ∃ (n : Nat) (ok : Bool), e = .returned (.tuple #[.int .i64 (n : Int), .bool ok]) ∧ Below w.heap.size w w' ∧ Hid ((ok = true → x = 5 ^ n) ∧ (ok = false → ∀ k, x ≠ 5 ^ k)) ∧ n ≤ 400000
theorem five_bound {x k : Nat} (hx : len x ≤ 10000) (h : k = 0 ∨ 5 ^ (k - 1) < x) : k ≤ 320001 ∧ len (5 ^ k) ≤ 400000 := by
  rcases h with rfl | h
  · exact ⟨by omega, Nat.le_trans (len_le1 (by decide)) (by omega)⟩
  · have h1 : k ≤ 320001 := by
      have h1 : x < W32 ^ len x := len_le_iff.1 (Nat.le_refl _)
      have h2 : 2 ^ (k - 1) ≤ 5 ^ (k - 1) := Nat.pow_le_pow_left (by omega) _
      have h3 : W32 ^ len x = 2 ^ (32 * len x) := by
        unfold W32
        rw [show 4294967296 = 2 ^ 32 from by decide, ← Nat.pow_mul]
      rw [h3] at h1
      have h4 := (Nat.pow_lt_pow_iff_right (a := 2) (by omega)).1 (Nat.lt_of_le_of_lt h2 (Nat.lt_trans h h1))
      omega
    refine ⟨h1, ?_⟩
    have h2 := len_pow 5 k
    have h3 : len 5 ≤ 1 := len_le1 (by omega)
    have h4 : k * len 5 ≤ 320001 * 1 := Nat.mul_le_mul h1 h3
    omega
theorem below_dn (B : Nat) (w : World) (n : Nat) : Below B w (w.drewN n) := ⟨rfl, rfl, rfl, Nat.le_refl _, fun _ _ => rfl⟩

set_option maxHeartbeats 1000000 in
theorem countFives_any (x : Nat) (va : Value) (w : World) (ha : IsN w va x) (hx : len x ≤ 10000) :
    Calls Tryz.prog 49 #[va] w (RetFive w x) := by
  have HB := Lib.hid (fun k h => five_bound (x := x) (k := k) hx h)
  clear hx
  go_enter Tryz.func49, Tryz.ntmps49
  go_wp2_with fail
  refine (of_any 1 _ (by omega)).mono ?_
  rintro e w1 ⟨v1, rfl, o1⟩
  have ha1 := ha.mono o1.below
  have bb := o1.below
  have i1 := o1.isN
  clear o1 ha
  go_wp2_with fail
  go_loopw [4, 5] (fun i v wr => ∃ k : Nat, i = .int .i64 (k : Int) ∧ IsN wr v (5 ^ k) ∧ Hid (k = 0 ∨ 5 ^ (k - 1) < x) ∧ IsN wr va x ∧ Below w.heap.size w wr) (fun i _ _ => 400000 - (intOf i).toNat)
  case atStart => exact ⟨0, rfl, i1, .inl rfl, ha1, bb⟩
  case round =>
    obtain ⟨k, rfl, iv, HK, ha2, be⟩ := hrel
    clear i1 ha1 bb
    have hbs := be.size
    have hk := (HB.out k HK.out).1
    have HL := Lib.hid (HB.out k HK.out).2
    have HC := Lib.hid (fun W (hW : Below wr.heap.size wr W) => cmp_any (5 ^ k) x _ va W (iv.mono hW) (ha2.mono hW))
    rcases Nat.lt_trichotomy (5 ^ k) x with h | h | h
    · rw [cmpI_lt (Int.ofNat_lt.2 h)] at HC
      have HM := Lib.hid (fun W (hW : Below wr.heap.size wr W) => small_any (5 ^ k) 5 0 _ W (iv.mono hW) (Nat.le_trans HL.out (by omega)) (by omega) (by omega))
      have HH := Lib.hid h
      clear h iv
      go_wp2_with fail
      refine (HC.out _ (Below.refl _ _)).mono ?_
      rintro e w2 ⟨rfl, n2, rfl⟩
      have b2 := below_dn wr.heap.size wr n2
      go_wp2_with fail
      refine (HM.out _ b2).mono ?_
      rintro e w3 ⟨v3, rfl, o3⟩
      rw [Nat.add_zero, ← Nat.pow_succ] at o3
      have i3 := o3.isN
      have b3 := b2.trans (o3.below.mono b2.size)
      clear o3 HM HC
      go_wp2_with fail
      go_roundw
      case rel => exact ⟨k + 1, by go_num, i3, .inr HH.out, ha2.mono b3, be.trans (b3.mono hbs)⟩
      case measure => simp [intOf]; omega
    · rw [h, cmpI_eq] at HC
      have HH := Lib.hid h
      clear h iv
      go_wp2_with fail
      refine (HC.out _ (Below.refl _ _)).mono ?_
      rintro e w2 ⟨rfl, n2, rfl⟩
      have b2 := below_dn wr.heap.size wr n2
      go_wp2_with fail
      refine (HC.out _ b2).mono ?_
      rintro e w3 ⟨rfl, n3, rfl⟩
      have b3 := b2.trans (below_dn wr.heap.size (wr.drewN n2) n3)
      go_wp2_with fail
      go_ret2
      exact ⟨k, true, rfl, be.trans (below_dn _ _ _), ⟨fun _ => HH.out.symm, fun e => by cases e⟩, by omega⟩
    · rw [cmpI_gt (Int.ofNat_lt.2 h)] at HC
      have HH := Lib.hid (show ∀ j, x ≠ 5 ^ j from fun j e => by
        rcases HK.out with h0 | h0
        · subst h0
          have := five_pos j
          rw [Nat.pow_zero] at h
          omega
        · have h1 : 5 ^ (k - 1) < 5 ^ j := by rw [← e]; exact h0
          have h2 : 5 ^ j < 5 ^ k := by rw [← e]; exact h
          have h3 : k - 1 < j := (Nat.pow_lt_pow_iff_right (by omega)).1 h1
          have h4 : j < k := (Nat.pow_lt_pow_iff_right (by omega)).1 h2
          omega)
      clear h iv
      go_wp2_with fail
      refine (HC.out _ (Below.refl _ _)).mono ?_
      rintro e w2 ⟨rfl, n2, rfl⟩
      have b2 := below_dn wr.heap.size wr n2
      go_wp2_with fail
      refine (HC.out _ b2).mono ?_
      rintro e w3 ⟨rfl, n3, rfl⟩
      have b3 := b2.trans (below_dn wr.heap.size (wr.drewN n2) n3)
      go_wp2_with fail
      go_ret2
      exact ⟨0, false, rfl, be.trans (below_dn _ _ _), ⟨fun e => (by cases e), fun _ => HH.out⟩, by omega⟩

theorem pt_byt {D : List Nat} {m : Nat} (h : Byt D) : Byt (pt D m) := by
  have hp : Byt (pad D m) := byt_append (zs_byt _) h
  unfold pt
  split
  · exact h
  · exact byt_append (byt_take hp _) (byt_cons (by omega) (byt_drop hp _))
set_option maxHeartbeats 1000000 in
theorem point_any (D : List Nat) (m : Nat) (w : World) (hl : D.length ≤ 100000) (hm : m ≤ 100000) :
    Calls Tryz.prog 53 #[.string (str D), .int .i64 (m : Int)] w (RetS w (pt D m)) := by
  rcases Nat.eq_zero_or_pos m with h0 | h0
  · subst h0
    rw [pt_zero]
    go_enter Tryz.func53, Tryz.ntmps53
    go_wp2_with fail
    go_ret
    exact ⟨rfl, Below.refl _ _⟩
  · obtain ⟨k, hk⟩ : ∃ k, m + 1 - D.length = k := ⟨_, rfl⟩
    have HR := Lib.hid (fun W => repeat_any k W (by omega))
    have hcat : str (zs48 k) ++ str D = str (pad D m) := by rw [str_append, ← hk]; rfl
    have hs1 := str_size (zs48 k)
    have hs2 := str_size D
    have hs3 := str_size (pad D m)
    have hpl := pad_length D m
    rw [zs_length] at hs1
    obtain ⟨n, hn⟩ : ∃ n, D.length = n := ⟨_, rfl⟩
    rw [hn] at hs2 hpl hk hl
    obtain ⟨P, hP⟩ : ∃ P, (pad D m).length = P := ⟨_, rfl⟩
    rw [hP] at hs3 hpl
    obtain ⟨t, ht⟩ : ∃ t, P - m = t := ⟨_, rfl⟩
    have hx1 : (str (pad D m)).extract 0 t = str ((pad D m).take t) := by rw [str_extract]; rfl
    have hx2 : (str (pad D m)).extract t P = str ((pad D m).drop t) := by rw [str_extract, List.take_of_length_le (by rw [List.length_drop]; omega)]
    have hx3 : str ((pad D m).take t) ++ (⟨#[46]⟩ : ByteArray) = str ((pad D m).take t ++ [46]) := str_append _ [46]
    have hx4 : str ((pad D m).take t ++ [46]) ++ str ((pad D m).drop t) = str (pt D m) := by
      rw [str_append, pt_pos _ h0, hP, ht, List.append_assoc]; rfl
    have hs4 : (str ((pad D m).take t)).size = t := by rw [str_size, List.length_take]; omega
    have hs5 : (str ((pad D m).take t ++ [46])).size = t + 1 := by rw [str_size, List.length_append, List.length_take]; simp; omega
    have hs6 : (str ((pad D m).drop t)).size = m := by rw [str_size, List.length_drop]; omega
    have hm0 : ((m : Int) == 0) = false := by rw [beq_eq_false_iff_ne]; omega
    have hmax : max (0 : Int) ((m : Int) + 1 - (n : Int)) = (k : Int) := by omega
    have hPt : (P : Int) - (m : Int) = (t : Int) := by omega
    have hkn : k + n = P := by omega
    have htP : t ≤ P := by omega
    have i1 : (0 : Int) ≤ (t : Int) := by omega
    have i2 : (t : Int) ≤ (P : Int) := by omega
    have b1 : ¬ 9223372036854775807 < k + n := by omega
    have b2 : ¬ 9223372036854775807 < t + 1 := by omega
    have b3 : ¬ 9223372036854775807 < t + 1 + m := by omega
    have b4 : ¬ 9223372036854775807 ≤ t := by omega
    have hP6 : P ≤ 200001 := by omega
    obtain ⟨R, hR⟩ : ∃ R, str (pt D m) = R := ⟨_, rfl⟩
    rw [hR] at hx4
    have HRR := Lib.hid hR
    clear hR
    generalize str ((pad D m).take t ++ [46]) = s3 at *
    generalize str ((pad D m).take t) = s1 at *
    generalize str ((pad D m).drop t) = s2 at *
    generalize str (pad D m) = S at *
    generalize str (zs48 k) = z at *
    generalize str D = d at *
    clear hpl hk hn hP ht
    go_enter Tryz.func53, Tryz.ntmps53
    go_wp2_with fail
    refine (HR.out _).mono ?_
    rintro e w1 ⟨rfl, be⟩
    go_wp2_with fail
    go_region
    go_wp2_with fail
    go_ret
    exact ⟨by rw [HRR.out]; rfl, be.drew⟩

end Go.Proofs.YtbndgggjfjdfbabGreatDoor
