/- The reference's Hex and Unhex. -/
import Derived.Test.YtejdmmnhnbmimaaDoorHexA
namespace Go.Proofs.YtejdmmnhnbmimaaDoor
open Go.RowKit
set_option linter.unusedVariables false
set_option linter.unusedSimpArgs false
set_option maxRecDepth 8000

theorem hexs_extract {d : Nat} (h : d < 16) : (⟨#[48, 49, 50, 51, 52, 53, 54, 55, 56, 57, 97, 98, 99, 100, 101, 102]⟩ : ByteArray).extract d (d + 1) = str [hexd d] := by
  have e : (⟨#[48, 49, 50, 51, 52, 53, 54, 55, 56, 57, 97, 98, 99, 100, 101, 102]⟩ : ByteArray) = str hexs := rfl
  rw [e, str_extract, Nat.add_sub_cancel_left]
  have : ∀ d : Nat, d < 16 → (hexs.drop d).take 1 = [hexd d] := by decide
  rw [this d h]

set_option maxHeartbeats 400000 in
theorem rhex_any (x : Nat) (w : World) (hx : x < 18446744073709551616) :
    Calls Tryd.prog 25 #[.int .u64 (x : Int)] w (RetS w (hexT x)) := by
  obtain ⟨L, hL⟩ : ∃ L, L = hexT x := ⟨_, rfl⟩
  rw [← hL]
  have HL := Lib.hid hL; clear hL
  go_enter Tryd.func25, Tryd.ntmps25
  go_wp2_with fail
  go_loop [0, 3, 4] (fun a s i => ∃ (k y : Nat) (S : List Nat), i = .int .i64 k ∧ k ≤ 16 ∧ a = .int .u64 y ∧ Hid (y = x / 16 ^ k) ∧ y < 18446744073709551616 ∧ s = .string (str S) ∧ Hid (S = (lh k x).reverse)) (fun _ _ i => 16 - (intOf i).toNat)
  case atStart => exact ⟨0, x, [], rfl, by omega, rfl, (show x = x / 16 ^ 0 by rw [Nat.pow_zero, Nat.div_one]), hx, rfl, rfl⟩
  case round =>
    obtain ⟨k, y, S, rfl, hk, rfl, HY, hy, rfl, HS⟩ := hrel
    have hsz := str_size S
    have hSl : S.length = k := by rw [HS.out, List.length_reverse, lh_length]
    rw [hSl] at hsz
    clear hSl
    rcases Nat.eq_or_lt_of_le hk with rfl | hk16
    · have HE := Lib.hid (show L = S by rw [HL.out, HS.out]; rfl)
      go_wp2_with fail
      go_ret
      exact ⟨by rw [HE.out]; rfl, Below.refl _ _⟩
    · obtain ⟨d, hd⟩ : ∃ d, d = y % 16 := ⟨_, rfl⟩
      have hd16 : d < 16 := by omega
      have ed : (y : Int) % 16 = (d : Int) := by omega
      obtain ⟨c, hc⟩ : ∃ c, c = hexd d := ⟨_, rfl⟩
      have hex := hexs_extract hd16
      rw [← hc] at hex
      have hcat : str [c] ++ str S = str (c :: S) := by rw [str_append]; rfl
      have hs1 : (str [c]).size = 1 := str_size [c]
      have HN := Lib.hid (show c :: S = (lh (k + 1) x).reverse by rw [lh_snoc, List.reverse_append, ← HS.out, hc, hd, HY.out]; rfl)
      have HY2 := Lib.hid (show y / 16 = x / 16 ^ (k + 1) by rw [HY.out, Nat.pow_succ, Nat.div_div_eq_div_mul])
      clear hd hc
      go_wp2_with fail
      go_round
      case rel => exact ⟨k + 1, y / 16, c :: S, by go_num, by omega, by congr 1, HY2.out, by omega, rfl, HN.out⟩
      case measure => simp [intOf]; omega

theorem hix_low {c : Nat} (h : c < 48) : hix c = -1 := by unfold hix; rw [if_neg (by omega), if_neg (by omega)]
theorem hix_dec {c : Nat} (h1 : 48 ≤ c) (h2 : c ≤ 57) : hix c = (c : Int) - 48 := by unfold hix; rw [if_pos ⟨h1, h2⟩]
theorem hix_mid {c : Nat} (h1 : 57 < c) (h2 : c < 97) : hix c = -1 := by unfold hix; rw [if_neg (by omega), if_neg (by omega)]
theorem hix_let {c : Nat} (h1 : 97 ≤ c) (h2 : c ≤ 102) : hix c = (c : Int) - 87 := by unfold hix; rw [if_neg (by omega), if_pos ⟨h1, h2⟩]
theorem hix_high {c : Nat} (h : 102 < c) : hix c = -1 := by unfold hix; rw [if_neg (by omega), if_neg (by omega)]

set_option maxHeartbeats 1000000 in
theorem runhex_any (l : List Nat) (w : World) (hb : Byt l) (hl : l.length ≤ 1000000) :
    Calls Tryd.prog 24 #[.string (str l)] w (RetHx w (valH l) (errH l)) := by
  have hsz := str_size l
  obtain ⟨n, hn⟩ : ∃ n, l.length = n := ⟨_, rfl⟩
  rw [hn] at hsz hl
  have HN := Lib.hid hn
  clear hn
  by_cases h16 : n = 16
  · subst h16
    refine Calls.mono (R := fun e w' => (okH l = true ∧ e = .returned (.tuple #[.int .u64 ((unh l : Nat) : Int), .int .i64 0]) ∨ okH l = false ∧ e = .returned (.tuple #[.int .u64 0, .int .i64 6])) ∧ w = w') ?_ ?_
    · go_enter Tryd.func24, Tryd.ntmps24
      go_wp2_with fail
      go_loop [4, 5] (fun a i => ∃ (k y : Nat), i = .int .i64 k ∧ k ≤ 16 ∧ a = .int .u64 y ∧ Hid (y = unh (l.take k)) ∧ Hid ((l.take k).all isH = true)) (fun _ i => 16 - (intOf i).toNat)
      case atStart => exact ⟨0, 0, rfl, by omega, rfl, rfl, rfl⟩
      case round =>
        obtain ⟨k, y, rfl, hk, rfl, HY, HA⟩ := hrel
        rcases Nat.eq_or_lt_of_le hk with rfl | hk16
        · go_wp2_with fail
          go_ret2
          have e1 : l.take 16 = l := List.take_of_length_le (by rw [HN.out]; omega)
          refine ⟨.inl ⟨okH_good (by have := HA.out; rwa [e1] at this) HN.out, ?_⟩, rfl⟩
          rw [HY.out, e1]
          rfl
        · obtain ⟨c, hc⟩ : ∃ c, nth l k = c := ⟨_, rfl⟩
          have hc2 : c < 256 := by rw [← hc]; exact byt_get hb k
          have hget : ∀ h, ((str l)[k]'h).toNat = c := fun h => (str_get hb k h).trans hc
          have hyb2 : y < 1152921504606846976 := by
            rw [HY.out]
            have h1 := unh_lt HA.out
            have h2 : (l.take k).length ≤ 15 := by rw [List.length_take]; omega
            exact Nat.lt_of_lt_of_le h1 (Nat.le_trans (Nat.pow_le_pow_right (by decide) h2) (by decide))
          have HCC := Lib.hid hc
          have HF := Lib.hid (fun (h : hix c = -1) => show okH l = false from okH_bad (not_all (k := k) (by rw [HN.out]; exact hk16) (by rw [HCC.out]; unfold isH; rw [h]; rfl)))
          have HT := Lib.hid (fun (d : Nat) (hd : hix c = (d : Int)) => show (l.take (k + 1)).all isH = true from all_take HA.out (by rw [HN.out]; exact hk16) (by rw [HCC.out]; unfold isH; rw [hd]; exact decide_eq_true (by omega)))
          have HU := Lib.hid (fun (d : Nat) (hd : hix c = (d : Int)) => show 16 * y + d = unh (l.take (k + 1)) by rw [take_snoc (by rw [HN.out]; exact hk16), unh_snoc, HCC.out, hd, HY.out]; omega)
          clear hc
          rcases (show c < 48 ∨ (48 ≤ c ∧ c ≤ 57) ∨ (57 < c ∧ c < 97) ∨ (97 ≤ c ∧ c ≤ 102) ∨ 102 < c by omega) with h | ⟨h1, h2⟩ | ⟨h1, h2⟩ | ⟨h1, h2⟩ | h
          · have HB := Lib.hid (HF.out (hix_low h))
            go_wp2_with fail
            go_ret2
            exact ⟨.inr ⟨HB.out, rfl⟩, rfl⟩
          · obtain ⟨d, rfl⟩ : ∃ d, c = 48 + d := ⟨c - 48, by omega⟩
            have hx := hix_dec h1 h2
            have hd10 : d < 10 := by omega
            have HT2 := Lib.hid (HT.out d (by rw [hx]; omega))
            have HU2 := Lib.hid (HU.out d (by rw [hx]; omega))
            clear hx
            go_wp2_with fail
            go_round
            case rel => exact ⟨k + 1, 16 * y + d, by go_num, by omega, by congr 1; omega, HU2.out, HT2.out⟩
            case measure => simp [intOf]; omega
          · have HB := Lib.hid (HF.out (hix_mid h1 h2))
            go_wp2_with fail
            go_ret2
            exact ⟨.inr ⟨HB.out, rfl⟩, rfl⟩
          · obtain ⟨d, rfl⟩ : ∃ d, c = 97 + d := ⟨c - 97, by omega⟩
            have hx := hix_let h1 h2
            have hd10 : d < 6 := by omega
            have HT2 := Lib.hid (HT.out (d + 10) (by rw [hx]; omega))
            have HU2 := Lib.hid (HU.out (d + 10) (by rw [hx]; omega))
            clear hx
            go_wp2_with fail
            go_round
            case rel => exact ⟨k + 1, 16 * y + (d + 10), by go_num, by omega, by congr 1; omega, HU2.out, HT2.out⟩
            case measure => simp [intOf]; omega
          · have HB := Lib.hid (HF.out (hix_high h))
            go_wp2_with fail
            go_ret2
            exact ⟨.inr ⟨HB.out, rfl⟩, rfl⟩
    · rintro e w' ⟨h, rfl⟩
      rcases h with ⟨h, rfl⟩ | ⟨h, rfl⟩
      · obtain ⟨e1, e2⟩ := errH_yes h
        exact ⟨by rw [e1, e2], rfl⟩
      · obtain ⟨e1, e2⟩ := errH_no h
        exact ⟨by rw [e1, e2]; rfl, rfl⟩
  · obtain ⟨e1, e2⟩ := errH_no (okH_len (l := l) (by rw [HN.out]; exact h16))
    rw [e1, e2]
    have hne : ((n : Int) == 16) = false := by simp; omega
    go_enter Tryd.func24, Tryd.ntmps24
    go_wp2_with fail
    go_ret2
    exact ⟨rfl, rfl⟩

end Go.Proofs.YtejdmmnhnbmimaaDoor
