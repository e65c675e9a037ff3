/- The walk of DecimalHex: whatever the input, the law returns true and turns nothing that was there. -/
import Derived.Test.YtejdmmnhnbmimaaDoorAwake6
import Derived.Test.YtejdmmnhnbmimaaDoorRefHex
import Derived.Test.YtejdmmnhnbmimaaDoorBaseR
namespace Go.Proofs.YtejdmmnhnbmimaaDoor
open Go.RowKit
set_option linter.unusedVariables false
set_option linter.unusedSimpArgs false
set_option maxRecDepth 100000
attribute [local go_sem ↓] Go.wp_at_zero Go.wp_at_succ

theorem unh_hexT (x : Nat) (h : x < 18446744073709551616) (W : World) : Calls Tryd.prog 23 #[.string (str (hexT x))] W (RetHx W x 0) := by
  obtain ⟨e1, e2⟩ := unhex_hex h
  have := unhex_any (hexT x) W (hexT_byt x) (by rw [hexT_length]; omega)
  rw [e1, e2] at this
  exact this

set_option maxHeartbeats 2000000 in
theorem walk_DecimalHex (a0 : Int) (s : ByteArray) (a2 a3 : Int) (w : World) (h0 : 0 ≤ a0 ∧ a0 ≤ 18446744073709551615) (hs : s.size ≤ 9223372036854775807) (h2 : -9223372036854775808 ≤ a2 ∧ a2 ≤ 9223372036854775807) (h3 : 0 ≤ a3 ∧ a3 ≤ 255) :
    Calls Tryd.prog 7 #[.int .u64 a0, .string s, .int .i64 a2, .int .u8 a3] w (fun e w' => e = .returned (.bool true) ∧ Below w.heap.size w w') := by
  obtain ⟨l, rfl, hb⟩ := str_of s
  have hsz := str_size l
  obtain ⟨n, hn⟩ : ∃ n, l.length = n := ⟨_, rfl⟩
  rw [hn] at hsz
  rw [hsz] at hs
  obtain ⟨x, rfl⟩ : ∃ x : Nat, a0 = x := ⟨a0.toNat, by omega⟩
  obtain ⟨y, rfl⟩ : ∃ y : Nat, a3 = y := ⟨a3.toNat, by omega⟩
  rcases Nat.lt_or_ge 100 n with hbig | hsmall
  · clear hn
    go_enter Tryd.func7, Tryd.ntmps7
    go_wp2_with fail
    have L := Lz.mk0 w
    refine (awake6_any _).mono ?_
    rintro e w1 ⟨rfl, be⟩
    replace L := L.step be
    go_wp2_with fail
    go_ret
    exact ⟨rfl, L.below⟩
  · have hx : x < 18446744073709551616 := by omega
    have hy : y < 256 := by omega
    obtain ⟨m, hm⟩ : ∃ m : Nat, a2 % 16 = (m : Int) := ⟨(a2 % 16).toNat, by omega⟩
    have hm16 : m < 16 := by omega
    have H1 := Lib.hid (fun W => hex_any x W hx)
    have H2 := Lib.hid (unh_hexT x hx)
    have H3 := Lib.hid (fun W => unhex_any l W hb (by omega))
    have H4 := Lib.hid (fun W => runhex_any l W hb (by omega))
    have H5 := Lib.hid (fun W => rhex_any x W hx)
    have h6 := fun W => mod_any a2 16 W (by omega) (by omega) h2.1 h2.2
    rw [hm] at h6
    have H6 := Lib.hid h6
    have hTl := hexT_length x
    have hTb := hexT_byt x
    have HT := Lib.hid (str_size (hexT x))
    obtain ⟨T, hT⟩ : ∃ T, hexT x = T := ⟨_, rfl⟩
    rw [hT] at H1 H2 H5 hTl hTb HT
    have hSb : Byt (T.set m y) := fun z hz => (List.mem_or_eq_of_mem_set hz).elim (hTb z) (fun e => by rw [e]; exact hy)
    have hSl : (T.set m y).length = 16 := by rw [List.length_set, hTl]
    have H7 := Lib.hid (fun W => unhex_any (T.set m y) W hSb (by omega))
    have H8 := Lib.hid (fun W => runhex_any (T.set m y) W hSb (by omega))
    obtain ⟨S, hS⟩ : ∃ S, T.set m y = S := ⟨_, rfl⟩
    rw [hS] at H7 H8 hSb hSl
    have HS := Lib.hid hS
    have HSB := Lib.hid hSb
    have HSL := Lib.hid hSl
    have HTL := Lib.hid hTl
    have HTB := Lib.hid hTb
    generalize errH l = er at *
    generalize valH l = vl at *
    generalize errH S = es at *
    generalize valH S = vs at *
    clear h6 hb hn hT hTl hTb hS hSb hSl hm h2 h0 h3
    go_enter Tryd.func7, Tryd.ntmps7
    go_wp2_with fail
    have L := Lz.mk0 w
    refine (awake6_any _).mono ?_
    rintro e w1 ⟨rfl, be⟩
    replace L := L.step be
    clear be
    go_wp2_with fail
    refine (H1.out _).mono ?_
    rintro e w2 ⟨rfl, be⟩
    replace L := L.step be
    clear be
    go_wp2_with fail
    refine (H2.out _).mono ?_
    rintro e w' ⟨rfl, rfl⟩
    go_wp2_with fail
    refine (H3.out _).mono ?_
    rintro e w' ⟨rfl, rfl⟩
    go_wp2_with fail
    refine (H4.out _).mono ?_
    rintro e w' ⟨rfl, rfl⟩
    go_wp2_with fail
    refine (H5.out _).mono ?_
    rintro e w3 ⟨rfl, be⟩
    replace L := L.step be
    clear be
    obtain ⟨cp, w4, hcv, hcp, b4, hc4, hf4⟩ := conv_bytes w3 HTB.out
    rw [HTL.out] at hcv hcp hc4 hf4
    obtain ⟨g, hg⟩ : ∃ g, w3.heap.size = g := ⟨_, rfl⟩
    have hwg : w.heap.size ≤ g := by rw [← hg]; exact L.below.size
    replace L := L.step b4
    rw [hg] at hcv hc4 hf4
    clear hg b4
    go_wp2_with fail
    refine (H6.out _).mono ?_
    rintro e w' ⟨rfl, rfl⟩
    have hfm := hf4 m hm16
    have hcm := hc4 m hm16
    have hb5 := L.below.setCell (p := ⟨g, m, none⟩) hwg (.int .u8 (y : Int))
    have hcv2 : ∀ n c : Nat, n = 16 → (convert 40 9 (.slice (some ⟨g, 0, none⟩) n c)).run Tryd.prog (w4.setCell ⟨g, m, none⟩ (.int .u8 (y : Int))) = .ok (.string (str S)) (w4.setCell ⟨g, m, none⟩ (.int .u8 (y : Int))) := by
      rintro n c rfl
      refine conv_str HSB.out HSL.out (fun j hj => ?_)
      rw [← HS.out, nth_set, HTL.out]
      by_cases e : m = j
      · subst e
        rw [if_pos ⟨rfl, hm16⟩]
        exact World.cell?_setCell_same _ _ _ hcm
      · rw [if_neg (by omega)]
        rw [World.cell?_setCell_other _ _ _ _ (fun h => e (by injection h))]
        exact hc4 j hj
    have hcv3 := hcv2 16 cp rfl
    clear hcv2 hc4 hf4
    go_wp2_with fail
    refine (H7.out _).mono ?_
    rintro e w' ⟨rfl, rfl⟩
    go_wp2_with fail
    refine (H8.out _).mono ?_
    rintro e w' ⟨rfl, rfl⟩
    go_wp2_with fail
    go_ret
    exact ⟨rfl, hb5⟩

end Go.Proofs.YtejdmmnhnbmimaaDoor
