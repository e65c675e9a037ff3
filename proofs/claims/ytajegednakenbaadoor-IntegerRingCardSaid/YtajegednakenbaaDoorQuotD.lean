/- Walks: quotient.long. -/
import Derived.Test.YtajegednakenbaaDoorQuotB
import Derived.Test.YtajegednakenbaaDoorQuotC
import Derived.Test.YtajegednakenbaaDoorShrL
namespace Go.Proofs.YtajegednakenbaaDoor
open Go.RowKit
set_option linter.unusedVariables false
set_option linter.unusedSimpArgs false

/-- A store into another block. -/
theorem Own.aside {w : World} {base g n c : Nat} {l : List Nat} (h : Own w base (.slice (some ⟨g, 0, none⟩) n c) l) {g' j : Nat} (hne : g ≠ g') (v : Value) : Own (w.setCell ⟨g', j, none⟩ v) base (.slice (some ⟨g, 0, none⟩) n c) l := by
  obtain ⟨⟨h1, h2⟩, hs⟩ := h
  refine ⟨⟨h1, ?_⟩, hs⟩
  rcases h2 with h2 | ⟨g2, cap, cur, e1, e2, e3, e4⟩
  · exact .inl h2
  · refine .inr ⟨g2, cap, cur, e1, e2, ?_, e4⟩
    injection e1 with e1
    injection e1 with e1
    injection e1 with e1
    subst e1
    rw [heap_setCell_other w ⟨g', j, none⟩ g v hne]
    exact e3
theorem Own.lt {w : World} {base g n c : Nat} {l : List Nat} (h : Own w base (.slice (some ⟨g, 0, none⟩) n c) l) : g < w.heap.size := (h.1.lt g rfl).2

/-- With the highest binary digit at the top of an element, a number is as long as before. -/
theorem len_norm {y n u : Nat} (hy : len y = n + 1) (hu : nth (dig y) n = u) : len (y * 2 ^ (32 - blen u)) = n + 1 ∧ 0 < u := by
  have hyp : 0 < y := by
    rcases Nat.eq_zero_or_pos y with h | h
    · subst h; rw [len_zero] at hy; omega
    · exact h
  have ey : y = val ((dig y).take n) + W32 ^ n * u := by
    have := row_top (t := dig y) hy
    rwa [val_dig, hu] at this
  have hlo := val_lt (small_take (small_dig y) n)
  rw [List.length_take, length_dig, Nat.min_eq_left (by omega)] at hlo
  have hp := pow_len_le hyp
  rw [hy, Nat.add_sub_cancel] at hp
  have hu0 : 0 < u := by
    rcases Nat.eq_zero_or_pos u with h | h
    · subst h; rw [Nat.mul_zero, Nat.add_zero] at ey; omega
    · exact h
  have hu2 : u < 2 ^ 32 := by rw [← hu]; exact (small_dig y).get n
  refine ⟨Nat.le_antisymm ?_ ?_, hu0⟩
  · apply len_le
    have hb := lt_two_pow_blen u
    have hb2 := blen_le hu2
    have h1 : y < W32 ^ n * 2 ^ blen u := by
      have := Nat.mul_le_mul_left (W32 ^ n) (show u + 1 ≤ 2 ^ blen u from hb)
      rw [Nat.mul_add] at this
      omega
    have h2 := Nat.mul_lt_mul_of_pos_right h1 (Nat.pow_pos (n := 32 - blen u) (show 0 < 2 by omega))
    rw [Nat.mul_assoc, ← Nat.pow_add, show blen u + (32 - blen u) = 32 from by omega] at h2
    rw [Nat.pow_succ]
    exact h2
  · rw [← hy]
    exact len_mono (Nat.le_mul_of_pos_right _ (Nat.pow_pos (by omega)))
theorem top_lt {x y n k l : Nat} (hx : len x ≤ n + k) (hy : len y = n + 1) : x * 2 ^ l < W32 ^ k * (y * 2 ^ l) := by
  have hyp : 0 < y := by
    rcases Nat.eq_zero_or_pos y with h | h
    · subst h; rw [len_zero] at hy; omega
    · exact h
  have hp := pow_len_le hyp
  rw [hy, Nat.add_sub_cancel] at hp
  rw [← Nat.mul_assoc]
  refine Nat.mul_lt_mul_of_pos_right ?_ (Nat.pow_pos (by omega))
  refine Nat.lt_of_lt_of_le (len_le_iff.1 hx) ?_
  rw [Nat.pow_add, Nat.mul_comm]
  exact Nat.mul_le_mul_left _ hp
theorem val_pad {x m : Nat} (h : len x ≤ m) : val (over (dig x) m (List.replicate m 0) (len x)) = x ∧ (over (dig x) m (List.replicate m 0) (len x)).length = m := by
  unfold over
  rw [List.take_of_length_le (l := dig x) (by rw [length_dig]; exact h), List.drop_replicate, val_append, val_dig, val_replicate]
  refine ⟨by simp, ?_⟩
  rw [List.length_append, length_dig, List.length_replicate]
  omega
theorem row_cut {lo mid z : List Nat} {j u : Nat} (hl : lo.length = j + 1) (hu : nth lo j = u) : lo ++ mid ++ z = lo.take j ++ (u :: mid) ++ z := by
  have := take_succ_nth lo j (by omega)
  rw [List.take_of_length_le (Nat.le_of_eq hl), hu] at this
  have e : lo ++ mid ++ z = (lo.take j ++ [u]) ++ mid ++ z := by rw [← this]
  rw [e]
  simp
theorem div_norm (x y l : Nat) : x * 2 ^ l / (y * 2 ^ l) = x / y ∧ x * 2 ^ l % (y * 2 ^ l) / 2 ^ l = x % y := by
  have hp : 0 < 2 ^ l := Nat.pow_pos (by omega)
  refine ⟨Nat.mul_div_mul_right _ _ hp, ?_⟩
  rw [Nat.mul_mod_mul_right, Nat.mul_div_cancel _ hp]

/-- A quotient and a remainder, both new. -/
def RetQR (w : World) (q r : Nat) (e : Ending) (w' : World) : Prop := ∃ vq vr, e = .returned (.tuple #[vq, vr]) ∧ Own w' w.heap.size vq (dig q) ∧ Own w' w.heap.size vr (dig r) ∧ Below w.heap.size w w'

set_option maxHeartbeats 2000000 in
theorem long_any (x y : Nat) (va vb : Value) (w : World) (ha : IsN w va x) (hb : IsN w vb y) (hyx : y ≤ x) (hx : len x ≤ 274877906944) (hy : 0 < len y) :
    Calls Tryd.prog 73 #[va, vb] w (RetQR w (x / y) (x % y)) := by
  have HA := Lib.hid ha
  have HB := Lib.hid hb
  obtain ⟨A, m, c, rfl, ha⟩ := ha
  obtain ⟨B, n', d, rfl, hb⟩ := hb
  have hlx : len x = m := ha.len
  have hly : len y = n' := hb.len
  have hnm := len_mono hyx
  obtain ⟨n, rfl⟩ : ∃ n, n' = n + 1 := ⟨n' - 1, by omega⟩
  obtain ⟨k0, rfl⟩ : ∃ k0, m = n + k0 := ⟨m - n, by omega⟩
  obtain ⟨b, off, u, rfl, _, huc, HU, hu⟩ := hb.get (Below.refl _ w) (k := n) (by omega)
  obtain ⟨hl1, hup⟩ := len_norm hly HU.out
  have HLZ := Lib.hid (lz32_any u w hu)
  have hl31 : 32 - blen u < 32 := by
    have := blen_pos hup
    omega
  generalize 32 - blen u = l at *
  have HTL := Lib.hid (top_lt (l := l) (n := n) (k := k0) (by omega) hly : x * 2 ^ l < W32 ^ k0 * (y * 2 ^ l))
  have HY1 := Lib.hid (shl_any y 0 l _ w HB.out (by omega) hl31 (by omega))
  have hlX : len (x * 2 ^ l) ≤ n + k0 + 1 := by
    have h1 := len_mul x (2 ^ l)
    have h2 : len (2 ^ l) ≤ 1 := len_le (by rw [Nat.pow_one]; exact Nat.pow_lt_pow_right (n := 32) (by omega) hl31)
    omega
  have HDN := Lib.hid (div_norm x y l)
  have HPAD := Lib.hid (val_pad hlX)
  have HX1 := Lib.hid (fun W h => shl_any x 0 l (Value.slice A (n + k0) c) W h (by omega) hl31 (by omega))
  rw [Nat.mul_zero, Nat.zero_add] at HX1 HY1
  have HLX := Lib.hid hlx
  have HLY := Lib.hid hly
  have HL1 := Lib.hid hl1
  have hm : n + k0 ≤ 274877906944 := by omega
  clear hlx hly hyx hnm hl1 hy hx HU
  obtain ⟨X, hX⟩ : ∃ X, X = x * 2 ^ l := ⟨_, rfl⟩
  obtain ⟨Y, hY⟩ : ∃ Y, Y = y * 2 ^ l := ⟨_, rfl⟩
  rw [← hX] at HTL HDN HPAD hlX HX1
  rw [← hY] at HTL HDN HY1
  have HLY2 := Lib.hid (show len Y = n + 1 by rw [hY]; exact HL1.out)
  clear hX hY
  go_enter Tryd.func73, Tryd.ntmps73
  go_wp2_with fail
  refine HLZ.out.mono ?_
  rintro e w' ⟨rfl, rfl⟩
  go_wp2_with fail
  refine HY1.out.mono ?_
  rintro e w2 ⟨vY, rfl, oY⟩
  obtain ⟨BY, nY, cY, rfl⟩ := oY.slice
  have hYs := oY.own.sl
  obtain rfl : nY = n + 1 := by rw [← HLY2.out]; exact hYs.len.symm
  go_wp2_with (at_make; refine wp_mk _ rfl _ _ rfl w2.heap.size _ _ (n + k0 + 1) rfl rfl (by omega) (by omega) (by omega) (Nat.le_refl _) ?_)
  intro w3 h3 g3
  have b3 : Below w2.heap.size w2 w3 := (Below.refl _ _).grown g3 (Nat.le_refl _) (fun k h => by cases h)
  obtain ⟨g, hg⟩ : ∃ g, g = w2.heap.size := ⟨_, rfl⟩
  have h3' : Own w3 w2.heap.size (.slice (some ⟨g, 0, none⟩) (n + k0 + 1) (n + k0 + 1)) (List.replicate (n + k0 + 1) 0) := by rw [hg]; exact h3
  rw [← hg]
  have HG := Lib.hid hg; clear hg h3 g3
  have b13 := oY.below.trans (b3.mono oY.below.size)
  have HX2 := Lib.hid (HX1.out w3 (HA.out.mono b13))
  go_wp2_with fail
  refine HX2.out.mono ?_
  rintro e w4 ⟨vX, rfl, oX⟩
  obtain ⟨AX, nX, cX, rfl⟩ := oX.slice
  have hX := oX.own.sl
  have b4 := b3.trans (oX.below.mono b3.size)
  have h4 := h3'.below oX.below
  clear h3' b3
  go_wp2_with (with_reducible refine wp_copyAll _ rfl _ _ rfl w2 _ (n + k0 + 1) _ rfl h4 _ nX cX _ rfl hX b4 ?_)
  intro w5 h5 b5
  obtain rfl : nX = len X := hX.len.symm
  obtain ⟨hp1, hp2⟩ := HPAD.out
  generalize over (dig X) (n + k0 + 1) (List.replicate (n + k0 + 1) 0) (len X) = R at *
  have HL0 := Lib.hid (longSt_start (n := n + 1) (k := k0) h5.small hp1 (by omega) HTL.out)
  have hRl : R = R.take k0 ++ R.drop k0 ++ [] := by rw [List.append_nil, List.take_append_drop]
  rw [hRl] at h5
  clear HX2 h4 b4 hX oX HPAD hp1 hp2 hRl huc HLZ HX1 HY1 hlX ha hb
  go_wp2_with (at_make; refine wp_mk _ rfl _ _ rfl w5.heap.size _ _ k0 rfl rfl (by omega) (by omega) (by omega) (Nat.le_refl _) ?_)
  intro w6 h6 g6
  have b56 : Below w5.heap.size w5 w6 := (Below.refl _ _).grown g6 (Nat.le_refl _) (fun k h => by cases h)
  have b6 := b5.trans (b56.mono b5.size)
  have h5' := h5.below b56
  have hgh := h5.lt
  clear g6 b56
  obtain ⟨h, hh⟩ : ∃ h, h = w5.heap.size := ⟨_, rfl⟩
  rw [← hh] at h6 hgh ⊢
  have hgh2 : g ≠ h := by omega
  have hgh3 : w2.heap.size ≤ h := by rw [hh]; exact b5.size
  clear hh h5 b5
  go_wp2_with fail
  go_loopw [10] (fun i wr => ∃ (t : Int) (k : Nat) (lo mid z qs : List Nat), i = .int .i64 t ∧ t = (k : Int) - 1 ∧ k ≤ k0 ∧ LongSt X Y (n + 1) k lo mid z qs ∧ Own wr w2.heap.size (.slice (some ⟨g, 0, none⟩) (n + k0 + 1) (n + k0 + 1)) (lo ++ mid ++ z) ∧ Own wr h (.slice (some ⟨h, 0, none⟩) k0 k0) (List.replicate k 0 ++ qs) ∧ Below w2.heap.size w2 wr) (fun i _ => (intOf i + 1).toNat)
  case atStart => exact ⟨_, k0, _, _, [], [], rfl, rfl, by omega, HL0.out, h5', by rw [List.append_nil]; exact h6, b6⟩
  case round =>
    obtain ⟨t, k, lo, mid, z, qs, rfl, ht, hk, HS, h1, h2, hbe⟩ := hrel
    clear h5' h6 b6 HL0
    cases k with
    | zero =>
      obtain rfl : t = -1 := by omega
      rw [List.replicate_zero, List.nil_append] at h2
      obtain ⟨e1, e2⟩ := longSt_end HS
      have HTR := Lib.hid (trim_any qs _ _ _ wr h2.sl (by omega))
      have HSR := Lib.hid (fun W (hW : Below wr.heap.size wr W) => shrL_any (X % Y) 0 l (n + k0 + 1) (n + k0 + 1) _ (lo ++ mid ++ z) W (h1.sl.mono hW) e2.symm (by omega) hl31 (by omega))
      rw [Nat.mul_zero, Nat.zero_add, HDN.out.2] at HSR
      have E1 := Lib.hid (show trim qs = dig (x / y) by rw [← dig_val h2.small, e1, HDN.out.1])
      clear h1 h2 e1 e2 HS ht
      go_wp2_with fail
      refine HTR.out.mono ?_
      rintro e w7 ⟨v7, rfl, o7⟩
      rw [E1.out] at o7
      go_wp2_with fail
      refine (HSR.out w7 o7.below).mono ?_
      rintro e w8 ⟨v8, rfl, o8⟩
      have hb8 := oY.below.trans (hbe.mono oY.below.size)
      have hb9 := hb8.trans (o7.below.mono hb8.size)
      go_wp2_with fail
      go_ret2
      exact ⟨_, _, rfl, (o7.own.below o8.below).base_le hb8.size, o8.own.base_le hb9.size, hb9.trans (o8.below.mono hb9.size)⟩
    | succ j =>
      obtain rfl : t = (j : Int) := by omega
      obtain ⟨v, hv⟩ : ∃ v, nth lo j = v := ⟨_, rfl⟩
      have hlo : lo.length = j + 1 := HS.1
      have hsm := h1.small
      rw [row_cut hlo hv] at h1
      have hv32 : v < 4294967296 := by
        have hsl : Small lo := fun y hy => hsm y (List.mem_append_left _ (List.mem_append_left _ hy))
        rw [← hv]
        exact hsl.get j
      have hlt := longSt_lt HS hv32
      have hYp : 0 < Y := by
        rcases Nat.eq_zero_or_pos Y with h0 | h0
        · subst h0; omega
        · exact h0
      have hq : val (v :: mid) / Y < 4294967296 := (Nat.div_lt_iff_lt_mul hYp).2 hlt
      have hsm2 : Small (v :: mid) := fun y hy => h1.small y (List.mem_append_left _ (List.mem_append_right _ hy))
      have HD := Lib.hid (divide_any w2 wr g j (n + k0 + 1) (n + k0 + 1 - j) n cY Y BY (lo.take j) (v :: mid) z h1 (by rw [List.length_take]; omega) (by rw [List.length_cons, HS.2.1]) (by omega) (by omega) hYs hbe (by omega) hlt hsm2)
      have HST := Lib.hid (fun s hs hv' => longSt_step (s := s) HS hv hYp hs hv')
      have H2 := Lib.hid h2
      have hgle := h1.row.2
      clear h1 h2 hlo hsm ht hlt hv HS hsm2
      obtain ⟨q, hq2⟩ : ∃ q, val (v :: mid) / Y = q := ⟨_, rfl⟩
      rw [hq2] at HST hq
      have HQ2 := Lib.hid hq2
      clear hq2
      go_wp2_with fail
      rw [show j + (n + 1) + 1 - j = n + 1 + 1 from by omega]
      refine HD.out.mono ?_
      rintro e w7 ⟨s, he, hsl, hsv, h7, hgr⟩
      rw [HQ2.out] at he
      subst he
      have hs3 := HST.out s hsl hsv
      have hb7 := grown_below hbe hgr hgle
      have h27 := H2.out.grown hgr (.inr (fun e => hgh2 (by injection e with e; exact e.symm)))
      rw [List.append_assoc (lo.take j ++ s)] at h7
      have hfree := h27.free j
      obtain ⟨z0, hz0, _, _⟩ := h27.cell (j := j) (by omega)
      have hst := h27.store (j := j) (x := q) hq
      rw [set_rep] at hst
      have h17 := h7.aside (g' := h) (j := j) hgh2 (.int .u32 (q : Int))
      have hb8 := hb7.setCell (p := ⟨h, j, none⟩) hgh3 (.int .u32 (q : Int))
      have H1 := Lib.hid h17
      have H3 := Lib.hid hst
      have HS3 := Lib.hid hs3
      clear h17 hst h27 h7 hs3 hsl hsv HD HST H2
      go_wp2_with fail
      go_roundw
      case rel => exact ⟨(j : Int) - 1, j, _, _, _, _, by go_num, rfl, by omega, HS3.out, H1.out, H3.out, hb8⟩
      case measure => simp [intOf] <;> omega

end Go.Proofs.YtajegednakenbaaDoor
