/- Walks: nat.length, Valid, Trim, Of, Uint. -/
import Derived.Test.YtajegednakenbaaDoorWords
namespace Go.Proofs.YtajegednakenbaaDoor
open Go.RowKit
set_option linter.unusedVariables false
set_option linter.unusedSimpArgs false

theorem lengthTrim {l : List Nat} {k n : Nat} (hn : l.length = n) (hk : k ≤ n) (hz : ∀ j, k ≤ j → j < n → nth l j = 0) (hp : 0 < k → nth l (k - 1) ≠ 0) : (trim l).length = k := by
  rw [trim_of (by omega) (fun j h1 h2 => hz j h1 (by omega)) hp, List.length_take]
  omega

theorem length_any (l : List Nat) (A : Option Addr) (n c : Nat) (w : World) (h : Sl w A n c l) :
    Calls Tryd.prog 66 #[.slice A n c] w fun e w' => e = .returned (.int .i64 ((trim l).length : Nat)) ∧ w = w' := by
  have hn := h.le63
  refine Calls.mono (R := fun e w' => ∃ k : Nat, e = .returned (.int .i64 k) ∧ Hid (k ≤ n ∧ (∀ j, k ≤ j → j < n → nth l j = 0) ∧ (0 < k → nth l (k - 1) ≠ 0)) ∧ w = w') ?_ ?_
  · go_enter Tryd.func66, Tryd.ntmps66
    go_wp2
    go_loop [3] (fun t => ∃ k : Nat, t = .int .i64 k ∧ k ≤ n ∧ Hid (∀ j, k ≤ j → j < n → nth l j = 0)) (fun t => (intOf t).toNat)
    case atStart => exact ⟨n, rfl, Nat.le_refl _, fun j h1 h2 => by omega⟩
    case round =>
      obtain ⟨k, rfl, hk, Hz⟩ := hrel
      rcases Nat.eq_zero_or_pos k with h0 | h0
      · subst h0
        go_wp2
        go_ret
        exact ⟨0, rfl, ⟨hk, Hz.out, by omega⟩, rfl⟩
      · obtain ⟨m, rfl⟩ : ∃ m, k = m + 1 := ⟨k - 1, by omega⟩
        obtain ⟨b, off, x, rfl, hb, hc, HX, _⟩ := h.get (Below.refl _ _) (k := m) (by omega)
        by_cases hx : x = 0
        · subst hx
          go_wp2
          go_round
          case rel =>
            refine ⟨m, by go_num, by omega, fun j h1 h2 => ?_⟩
            rcases Nat.eq_or_lt_of_le h1 with rfl | h1
            · exact HX.out
            · exact Hz.out j h1 h2
          case measure => simp [intOf]
        · have hxb : ((x : Int) == 0) = false := by simp; omega
          have HN := Lib.hid hx; clear hx
          go_wp2
          go_ret
          exact ⟨m + 1, rfl, ⟨hk, Hz.out, fun _ => by rw [Nat.add_sub_cancel, HX.out]; exact HN.out⟩, rfl⟩
  · rintro e w' ⟨k, rfl, ⟨h1, h2, h3⟩, rfl⟩
    rw [lengthTrim h.len h1 h2 h3]
    exact ⟨rfl, rfl⟩

def isTrim (l : List Nat) : Bool := decide ((trim l).length = l.length)

theorem valid_any (l : List Nat) (A : Option Addr) (n c : Nat) (w : World) (h : Sl w A n c l) :
    Calls Tryd.prog 45 #[.slice A n c] w fun e w' => e = .returned (.bool (isTrim l)) ∧ w = w' := by
  have hl := h.len
  have hn := h.le63
  refine Calls.mono (R := fun e w' => e = .returned (.bool ((((trim l).length : Nat) : Int) == (n : Int))) ∧ w = w') ?_ ?_
  · clear hl
    go_enter Tryd.func45, Tryd.ntmps45
    go_wp2_with (go_at_call 66; refine (length_any _ _ _ _ _ h).mono ?_; rintro e w' ⟨rfl, rfl⟩)
    go_ret
    exact ⟨rfl, rfl⟩
  · rintro e w' ⟨rfl, rfl⟩
    refine ⟨?_, rfl⟩
    have e1 : ((((trim l).length : Nat) : Int) == (n : Int)) = isTrim l := by
      unfold isTrim
      rw [Bool.eq_iff_iff, beq_iff_eq, decide_eq_true_iff]
      omega
    rw [e1]

theorem trim_any (l : List Nat) (A : Option Addr) (n c : Nat) (w : World) (h : Sl w A n c l) (hn : n ≤ 70368744177664) :
    Calls Tryd.prog 41 #[.slice A n c] w (RetL w (trim l)) := by
  have hk : (trim l).length ≤ n := by rw [← h.len]; exact length_trim_le l
  have H := length_any l A n c w h
  obtain ⟨k, hk'⟩ : ∃ k, k = (trim l).length := ⟨_, rfl⟩
  rw [← hk'] at hk H
  have HK := Lib.hid hk'; clear hk'
  have HL := Lib.hid H; clear H
  go_enter Tryd.func41, Tryd.ntmps41
  go_wp2_with (first
    | (go_at_call 66; refine HL.out.mono ?_; rintro e w' ⟨rfl, rfl⟩)
    | (at_make; refine wp_mk _ rfl _ _ rfl w.heap.size _ _ k rfl rfl rfl rfl (by omega) (Nat.le_refl _) ?_))
  intro w1 h1 g1
  have b1 : Below w.heap.size w w1 := (Below.refl _ _).grown g1 (Nat.le_refl _) (fun k h => by cases h)
  go_wp2_with (with_reducible refine wp_copyAll _ rfl _ _ rfl w _ k _ rfl h1 _ n c l rfl (h.mono b1) b1 ?_)
  intro w2 h2 b2
  go_wp2
  go_ret
  refine ⟨_, rfl, ?_, b2⟩
  have e : over l k (List.replicate k 0) n = trim l := by rw [over_full (by rw [List.length_replicate]; exact hk), HK.out, trim_take]
  rw [e] at h2
  exact h2

theorem own_two (w : World) (x y : Nat) (hx : x < W32) (hy : y < W32) : Own (w.alloc (.cells #[.int .u32 (x : Int), .int .u32 (y : Int)] 34)) w.heap.size (.slice (some ⟨w.heap.size, 0, none⟩) 2 2) [x, y] :=
  ⟨World.ownsRow_lit w #[.int .u32 (x : Int), .int .u32 (y : Int)] 2 (Nat.le_refl _) (by unfold maxLen; omega) rfl, small_cons hx (small_one hy)⟩

theorem of_any (n : Nat) (w : World) (hn : n < 18446744073709551616) :
    Calls Tryd.prog 44 #[.int .u64 (n : Int)] w (RetN w n) := by
  obtain ⟨x, hx⟩ : ∃ x, x = n % 4294967296 := ⟨_, rfl⟩
  obtain ⟨y, hy⟩ : ∃ y, y = n / 4294967296 := ⟨_, rfl⟩
  have ho := own_two w x y (by unfold W32; omega) (by unfold W32; omega)
  have e1 : (n : Int) % 4294967296 = (x : Int) := by omega
  have e2 : (n : Int) / 4294967296 = (y : Int) := by omega
  have hv : val [x, y] = n := by simp only [val, W32]; omega
  have hd : dig n = trim [x, y] := by rw [← hv, dig_val ho.small]
  have hk : (trim [x, y]).length ≤ 2 := length_trim_le [x, y]
  have H := length_any [x, y] _ _ _ _ ho.sl
  obtain ⟨k, hk'⟩ : ∃ k, k = (trim [x, y]).length := ⟨_, rfl⟩
  rw [← hk'] at hk H
  have hcut := ho.cut hk
  rw [hk', trim_take, ← hk', ← hd, ← e1, ← e2] at hcut
  rw [← e1, ← e2] at H
  have HL := Lib.hid H
  clear H ho e1 e2 hv hd hk' hx hy
  go_enter Tryd.func44, Tryd.ntmps44
  go_wp2_with (go_at_call 66; refine HL.out.mono ?_; rintro e w' ⟨rfl, rfl⟩)
  go_ret
  exact ⟨_, rfl, hcut, (Below.refl _ _).alloc (Nat.le_refl _) _⟩

def UintIs (x : Nat) (w : World) (e : Ending) (w' : World) : Prop := e = .returned (.tuple #[.int .u64 ((if x < 18446744073709551616 then x else 0 : Nat) : Int), .bool (decide (x < 18446744073709551616))]) ∧ ∃ n, w' = w.drewN n
theorem uintIs_yes {x : Nat} {w w' : World} {i : Int} (n : Nat) (h : x < 18446744073709551616) (hi : i = x) (hw : w' = w.drewN n) : UintIs x w (.returned (.tuple #[.int .u64 i, .bool true])) w' :=
  ⟨by rw [if_pos h, hi, decide_eq_true h], n, hw⟩
theorem uintIs_no {x : Nat} {w w' : World} (n : Nat) (h : ¬ x < 18446744073709551616) (hw : w' = w.drewN n) : UintIs x w (.returned (.tuple #[.int .u64 0, .bool false])) w' :=
  ⟨by rw [if_neg h, decide_eq_false h]; rfl, n, hw⟩

theorem uint_any (x : Nat) (v : Value) (w : World) (h : IsN w v x) :
    Calls Tryd.prog 42 #[v] w (UintIs x w) := by
  obtain ⟨A, n, c, rfl, hs⟩ := h
  have H := length_any _ A n c w hs
  have hlen := hs.len
  rw [trim_dig, hlen] at H
  have HL := Lib.hid H; clear H
  rw [length_dig] at hlen
  rcases (show n = 0 ∨ n = 1 ∨ n = 2 ∨ 3 ≤ n by omega) with rfl | rfl | rfl | h3
  · have h0 := len_eq_zero hlen
    subst h0
    clear hs hlen
    go_enter Tryd.func42, Tryd.ntmps42
    go_wp2_with (go_at_call 66; refine HL.out.mono ?_; rintro e w' ⟨rfl, rfl⟩)
    go_ret2
    exact uintIs_yes 0 (by omega) rfl rfl
  · have hd := dig_of_len1 hlen
    obtain ⟨b, off, rfl, hb, hc⟩ := hs.place (by omega)
    have hc0 := hc 0 (by omega)
    rw [hd] at hc0
    simp only [nth, List.getD_cons_zero, Nat.add_zero] at hc0
    have hx0 : x < 4294967296 := by
      have := lt_pow_len x
      rw [hlen] at this; unfold W32 at this; omega
    have hx : x < 18446744073709551616 := by omega
    have HX := Lib.hid hx
    clear hd hc hlen hs hx
    go_enter Tryd.func42, Tryd.ntmps42
    go_wp2_with (go_at_call 66; refine HL.out.mono ?_; rintro e w' ⟨rfl, rfl⟩)
    go_ret2
    exact uintIs_yes 0 HX.out rfl rfl
  · obtain ⟨hd, hy⟩ := dig_of_len2 hlen
    obtain ⟨b, off, rfl, hb, hc⟩ := hs.place (by omega)
    have hc0 := hc 0 (by omega)
    have hc1 := hc 1 (by omega)
    rw [hd] at hc0 hc1
    simp only [nth, List.getD_cons_zero, List.getD_cons_succ, Nat.add_zero] at hc0 hc1
    have hx0 : x % W32 < 4294967296 := Nat.mod_lt _ (by unfold W32; omega)
    have hx1 : x / W32 < 4294967296 := hy
    have hx : x = x % W32 + 4294967296 * (x / W32) := (Nat.mod_add_div x W32).symm
    generalize x % W32 = lo at *
    generalize x / W32 = hi at *
    have HX := Lib.hid hx
    clear hd hc hlen hs hx hy
    go_enter Tryd.func42, Tryd.ntmps42
    go_wp2_with (go_at_call 66; refine HL.out.mono ?_; rintro e w' ⟨rfl, rfl⟩)
    go_quiet (fail)
    go_wp2
    go_ret2
    exact uintIs_yes nq (by have := HX.out; omega) (by rw [HX.out]; exact or_digit hi lo hx1 hx0) rfl
  · have hx : ¬ x < 18446744073709551616 := by
      intro hlt
      have : x < W32 ^ 2 := by unfold W32; omega
      have := len_le this
      omega
    have HX := Lib.hid hx
    clear hs hlen hx
    have h0 : ((n : Int) == 0) = false := by simp; omega
    have h1 : ((n : Int) == 1) = false := by simp; omega
    have h2 : ((n : Int) == 2) = false := by simp; omega
    go_enter Tryd.func42, Tryd.ntmps42
    go_wp2_with (go_at_call 66; refine HL.out.mono ?_; rintro e w' ⟨rfl, rfl⟩)
    go_ret2
    exact uintIs_no 0 HX.out rfl
end Go.Proofs.YtajegednakenbaaDoor
