/- slices.Reverse of a row of bytes; bytes.TrimRight of zeros. -/
import Derived.Test.YtpgiolbnmlbjbaaGreatDoorByt
namespace Go.Proofs.YtpgiolbnmlbjbaaGreatDoor
open Go.RowKit
set_option linter.unusedVariables false
set_option linter.unusedSimpArgs false
set_option maxRecDepth 100000

/-- The length of a slice's value. -/
def lenOf : Value → Nat
  | .slice _ n _ => n
  | _ => 0

/-- What Reverse has made when k places at either end are done. -/
def RevIs (l : List Nat) (n k : Nat) (d : List Nat) : Prop := d.length = n ∧ ∀ p, p < n → nth d p = if p < k ∨ n < p + 1 + k then nth l (n - 1 - p) else nth l p
theorem revIs_zero {l : List Nat} {n : Nat} (h : l.length = n) : RevIs l n 0 l := ⟨h, fun p hp => by rw [if_neg (by omega)]⟩
theorem revIs_step {l d : List Nat} {n k : Nat} (h : RevIs l n k d) {j x y : Nat} (hj : j + 1 + k = n) (hk : k < j) (hx : nth d k = x) (hy : nth d j = y) : RevIs l n (k + 1) ((d.set k y).set j x) := by
  obtain ⟨h1, h2⟩ := h
  refine ⟨by rw [List.length_set, List.length_set, h1], fun p hp => ?_⟩
  have hk0 := h2 k (by omega)
  have hj0 := h2 j (by omega)
  rw [if_neg (by omega), hx] at hk0
  rw [if_neg (by omega), hy] at hj0
  rw [nth_set, List.length_set, nth_set, h1]
  by_cases e1 : j = p
  · subst e1
    rw [if_pos ⟨rfl, by omega⟩, if_pos (by omega), hk0, show n - 1 - j = k from by omega]
  · rw [if_neg (by omega)]
    by_cases e2 : k = p
    · subst e2
      rw [if_pos ⟨rfl, by omega⟩, if_pos (by omega), hj0, show n - 1 - k = j from by omega]
    · rw [if_neg (by omega), h2 p hp]
      by_cases e3 : p < k ∨ n < p + 1 + k
      · rw [if_pos e3, if_pos (by omega)]
      · rw [if_neg e3, if_neg (by omega)]
theorem revIs_end {l d : List Nat} {n k : Nat} (h : RevIs l n k d) (hl : l.length = n) (hk : n ≤ 2 * k + 1) : d = l.reverse := by
  obtain ⟨h1, h2⟩ := h
  refine ext_nth (by rw [List.length_reverse]; omega) (fun p hp => ?_)
  rw [nth_reverse (by omega), h2 p (by omega), hl]
  by_cases e : p < k ∨ n < p + 1 + k
  · rw [if_pos e]
  · rw [if_neg e]
    congr 1
    omega

set_option maxHeartbeats 1000000 in
theorem reverse_any (l : List Nat) (g n c : Nat) (w0 w : World) (hb : Below w0.heap.size w0 w) (h : OwnB w w0.heap.size (.slice (some ⟨g, 0, none⟩) n c) l) (hg : w0.heap.size ≤ g) (hn : n ≤ 9223372036854775807) :
    Calls Tryz.prog 137 #[.slice (some ⟨g, 0, none⟩) n c] w fun e w' => e = .returned (.tuple #[]) ∧ OwnB w' w0.heap.size (.slice (some ⟨g, 0, none⟩) n c) l.reverse ∧ Below w0.heap.size w0 w' := by
  have HL := Lib.hid h.len
  go_enter Tryz.func137, Tryz.ntmps137
  go_wp2_with fail
  go_loopw [2, 3] (fun i j wr => ∃ (k : Nat) (d : List Nat), i = .int .i64 k ∧ j = .int .i64 ((n : Int) - 1 - k) ∧ 2 * k ≤ n + 1 ∧ Hid (RevIs l n k d) ∧ OwnB wr w0.heap.size (.slice (some ⟨g, 0, none⟩) n c) d ∧ Below w0.heap.size w0 wr) (fun i _ _ => n + 1 - (intOf i).toNat)
  case atStart => exact ⟨0, l, rfl, by simp, by omega, revIs_zero HL.out, h, hb⟩
  case round =>
    obtain ⟨k, d, rfl, rfl, hk, HR, hown, hbe⟩ := hrel
    clear h hb
    by_cases hlt : 2 * k + 1 < n
    · obtain ⟨j, hj⟩ : ∃ j, j + 1 + k = n := ⟨n - 1 - k, by omega⟩
      have hjk : k < j := by omega
      have ej : (n : Int) - 1 - (k : Int) = (j : Int) := by omega
      rw [ej]
      have ci := hown.cell (j := k) (by omega)
      have cj := hown.cell (j := j) (by omega)
      have fi := hown.free k
      have fj := hown.free j
      obtain ⟨x, hx⟩ : ∃ x, nth d k = x := ⟨_, rfl⟩
      obtain ⟨y, hy⟩ : ∃ y, nth d j = y := ⟨_, rfl⟩
      rw [hx] at ci
      rw [hy] at cj
      have hx2 := byt_get hown.byt k
      have hy2 := byt_get hown.byt j
      rw [hx] at hx2
      rw [hy] at hy2
      have HR2 := Lib.hid (revIs_step HR.out hj hjk hx hy)
      have HO := Lib.hid hown
      have HB := Lib.hid hbe
      have EJ := Lib.hid hj
      clear hx hy hown hbe HR ej
      go_wp2_with fail
      go_region
      go_wp2_with fail
      go_roundw
      case rel =>
        refine ⟨k + 1, _, by go_num, ?_, by omega, HR2.out, ?_, ?_⟩
        · congr 1; have := EJ.out; omega
        · exact ((HO.out.store (j := k) hy2).store (j := j) hx2).below (Below.refl _ _).drew
        · exact ((HB.out.setCell (p := ⟨g, k, none⟩) hg _).setCell (p := ⟨g, j, none⟩) hg _).drew
      case measure => simp [intOf]; omega
    · go_wp2_with fail
      go_end0
      exact ⟨rfl, by rw [← revIs_end HR.out HL.out (by omega)]; exact hown, hbe⟩

theorem trimByte_any (l : List Nat) (g n c base : Nat) (w : World) (h : OwnB w base (.slice (some ⟨g, 0, none⟩) n c) l) (hn : n ≤ 9223372036854775807) :
    Calls Tryz.prog 150 #[.slice (some ⟨g, 0, none⟩) n c, .int .u8 48] w fun e w' => e = .returned (.slice (some ⟨g, 0, none⟩) (k48 l) c) ∧ w = w' := by
  have HL := Lib.hid h.len
  have hcap := h.cap.1
  refine Calls.mono (R := fun e w' => ∃ k : Nat, e = .returned (.slice (some ⟨g, 0, none⟩) k c) ∧ Hid (k ≤ n ∧ (∀ j, k ≤ j → j < n → nth l j = 48) ∧ (0 < k → nth l (k - 1) ≠ 48)) ∧ w = w') ?_ ?_
  · go_enter Tryz.func150, Tryz.ntmps150
    go_wp2
    go_loop [0] (fun t => ∃ k : Nat, t = .slice (some ⟨g, 0, none⟩) k c ∧ k ≤ n ∧ Hid (∀ j, k ≤ j → j < n → nth l j = 48)) (fun t => lenOf t)
    case atStart => exact ⟨n, rfl, Nat.le_refl _, fun j h1 h2 => by omega⟩
    case round =>
      obtain ⟨k, rfl, hk, Hz⟩ := hrel
      rcases Nat.eq_zero_or_pos k with h0 | h0
      · subst h0
        go_wp2
        go_ret
        exact ⟨0, rfl, ⟨hk, Hz.out, by omega⟩, rfl⟩
      · obtain ⟨m, rfl⟩ : ∃ m, k = m + 1 := ⟨k - 1, by omega⟩
        have hc := h.cell (j := m) (by omega)
        obtain ⟨x, hx⟩ : ∃ x, nth l m = x := ⟨_, rfl⟩
        rw [hx] at hc
        have HX := Lib.hid hx; clear hx
        have HH := Lib.hid h
        clear h
        by_cases hx : x = 48
        · subst hx
          go_wp2
          go_round
          case rel =>
            refine ⟨m, by go_num, by omega, fun j h1 h2 => ?_⟩
            rcases Nat.eq_or_lt_of_le h1 with rfl | h1
            · exact HX.out
            · exact Hz.out j h1 h2
          case measure => simp [lenOf]
        · have hxb : ((x : Int) == 48) = false := by simp; omega
          have HN := Lib.hid hx; clear hx
          go_wp2
          go_ret
          exact ⟨m + 1, rfl, ⟨hk, Hz.out, fun _ => by rw [Nat.add_sub_cancel, HX.out]; exact HN.out⟩, rfl⟩
  · rintro e w' ⟨k, rfl, ⟨h1, h2, h3⟩, rfl⟩
    rw [k48_of (by rw [HL.out]; exact h1) (fun j hj hj2 => h2 j hj (by rw [← HL.out]; exact hj2)) h3]
    exact ⟨rfl, rfl⟩

theorem trimRight_any (l : List Nat) (g n c base : Nat) (w : World) (h : OwnB w base (.slice (some ⟨g, 0, none⟩) n c) l) (h0 : 0 < n) (hn : n ≤ 9223372036854775807) :
    Calls Tryz.prog 136 #[.slice (some ⟨g, 0, none⟩) n c, .string ⟨#[48]⟩] w fun e w' => e = .returned (.slice (some ⟨g, 0, none⟩) (k48 l) c) ∧ w = w' := by
  have H := Lib.hid (trimByte_any l g n c base w h hn)
  generalize k48 l = k at *
  clear h
  go_enter Tryz.func136, Tryz.ntmps136
  go_wp2_with (go_at_call 150; refine H.out.mono ?_; rintro e w' ⟨rfl, rfl⟩)
  go_ret
  exact ⟨rfl, rfl⟩

end Go.Proofs.YtpgiolbnmlbjbaaGreatDoor
