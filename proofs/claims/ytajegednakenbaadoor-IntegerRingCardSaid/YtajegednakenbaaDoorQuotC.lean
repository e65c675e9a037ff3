/- Walks: bits.LeadingZeros32; quotient.Small. -/
import Derived.Test.YtajegednakenbaaDoorQuotA
import Derived.Test.YtajegednakenbaaDoorLen32
namespace Go.Proofs.YtajegednakenbaaDoor
open Go.RowKit
set_option linter.unusedVariables false
set_option linter.unusedSimpArgs false

theorem lz32_any (u : Nat) (w : World) (hu : u < 4294967296) :
    Calls Tryd.prog 77 #[.int .u32 (u : Int)] w fun e w' => e = .returned (.int .i64 ((32 - blen u : Nat) : Int)) ∧ w = w' := by
  have HB := Lib.hid (len32_any u w hu)
  have h := blen_le (x := u) (n := 32) hu
  generalize blen u = b at *
  go_enter Tryd.func77, Tryd.ntmps77
  go_wp2_with fail
  refine HB.out.mono ?_
  rintro e w' ⟨rfl, rfl⟩
  go_wp2_with fail
  go_ret
  exact ⟨by rw [show ((32 - b : Nat) : Int) = 32 - (b : Int) from by omega]; rfl, rfl⟩

theorem set_rep (k q : Nat) (qs : List Nat) : (List.replicate (k + 1) 0 ++ qs).set k q = List.replicate k 0 ++ q :: qs := by
  rw [List.replicate_succ', set_mid _ _ _ _ (List.length_replicate ..), List.append_assoc]
  rfl

/-- What Small gives. -/
def RetQS (w : World) (q r : Nat) (e : Ending) (w' : World) : Prop := ∃ v, e = .returned (.tuple #[v, .int .u32 (r : Int), .bool true]) ∧ Out w w' v (dig q)

theorem qsmall_zero (x : Nat) (va : Value) (w : World) (ha : IsN w va x) :
    Calls Tryd.prog 72 #[va, .int .u32 0] w fun e w' => e = .returned (.tuple #[.slice none 0 0, .int .u32 0, .bool false]) ∧ w = w' := by
  obtain ⟨A, n, c, rfl, ha⟩ := ha
  clear ha
  go_enter Tryd.func72, Tryd.ntmps72
  go_wp2_with fail
  go_ret3
  exact ⟨rfl, rfl⟩

set_option maxHeartbeats 400000 in
theorem qsmall_any (x d : Nat) (va : Value) (w : World) (ha : IsN w va x) (hx : len x ≤ 1099511627776) (hd : 0 < d) (hd2 : d < 4294967296) :
    Calls Tryd.prog 72 #[va, .int .u32 (d : Int)] w (RetQS w (x / d) (x % d)) := by
  obtain ⟨A, n, c, rfl, ha⟩ := ha
  have hlx : len x = n := ha.len
  have hn : n ≤ 1099511627776 := by omega
  have hdz : ((d : Int) == 0) = false := by rw [beq_eq_false_iff_ne]; omega
  have hs0 := shortSt_start x hd
  rw [hlx] at hs0
  have HS0 := Lib.hid hs0
  clear hs0 hlx
  go_enter Tryd.func72, Tryd.ntmps72
  go_wp2_with (at_make; refine wp_mk _ rfl _ _ rfl w.heap.size _ _ n rfl rfl rfl rfl (by omega) (Nat.le_refl _) ?_)
  intro w1 h1 g1
  have b1 : Below w.heap.size w w1 := (Below.refl _ _).grown g1 (Nat.le_refl _) (fun k h => by cases h)
  obtain ⟨g, hg⟩ : ∃ g, g = w.heap.size := ⟨_, rfl⟩
  rw [← hg] at h1 ⊢
  have HG := Lib.hid hg; clear hg
  clear g1
  go_wp2_with fail
  go_loopw [8, 9] (fun r' i wr => ∃ (t : Int) (k r : Nat) (qs : List Nat), i = .int .i64 t ∧ r' = .int .u32 (r : Int) ∧ t = (k : Int) - 1 ∧ k ≤ n ∧ ShortSt x d k r qs ∧ Own wr g (.slice (some ⟨g, 0, none⟩) n n) (List.replicate k 0 ++ qs) ∧ Below w.heap.size w wr) (fun _ i _ => (intOf i + 1).toNat)
  case atStart => exact ⟨_, n, 0, [], rfl, rfl, rfl, by omega, HS0.out, by rw [List.append_nil]; exact h1, b1⟩
  case round =>
    obtain ⟨t, k, r, qs, rfl, rfl, ht, hk, HS, hown, hbe⟩ := hrel
    clear h1 b1 HS0
    have hrd : r < d := HS.2.1
    cases k with
    | zero =>
      obtain rfl : t = -1 := by omega
      rw [List.replicate_zero, List.nil_append] at hown
      obtain ⟨e1, e2⟩ := shortSt_end HS
      have HTR := Lib.hid (trim_any qs _ _ _ wr hown.sl (by omega))
      have E1 := Lib.hid e1
      have E2 := Lib.hid e2
      clear hown e1 e2 HS ht
      go_wp2_with fail
      refine HTR.out.mono ?_
      rintro e w' ⟨v, rfl, o⟩
      go_wp2_with fail
      go_ret3
      exact ⟨_, by rw [← E2.out]; rfl, by rw [← E1.out]; exact o.own.base_le hbe.size, hbe.trans (o.below.mono hbe.size)⟩
    | succ j =>
      obtain rfl : t = (j : Int) := by omega
      obtain ⟨b, off, u, rfl, _, hxc, HU, hu⟩ := ha.get hbe (k := j) (by omega)
      obtain ⟨hs2, hq, hr⟩ := shortSt_step HS HU.out hu
      have HD := Lib.hid (div32_any r u d wr hrd hu hd2)
      generalize (u + 4294967296 * r) / d = q at *
      generalize (u + 4294967296 * r) % d = r2 at *
      have HS2 := Lib.hid hs2
      have HOWN := Lib.hid hown
      clear hown hs2 HS HU ht
      go_wp2_with fail
      refine HD.out.mono ?_
      rintro e w' ⟨rfl, nq, rfl⟩
      have hown := HOWN.out.below (belowN (Below.refl _ wr) nq)
      have hfree := hown.free j
      obtain ⟨z, hz, _, _⟩ := hown.cell (j := j) (by omega)
      have hst := hown.store (j := j) (x := q) hq
      rw [set_rep] at hst
      have hb2 := (belowN hbe nq).setCell (p := ⟨g, j, none⟩) (by rw [HG.out]; exact Nat.le_refl _) (.int .u32 (q : Int))
      have HST := Lib.hid hst
      clear hst hown HOWN
      go_wp2_with fail
      go_roundw
      case rel => exact ⟨(j : Int) - 1, j, r2, _, by go_num, rfl, rfl, by omega, HS2.out, HST.out, hb2⟩
      case measure => simp [intOf] <;> omega

end Go.Proofs.YtajegednakenbaaDoor
