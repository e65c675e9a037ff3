/- Walk: nat.Shr of a list that may end in zeros. -/
import Derived.Test.YtajegednakenbaaDoorQuotMath
import Derived.Test.YtajegednakenbaaDoorNatE
namespace Go.Proofs.YtajegednakenbaaDoor
open Go.RowKit
set_option linter.unusedVariables false
set_option linter.unusedSimpArgs false

set_option maxHeartbeats 400000 in
theorem shrL_any (x q l n c : Nat) (A : Option Addr) (t : List Nat) (w : World) (ha : Sl w A n c t) (hxt : x = val t) (hn40 : n ≤ 1099511627776) (hl : l < 32) (hn : 32 * q + l ≤ 9223372036854775807) :
    Calls Tryd.prog 62 #[.slice A n c, .int .i64 ((32 * q + l : Nat) : Int)] w (RetN w (x / 2 ^ (32 * q + l))) := by
  have HLX := Lib.hid (show len x ≤ n by rw [hxt, ← ha.len]; exact len_val_le ha.small)
  have HNT := Lib.hid (fun i => show nth (dig x) i = nth t i by rw [hxt]; exact nth_trim i ha.small)
  clear hxt
  obtain ⟨k, hk⟩ : ∃ k : Nat, k = 32 * q + l := ⟨_, rfl⟩
  have h1 : (k : Int) / 32 = (q : Int) := by omega
  have h2 : (k : Int) % 32 = (l : Int) := by omega
  rw [← hk] at hn ⊢
  have HK := Lib.hid hk; clear hk
  obtain ⟨g, hg⟩ : ∃ g, g = w.heap.size := ⟨_, rfl⟩
  have HG := Lib.hid hg; clear hg
  have hdn : (decide ((k : Int) < 0)) = false := by simp
  rcases Nat.lt_or_ge q n with hqn | hqn
  · have hcap := ha.cap
    have hcq : ¬ c = q := by omega
    obtain ⟨b, off, rfl, hb, hpl⟩ := ha.place (by omega)
    have HPL := Lib.hid hpl; clear hpl
    go_enter Tryd.func62, Tryd.ntmps62
    go_wp2_with (at_make; refine wp_mk _ rfl _ _ rfl w.heap.size _ _ (n - q) rfl rfl (by omega) (by omega) (by omega) (Nat.le_refl _) ?_)
    intro w1 o1 g1
    rw [← HG.out] at o1 ⊢
    have b1 : Below w.heap.size w w1 := (Below.refl _ _).grown g1 (Nat.le_refl _) (fun k h => by cases h)
    clear g1
    go_wp2_with fail
    go_loopw [33] (fun i wr => ∃ (j : Nat) (s : List Nat), i = .int .i64 j ∧ j ≤ n - q ∧ DigsIs (x / 2 ^ (32 * q + l)) s j ∧ Own wr g (.slice (some ⟨g, 0, none⟩) (n - q) (n - q)) (s ++ List.replicate (n - q - j) 0) ∧ Below w.heap.size w wr) (fun i _ => n - q - (intOf i).toNat)
    case atStart => exact ⟨0, [], rfl, by omega, digsIs_zero _, o1, b1⟩
    case round =>
      obtain ⟨j, s, rfl, hj, HS, hown, hbel⟩ := hrel
      clear o1 b1
      rcases Nat.eq_or_lt_of_le hj with hje | hjn
      · rw [hje, Nat.sub_self, List.replicate_zero, List.append_nil] at hown
        have H := length_any _ _ _ _ _ hown.sl
        have HT := Lib.hid (digsIs_end HS (by rw [hje]; exact shr_small HLX.out (by omega)))
        rw [HT.out] at H
        have hdl : (dig (x / 2 ^ (32 * q + l))).length ≤ n - q := by
          rw [← HT.out]
          have := length_trim_le s
          rw [HS.1] at this
          omega
        have hcut := hown.cut hdl
        rw [show s.take (dig (x / 2 ^ (32 * q + l))).length = dig (x / 2 ^ (32 * q + l)) by rw [← HT.out, trim_take], ← HK.out] at hcut
        rw [← HK.out] at hdl H
        obtain ⟨kk, hkk⟩ : ∃ kk, kk = (dig (x / 2 ^ k)).length := ⟨_, rfl⟩
        rw [← hkk] at hdl H
        have HKK := Lib.hid hkk; clear hkk
        have HL2 := Lib.hid H; clear H
        have HHcut := Lib.hid hcut; clear hcut
        have hjj : n - q ≤ j := by omega
        clear hown hje
        go_wp2_with (go_at_call 66; refine HL2.out.mono ?_; rintro e w' ⟨rfl, rfl⟩)
        go_ret
        refine ⟨_, rfl, ?_, hbel⟩
        have := HHcut.out
        rw [← HKK.out] at this
        exact this.base_le (Nat.le_of_eq HG.out.symm)
      · obtain ⟨u, hu⟩ : ∃ u, nth (dig x) (q + j) = u := ⟨_, rfl⟩
        have hut := HNT.out (q + j)
        have hu32 : u < 4294967296 := by rw [← hu]; exact (small_dig x).get _
        have hxc : wr.cell? ⟨b, off + q + j, none⟩ = some (.int .u32 (u : Nat)) := by
          have := (hbel.cell (p := ⟨b, off + (q + j), none⟩) hb).trans (HPL.out (q + j) (by omega))
          rwa [← hut, hu, ← Nat.add_assoc] at this
        have HU := Lib.hid hu; clear hu hut
        have hf1 := hown.free j
        obtain ⟨z, hz, HZ, _⟩ := hown.cell (j := j) (by omega)
        rw [show n - q - j = (n - q - (j + 1)) + 1 from by omega] at hown
        rcases Nat.lt_or_ge (q + j + 1) n with hv | hv
        · obtain ⟨v, hve⟩ : ∃ v, nth (dig x) (q + j + 1) = v := ⟨_, rfl⟩
          have hvt := HNT.out (q + j + 1)
          have hv32 : v < 4294967296 := by rw [← hve]; exact (small_dig x).get _
          have hyc : wr.cell? ⟨b, off + (q + j + 1), none⟩ = some (.int .u32 (v : Nat)) := by
            have := (hbel.cell (p := ⟨b, off + (q + j + 1), none⟩) hb).trans (HPL.out (q + j + 1) hv)
            rwa [← hvt, hve] at this
          have hd := shr_digit (l := l) (by omega) HU.out hve
          have hst := hown.store (j := j) (x := (u + W32 * v) / 2 ^ l % W32) (Nat.mod_lt _ W32_pos)
          have E : (((u + W32 * v) / 2 ^ l % W32 : Nat) : Int) = bits .or .u64 (u : Int) ((v : Int) * 4294967296) / 2 ^ l % 4294967296 := by
            rw [or_digit' v u hv32 hu32, Int.natCast_emod, Int.natCast_ediv, Int.natCast_pow]; rfl
          rw [set_end s (n - q - (j + 1)) _ HS.1, E] at hst
          have hb2 := hbel.setCell (p := ⟨g, j, none⟩) (by rw [HG.out]; exact Nat.le_refl _) (.int .u32 (bits .or .u64 (u : Int) ((v : Int) * 4294967296) / 2 ^ l % 4294967296))
          have HST := Lib.hid hst
          have HD := Lib.hid hd
          clear hown hst E hve hd hvt
          go_wp2_with fail
          go_roundw
          case rel => exact ⟨j + 1, _, by go_num, by omega, digsIs_step HS HD.out, HST.out, hb2⟩
          case measure => simp [intOf]; omega
        · have hve : nth (dig x) (q + j + 1) = 0 := nth_of_ge (by rw [length_dig]; exact Nat.le_trans HLX.out hv)
          have hd := shr_digit (l := l) (by omega) HU.out hve
          rw [Nat.mul_zero, Nat.add_zero] at hd
          have hst := hown.store (j := j) (x := u / 2 ^ l % W32) (Nat.mod_lt _ W32_pos)
          have E : ((u / 2 ^ l % W32 : Nat) : Int) = (u : Int) / 2 ^ l % 4294967296 := by
            rw [Int.natCast_emod, Int.natCast_ediv, Int.natCast_pow]; rfl
          rw [set_end s (n - q - (j + 1)) _ HS.1, E] at hst
          have hb2 := hbel.setCell (p := ⟨g, j, none⟩) (by rw [HG.out]; exact Nat.le_refl _) (.int .u32 ((u : Int) / 2 ^ l % 4294967296))
          have HST := Lib.hid hst
          have HD := Lib.hid hd
          clear hown hst E hve hd
          go_wp2_with fail
          go_roundw
          case rel => exact ⟨j + 1, _, by go_num, by omega, digsIs_step HS HD.out, HST.out, hb2⟩
          case measure => simp [intOf]; omega
  · have hz := shr_zero (l := l) HLX.out hqn
    rw [← HK.out] at hz
    rw [hz]
    clear hz
    go_enter Tryd.func62, Tryd.ntmps62
    go_wp2_with fail
    go_ret
    exact ⟨_, rfl, by rw [dig_zero]; exact Own.nil _ _, Below.refl _ _⟩

end Go.Proofs.YtajegednakenbaaDoor
