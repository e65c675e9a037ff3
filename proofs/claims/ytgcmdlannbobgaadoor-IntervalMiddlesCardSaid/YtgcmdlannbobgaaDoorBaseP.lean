/- Base texts, joined: ProdB, ProdC, RefProd, QuotC, QuotD, QuotE, RefQuot, Powmod. -/
import Derived.Test.YtgcmdlannbobgaaDoorBaseN
import Derived.Test.YtgcmdlannbobgaaDoorBaseR
/- Walks: bits.Len (by the library's contract), product.Power. -/
namespace Go.Proofs.YtgcmdlannbobgaaDoor
open Go.RowKit
set_option linter.unusedVariables false
set_option linter.unusedSimpArgs false
set_option maxRecDepth 100000

theorem ofInt64 (a : Nat) (ha : a < 18446744073709551616) : (BitVec.ofInt 64 (a : Int)).toNat = a := by
  rw [BitVec.ofInt_natCast, BitVec.toNat_ofNat]; exact Nat.mod_eq_of_lt (by omega)
theorem and_one_i64 (a : Nat) (ha : a < 9223372036854775808) : bits .and .i64 (a : Int) 1 = ((a % 2 : Nat) : Int) := by
  show IntKind.i64.wrap ((BitVec.ofInt 64 (a : Int) &&& BitVec.ofInt 64 ((1 : Nat) : Int)).toNat : Int) = _
  rw [BitVec.toNat_and, ofInt64 a (by omega), ofInt64 1 (by omega), Nat.and_one_is_mod, IntKind.wrap_i64]
  omega
theorem bit_i64 (n k : Nat) (hn : n < 9223372036854775808) : bits .and .i64 ((n : Int) / 2 ^ k) 1 = ((n / 2 ^ k % 2 : Nat) : Int) := by
  have e1 : (n : Int) / 2 ^ k = ((n / 2 ^ k : Nat) : Int) := by rw [Int.natCast_ediv, Int.natCast_pow]; rfl
  rw [e1, and_one_i64 _ (Nat.lt_of_le_of_lt (Nat.div_le_self _ _) hn)]

theorem div_two_pow (n k : Nat) : n / 2 ^ (k + 1) = n / 2 ^ k / 2 := by rw [Nat.pow_succ, Nat.div_div_eq_div_mul]
/-- The exponent that is left for the first digits. -/
def top (n : Nat) (t : Int) : Nat := n / 2 ^ (t + 1).toNat
theorem top_end (n : Nat) : top n (-1) = n := by unfold top; simp
theorem top_start (n : Nat) : top n ((blen n : Int) - 1) = 0 := by
  unfold top
  rw [show ((blen n : Int) - 1 + 1).toNat = blen n from by omega]
  exact Nat.div_eq_of_lt (lt_two_pow_blen n)
theorem top_step (n k : Nat) {b : Nat} (hb : n / 2 ^ k % 2 = b) : top n ((k : Int) - 1) = 2 * top n k + b := by
  unfold top
  rw [show ((k : Int) - 1 + 1).toNat = k from by omega, show ((k : Int) + 1).toNat = k + 1 from by omega, div_two_pow]
  omega
theorem top_le (n : Nat) (t : Int) : top n t ≤ n := Nat.div_le_self _ _

end Go.Proofs.YtgcmdlannbobgaaDoor


/- Walks: product.Sum; rows of slices. -/
namespace Go.Proofs.YtgcmdlannbobgaaDoor
open Go.RowKit
set_option linter.unusedVariables false
set_option linter.unusedSimpArgs false
set_option maxRecDepth 100000

/-- A slice of naturals. -/
structure Nats (w : World) (A : Option Addr) (n : Nat) (f : Nat → Nat) : Prop where
  place : ∀ j, j < n → ∃ b off V m c, A = some ⟨b, off, none⟩ ∧ b < w.heap.size ∧ w.cell? ⟨b, off + j, none⟩ = some (.slice V m c) ∧ IsN w (.slice V m c) (f j)
theorem Nats.mono {w w' : World} {A : Option Addr} {n : Nat} {f : Nat → Nat} (h : Nats w A n f) (hb : Below w.heap.size w w') : Nats w' A n f :=
  ⟨fun j hj => by
    obtain ⟨b, off, V, m, c, h1, h2, h3, h4⟩ := h.place j hj
    exact ⟨b, off, V, m, c, h1, Nat.lt_of_lt_of_le h2 hb.size, (hb.cell (p := ⟨b, off + j, none⟩) h2).trans h3, h4.mono hb⟩⟩

def two (x y : Nat) (j : Nat) : Nat := if j = 0 then x else y
theorem sumTo_two (x y : Nat) : sumTo (two x y) 2 = x + y := by simp [sumTo, two]
/-- A literal of two naturals. -/
theorem nats_two (w : World) (u v : Value) (x y : Nat) (hu : IsN w u x) (hv : IsN w v y) (eu : ∃ A n c, u = .slice A n c) (ev : ∃ A n c, v = .slice A n c) : Nats (w.alloc (.cells #[u, v] 22)) (some ⟨w.heap.size, 0, none⟩) 2 (two x y) :=
  ⟨fun j hj => by
    have hb := (Below.refl w.heap.size w).alloc (Nat.le_refl _) (.cells #[u, v] 22)
    obtain ⟨A, n, c, rfl⟩ := eu
    obtain ⟨B, m, d, rfl⟩ := ev
    rcases (show j = 0 ∨ j = 1 by omega) with rfl | rfl
    · exact ⟨_, _, _, _, _, rfl, by simp, by simp, hu.mono hb⟩
    · exact ⟨_, _, _, _, _, rfl, by simp, by simp, hv.mono hb⟩⟩

theorem info_sl : (Tryd.prog.info? 22).map (fun i => (i.zero, i.size, i.bytes)) = some (some (.slice none 0 0), 1, 24) := by kernel_rfl

/-- Slices of naturals that a call collects one after the other: the row and the numbers are its own. -/
def Terms (w : World) (B : Nat) (v : Value) (f : Nat → Nat) (k : Nat) : Prop :=
  ∃ vs : List Value, vs.length = k ∧ w.ownsRow B 22 1 v k vs ∧ ∀ j, j < k → ∃ V m c, vs[j]? = some (.slice V m c) ∧ Own w B (.slice V m c) (dig (f j))
theorem Terms.nil (w : World) (B : Nat) (f : Nat → Nat) : Terms w B (.slice none 0 0) f 0 := ⟨[], rfl, World.ownsRow_nil w B 22 1, fun j hj => absurd hj (Nat.not_lt_zero j)⟩
theorem Terms.blockGe {w : World} {B : Nat} {v : Value} {f : Nat → Nat} {k : Nat} (h : Terms w B v f k) : ∀ g, v.ownBlock = some g → B ≤ g := by
  obtain ⟨vs, h1, h2, h3⟩ := h
  exact fun g hg => (h2.lt g hg).1
theorem ownsRow_below {w w' : World} {B k : Nat} {t : TypeId} {v : Value} {vs : List Value} (h : w.ownsRow B t 1 v k vs) (hb : Below w.heap.size w w') : w'.ownsRow B t 1 v k vs := by
  have hlt := h.lt
  obtain ⟨h1, h2⟩ := h
  refine ⟨h1, ?_⟩
  rcases h2 with h2 | ⟨g, cap, cur, e1, e2, e3, e4⟩
  · exact .inl h2
  · refine .inr ⟨g, cap, cur, e1, e2, ?_, e4⟩
    rw [hb.block g (hlt g (by rw [e1]; rfl)).2]; exact e3
theorem Terms.below {w w' : World} {B : Nat} {v : Value} {f : Nat → Nat} {k : Nat} (h : Terms w B v f k) (hb : Below w.heap.size w w') : Terms w' B v f k := by
  obtain ⟨vs, h1, h2, h3⟩ := h
  refine ⟨vs, h1, ownsRow_below h2 hb, fun j hj => ?_⟩
  obtain ⟨V, m, c, e, o⟩ := h3 j hj
  exact ⟨V, m, c, e, o.below hb⟩
theorem Terms.nats {w : World} {B : Nat} {v : Value} {f : Nat → Nat} {k : Nat} (h : Terms w B v f k) : ∃ A c, v = .slice A k c ∧ Nats w A k f := by
  obtain ⟨vs, h1, h2, h3⟩ := h
  have h2' := h2
  rcases h2.2 with ⟨rfl, h0⟩ | ⟨g, cap, cur, rfl, hb, hg, hc, hm, hsz, htake⟩
  · subst h0
    exact ⟨none, 0, rfl, ⟨fun j hj => absurd hj (Nat.not_lt_zero j)⟩⟩
  · refine ⟨_, cap, rfl, ⟨fun j hj => ?_⟩⟩
    obtain ⟨V, m, c, e, o⟩ := h3 j hj
    exact ⟨g, 0, V, m, c, rfl, (h2'.lt g rfl).2, by rw [Nat.zero_add, h2'.cellAt j (by omega), e], isN_of_own o rfl⟩
/-- A row of numbers and a row of slices are two rows. -/
theorem own_ne {w : World} {B B' k : Nat} {u v : Value} {l : List Nat} {vs : List Value} (h : Own w B u l) (h2 : w.ownsRow B' 22 1 v k vs) : u.ownBlock = none ∨ u.ownBlock ≠ v.ownBlock := by
  obtain ⟨⟨_, h1⟩, _⟩ := h
  rcases h1 with ⟨rfl, _⟩ | ⟨g, cap, cur, rfl, _, hg, _⟩
  · exact .inl rfl
  · right
    obtain ⟨_, h2⟩ := h2
    rcases h2 with ⟨rfl, _⟩ | ⟨g', cap', cur', rfl, _, hg', _⟩
    · intro e; cases e
    · intro e
      injection e with e
      subst e
      rw [hg] at hg'
      injection hg' with hg'
      injection hg' with _ hg'
      exact absurd hg' (by decide)

end Go.Proofs.YtgcmdlannbobgaaDoor


/- Walks: the reference's Small, Mul, Power. -/
namespace Go.Proofs.YtgcmdlannbobgaaDoor
open Go.RowKit
set_option linter.unusedVariables false
set_option linter.unusedSimpArgs false
set_option maxRecDepth 100000

set_option maxHeartbeats 400000 in
theorem rsmall_any (x m c : Nat) (va : Value) (w : World) (ha : IsN w va x) (hx : len x ≤ 1099511627776) (hm : m < 4294967296) (hc : c < 4294967296) :
    Calls Tryd.prog 133 #[va, .int .u32 (m : Int), .int .u32 (c : Int)] w (RetN w (x * m + c)) := by
  obtain ⟨A, n, cp, rfl, ha⟩ := ha
  have hlx : len x = n := ha.len
  have hn : n ≤ 1099511627776 := by omega
  have HLX := Lib.hid hlx; clear hlx
  obtain ⟨g, hg⟩ : ∃ g, g = w.heap.size := ⟨_, rfl⟩
  have HG := Lib.hid hg; clear hg
  go_enter Tryd.func133, Tryd.ntmps133
  go_wp2_with fail
  go_loopw [7, 8, 15] (fun o t i wr => ∃ (k cy : Nat) (s : List Nat), i = .int .i64 k ∧ t = .int .u64 cy ∧ k ≤ n ∧ SmallIs x m c s k cy ∧ Own wr g o s ∧ Below w.heap.size w wr) (fun _ _ i _ => n - (intOf i).toNat)
  case atStart => exact ⟨0, c, [], rfl, rfl, by omega, smallIs_zero x m hc, Own.nil _ _, Below.refl _ _⟩
  case round =>
    obtain ⟨k, cy, s, rfl, rfl, hk, HS, hown, hbel⟩ := hrel
    have hcy : cy < 4294967296 := HS.2.2.1
    have hbs := hbel.size
    have hgw : g ≤ wr.heap.size := by rw [HG.out]; exact hbs
    have hsl : s.length ≤ 1099511627776 := by rw [HS.1]; omega
    rcases Nat.eq_or_lt_of_le hk with rfl | hkn
    · have hcl : (wr.alloc (.cells #[.int .u32 (cy : Int)] 86)).cell? ⟨wr.heap.size, 0, none⟩ = some (.int .u32 (cy : Int)) := by simp
      have HCL := Lib.hid hcl; clear hcl
      have HE := Lib.hid (smallIs_end HS (Nat.le_of_eq HLX.out))
      go_wp2_with (at_builtin; refine wp_app1 _ rfl _ _ rfl g _ s rfl (hown.alloc _) wr.heap.size cy rfl HCL.out hcy (by omega) (by simp; omega) ?_)
      intro o2 w2 h2 g2
      have hb2 := (hbel.alloc hbs (.cells #[.int .u32 (cy : Int)] 86)).grown g2 (by simp; omega) (fun kk hkk => by rw [← HG.out]; exact hown.blockGe kk hkk)
      obtain ⟨C, cc, rfl, hsl2, _⟩ := h2.form
      have hLb : (s ++ [cy]).length ≤ 35184372088832 := by rw [List.length_append, HS.1]; simp; omega
      have HR0 := rtrim_any (s ++ [cy]) C _ cc w2 hsl2 hLb
      clear h2 g2 hsl2 hLb hsl
      generalize (s ++ [cy]).length = L at *
      have HR := Lib.hid HR0; clear HR0
      go_wp2_with fail
      refine HR.out.mono ?_
      rintro e w' ⟨v, rfl, hv⟩
      go_wp2_with fail
      go_ret
      exact ⟨_, rfl, by rw [← HE.out]; exact hv.own.base_le hb2.size, hb2.trans (hv.below.mono hb2.size)⟩
    · obtain ⟨b, off, u, rfl, _, hxc, HU, hu⟩ := ha.get hbel (k := k) hkn
      obtain ⟨p, hp⟩ : ∃ p, p = u * m := ⟨_, rfl⟩
      have hpb : p ≤ 18446744065119617025 := by rw [hp]; exact mul_digits hu hm
      have hw : IntKind.u64.wrap ((u : Int) * (m : Int)) = (p : Int) := by
        rw [← Int.natCast_mul, ← hp, IntKind.wrap_u64]
        omega
      have HS2 := Lib.hid (smallIs_step HS HU.out hp hu hm)
      have hcl : (wr.alloc (.cells #[.int .u32 (((cy : Int) + p) % 4294967296)] 86)).cell? ⟨wr.heap.size, 0, none⟩ = some (.int .u32 (((cy + p) % W32 : Nat) : Int)) := by
        rw [show (((cy + p) % W32 : Nat) : Int) = ((cy : Int) + p) % 4294967296 from by unfold W32; omega]
        simp
      have HCL := Lib.hid hcl; clear hcl
      clear hp
      go_wp2_with (at_builtin; refine wp_app1 _ rfl _ _ rfl g _ s rfl (hown.alloc _) wr.heap.size ((cy + p) % W32) rfl HCL.out (Nat.mod_lt _ W32_pos) (by omega) (by simp; omega) ?_)
      intro o2 w2 h2 g2
      have hb2 := (hbel.alloc hbs (.cells #[.int .u32 (((cy : Int) + p) % 4294967296)] 86)).grown g2 (by simp; omega) (fun kk hkk => by rw [← HG.out]; exact hown.blockGe kk hkk)
      have H2' := Lib.hid h2; clear h2 g2
      go_wp2_with fail
      go_roundw
      case rel => exact ⟨k + 1, (cy + p) / W32, _, by go_num, congrArg (Value.int .u64) (by unfold W32; omega), by omega, HS2.out, H2'.out, hb2⟩
      case measure => simp [intOf]; omega

set_option maxHeartbeats 1000000 in
theorem rmul_any (x y : Nat) (va vb : Value) (w : World) (ha : IsN w va x) (hb : IsN w vb y) (hx : len x ≤ 1099511627776) (hy : len y ≤ 1099511627776) :
    Calls Tryd.prog 134 #[va, vb] w (RetN w (x * y)) := by
  obtain ⟨A, n, c, rfl, ha⟩ := ha
  obtain ⟨B, m, d, rfl, hb⟩ := hb
  have hlx : len x = n := ha.len
  have hly : len y = m := hb.len
  have hn : n ≤ 1099511627776 := by omega
  have hm : m ≤ 1099511627776 := by omega
  have HLX := Lib.hid hlx; clear hlx
  have HLY := Lib.hid hly; clear hly
  go_enter Tryd.func134, Tryd.ntmps134
  go_wp2_with (at_make; refine wp_mk _ rfl _ _ rfl w.heap.size _ _ (n + m) rfl rfl (by omega) (by omega) (by omega) (Nat.le_refl _) ?_)
  intro w1 h1 g1
  have b1 : Below w.heap.size w w1 := (Below.refl _ _).grown g1 (Nat.le_refl _) (fun k h => by cases h)
  obtain ⟨g, hg⟩ : ∃ g, g = w.heap.size := ⟨_, rfl⟩
  rw [← hg] at h1 ⊢
  have HG := Lib.hid hg; clear hg
  clear g1
  have h0 : Own w1 g (.slice (some ⟨g, 0, none⟩) (n + m) (n + m)) (List.replicate (len y) 0 ++ List.replicate (n - 0) 0) := by
    rw [List.replicate_append_replicate, HLY.out, show m + (n - 0) = n + m from by omega]; exact h1
  clear h1
  go_wp2_with fail
  go_loopw [19] (fun i wr => ∃ (k : Nat) (q : List Nat), i = .int .i64 k ∧ k ≤ n ∧ MulIs x y k q ∧ Own wr g (.slice (some ⟨g, 0, none⟩) (n + m) (n + m)) (q ++ List.replicate (n - k) 0) ∧ Below w.heap.size w wr) (fun i _ => n - (intOf i).toNat)
  case atStart => exact ⟨0, _, rfl, by omega, mulIs_zero x y, h0, b1⟩
  case round =>
    obtain ⟨k, q, rfl, hk, HS, hown, hbe⟩ := hrel
    clear h0 b1
    rcases Nat.eq_or_lt_of_le hk with hke | hkn
    · have hkn : n ≤ k := by omega
      rw [show n - k = 0 from by omega, List.replicate_zero, List.append_nil] at hown
      have hl := HS.1
      have HTR := Lib.hid (rtrim_any q _ _ _ wr hown.sl (by omega))
      have HE := Lib.hid (mulIs_end HS (by rw [HLX.out]; exact hkn))
      clear hown hl hke
      go_wp2_with fail
      refine HTR.out.mono ?_
      rintro e w' ⟨v, rfl, o⟩
      go_wp2_with fail
      go_ret
      exact ⟨_, rfl, by rw [← HE.out]; exact o.own.base_le hbe.size, hbe.trans (o.below.mono hbe.size)⟩
    · obtain ⟨b, off, u, rfl, _, hxc, HU, hu⟩ := ha.get hbe (k := k) hkn
      obtain ⟨hl1, hl2⟩ := mulIs_len HS
      have HL1 := Lib.hid hl1
      have HL2 := Lib.hid hl2
      have hin : Own wr g (.slice (some ⟨g, 0, none⟩) (n + m) (n + m)) (q.take k ++ [] ++ (q.drop k).drop 0 ++ List.replicate (n - k) 0) := by
        rw [List.drop_zero, List.append_nil, List.take_append_drop]
        exact hown
      clear hown hl1 hl2
      obtain ⟨wo, hwo⟩ : ∃ wo : World, wo = wr := ⟨_, rfl⟩
      rw [← hwo] at hbe hin hxc ⊢
      clear hwo
      go_wp2_with fail
      go_loopw [8, 26] (fun t' i wr => ∃ (j cy : Nat) (s : List Nat), i = .int .i64 j ∧ t' = .int .u64 cy ∧ j ≤ m ∧ MulAdd (q.drop k) (dig y) u s j cy ∧ Own wr g (.slice (some ⟨g, 0, none⟩) (n + m) (n + m)) (q.take k ++ s ++ (q.drop k).drop j ++ List.replicate (n - k) 0) ∧ Below w.heap.size w wr) (fun _ i _ => m - (intOf i).toNat)
      case atStart => exact ⟨0, 0, [], rfl, rfl, by omega, mulAdd_zero _ _ _, hin, hbe⟩
      case round =>
        obtain ⟨j, cy, s, rfl, rfl, hj, HA, hown, hbe2⟩ := hrel
        clear hin hbe hxc
        have hcy : cy < 4294967296 := HA.2.2.1
        rcases Nat.eq_or_lt_of_le hj with rfl | hjm
        · rw [drop_all (show (q.drop k).length = j by rw [HL2.out, HLY.out]), List.append_nil] at hown
          have hfree := hown.free (k + j)
          obtain ⟨v0, hz, _, _⟩ := hown.cell (j := k + j) (by omega)
          have hst := hown.store (j := k + j) (x := cy) hcy
          rw [show n - k = n - (k + 1) + 1 from by omega, set_end _ _ _ (show (q.take k ++ s).length = k + j by rw [List.length_append, HL1.out, HA.1])] at hst
          have hb3 := hbe2.setCell (p := ⟨g, k + j, none⟩) (by rw [HG.out]; exact Nat.le_refl _) (.int .u32 (cy : Int))
          have HST := Lib.hid hst
          have HS2 := Lib.hid (mulIs_step HS HU.out (by rw [HLY.out]; exact HA))
          clear hst hown
          go_wp2_with fail
          go_roundw
          case rel => exact ⟨k + 1, _, by go_num, by omega, HS2.out, HST.out, hb3⟩
          case measure => simp [intOf]; omega
        · have hfree := hown.free (k + j)
          obtain ⟨v, hz, HV, hv⟩ := hown.cell (j := k + j) (by omega)
          obtain ⟨b', off', u', rfl, _, hyc, HU', hu'⟩ := hb.get hbe2 (k := j) hjm
          have hlt : j < (q.drop k).length := by rw [HL2.out, HLY.out]; exact hjm
          have hV : nth (q.drop k) j = v := by rw [← HV.out, nth_row HL1.out HA.1 hlt]
          obtain ⟨p, hp⟩ : ∃ p, p = u' * u := ⟨_, rfl⟩
          have hpb : p ≤ 18446744065119617025 := by rw [hp]; exact mul_digits hu' hu
          have hw : IntKind.u64.wrap ((u : Int) * (u' : Int)) = (p : Int) := by
            rw [← Int.natCast_mul, Nat.mul_comm, ← hp, IntKind.wrap_u64]
            omega
          have hst := hown.store (j := k + j) (x := (cy + (p + v)) % W32) (Nat.mod_lt _ W32_pos)
          rw [set_row _ HL1.out HA.1 hlt, show (((cy + (p + v)) % W32 : Nat) : Int) = ((cy : Int) + p + v) % 4294967296 from by unfold W32; omega] at hst
          have hb3 := hbe2.setCell (p := ⟨g, k + j, none⟩) (by rw [HG.out]; exact Nat.le_refl _) (.int .u32 (((cy : Int) + p + v) % 4294967296))
          have HST := Lib.hid hst
          have HA2 := Lib.hid (mulAdd_step HA HU'.out hV hp hu' hv hu)
          clear hown hst HV hV hp hlt
          go_wp2_with fail
          go_roundw
          case rel => exact ⟨j + 1, (cy + (p + v)) / W32, _, by go_num, congrArg (Value.int .u64) (by unfold W32; omega), by omega, HA2.out, HST.out, hb3⟩
          case measure => simp [intOf]; omega

end Go.Proofs.YtgcmdlannbobgaaDoor


/- Walks: bits.LeadingZeros32; quotient.Small. -/
namespace Go.Proofs.YtgcmdlannbobgaaDoor
open Go.RowKit
set_option linter.unusedVariables false
set_option linter.unusedSimpArgs false
set_option maxRecDepth 100000

theorem set_rep (k q : Nat) (qs : List Nat) : (List.replicate (k + 1) 0 ++ qs).set k q = List.replicate k 0 ++ q :: qs := by
  rw [List.replicate_succ', set_mid _ _ _ _ (List.length_replicate ..), List.append_assoc]
  rfl

/-- What Small gives. -/
def RetQS (w : World) (q r : Nat) (e : Ending) (w' : World) : Prop := ∃ v, e = .returned (.tuple #[v, .int .u32 (r : Int), .bool true]) ∧ Out w w' v (dig q)

end Go.Proofs.YtgcmdlannbobgaaDoor


/- Walks: quotient.long. -/
namespace Go.Proofs.YtgcmdlannbobgaaDoor
open Go.RowKit
set_option linter.unusedVariables false
set_option linter.unusedSimpArgs false
set_option maxRecDepth 100000

/-- A store into another block. -/
theorem Own.aside {w : World} {base g n c : Nat} {l : List Nat} (h : Own w base (.slice (some ⟨g, 0, none⟩) n c) l) {g' j : Nat} (hne : g ≠ g') (v : Value) : Own (w.setCell ⟨g', j, none⟩ v) base (.slice (some ⟨g, 0, none⟩) n c) l := by
  obtain ⟨⟨h1, h2⟩, hs⟩ := h
  refine ⟨⟨h1, ?_⟩, hs⟩
  rcases h2 with h2 | ⟨g2, cap, cur, e1, e2, e3, e4⟩
  · exact .inl h2
  · refine .inr ⟨g2, cap, cur, e1, e2, ?_, e4⟩
    injection e1 with e1
    injection e1 with e1
    injection e1 with e1
    subst e1
    rw [heap_setCell_other w ⟨g', j, none⟩ g v hne]
    exact e3
theorem Own.lt {w : World} {base g n c : Nat} {l : List Nat} (h : Own w base (.slice (some ⟨g, 0, none⟩) n c) l) : g < w.heap.size := (h.1.lt g rfl).2

/-- With the highest binary digit at the top of an element, a number is as long as before. -/
theorem len_norm {y n u : Nat} (hy : len y = n + 1) (hu : nth (dig y) n = u) : len (y * 2 ^ (32 - blen u)) = n + 1 ∧ 0 < u := by
  have hyp : 0 < y := by
    rcases Nat.eq_zero_or_pos y with h | h
    · subst h; rw [len_zero] at hy; omega
    · exact h
  have ey : y = val ((dig y).take n) + W32 ^ n * u := by
    have := row_top (t := dig y) hy
    rwa [val_dig, hu] at this
  have hlo := val_lt (small_take (small_dig y) n)
  rw [List.length_take, length_dig, Nat.min_eq_left (by omega)] at hlo
  have hp := pow_len_le hyp
  rw [hy, Nat.add_sub_cancel] at hp
  have hu0 : 0 < u := by
    rcases Nat.eq_zero_or_pos u with h | h
    · subst h; rw [Nat.mul_zero, Nat.add_zero] at ey; omega
    · exact h
  have hu2 : u < 2 ^ 32 := by rw [← hu]; exact (small_dig y).get n
  refine ⟨Nat.le_antisymm ?_ ?_, hu0⟩
  · apply len_le
    have hb := lt_two_pow_blen u
    have hb2 := blen_le hu2
    have h1 : y < W32 ^ n * 2 ^ blen u := by
      have := Nat.mul_le_mul_left (W32 ^ n) (show u + 1 ≤ 2 ^ blen u from hb)
      rw [Nat.mul_add] at this
      omega
    have h2 := Nat.mul_lt_mul_of_pos_right h1 (Nat.pow_pos (n := 32 - blen u) (show 0 < 2 by omega))
    rw [Nat.mul_assoc, ← Nat.pow_add, show blen u + (32 - blen u) = 32 from by omega] at h2
    rw [Nat.pow_succ]
    exact h2
  · rw [← hy]
    exact len_mono (Nat.le_mul_of_pos_right _ (Nat.pow_pos (by omega)))
theorem top_lt {x y n k l : Nat} (hx : len x ≤ n + k) (hy : len y = n + 1) : x * 2 ^ l < W32 ^ k * (y * 2 ^ l) := by
  have hyp : 0 < y := by
    rcases Nat.eq_zero_or_pos y with h | h
    · subst h; rw [len_zero] at hy; omega
    · exact h
  have hp := pow_len_le hyp
  rw [hy, Nat.add_sub_cancel] at hp
  rw [← Nat.mul_assoc]
  refine Nat.mul_lt_mul_of_pos_right ?_ (Nat.pow_pos (by omega))
  refine Nat.lt_of_lt_of_le (len_le_iff.1 hx) ?_
  rw [Nat.pow_add, Nat.mul_comm]
  exact Nat.mul_le_mul_left _ hp
theorem val_pad {x m : Nat} (h : len x ≤ m) : val (over (dig x) m (List.replicate m 0) (len x)) = x ∧ (over (dig x) m (List.replicate m 0) (len x)).length = m := by
  unfold over
  rw [List.take_of_length_le (l := dig x) (by rw [length_dig]; exact h), List.drop_replicate, val_append, val_dig, val_replicate]
  refine ⟨by simp, ?_⟩
  rw [List.length_append, length_dig, List.length_replicate]
  omega
theorem row_cut {lo mid z : List Nat} {j u : Nat} (hl : lo.length = j + 1) (hu : nth lo j = u) : lo ++ mid ++ z = lo.take j ++ (u :: mid) ++ z := by
  have := take_succ_nth lo j (by omega)
  rw [List.take_of_length_le (Nat.le_of_eq hl), hu] at this
  have e : lo ++ mid ++ z = (lo.take j ++ [u]) ++ mid ++ z := by rw [← this]
  rw [e]
  simp
theorem div_norm (x y l : Nat) : x * 2 ^ l / (y * 2 ^ l) = x / y ∧ x * 2 ^ l % (y * 2 ^ l) / 2 ^ l = x % y := by
  have hp : 0 < 2 ^ l := Nat.pow_pos (by omega)
  refine ⟨Nat.mul_div_mul_right _ _ hp, ?_⟩
  rw [Nat.mul_mod_mul_right, Nat.mul_div_cancel _ hp]

/-- A quotient and a remainder, both new. -/
def RetQR (w : World) (q r : Nat) (e : Ending) (w' : World) : Prop := ∃ vq vr, e = .returned (.tuple #[vq, vr]) ∧ Own w' w.heap.size vq (dig q) ∧ Own w' w.heap.size vr (dig r) ∧ Below w.heap.size w w'

end Go.Proofs.YtgcmdlannbobgaaDoor


/- Walks: quotient.DivMod, Exact, Divides, remainder. -/
namespace Go.Proofs.YtgcmdlannbobgaaDoor
open Go.RowKit
set_option linter.unusedVariables false
set_option linter.unusedSimpArgs false
set_option maxRecDepth 100000

/-- A quotient and a remainder, both new, and true. -/
def RetD (w : World) (q r : Nat) (e : Ending) (w' : World) : Prop := ∃ vq vr, e = .returned (.tuple #[vq, vr, .bool true]) ∧ Own w' w.heap.size vq (dig q) ∧ Own w' w.heap.size vr (dig r) ∧ Below w.heap.size w w'
/-- Nothing and false. -/
def RetNo (w : World) (e : Ending) (w' : World) : Prop := e = .returned (.tuple #[.slice none 0 0, .slice none 0 0, .bool false]) ∧ Below w.heap.size w w'

theorem trimD_any (x : Nat) (v : Value) (w : World) (h : IsN w v x) (hx : len x ≤ 1099511627776) : Calls Tryd.prog 107 #[v] w (RetN w x) := by
  obtain ⟨A, n, c, rfl, h⟩ := h
  have hl : len x = n := h.len
  have := trim_any _ A n c w h (by omega)
  rwa [trim_dig] at this

/-- Whether there is no remainder; the quotient then, and 0 if not. -/
def exB (x y : Nat) : Bool := decide (0 < y ∧ x % y = 0)
def exQ (x y : Nat) : Nat := if 0 < y ∧ x % y = 0 then x / y else 0
theorem exB_zero (x : Nat) : exB x 0 = false := decide_eq_false (by omega)
theorem exQ_zero (x : Nat) : exQ x 0 = 0 := if_neg (by omega)
theorem exB_yes {x y : Nat} (h : 0 < y) (h2 : x % y = 0) : exB x y = true := decide_eq_true ⟨h, h2⟩
theorem exQ_yes {x y : Nat} (h : 0 < y) (h2 : x % y = 0) : exQ x y = x / y := if_pos ⟨h, h2⟩
theorem exB_no {x y : Nat} (h2 : 0 < x % y) : exB x y = false := decide_eq_false (by omega)
theorem exQ_no {x y : Nat} (h2 : 0 < x % y) : exQ x y = 0 := if_neg (by omega)
/-- Whether x is a multiple of y. -/
def dvB (y x : Nat) : Bool := decide (x = 0 ∨ 0 < y ∧ x % y = 0)
theorem dvB_zero (y : Nat) : dvB y 0 = true := decide_eq_true (.inl rfl)
theorem dvB_pos {y x : Nat} (h : 0 < x) : dvB y x = exB x y := by
  unfold dvB exB
  rw [decide_eq_decide]
  omega

end Go.Proofs.YtgcmdlannbobgaaDoor


/- Walks: the reference's fits, DivMod, Div, Divides, Exact. -/
namespace Go.Proofs.YtgcmdlannbobgaaDoor
open Go.RowKit
set_option linter.unusedVariables false
set_option linter.unusedSimpArgs false
set_option maxRecDepth 100000

theorem Own.far {w : World} {base : Nat} {v : Value} {l : List Nat} (h : Own w base v l) {g j : Nat} (hg : g < base) (u : Value) : Own (w.setCell ⟨g, j, none⟩ u) base v l :=
  h.grown (grown_set (World.grownBy.refl w _) j u) (by
    rcases hv : v.ownBlock with _ | k
    · exact .inl rfl
    · refine .inr (fun e => ?_)
      have := h.blockGe k hv
      injection e with e
      omega)

set_option maxHeartbeats 400000 in
theorem rfits_any (r y : Nat) (va vb : Value) (w : World) (ha : IsN w va r) (hb : IsN w vb y) (hl : len y ≤ 274877906944) (hy : 0 < y) (hlt : r < 4294967296 * y) :
    Calls Tryd.prog 132 #[va, vb] w fun e w' => e = .returned (.int .u32 ((r / y : Nat) : Int)) ∧ Below w.heap.size w w' := by
  have hq : r / y < 4294967296 := (Nat.div_lt_iff_lt_mul hy).2 hlt
  have HLE := Lib.hid (fun k => (Nat.le_div_iff_mul_le (x := k) (y := r) hy))
  obtain ⟨q, hq2⟩ : ∃ q, r / y = q := ⟨_, rfl⟩
  rw [hq2] at hq HLE ⊢
  have HS := Lib.hid (fun (m : Nat) (hm : m < 4294967296) W (hW : Below w.heap.size w W) => rsmall_any y m 0 vb W (hb.mono hW) (by omega) hm (by omega))
  have HC := Lib.hid (fun (s : Nat) v W (h1 : IsN W v s) (hW : Below w.heap.size w W) => rcmpB_any s r v va W h1 (ha.mono hW))
  obtain ⟨A, n, c, rfl, _⟩ := ha
  obtain ⟨B, m, d, rfl, _⟩ := hb
  clear hlt hq2
  go_enter Tryd.func132, Tryd.ntmps132
  go_wp2_with fail
  go_loopw [5, 6] (fun l h wr => ∃ lo hi : Nat, l = .int .u64 (lo : Int) ∧ h = .int .u64 (hi : Int) ∧ lo ≤ q ∧ q ≤ hi ∧ hi ≤ 4294967295 ∧ Below w.heap.size w wr) (fun l h _ => (intOf h - intOf l).toNat)
  case atStart => exact ⟨0, 4294967295, rfl, rfl, by omega, by omega, by omega, Below.refl _ _⟩
  case round =>
    obtain ⟨lo, hi, rfl, rfl, h1, h2, h3, hbe⟩ := hrel
    rcases Nat.eq_or_lt_of_le (Nat.le_trans h1 h2) with rfl | hlh
    · obtain rfl : lo = q := by omega
      go_wp2_with fail
      go_ret
      exact ⟨rfl, hbe⟩
    · obtain ⟨mid, hmid⟩ : ∃ mid, mid = (lo + hi + 1) / 2 := ⟨_, rfl⟩
      have hm1 : lo < mid := by omega
      have hm2 : mid ≤ hi := by omega
      have E : ((lo : Int) + hi + 1) / 2 = (mid : Int) := by omega
      have HSM := Lib.hid (HS.out mid (by omega) wr hbe)
      have HIFF := Lib.hid (HLE.out mid)
      clear hmid
      go_wp2_with fail
      refine HSM.out.mono ?_
      rintro e w1 ⟨v1, rfl, o1⟩
      have hb1 := hbe.trans (o1.below.mono hbe.size)
      have HCM := HC.out _ v1 w1 o1.isN hb1
      rw [Nat.add_zero] at HCM
      clear HSM o1
      by_cases hle : mid ≤ q
      · have hc : cmpI ((y * mid : Nat) : Int) (r : Int) ≤ 0 := by
          have := HIFF.out.1 hle
          rw [Nat.mul_comm] at this
          unfold cmpI
          split
          · omega
          · rw [if_neg (by omega)]; omega
        generalize cmpI ((y * mid : Nat) : Int) (r : Int) = cc at *
        have HCC := Lib.hid HCM
        have HEE := Lib.hid E
        clear HCM E
        go_wp2_with fail
        refine HCC.out.mono ?_
        rintro e w2 ⟨rfl, b2⟩
        go_wp2_with fail
        go_roundw
        case rel => exact ⟨mid, hi, congrArg (Value.int .u64) HEE.out, rfl, hle, h2, h3, hb1.trans (b2.mono hb1.size)⟩
        case measure =>
          have := HEE.out
          simp [intOf] <;> omega
      · have hc : ¬ cmpI ((y * mid : Nat) : Int) (r : Int) ≤ 0 := by
          have h4 : ¬ mid * y ≤ r := fun h => hle (HIFF.out.2 h)
          rw [Nat.mul_comm] at h4
          unfold cmpI
          rw [if_neg (by omega), if_pos (by omega)]
          omega
        generalize cmpI ((y * mid : Nat) : Int) (r : Int) = cc at *
        have HCC := Lib.hid HCM
        have HEE := Lib.hid E
        clear HCM E
        go_wp2_with fail
        refine HCC.out.mono ?_
        rintro e w2 ⟨rfl, b2⟩
        go_wp2_with fail
        go_roundw
        case rel => exact ⟨lo, mid - 1, rfl, congrArg (Value.int .u64) (by have := HEE.out; omega), h1, by omega, by omega, hb1.trans (b2.mono hb1.size)⟩
        case measure =>
          have := HEE.out
          simp [intOf] <;> omega

/-- The row of a literal of one element. -/
theorem own_lit (w : World) (x : Nat) (h : x < 4294967296) : Own (w.alloc (.cells #[.int .u32 (x : Int)] 86)) w.heap.size (.slice (some ⟨w.heap.size, 0, none⟩) 1 1) [x] :=
  ⟨World.ownsRow_lit w #[.int .u32 (x : Int)] 1 (Nat.le_refl _) (by unfold maxLen; omega) rfl, small_one h⟩

theorem rdivmod_zero (va vb : Value) (w : World) (hb : IsN w vb 0) :
    Calls Tryd.prog 130 #[va, vb] w (RetNo w) := by
  obtain ⟨B, m, d, rfl, hb⟩ := hb
  have hl := hb.len
  rw [dig_zero] at hl
  obtain rfl : m = 0 := hl.symm
  clear hl hb
  go_enter Tryd.func130, Tryd.ntmps130
  go_wp2_with fail
  go_ret3
  exact ⟨rfl, Below.refl _ _⟩

set_option maxHeartbeats 1000000 in
theorem rdivmod_any (x y : Nat) (va vb : Value) (w : World) (ha : IsN w va x) (hb : IsN w vb y) (hx : len x ≤ 274877906944) (hly : len y ≤ 274877906944) (hy : 0 < y) :
    Calls Tryd.prog 130 #[va, vb] w (RetD w (x / y) (x % y)) := by
  have hyl := len_pos hy
  have HB := Lib.hid (fun W (hW : Below w.heap.size w W) => hb.mono hW)
  obtain ⟨A, n, c, rfl, ha⟩ := ha
  obtain ⟨B, m, d, rfl, hb⟩ := hb
  have hm : len y = m := hb.len
  have hn : len x = n := ha.len
  have hmz : ((m : Int) == 0) = false := by rw [beq_eq_false_iff_ne]; omega
  have hn40 : n ≤ 274877906944 := by omega
  have hs0 := shortSt_start x hy
  rw [hn] at hs0
  have HS0 := Lib.hid hs0
  have HFI := Lib.hid (fun r v W (h1 : IsN W v r) (hW : Below w.heap.size w W) (hlt : r < 4294967296 * y) => rfits_any r y v (.slice B m d) W h1 (HB.out W hW) hly hy hlt)
  have HSM := Lib.hid (fun (q : Nat) (hq : q < 4294967296) W (hW : Below w.heap.size w W) => rsmall_any y q 0 (.slice B m d) W (HB.out W hW) (by omega) hq (by omega))
  have HCM := Lib.hid (fun (r : Nat) v W (h1 : IsN W v r) (hW : Below w.heap.size w W) => rcmpB_any r y v (.slice B m d) W h1 (HB.out W hW))
  have HYL := Lib.hid hly
  clear hs0 hm hn hb hyl
  go_enter Tryd.func130, Tryd.ntmps130
  go_wp2_with (at_make; refine wp_mk _ rfl _ _ rfl w.heap.size _ _ n rfl rfl rfl rfl (by omega) (Nat.le_refl _) ?_)
  intro w1 h1 g1
  have b1 : Below w.heap.size w w1 := (Below.refl _ _).grown g1 (Nat.le_refl _) (fun k h => by cases h)
  obtain ⟨g, hg⟩ : ∃ g, g = w.heap.size := ⟨_, rfl⟩
  rw [← hg] at h1 ⊢
  have HG := Lib.hid hg; clear hg
  have hg1 := h1.lt
  clear g1
  go_wp2_with fail
  go_loopw [8, 9] (fun r' i wr => ∃ (t : Int) (k r : Nat) (qs : List Nat), i = .int .i64 t ∧ t = (k : Int) - 1 ∧ k ≤ n ∧ ShortSt x y k r qs ∧ Own wr (g + 1) r' (dig r) ∧ Own wr g (.slice (some ⟨g, 0, none⟩) n n) (List.replicate k 0 ++ qs) ∧ Below w.heap.size w wr ∧ g < wr.heap.size) (fun _ i _ => (intOf i + 1).toNat)
  case atStart => exact ⟨_, n, 0, [], rfl, rfl, by omega, HS0.out, by rw [dig_zero]; exact Own.nil _ _, by rw [List.append_nil]; exact h1, b1, hg1⟩
  case round =>
    obtain ⟨t, k, r, qs, rfl, ht, hk, HS, hr, hown, hbe, hgl⟩ := hrel
    clear h1 b1 HS0 hg1
    cases k with
    | zero =>
      obtain rfl : t = -1 := by omega
      rw [List.replicate_zero, List.nil_append] at hown
      obtain ⟨e1, e2⟩ := shortSt_end HS
      have HTR := Lib.hid (rtrim_any qs _ _ _ wr hown.sl (by omega))
      have E1 := Lib.hid e1
      rw [e2] at hr
      clear hown e1 e2 HS ht
      go_wp2_with fail
      refine HTR.out.mono ?_
      rintro e w' ⟨v, rfl, o⟩
      go_wp2_with fail
      go_ret3
      exact ⟨_, _, rfl, by rw [← E1.out]; exact o.own.base_le hbe.size, (hr.below o.below).base_le (by rw [HG.out]; omega), hbe.trans (o.below.mono hbe.size)⟩
    | succ j =>
      obtain rfl : t = (j : Int) := by omega
      obtain ⟨b, off, u, rfl, _, hxc, HU, hu⟩ := ha.get hbe (k := j) (by omega)
      have hlr : len r ≤ len y := len_mono (Nat.le_of_lt HS.2.1)
      have hlt := shortSt_long HS HU.out hu
      have hs2 := (shortSt_step HS HU.out hu).1
      have hlp := len_push hu hlr
      have hdp := dig_push (r := r) hu
      obtain ⟨R, hR⟩ : ∃ R, R = u + 4294967296 * r := ⟨_, rfl⟩
      rw [← hR] at hlt hs2 hlp hdp
      clear hR
      have hq := (Nat.div_lt_iff_lt_mul hy).2 hlt
      have hmr : y * (R / y) ≤ R := Nat.mul_div_le _ _
      have hms : R - y * (R / y) = R % y := by
        have := Nat.div_add_mod R y
        omega
      have HDP := Lib.hid hdp
      obtain ⟨A', c', e, hrs, _⟩ := hr.form
      rw [length_dig] at e hrs
      subst e
      have HS2 := Lib.hid hs2
      have hlr2 : len r ≤ 274877906944 := Nat.le_trans hlr HYL.out
      have hlp2 : len R ≤ 274877906945 := Nat.le_trans hlp (by have := HYL.out; omega)
      have HMR := Lib.hid hmr
      have HMS := Lib.hid hms
      have HLT := Lib.hid hlt
      have HQ := Lib.hid hq
      clear hs2 hdp hlp hmr hms hlt hq ht HS HU hr
      go_wp2_with (at_builtin; refine wp_appS _ rfl _ _ rfl wr.heap.size _ [u] rfl (own_lit wr u hu) A' (len r) c' (dig r) rfl (hrs.mono ((Below.refl _ wr).alloc (Nat.le_refl _) _)) (by simp; omega) (by simp) ?_)
      intro v2 w2 h2 g2
      have b2 := ((Below.refl wr.heap.size wr).alloc (Nat.le_refl _) (.cells #[.int .u32 (u : Int)] 86)).grown g2 (by simp) (fun k hk => (own_lit wr u hu).blockGe k hk)
      have h2' : Own w2 wr.heap.size v2 (u :: dig r) := h2
      obtain ⟨A2, c2, e2, hs2, _⟩ := h2'.form
      have hl2 : (u :: dig r).length = len r + 1 := by rw [List.length_cons, length_dig]
      generalize (u :: dig r).length = L2 at *
      subst e2
      have hb2 := hbe.trans (b2.mono hbe.size)
      have HTR := rtrim_any (u :: dig r) A2 L2 c2 w2 hs2 (by omega)
      rw [HDP.out] at HTR
      have HT2 := Lib.hid HTR
      have HOW2 := Lib.hid (hown.below b2)
      have hg2 : g < w2.heap.size := Nat.lt_of_lt_of_le hgl b2.size
      clear hown HTR h2 h2' hs2 g2 hl2 HDP hrs hxc
      go_wp2_with fail
      refine HT2.out.mono ?_
      rintro e w3 ⟨v3, rfl, o3⟩
      have hb3 := hb2.trans (o3.below.mono hb2.size)
      have HC3 := HCM.out R v3 w3 o3.isN hb3
      have HOW3 := Lib.hid (HOW2.out.below o3.below)
      have hr3 := Lib.hid (o3.own.base_le (show g + 1 ≤ w2.heap.size from hg2))
      have hg3 : g < w3.heap.size := Nat.lt_of_lt_of_le hg2 o3.below.size
      have i3 := o3.isN
      clear o3 HOW2 HT2
      rcases Nat.lt_or_ge R y with hlt | hge
      · rw [cmpI_lt (by omega)] at HC3
        have HC := Lib.hid HC3
        have e1 := Nat.div_eq_of_lt hlt
        have e2 := Nat.mod_eq_of_lt hlt
        have hs3 := HS2.out
        rw [e1, e2] at hs3
        have HS3 := Lib.hid hs3
        clear HC3 e1 e2 hs3 hlt i3
        go_wp2_with fail
        refine HC.out.mono ?_
        rintro e w4 ⟨rfl, b4⟩
        go_wp2_with fail
        go_roundw
        case rel => exact ⟨(j : Int) - 1, j, R, 0 :: qs, by go_num, rfl, by omega, HS3.out, hr3.out.below b4, by
          have := HOW3.out.below b4
          rw [List.replicate_succ', List.append_assoc] at this
          exact this, hb3.trans (b4.mono hb3.size), Nat.lt_of_lt_of_le hg3 b4.size⟩
        case measure => simp [intOf] <;> omega
      · have hcm : 0 ≤ cmpI (R : Int) (y : Int) := by
          unfold cmpI; rw [if_neg (by omega)]; split <;> omega
        generalize cmpI (R : Int) (y : Int) = cc at *
        have HC := Lib.hid HC3
        clear HC3
        go_wp2_with fail
        refine HC.out.mono ?_
        rintro e w4 ⟨rfl, b4⟩
        have hb4 := hb3.trans (b4.mono hb3.size)
        have i4 := i3.mono b4
        have HF := HFI.out R v3 w4 i4 hb4 HLT.out
        obtain ⟨q, hq⟩ : ∃ q, R / y = q := ⟨_, rfl⟩
        rw [hq] at HF
        have hq32 : q < 4294967296 := by rw [← hq]; exact HQ.out
        have HMS2 := HMS.out
        have HMR2 := HMR.out
        have HS3 := HS2.out
        rw [hq] at HMS2 HMR2 HS3
        have HM1 := Lib.hid HMS2
        have HM2 := Lib.hid HMR2
        have HS4 := Lib.hid HS3
        have HFF := Lib.hid HF
        clear HF HMS2 HMR2 HS3 HMS HMR HS2 hq HQ i3 HC
        go_wp2_with fail
        refine HFF.out.mono ?_
        rintro e w5 ⟨rfl, b5⟩
        have hb5 := hb4.trans (b5.mono hb4.size)
        have hown := (HOW3.out.below b4).below b5
        have hfree := hown.free j
        obtain ⟨z, hz, _, _⟩ := hown.cell (j := j) (by omega)
        have hst := hown.store (j := j) (x := q) hq32
        rw [set_rep] at hst
        obtain ⟨q2, hqc, HQ2, _⟩ := hst.cell (j := j) (by omega)
        obtain rfl : q = q2 := by
          rw [← HQ2.out]
          have := nth_mid (List.replicate j 0) qs q (List.length_replicate ..)
          rw [List.append_assoc] at this
          exact this.symm
        have hb6 := hb5.setCell (p := ⟨g, j, none⟩) (by rw [HG.out]; exact Nat.le_refl _) (.int .u32 (q : Int))
        have i6 : IsN (w5.setCell ⟨g, j, none⟩ (.int .u32 (q : Int))) v3 R := isN_of_own (((hr3.out.below b4).below b5).far (Nat.lt_succ_self g) _) rfl
        have HSM2 := Lib.hid (HSM.out q hq32 _ hb6)
        have HST := Lib.hid hst
        have hg6 : g < (w5.setCell ⟨g, j, none⟩ (.int .u32 (q : Int))).heap.size := Nat.lt_of_lt_of_le (Nat.lt_of_lt_of_le hg3 b4.size) (Nat.le_trans b5.size (by simp [World.setCell]))
        clear hown hst HQ2 hr3 HOW3 HFF
        go_wp2_with fail
        refine HSM2.out.mono ?_
        rintro e w7 ⟨v7, rfl, o7⟩
        rw [Nat.add_zero] at o7
        have hb7 := hb6.trans (o7.below.mono hb6.size)
        have HL := rless_any R (y * q) v3 v7 w7 (i6.mono o7.below) o7.isN (Nat.le_trans hlp2 (by omega)) HM2.out
        rw [HM1.out] at HL
        have HLL := Lib.hid HL
        have HST7 := Lib.hid (HST.out.below o7.below)
        have hg7 : g < w7.heap.size := Nat.lt_of_lt_of_le hg6 o7.below.size
        clear HL HSM2 HST o7 i6
        go_wp2_with fail
        refine HLL.out.mono ?_
        rintro e w8 ⟨v8, rfl, o8⟩
        go_wp2_with fail
        go_roundw
        case rel => exact ⟨(j : Int) - 1, j, R % y, q :: qs, by go_num, rfl, by omega, HS4.out, o8.own.base_le hg7, HST7.out.below o8.below, hb7.trans (o8.below.mono hb7.size), Nat.lt_of_lt_of_le hg7 o8.below.size⟩
        case measure => simp [intOf] <;> omega

theorem dvB_exB {x y : Nat} (hy : 0 < y) : dvB y x = exB x y := by
  unfold dvB exB
  rw [decide_eq_decide]
  constructor
  · rintro (h | h)
    · exact ⟨hy, by rw [h, Nat.zero_mod]⟩
    · exact h
  · exact .inr

end Go.Proofs.YtgcmdlannbobgaaDoor


/- Walks: Powmod, of the program and of the reference. -/
namespace Go.Proofs.YtgcmdlannbobgaaDoor
open Go.RowKit
set_option linter.unusedVariables false
set_option linter.unusedSimpArgs false
set_option maxRecDepth 100000

/-- A power modulo m, from the top down. -/
def pmod (x m e : Nat) : Nat := x ^ e % m
theorem pmod_zero (x m : Nat) : pmod x m 0 = 1 % m := by unfold pmod; rw [Nat.pow_zero]
theorem pmod_even (x m e : Nat) : pmod x m e * pmod x m e % m = pmod x m (2 * e) := by
  unfold pmod
  rw [← Nat.mul_mod, pow_even]
theorem pmod_odd (x m e : Nat) : pmod x m (2 * e) * (x % m) % m = pmod x m (2 * e + 1) := by
  unfold pmod
  rw [← Nat.mul_mod, pow_odd]
theorem pmod_odd' (x m e : Nat) : pmod x m (2 * e) * x % m = pmod x m (2 * e + 1) := by
  rw [← pmod_odd, Nat.mul_mod, Nat.mul_mod (pmod x m (2 * e)) (x % m), Nat.mod_mod]
theorem len_pmod {x m e : Nat} (hm : 0 < m) : len (pmod x m e) ≤ len m := len_mod hm
theorem len_pmod_sq {x m e : Nat} (hm : 0 < m) : len (pmod x m e * pmod x m e) ≤ len m + len m := by
  have := len_mul (pmod x m e) (pmod x m e)
  have := len_pmod (x := x) (e := e) hm
  omega
theorem len_pmod_mul {x m e y : Nat} (hm : 0 < m) : len (pmod x m e * y) ≤ len m + len y := by
  have := len_mul (pmod x m e) y
  have := len_pmod (x := x) (e := e) hm
  omega
def pmQ (x n m : Nat) : Nat := if m = 0 then 0 else x ^ n % m
theorem pmQ_zero (x n : Nat) : pmQ x n 0 = 0 := if_pos rfl
theorem pmQ_pos {x n m : Nat} (h : 0 < m) : pmQ x n m = pmod x m n := if_neg (by omega)

theorem bitI_bit {n k b : Nat} (hb : n / 2 ^ k % 2 = b) : bitI n (k : Int) = decide (b = 1) := by
  rw [bitI_nat]
  unfold bitB
  rw [hb]

end Go.Proofs.YtgcmdlannbobgaaDoor

