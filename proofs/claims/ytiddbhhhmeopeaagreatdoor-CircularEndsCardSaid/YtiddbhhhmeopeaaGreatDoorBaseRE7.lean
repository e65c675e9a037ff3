/- Base texts, joined: Len32, Bits, NBits, NatG, RefA, RefB, RefC, RefD, Mill, RefE, LiveA, Live. -/
import Derived.Test.YtiddbhhhmeopeaaGreatDoorBaseNE7
import Derived.Shelf.Small.Bits
import Derived.Shelf.Spec.TrailingZeros
import Derived.RegionTactic
import Derived.ChangeAlike
/- math/bits: Len32 (by the library's contract). -/
namespace Go.Proofs.YtiddbhhhmeopeaaGreatDoor
set_option maxHeartbeats 64000000
open Go.RowKit
set_option linter.unusedVariables false
set_option linter.unusedSimpArgs false
set_option maxRecDepth 100000

def len32Ren : Go.Shelf.Ren:=⟨fun | 128 => 254 | n => n, fun | 51 => 140 | 3 => 3 | 4 => 4 | 46 => 142 | 5 => 5 | 9 => 9 | n => n, fun | n => n⟩
theorem len32Lays : Go.Proofs.Lays.n128 Tryz.prog len32Ren:={
 mixed:=by kernel_rfl
 f128:=Tryz.func254.trans (congrArg some (by kernel_rfl))
 t3:=Tryz.underlying3
 a3:=Tryz.isAgg3
 z3:=Tryz.sizeOf3
 v3:=Tryz.zeroValue3
 t4:=Tryz.underlying4
 a4:=Tryz.isAgg4
 z4:=Tryz.sizeOf4
 v4:=Tryz.zeroValue4
 t5:=Tryz.underlying5
 a5:=Tryz.isAgg5
 z5:=Tryz.sizeOf5
 v5:=Tryz.zeroValue5
 t9:=Tryz.underlying9
 a9:=Tryz.isAgg9
 z9:=Tryz.sizeOf9
 v9:=Tryz.zeroValue9
 t46:=Tryz.underlying142
 a46:=Tryz.isAgg142
 z46:=Tryz.sizeOf142
 v46:=Tryz.zeroValue142
 t51:=Tryz.underlying140
 a51:=Tryz.isAgg140
 z51:=Tryz.sizeOf140
 v51:=Tryz.zeroValue140 }

theorem bitLenAux_eq (f x : Nat) (h : x < 2 ^ f) : Lib.bitLenAux f x = blen x:=by
  induction f generalizing x with
  | zero =>
    have : x = 0:=by simpa using h
    subst this
    rfl
  | succ f ih =>
    unfold Lib.bitLenAux
    by_cases h0 : x = 0
    · rw [if_pos h0, h0]; rfl
    · rw [if_neg h0, ih (x / 2) (by rw [Nat.pow_succ] at h; omega)]
      exact (blen_half (Nat.pos_of_ne_zero h0)).symm

theorem len32_any (x : Nat) (w : World) (h : x < 4294967296) :
  Calls Tryz.prog 254 #[.int .u32 (x : Int)] w fun e w' => e = .returned (.int .i64 (blen x : Nat)) ∧ w = w':=by
 refine (Any.bits_Len32 len32Lays (x : Int) w (by omega) (by omega)).mono ?_
 rintro e w' ⟨rfl, rfl⟩
 refine ⟨?_, rfl⟩
 have : Lib.bitLen (x : Int).toNat = blen x:=by
  rw [Int.toNat_natCast]
  exact bitLenAux_eq 64 x (by omega)
 rw [this]

end Go.Proofs.YtiddbhhhmeopeaaGreatDoor


/- math/bits: TrailingZeros32 (walked). -/
namespace Go.Proofs.YtiddbhhhmeopeaaGreatDoor
set_option maxHeartbeats 64000000
open Go.RowKit
set_option linter.unusedVariables false
set_option linter.unusedSimpArgs false
set_option maxRecDepth 100000
def Tab (w : World) : Prop:=0 < w.heap.size ∧ ∀ j, j < Lib.deBruijn32tab.length → w.cell? ⟨0, j, none⟩ = some (.int .u8 (Lib.deBruijn32tab.getD j 0))
theorem Tab.mono {w w' : World} (h : Tab w) (hb : Below w.heap.size w w') : Tab w':=
 ⟨Nat.lt_of_lt_of_le h.1 hb.size, fun j hj => (hb.cell (p:=⟨0, j, none⟩) h.1).trans (h.2 j hj)⟩

theorem ctzFrom_eq (f x : Nat) (h0 : 0 < x) (h : x < 2 ^ f) : Lib.ctzFrom f x = tz x:=by
 obtain ⟨m, hm, _⟩:=Lib.ctzFrom_spec f x h0 h
 have:=tz_mul (Lib.ctzFrom f x) m
 rw [← hm] at this
 exact this.symm

theorem tz32_core (x k idx : Nat) (w : World) (hx0 : ((x : Int) == 0) = false)
  (key : bits BinOp.and IntKind.u32 (x : Int) (-(x : Int) % 4294967296) * 125613361 % 4294967296 / 134217728 = (idx : Int))
  (hi : idx < 32) (hk : k < 32) (hcell : w.cell? ⟨0, idx, none⟩ = some (.int .u8 (k : Int))) :
  Calls Tryz.prog 241 #[.int .u32 (x : Int)] w fun e w' => e = .returned (.int .i64 (k : Nat)) ∧ w = w':=by
 go_enter Tryz.func241, Tryz.ntmps241
 go_wp2_with (simp only [key])
 go_ret
 exact ⟨rfl, rfl⟩

theorem tz32_any (x : Nat) (w : World) (hx : x < 4294967296) (h0 : 0 < x) (hT : Tab w) :
  Calls Tryz.prog 241 #[.int .u32 (x : Int)] w fun e w' => e = .returned (.int .i64 (tz x : Nat)) ∧ w = w':=by
 obtain ⟨hlow, hk⟩:=Lib.lowest_bit 32 x (by omega) hx
 obtain ⟨hi, htab⟩:=Lib.deBruijn32_at _ hk
 have hcell:=hT.2 _ hi
 rw [htab] at hcell
 have e : Lib.ctz 32 x = tz x:=by
  unfold Lib.ctz
  rw [if_neg (by omega), ctzFrom_eq 32 x h0 hx]
 have key:=tz32_key x _ hx (by omega) hlow
 rw [e] at key hcell hk hi
 exact tz32_core x _ _ w (by rw [beq_eq_false_iff_ne]; omega) key hi hk hcell

end Go.Proofs.YtiddbhhhmeopeaaGreatDoor


/- Walk: nat.Bits. -/
namespace Go.Proofs.YtiddbhhhmeopeaaGreatDoor
set_option maxHeartbeats 64000000
open Go.RowKit
set_option linter.unusedVariables false
set_option linter.unusedSimpArgs false
set_option maxRecDepth 100000

theorem nbits_any (x : Nat) (va : Value) (w : World) (ha : IsN w va x) (hx : len x ≤ 1099511627776) :
  Calls Tryz.prog 231 #[va] w fun e w' => e = .returned (.int .i64 (blen x : Nat)) ∧ w = w':=by
 obtain ⟨A, n, c, rfl, ha⟩:=ha
 have HC:=length_any _ A n c w ha
 rw [trim_dig, ha.len] at HC
 have HL:=Hd9 HC; clear HC
 have hlx : len x = n:=ha.len
 rcases Nat.eq_zero_or_pos n with h0 | h0
 ·have hz : x = 0:=len_eq_zero (by rw [hlx]; exact h0)
  subst h0; subst hz
  clear hlx
  rw [blen_zero]
  go_enter Tryz.func231, Tryz.ntmps231
  go_wp2_with (go_at_call 234; refine HL.out.mono ?_; rintro e w' ⟨rfl, rfl⟩)
  go_ret
  exact ⟨rfl, rfl⟩
 ·obtain ⟨m, rfl⟩ : ∃ m, n = m + 1:=⟨n - 1, by omega⟩
  obtain ⟨b, off, u, rfl, _, hc, HU, hu⟩:=ha.get (Below.refl _ _) (k:=m) (by omega)
  have hup : 0 < u:=by
   rcases Nat.eq_zero_or_pos u with h1 | h1
   ·exfalso
    have:=trim_short (small_dig x) ha.len (by rw [HU.out]; exact h1)
    rw [trim_dig, ha.len] at this
    omega
   ·exact h1
  have hb : blen x = 32 * m + blen u:=by
   have e:=val_take_succ (dig x) m
   rw [List.take_of_length_le (Nat.le_of_eq ha.len), val_dig, HU.out] at e
   have hlo:=val_take_lt (dig x) (small_dig x) m
   rw [W32_pow] at e hlo
   have:=blen_high hlo hup
   rwa [← e] at this
  have hu5 : blen u ≤ 32:=blen_le hu
  have HB:=Hd9 hb
  have H2:=Hd9 (len32_any u w hu)
  have hnz : ((m : Int) + 1 == 0) = false:=by rw [beq_eq_false_iff_ne]; omega
  have hm40 : m ≤ 1099511627776:=by omega
  clear hb hlx hup
  generalize blen u = bu at *
  go_enter Tryz.func231, Tryz.ntmps231
  go_wp2_with fail
  refine HL.out.mono ?_; rintro e w' ⟨rfl, rfl⟩
  go_wp2_with fail
  refine H2.out.mono ?_; rintro e w' ⟨rfl, rfl⟩
  go_wp2_with fail
  go_ret
  exact ⟨by rw [HB.out]; exact congrArg (fun i => Ending.returned (Value.int .i64 i)) (by omega), rfl⟩

end Go.Proofs.YtiddbhhhmeopeaaGreatDoor


/- Walks: nat.Low, Bit, Zeros. -/
namespace Go.Proofs.YtiddbhhhmeopeaaGreatDoor
set_option maxHeartbeats 64000000
open Go.RowKit
set_option linter.unusedVariables false
set_option linter.unusedSimpArgs false
set_option maxRecDepth 100000

theorem nbit_any (x q l : Nat) (va : Value) (w : World) (ha : IsN w va x) (hl : l < 32) (hk : 32 * q + l ≤ 9223372036854775807) :
  Calls Tryz.prog 230 #[va, .int .i64 ((32 * q + l : Nat) : Int)] w fun e w' => e = .returned (.bool (bitB x (32 * q + l))) ∧ w = w':=by
 obtain ⟨A, n, c, rfl, ha⟩:=ha
 rw [bitB_dig x q l hl]
 have hn63:=ha.le63
 obtain ⟨k, hk'⟩ : ∃ k : Nat, k = 32 * q + l:=⟨_, rfl⟩
 have h1 : (k : Int) / 32 = (q : Int):=by omega
 have h2 : (k : Int) % 32 = (l : Int):=by omega
 rw [← hk'] at hk ⊢
 clear hk'
 rcases Nat.lt_or_ge q n with hqn | hqn
 ·obtain ⟨b, off, u, rfl, _, hc, HU, hu⟩:=ha.get (Below.refl _ _) (k:=q) hqn
  rw [HU.out]
  refine Calls.mono (R:=fun e w' => e = .returned (.bool (bits .and .u32 ((u : Int) / 2 ^ l) 1 == 1)) ∧ w = w') ?_ ?_
  ·go_enter Tryz.func230, Tryz.ntmps230
   go_wp2_with fail
   go_ret
   exact ⟨rfl, rfl⟩
  ·rintro e w' ⟨rfl, rfl⟩
   refine ⟨?_, rfl⟩
   have hul : u / 2 ^ l < 4294967296:=Nat.lt_of_le_of_lt (Nat.div_le_self _ _) hu
   have e1 : (u : Int) / 2 ^ l = ((u / 2 ^ l : Nat) : Int):=by rw [Int.natCast_ediv, Int.natCast_pow]; rfl
   have e2 : bits .and .u32 ((u / 2 ^ l : Nat) : Int) 1 = ((u / 2 ^ l % 2 : Nat) : Int):=by
    have:=u32_and_nat (u / 2 ^ l) 1 hul (by omega)
    rw [Nat.and_one_is_mod] at this
    exact this
   have e3 : (bits .and .u32 ((u : Int) / 2 ^ l) 1 == 1) = decide (u / 2 ^ l % 2 = 1):=by
    rw [e1, e2, Bool.eq_iff_iff, beq_iff_eq, decide_eq_true_iff]
    omega
   rw [e3]
 ·rw [nth_of_ge (by rw [ha.len]; exact hqn)]
  have e0 : decide (0 / 2 ^ l % 2 = 1) = false:=by simp
  rw [e0]
  go_enter Tryz.func230, Tryz.ntmps230
  go_wp2_with fail
  go_ret
  exact ⟨rfl, rfl⟩
def ZerosTo (x j : Nat) : Prop:=∀ i, i < j → nth (dig x) i = 0

theorem nzeros_any (x : Nat) (va : Value) (w : World) (ha : IsN w va x) (hx : len x ≤ 1099511627776) (hT : Tab w) :
  Calls Tryz.prog 206 #[va] w fun e w' => e = .returned (.int .i64 (tz x : Nat)) ∧ w = w':=by
 obtain ⟨A, n, c, rfl, ha⟩:=ha
 have hn40 : n ≤ 1099511627776:=by rw [← ha.len]; exact hx
 have HLX:=Hd9 ha.len
 have HT:=Hd9 hT; clear hT
 refine Calls.mono (R:=fun e w' => ∃ i : Int, e = .returned (.int .i64 i) ∧ Hid (i = (tz x : Nat)) ∧ w = w') ?_ (by rintro e w' ⟨i, rfl, h1, h2⟩; exact ⟨by rw [h1.out], h2⟩)
 go_enter Tryz.func206, Tryz.ntmps206
 go_wp2_with fail
 go_loop [7] (fun i => ∃ j : Nat, i = .int .i64 j ∧ j ≤ n ∧ ZerosTo x j) (fun i => n - (intOf i).toNat)
 case atStart => exact ⟨0, rfl, by omega, fun i hi => by omega⟩
 case round =>
  obtain ⟨j, rfl, hj, HZ⟩:=hrel
  rcases Nat.eq_or_lt_of_le hj with rfl | hjn
  ·have h0 : x = 0:=by
    rw [← val_dig x]
    exact val_zero_of_nth fun i => by
     rcases Nat.lt_or_ge i j with h | h
     ·exact HZ i h
     ·exact nth_of_ge (by rw [HLX.out]; exact h)
   have H0:=Hd9 h0; clear h0
   go_wp2_with fail
   go_ret
   exact ⟨0, rfl, by rw [H0.out, tz_zero]; rfl, rfl⟩
  ·obtain ⟨b, off, u, rfl, _, hc, HU, hu⟩:=ha.get (Below.refl _ _) (k:=j) hjn
   by_cases hu0 : u = 0
   ·subst hu0
    have hxn : ((0 : Int) != 0) = false:=rfl
    go_wp2_with fail
    go_round
    case rel =>
     refine ⟨j + 1, by go_num, by omega, fun i hi => ?_⟩
     rcases Nat.lt_or_ge i j with h | h
     ·exact HZ i h
     ·obtain rfl : i = j:=by omega
      exact HU.out
    case measure => simp [intOf] <;> omega
   ·have hxn : ((u : Int) != 0) = true:=by rw [bne_iff_ne]; omega
    have hxb : ((u : Int) == 0) = false:=by rw [beq_eq_false_iff_ne]; omega
    have hE:=tz_words HZ HU.out (Nat.pos_of_ne_zero hu0)
    have H2:=Hd9 (tz32_any u w hu (Nat.pos_of_ne_zero hu0) HT.out)
    have htu : tz u < 32:=by
     obtain ⟨m, hm⟩:=tz_form (Nat.pos_of_ne_zero hu0)
     have h1 : 2 ^ tz u * 1 ≤ u:=by
      have : 2 ^ tz u * 1 ≤ 2 ^ tz u * (2 * m + 1):=Nat.mul_le_mul_left _ (by omega)
      omega
     exact (Nat.pow_lt_pow_iff_right (by omega : 1 < 2)).1 (show 2 ^ tz u < 2 ^ 32 by omega)
    have HE:=Hd9 hE
    clear hE hu0
    generalize tz u = tu at *
    go_wp2_with fail
    refine H2.out.mono ?_; rintro e w' ⟨rfl, rfl⟩
    go_wp2_with fail
    go_ret
    exact ⟨_, rfl, by rw [HE.out]; show _ = _; omega, rfl⟩

end Go.Proofs.YtiddbhhhmeopeaaGreatDoor


/- Walks: the reference's at, Cmp, Same, Valid, Trim, Of, Uint. -/
namespace Go.Proofs.YtiddbhhhmeopeaaGreatDoor
set_option maxHeartbeats 64000000
open Go.RowKit
set_option linter.unusedVariables false
set_option linter.unusedSimpArgs false
set_option maxRecDepth 100000

theorem at_any (l : List Nat) (k : Nat) (A : Option Addr) (n c : Nat) (w : World) (h : Sl w A n c l) :
  Calls Tryz.prog 137 #[.slice A n c, .int .i64 (k : Int)] w fun e w' => e = .returned (.int .u64 (nth l k : Nat)) ∧ w = w':=by
 rcases Nat.lt_or_ge k n with hk | hk
 ·obtain ⟨b, off, x, rfl, _, hc, HX, hx⟩:=h.get (Below.refl _ _) hk
  rw [HX.out]
  go_enter Tryz.func137, Tryz.ntmps137
  go_wp2
  go_ret
  exact ⟨rfl, rfl⟩
 ·rw [nth_of_ge (by rw [h.len]; exact hk)]
  go_enter Tryz.func137, Tryz.ntmps137
  go_wp2
  go_ret
  exact ⟨rfl, rfl⟩

def SameOver (a b : List Nat) (t : Int) : Prop:=∀ j : Nat, t < j → nth a j = nth b j

theorem rcmp_any (a b : List Nat) (A B : Option Addr) (n c m d : Nat) (w : World) (ha : Sl w A n c a) (hb : Sl w B m d b) :
  Calls Tryz.prog 141 #[.slice A n c, .slice B m d] w fun e w' => e = .returned (.int .i64 (cmpI (val a : Nat) (val b : Nat))) ∧ w = w':=by
 have la:=Hd9 ha.len
 have lb:=Hd9 hb.len
 have a63:=ha.le63
 have b63:=hb.le63
 refine Calls.mono (R:=fun e w' => ∃ i : Int, e = .returned (.int .i64 i) ∧ Hid (i = cmpI (val a : Nat) (val b : Nat)) ∧ w = w') ?_ (by rintro e w' ⟨i, rfl, h1, h2⟩; exact ⟨by rw [h1.out], h2⟩)
 go_enter Tryz.func141, Tryz.ntmps141
 go_wp2_with fail
 all_goals
  go_loop [5] (fun i => ∃ t : Int, i = .int .i64 t ∧ -1 ≤ t ∧ t ≤ 9223372036854775806 ∧ SameOver a b t) (fun i => (intOf i + 1).toNat)
  case atStart => exact ⟨_, rfl, by omega, by omega, fun j hj => by rw [nth_of_ge (by rw [la.out]; omega), nth_of_ge (by rw [lb.out]; omega)]⟩
  case round =>
   obtain ⟨t, rfl, h1, h2, HS⟩:=hrel
   by_cases ht : t = -1
   ·subst ht
    go_wp2_with fail
    go_ret
    have e : val a = val b:=val_eq_of_nth fun j => HS j (by omega)
    exact ⟨_, rfl, by rw [e]; exact (cmpI_eq _).symm, rfl⟩
   ·obtain ⟨k, rfl⟩ : ∃ k : Nat, t = (k : Int):=⟨t.toNat, by omega⟩
    clear ht
    have H1:=at_any a k A n c w ha
    have H2:=at_any b k B m d w hb
    obtain ⟨u, hu⟩:=nm9 (nth a k)
    obtain ⟨v, hv⟩:=nm9 (nth b k)
    rw [hu] at H1
    rw [hv] at H2
    have HA:=Hd9 H1; clear H1
    have HB:=Hd9 H2; clear H2
    have HU:=Hd9 hu; clear hu
    have HV:=Hd9 hv; clear hv
    rcases Nat.lt_trichotomy u v with h | h | h
    ·have hlt : val a < val b:=val_lt_top (i:=k) ha.small (fun j hj => HS j (by omega)) (by rw [HU.out, HV.out]; exact h)
     have HLT:=Hd9 (cmpI_lt (show ((val a : Nat) : Int) < (val b : Nat) by omega)); clear hlt
     go_wp2_with fail
     refine HA.out.mono ?_; rintro e w' ⟨rfl, rfl⟩
     go_wp2_with fail
     refine HB.out.mono ?_; rintro e w' ⟨rfl, rfl⟩
     go_wp2_with fail
     go_ret
     exact ⟨_, rfl, HLT.out.symm, rfl⟩
    ·subst h
     go_wp2_with fail
     refine HA.out.mono ?_; rintro e w' ⟨rfl, rfl⟩
     go_wp2_with fail
     refine HB.out.mono ?_; rintro e w' ⟨rfl, rfl⟩
     go_wp2_with fail
     refine HA.out.mono ?_; rintro e w' ⟨rfl, rfl⟩
     go_wp2_with fail
     refine HB.out.mono ?_; rintro e w' ⟨rfl, rfl⟩
     go_wp2_with fail
     go_round
     case rel =>
      refine ⟨_, rfl, by omega, by omega, fun j hj => ?_⟩
      by_cases hjk : j = k
      ·subst hjk; rw [HU.out, HV.out]
      ·exact HS j (by omega)
     case measure => simp [intOf] <;> omega
    ·have hlt : val b < val a:=val_lt_top (i:=k) hb.small (fun j hj => (HS j (by omega)).symm) (by rw [HU.out, HV.out]; exact h)
     have HLT:=Hd9 (cmpI_gt (show ((val b : Nat) : Int) < (val a : Nat) by omega)); clear hlt
     have hn : ¬ (u : Int) < v:=by omega
     go_wp2_with fail
     refine HA.out.mono ?_; rintro e w' ⟨rfl, rfl⟩
     go_wp2_with fail
     refine HB.out.mono ?_; rintro e w' ⟨rfl, rfl⟩
     go_wp2_with fail
     refine HA.out.mono ?_; rintro e w' ⟨rfl, rfl⟩
     go_wp2_with fail
     refine HB.out.mono ?_; rintro e w' ⟨rfl, rfl⟩
     go_wp2_with fail
     go_ret
     exact ⟨_, rfl, HLT.out.symm, rfl⟩
def sameB (x y : Nat) : Bool:=decide (x = y)
theorem same_any (x y : Nat) (va vb : Value) (w : World) (ha : IsN w va x) (hb : IsN w vb y) :
  Calls Tryz.prog 196 #[va, vb] w fun e w' => e = .returned (.bool (sameB x y)) ∧ w = w':=by
 obtain ⟨A, n, c, rfl, ha⟩:=ha
 obtain ⟨B, m, d, rfl, hb⟩:=hb
 have H:=rcmp_any _ _ A B n c m d w ha hb
 rw [val_dig, val_dig] at H
 have hl : len x = n:=ha.len
 have hm : len y = m:=hb.len
 have a63:=ha.le63
 have b63:=hb.le63
 by_cases hnm : n = m
 ·by_cases hxy : x = y
  ·subst hxy
   rw [cmpI_eq] at H
   rw [show sameB x x = true from decide_eq_true rfl]
   have HC:=Hd9 H; clear H
   clear hl hm
   subst hnm
   go_enter Tryz.func196, Tryz.ntmps196
   go_wp2_with (go_at_call 141; refine HC.out.mono ?_; rintro e w' ⟨rfl, rfl⟩)
   go_ret
   exact ⟨rfl, rfl⟩
  ·rw [show sameB x y = false from decide_eq_false hxy]
   have hz : cmpI (x : Int) (y : Int) ≠ 0:=fun h => hxy (by have:=cmpI_zero h; omega)
   have hzb : (cmpI (x : Int) (y : Int) == 0) = false:=by simpa using hz
   have HC:=Hd9 H; clear H
   clear hl hm hz
   subst hnm
   generalize cmpI (x : Int) (y : Int) = cc at *
   go_enter Tryz.func196, Tryz.ntmps196
   go_wp2_with (go_at_call 141; refine HC.out.mono ?_; rintro e w' ⟨rfl, rfl⟩)
   go_ret
   exact ⟨rfl, rfl⟩
 ·have hxy : x ≠ y:=fun h => hnm (by rw [← hl, ← hm, h])
  rw [show sameB x y = false from decide_eq_false hxy]
  have hzb : ((n : Int) == (m : Int)) = false:=by rw [beq_eq_false_iff_ne]; omega
  clear H hl hm hnm
  go_enter Tryz.func196, Tryz.ntmps196
  go_wp2_with fail
  go_ret
  exact ⟨rfl, rfl⟩

theorem rvalid_any (l : List Nat) (A : Option Addr) (n c : Nat) (w : World) (h : Sl w A n c l) :
    Calls Tryz.prog 199 #[.slice A n c] w fun e w' => e = .returned (.bool (isTrim l)) ∧ w = w':=by
  have hl:=h.len
  have h63:=h.le63
  cases n with
  | zero =>
    have : l = []:=List.eq_nil_of_length_eq_zero hl
    rw [show isTrim l = true by rw [this]; rfl]
    clear hl this
    go_enter Tryz.func199, Tryz.ntmps199
    go_wp2
    go_ret
    exact ⟨rfl, rfl⟩
  | succ k =>
    obtain ⟨b, off, x, rfl, _, hc, HX, hx⟩:=h.get (Below.refl _ _) (k:=k) (by omega)
    have hnz : ((k : Int) + 1 == 0) = false:=by rw [beq_eq_false_iff_ne]; omega
    by_cases hx0 : x = 0
    · subst hx0
      have:=trim_short h.small hl HX.out
      rw [show isTrim l = false from decide_eq_false (by omega)]
      clear hl this
      go_enter Tryz.func199, Tryz.ntmps199
      go_wp2
      go_ret
      exact ⟨rfl, rfl⟩
    · have:=trim_full hl (by rw [HX.out]; exact hx0)
      rw [show isTrim l = true from decide_eq_true (by rw [this])]
      have hxb : ((x : Int) == 0) = false:=by rw [beq_eq_false_iff_ne]; omega
      have hxn : ((x : Int) != 0) = true:=by rw [bne_iff_ne]; omega
      clear hl this hx0
      go_enter Tryz.func199, Tryz.ntmps199
      go_wp2
      go_ret
      exact ⟨rfl, rfl⟩

theorem own_none (w : World) : Own (w.alloc (.cells #[] 140)) w.heap.size (.slice (some ⟨w.heap.size, 0, none⟩) 0 0) []:=
 ⟨World.ownsRow_lit w #[] 0 (Nat.le_refl _) (Nat.zero_le _) rfl, small_nil⟩

theorem rtrim_any (l : List Nat) (A : Option Addr) (n c : Nat) (w : World) (h : Sl w A n c l) (hn : n ≤ 35184372088832) :
  Calls Tryz.prog 125 #[.slice A n c] w (RetL w (trim l)):=by
 have h63:=h.le63
 have hcap:=h.cap
 have HL:=Hd9 h.len
 go_enter Tryz.func125, Tryz.ntmps125
 go_wp2
 go_loop [3] (fun t => ∃ k : Nat, t = .int .i64 k ∧ k ≤ n ∧ Hid (∀ j, k ≤ j → j < n → nth l j = 0)) (fun t => (intOf t).toNat)
 case atStart => exact ⟨n, rfl, Nat.le_refl _, fun j h1 h2 => by omega⟩
 case round =>
  obtain ⟨k, rfl, hk, Hz⟩:=hrel
  rcases Nat.eq_zero_or_pos k with h0 | h0
  ·subst h0
   have HT:=Hd9 (trim_of (l:=l) (k:=0) (by omega) (by rw [HL.out]; exact Hz.out) (by omega))
   go_wp2_with (at_builtin; refine wp_appS _ rfl _ _ rfl w.heap.size _ [] rfl (own_none w) _ _ c (l.take 0) rfl ((h.mono ((Below.refl _ _).alloc (Nat.le_refl _) _)).takeN (Nat.zero_le _)) (by simp) (by simp) ?_)
   intro v' w' h1 g1
   go_wp2
   go_ret
   exact ⟨_, rfl, by rw [HT.out]; exact h1, ((Below.refl _ _).alloc (Nat.le_refl _) _).grown g1 (by simp) (fun k hk => (own_none w).blockGe k hk)⟩
  ·obtain ⟨m, rfl⟩ : ∃ m, k = m + 1:=⟨k - 1, by omega⟩
   obtain ⟨b, off, x, rfl, hb, hc, HX, hx32⟩:=h.get (Below.refl _ _) (k:=m) (by omega)
   by_cases hx : x = 0
   ·subst hx
    go_wp2
    go_round
    case rel =>
     refine ⟨m, by go_num, by omega, fun j h1 h2 => ?_⟩
     rcases Nat.eq_or_lt_of_le h1 with rfl | h1
     ·exact HX.out
     ·exact Hz.out j h1 h2
    case measure => simp [intOf]
   ·have hxb : ((x : Int) == 0) = false:=by simp; omega
    have HT:=Hd9 (trim_of (l:=l) (k:=m + 1) (by rw [HL.out]; exact hk) (by rw [HL.out]; exact Hz.out) (fun _ => by rw [Nat.add_sub_cancel, HX.out]; exact hx))
    clear hx
    go_wp2_with (at_builtin; refine wp_appS _ rfl _ _ rfl w.heap.size _ [] rfl (own_none w) _ _ c (l.take (m + 1)) rfl ((h.mono ((Below.refl _ _).alloc (Nat.le_refl _) _)).takeN hk) (by simp; omega) (by simp) ?_)
    intro v' w' h1 g1
    go_wp2
    go_ret
    exact ⟨_, rfl, by rw [HT.out]; exact h1, ((Below.refl _ _).alloc (Nat.le_refl _) _).grown g1 (by simp) (fun k hk => (own_none w).blockGe k hk)⟩

theorem rof_any (n : Nat) (w : World) (hn : n < 18446744073709551616) :
  Calls Tryz.prog 112 #[.int .u64 (n : Int)] w (RetN w n):=by
 obtain ⟨x, hx⟩ : ∃ x, x = n % 4294967296:=⟨_, rfl⟩
 obtain ⟨y, hy⟩ : ∃ y, y = n / 4294967296:=⟨_, rfl⟩
 have ho:=own_two w x y (by unfold W32; omega) (by unfold W32; omega)
 have e1 : (n : Int) % 4294967296 = (x : Int):=by omega
 have e2 : (n : Int) / 4294967296 = (y : Int):=by omega
 have hv : val [x, y] = n:=by simp only [val, W32]; omega
 have hd : dig n = trim [x, y]:=by rw [← hv, dig_val ho.small]
 have H:=rtrim_any [x, y] _ _ _ _ ho.sl (by simp)
 rw [← hd, ← e1, ← e2] at H
 have HL:=Hd9 H
 clear H ho e1 e2 hv hd hx hy
 go_enter Tryz.func112, Tryz.ntmps112
 go_wp2_with fail
 refine HL.out.mono ?_
 rintro e w' ⟨v, rfl, hv⟩
 go_wp2_with fail
 go_ret
 exact ⟨_, rfl, hv.own.base_le (by simp), ((Below.refl _ _).alloc (Nat.le_refl _) _).trans (hv.below.mono (by simp))⟩

end Go.Proofs.YtiddbhhhmeopeaaGreatDoor


/- Walks: the reference's Uint, Add, Sub, Less. -/
namespace Go.Proofs.YtiddbhhhmeopeaaGreatDoor
set_option maxHeartbeats 64000000
open Go.RowKit
set_option linter.unusedVariables false
set_option linter.unusedSimpArgs false
set_option maxRecDepth 100000

theorem radd_any (x y : Nat) (va vb : Value) (w : World) (ha : IsN w va x) (hb : IsN w vb y) (hx : len x ≤ 1099511627776) (hy : len y ≤ 1099511627776) :
  Calls Tryz.prog 143 #[va, vb] w (RetN w (x + y)):=by
 obtain ⟨A, n, c, rfl, ha⟩:=ha
 obtain ⟨B, m, d, rfl, hb⟩:=hb
 have hlx : len x = n:=ha.len
 have hly : len y = m:=hb.len
 have hn : n ≤ 1099511627776:=by omega
 have hm : m ≤ 1099511627776:=by omega
 have HLX:=Hd9 hlx; clear hlx
 have HLY:=Hd9 hly; clear hly
 obtain ⟨g, hg⟩ : ∃ g, g = w.heap.size:=⟨_, rfl⟩
 have HG:=Hd9 hg
 clear hg
 go_enter Tryz.func143, Tryz.ntmps143
 go_wp2
 obtain ⟨M, hM⟩ : ∃ M, M = max n m:=⟨_, rfl⟩
 have hnM : n ≤ M:=by omega
 have hmM : m ≤ M:=by omega
 have hM40 : M ≤ 1099511627776:=by omega
 have hcase : M ≤ n ∧ ¬ n < m ∨ M ≤ m ∧ n < m:=by omega
 clear hM
 rcases hcase with ⟨hMM, hlt⟩ | ⟨hMM, hlt⟩
 all_goals
  go_loopw [5, 6, 7] (fun o t i wr => ∃ (k cy : Nat) (s : List Nat), i = .int .i64 k ∧ t = .int .u64 cy ∧ cy ≤ 1 ∧ k ≤ M + 1 ∧ AddIs x y s k cy ∧ Own wr g o s ∧ Below w.heap.size w wr) (fun _ _ i _ => M + 1 - (intOf i).toNat)
  case atStart => exact ⟨0, 0, [], rfl, rfl, by omega, by omega, addIs_zero x y, Own.nil _ _, Below.refl _ _⟩
  case round =>
   obtain ⟨k, cy, s, rfl, rfl, hcy, hk, HS, hown, hbel⟩:=hrel
   rcases Nat.eq_or_lt_of_le hk with hke | hk
   ·have H:=hown.form
    obtain ⟨C, cc, rfl, hsl, _⟩:=H
    have HR:=Hd9 (rtrim_any s C _ cc wr hsl (by rw [HS.1]; omega))
    have HE:=Hd9 (addIs_end2 HS (by rw [HLX.out]; omega) (by rw [HLY.out]; omega))
    have hkk : M + 1 ≤ k:=by omega
    clear hke
    go_wp2_with fail
    refine HR.out.mono ?_
    rintro e w' ⟨v, rfl, hv⟩
    go_wp2_with fail
    go_ret
    exact ⟨_, rfl, by rw [← HE.out]; exact hv.own.base_le hbel.size, hbel.trans (hv.below.mono hbel.size)⟩
   ·have H1:=at_any _ k A n c wr (ha.mono hbel)
    have H2:=at_any _ k B m d wr (hb.mono hbel)
    have hu:=(small_dig x).get k
    have hv:=(small_dig y).get k
    obtain ⟨u, hue⟩:=nm9 (nth (dig x) k)
    obtain ⟨v, hve⟩:=nm9 (nth (dig y) k)
    rw [hue] at H1 hu
    rw [hve] at H2 hv
    rw [W32_eq] at hu hv
    have HA:=Hd9 H1; clear H1
    have HB:=Hd9 H2; clear H2
    have HU:=Hd9 hue; clear hue
    have HV:=Hd9 hve; clear hve
    have hbs:=hbel.size
    have hgw : g ≤ wr.heap.size:=by rw [HG.out]; exact hbs
    have hcl : (wr.alloc (.cells #[.int .u32 (((cy : Int) + u + v) % 4294967296)] 140)).cell? ⟨wr.heap.size, 0, none⟩ = some (.int .u32 (((cy + u + v) % W32 : Nat) : Int)):=by
     rw [show (((cy + u + v) % W32 : Nat) : Int) = ((cy : Int) + u + v) % 4294967296 from by unfold W32; omega]
     simp
    have HCL:=Hd9 hcl; clear hcl
    have HSL:=Hd9 HS.1
    have hsl : s.length ≤ 1099511627776:=by rw [HS.1]; omega
    go_wp2_with fail
    refine HA.out.mono ?_; rintro e w' ⟨rfl, rfl⟩
    go_wp2_with fail
    refine HB.out.mono ?_; rintro e w' ⟨rfl, rfl⟩
    go_wp2_with (at_builtin; refine wp_app1 _ rfl _ _ rfl g _ s rfl (hown.alloc _) wr.heap.size ((cy + u + v) % W32) rfl HCL.out (Nat.mod_lt _ W32_pos) (by omega) (by simp; omega) ?_)
    intro o2 w2 h2 g2
    have hb2:=(hbel.alloc hbs (.cells #[.int .u32 (((cy : Int) + u + v) % 4294967296)] 140)).grown g2 (by simp; omega) (fun kk hkk => by rw [← HG.out]; exact hown.blockGe kk hkk)
    have H2':=Hd9 h2; clear h2 g2
    go_wp2_with fail
    go_roundw
    case rel => exact ⟨k + 1, (cy + u + v) / W32, _, by go_num, congrArg (Value.int .u64) (by unfold W32; omega), by unfold W32; omega, by omega, addIs_step HS HU.out HV.out, H2'.out, hb2⟩
    case measure => simp [intOf]; omega

end Go.Proofs.YtiddbhhhmeopeaaGreatDoor


/- Walks: the reference's Sub, Less. -/
namespace Go.Proofs.YtiddbhhhmeopeaaGreatDoor
set_option maxHeartbeats 64000000
open Go.RowKit
set_option linter.unusedVariables false
set_option linter.unusedSimpArgs false
set_option maxRecDepth 100000

theorem rsub_any (x y : Nat) (va vb : Value) (w : World) (ha : IsN w va x) (hb : IsN w vb y) (hx : len x ≤ 1099511627776) :
  Calls Tryz.prog 200 #[va, vb] w (RetSub w x y):=by
 obtain ⟨A, n, c, rfl, ha⟩:=ha
 obtain ⟨B, m, d, rfl, hb⟩:=hb
 have HC:=rcmp_any _ _ A B n c m d w ha hb
 rw [val_dig, val_dig] at HC
 have HCMP:=Hd9 HC; clear HC
 have hlx : len x = n:=ha.len
 have hly : len y = m:=hb.len
 have hn : n ≤ 1099511627776:=by omega
 have HLX:=Hd9 hlx; clear hlx
 have HLY:=Hd9 hly; clear hly
 rcases Nat.lt_or_ge x y with hlt | hge
 ·have HLT:=Hd9 hlt
  have HE:=Hd9 (cmpI_lt (a:=(x : Int)) (b:=y) (by omega))
  clear hlt
  go_enter Tryz.func200, Tryz.ntmps200
  go_wp2_with fail
  refine HCMP.out.mono ?_
  rintro e w' ⟨rfl, rfl⟩
  rw [HE.out]
  go_wp2_with fail
  go_ret2
  exact retSub_no HLT.out (Below.refl _ w)
 ·have HGE:=Hd9 hge
  have hcm : 0 ≤ cmpI (x : Int) (y : Int):=by
   unfold cmpI; rw [if_neg (by omega)]; split <;> omega
  clear hge
  generalize cmpI (x : Int) (y : Int) = cc at *
  have hcd : decide (cc < 0) = false:=by simp; omega
  obtain ⟨g, hg⟩ : ∃ g, g = w.heap.size:=⟨_, rfl⟩
  have HG:=Hd9 hg; clear hg
  go_enter Tryz.func200, Tryz.ntmps200
  go_wp2_with fail
  refine HCMP.out.mono ?_
  rintro e w' ⟨rfl, rfl⟩
  go_wp2_with fail
  go_loopw [6, 7, 8] (fun o t i wr => ∃ (k bw : Nat) (s : List Nat), i = .int .i64 k ∧ t = .int .u64 bw ∧ bw ≤ 1 ∧ k ≤ n ∧ SubIs x y s k bw ∧ Own wr g o s ∧ Below w.heap.size w wr) (fun _ _ i _ => n - (intOf i).toNat)
  case atStart => exact ⟨0, 0, [], rfl, rfl, by omega, by omega, subIs_zero x y, Own.nil _ _, Below.refl _ _⟩
  case round =>
   obtain ⟨k, bw, s, rfl, rfl, hbw, hk, HS, hown, hbel⟩:=hrel
   rcases Nat.eq_or_lt_of_le hk with hke | hk
   ·have H:=hown.form
    obtain ⟨C, cc', rfl, hsl, _⟩:=H
    have HR:=Hd9 (rtrim_any s C _ cc' wr hsl (by rw [HS.1]; omega))
    have HE:=Hd9 (subIs_end HS (by rw [HLX.out]; omega) HGE.out)
    have hkk : n ≤ k:=by omega
    clear hke
    go_wp2_with fail
    refine HR.out.mono ?_
    rintro e w' ⟨v, rfl, hv⟩
    go_wp2_with fail
    go_ret2
    exact retSub_yes HGE.out (by rw [← HE.out]; exact hv.own.base_le hbel.size) (hbel.trans (hv.below.mono hbel.size))
   ·have H1:=at_any _ k A n c wr (ha.mono hbel)
    have H2:=at_any _ k B m d wr (hb.mono hbel)
    have hu:=(small_dig x).get k
    have hv:=(small_dig y).get k
    obtain ⟨u, hue⟩:=nm9 (nth (dig x) k)
    obtain ⟨v, hve⟩:=nm9 (nth (dig y) k)
    rw [hue] at H1 hu
    rw [hve] at H2 hv
    rw [W32_eq] at hu hv
    have HA:=Hd9 H1; clear H1
    have HB:=Hd9 H2; clear H2
    have HU:=Hd9 hue; clear hue
    have HV:=Hd9 hve; clear hve
    have hbs:=hbel.size
    have hgw : g ≤ wr.heap.size:=by rw [HG.out]; exact hbs
    have hsl : s.length ≤ 1099511627776:=by rw [HS.1]; omega
    rcases Nat.lt_or_ge u (v + bw) with h | h
    ·have hlt : (u : Int) < v + bw:=by omega
     have hcl : (wr.alloc (.cells #[.int .u32 ((u : Int) + 4294967296 - (v + bw))] 140)).cell? ⟨wr.heap.size, 0, none⟩ = some (.int .u32 ((u + 4294967296 - (v + bw) : Nat) : Int)):=by
      rw [show ((u + 4294967296 - (v + bw) : Nat) : Int) = (u : Int) + 4294967296 - (v + bw) from by omega]
      simp
     have HCL:=Hd9 hcl; clear hcl
     go_wp2_with fail
     refine HA.out.mono ?_; rintro e w' ⟨rfl, rfl⟩
     go_wp2_with fail
     refine HB.out.mono ?_; rintro e w' ⟨rfl, rfl⟩
     go_wp2_with (at_builtin; refine wp_app1 _ rfl _ _ rfl g _ s rfl (hown.alloc _) wr.heap.size (u + 4294967296 - (v + bw)) rfl HCL.out (by unfold W32; omega) (by omega) (by simp; omega) ?_)
     intro o2 w2 h2 g2
     have hb2:=(hbel.alloc hbs (.cells #[.int .u32 ((u : Int) + 4294967296 - (v + bw))] 140)).grown g2 (by simp; omega) (fun kk hkk => by rw [← HG.out]; exact hown.blockGe kk hkk)
     have H2':=Hd9 h2; clear h2 g2
     go_wp2_with fail
     go_roundw
     case rel => exact ⟨k + 1, 1, _, by go_num, rfl, by omega, by omega, subIs_step HS HU.out HV.out (by unfold W32; omega) (by unfold W32; omega), H2'.out, hb2⟩
     case measure => simp [intOf]; omega
    ·have hlt : ¬ (u : Int) < v + bw:=by omega
     have hcl : (wr.alloc (.cells #[.int .u32 ((u : Int) - (v + bw))] 140)).cell? ⟨wr.heap.size, 0, none⟩ = some (.int .u32 ((u - (v + bw) : Nat) : Int)):=by
      rw [show ((u - (v + bw) : Nat) : Int) = (u : Int) - (v + bw) from by omega]
      simp
     have HCL:=Hd9 hcl; clear hcl
     go_wp2_with fail
     refine HA.out.mono ?_; rintro e w' ⟨rfl, rfl⟩
     go_wp2_with fail
     refine HB.out.mono ?_; rintro e w' ⟨rfl, rfl⟩
     go_wp2_with (at_builtin; refine wp_app1 _ rfl _ _ rfl g _ s rfl (hown.alloc _) wr.heap.size (u - (v + bw)) rfl HCL.out (by unfold W32; omega) (by omega) (by simp; omega) ?_)
     intro o2 w2 h2 g2
     have hb2:=(hbel.alloc hbs (.cells #[.int .u32 ((u : Int) - (v + bw))] 140)).grown g2 (by simp; omega) (fun kk hkk => by rw [← HG.out]; exact hown.blockGe kk hkk)
     have H2':=Hd9 h2; clear h2 g2
     go_wp2_with fail
     go_roundw
     case rel => exact ⟨k + 1, 0, _, by go_num, rfl, by omega, by omega, subIs_step HS HU.out HV.out (by unfold W32; omega) (by omega), H2'.out, hb2⟩
     case measure => simp [intOf]; omega

theorem rless_any (x y : Nat) (va vb : Value) (w : World) (ha : IsN w va x) (hb : IsN w vb y) (hx : len x ≤ 1099511627776) (hyx : y ≤ x) :
  Calls Tryz.prog 144 #[va, vb] w (RetN w (x - y)):=by
 have HS:=Hd9 (rsub_any x y va vb w ha hb hx)
 have HYX:=Hd9 hyx; clear hyx
 go_enter Tryz.func144, Tryz.ntmps144
 go_wp2_with fail
 refine HS.out.mono ?_
 rintro e w' ⟨v, rfl, hv⟩
 rw [if_pos HYX.out] at hv
 have HV:=Hd9 hv; clear hv
 go_wp2_with fail
 go_ret
 exact ⟨_, rfl, HV.out⟩

end Go.Proofs.YtiddbhhhmeopeaaGreatDoor


/- Walks: the reference's Shl, Shr, Low, Bit, Bits, Zeros; the mill's Nat and Mod. -/
namespace Go.Proofs.YtiddbhhhmeopeaaGreatDoor
set_option maxHeartbeats 64000000
open Go.RowKit
set_option linter.unusedVariables false
set_option linter.unusedSimpArgs false
set_option maxRecDepth 100000

theorem rshl_any (x q l : Nat) (va : Value) (w : World) (ha : IsN w va x) (hx : len x ≤ 1099511627776) (hl : l < 32) (hn : 32 * q + l ≤ 1099511627776) :
  Calls Tryz.prog 142 #[va, .int .i64 ((32 * q + l : Nat) : Int)] w (RetN w (x * 2 ^ (32 * q + l))):=by
 obtain ⟨A, n, c, rfl, ha⟩:=ha
 have hlx : len x = n:=ha.len
 have hn40 : n ≤ 1099511627776:=by omega
 have HLX:=Hd9 hlx; clear hlx
 obtain ⟨k, hk⟩ : ∃ k : Nat, k = 32 * q + l:=⟨_, rfl⟩
 have h1 : (k : Int) / 32 = (q : Int):=by omega
 have h2 : (k : Int) % 32 = (l : Int):=by omega
 have hq40 : q ≤ 1099511627776:=by omega
 rw [← hk] at hn ⊢
 have HK:=Hd9 hk; clear hk
 obtain ⟨g, hg⟩ : ∃ g, g = w.heap.size:=⟨_, rfl⟩
 have HG:=Hd9 hg; clear hg
 go_enter Tryz.func142, Tryz.ntmps142
 go_wp2_with (at_make; refine wp_mk _ rfl _ _ rfl w.heap.size _ _ q rfl rfl (by omega) (by omega) (by omega) (Nat.le_refl _) ?_)
 intro w1 o1 g1
 rw [← HG.out] at o1 ⊢
 have b1 : Below w.heap.size w w1:=(Below.refl _ _).grown g1 (Nat.le_refl _) (fun k h => by cases h)
 clear g1
 go_wp2_with fail
 go_loopw [5, 6, 7] (fun o t i wr => ∃ (j cy : Nat) (p : List Nat), i = .int .i64 j ∧ t = .int .u64 cy ∧ j ≤ n + 1 ∧ ShlIs x q l p j cy ∧ Own wr g o p ∧ Below w.heap.size w wr) (fun _ _ i _ => n + 1 - (intOf i).toNat)
 case atStart => exact ⟨0, 0, List.replicate q 0, rfl, rfl, by omega, shlIs_zero x q l, o1, b1⟩
 case round =>
  obtain ⟨j, cy, p, rfl, rfl, hj, HS, hown, hbel⟩:=hrel
  clear o1 b1
  have hcy32 : cy < 4294967296:=Nat.lt_of_lt_of_le HS.2.2.1 (Nat.pow_le_pow_right (n:=2) (by omega) (show l ≤ 32 by omega))
  have hpl : p.length ≤ 4398046511104:=by rw [HS.1]; omega
  rcases Nat.eq_or_lt_of_le hj with hje | hjn
  ·have H:=hown.form
   obtain ⟨C, cc, rfl, hsl, _⟩:=H
   have HR:=Hd9 (rtrim_any p C _ cc wr hsl (by omega))
   have HE:=Hd9 (shlIs_end2 HS (by rw [HLX.out]; omega) (by omega))
   have hjj : n + 1 ≤ j:=by omega
   clear hje
   go_wp2_with fail
   refine HR.out.mono ?_
   rintro e w' ⟨v, rfl, hv⟩
   go_wp2_with fail
   go_ret
   refine ⟨_, rfl, ?_, hbel.trans (hv.below.mono hbel.size)⟩
   rw [HK.out, ← HE.out]
   exact hv.own.base_le hbel.size
  ·have H1:=at_any _ j A n c wr (ha.mono hbel)
   have hu:=(small_dig x).get j
   obtain ⟨u, hue⟩:=nm9 (nth (dig x) j)
   rw [hue] at H1 hu
   rw [W32_eq] at hu
   have HA:=Hd9 H1; clear H1
   have hbs:=hbel.size
   have hgw : g ≤ wr.heap.size:=by rw [HG.out]; exact hbs
   have HS2:=Hd9 (shlIs_step HS hue hu)
   have hwide : u * 2 ^ l < 18446744073709551616:=by
    have:=Nat.mul_lt_mul_of_lt_of_le hu (Nat.le_of_lt (Nat.pow_lt_pow_right (a:=2) (by omega) hl)) (by omega : 0 < 2 ^ 32)
    omega
   have E0 : bits .or .u64 (IntKind.u64.wrap ((u : Int) * 2 ^ l)) (cy : Int) = ((cy + 2 ^ l * u : Nat) : Int):=by
    rw [wrap_shl hu hl, u64_or_nat _ _ hwide (by omega), shl_or64 HS.2.2.1]
   have hcl : (wr.alloc (.cells #[.int .u32 (bits .or .u64 (IntKind.u64.wrap ((u : Int) * 2 ^ l)) (cy : Int) % 4294967296)] 140)).cell? ⟨wr.heap.size, 0, none⟩ = some (.int .u32 (((cy + 2 ^ l * u) % W32 : Nat) : Int)):=by
    rw [E0, show (((cy + 2 ^ l * u) % W32 : Nat) : Int) = ((cy + 2 ^ l * u : Nat) : Int) % 4294967296 from by unfold W32; omega]
    simp
   have HCL:=Hd9 hcl; clear hcl
   have HE0:=Hd9 E0; clear E0
   clear hue hwide
   go_wp2_with fail
   refine HA.out.mono ?_; rintro e w' ⟨rfl, rfl⟩
   go_wp2_with (at_builtin; refine wp_app1 _ rfl _ _ rfl g _ p rfl (hown.alloc _) wr.heap.size ((cy + 2 ^ l * u) % W32) rfl HCL.out (Nat.mod_lt _ W32_pos) (by omega) (by simp; omega) ?_)
   intro o2 w2 h2 g2
   have hb2:=(hbel.alloc hbs (.cells #[.int .u32 (bits .or .u64 (IntKind.u64.wrap ((u : Int) * 2 ^ l)) (cy : Int) % 4294967296)] 140)).grown g2 (by simp; omega) (fun kk hkk => by rw [← HG.out]; exact hown.blockGe kk hkk)
   have H2':=Hd9 h2; clear h2 g2
   go_wp2_with fail
   go_roundw
   case rel => exact ⟨j + 1, (cy + 2 ^ l * u) / W32, _, by go_num, congrArg (Value.int .u64) (by rw [HE0.out]; unfold W32; omega), by omega, HS2.out, H2'.out, hb2⟩
   case measure => simp [intOf]; omega

theorem rshr_any (x q l : Nat) (va : Value) (w : World) (ha : IsN w va x) (hx : len x ≤ 1099511627776) (hl : l < 32) (hn : 32 * q + l ≤ 9223372036854775807) :
  Calls Tryz.prog 76 #[va, .int .i64 ((32 * q + l : Nat) : Int)] w (RetN w (x / 2 ^ (32 * q + l))):=by
 obtain ⟨A, n, c, rfl, ha⟩:=ha
 have hlx : len x = n:=ha.len
 have hn40 : n ≤ 1099511627776:=by omega
 have HLX:=Hd9 hlx; clear hlx
 obtain ⟨k, hk⟩ : ∃ k : Nat, k = 32 * q + l:=⟨_, rfl⟩
 have h1 : (k : Int) / 32 = (q : Int):=by omega
 have h2 : (k : Int) % 32 = (l : Int):=by omega
 rw [← hk] at hn ⊢
 have HK:=Hd9 hk; clear hk
 obtain ⟨g, hg⟩ : ∃ g, g = w.heap.size:=⟨_, rfl⟩
 have HG:=Hd9 hg; clear hg
 obtain ⟨M, hM⟩ : ∃ M, M = max n q:=⟨_, rfl⟩
 have hnM : n ≤ M:=by omega
 have hqM : q ≤ M:=by omega
 have hmax : M ≤ n ∨ n ≤ q ∧ M ≤ q:=by omega
 have HMM:=Hd9 hmax
 clear hM hmax
 go_enter Tryz.func76, Tryz.ntmps76
 go_wp2_with fail
 go_loopw [5, 6] (fun o i wr => ∃ (j : Nat) (s : List Nat), i = .int .i64 ((q + j : Nat) : Int) ∧ q + j ≤ M ∧ DigsIs (x / 2 ^ (32 * q + l)) s j ∧ Own wr g o s ∧ Below w.heap.size w wr) (fun _ i _ => M - (intOf i).toNat)
 case atStart => exact ⟨0, [], rfl, by omega, digsIs_zero _, Own.nil _ _, Below.refl _ _⟩
 case round =>
  obtain ⟨j, s, rfl, hj, HS, hown, hbel⟩:=hrel
  obtain ⟨i, hi⟩ : ∃ i, i = q + j:=⟨_, rfl⟩
  rw [← hi] at hj ⊢
  have HI:=Hd9 hi; clear hi
  rcases Nat.lt_or_ge i n with hin | hin
  ·have H1:=at_any _ i A n c wr (ha.mono hbel)
   have H2:=at_any _ (i + 1) A n c wr (ha.mono hbel)
   have hu:=(small_dig x).get i
   have hv:=(small_dig x).get (i + 1)
   obtain ⟨u, hue⟩:=nm9 (nth (dig x) i)
   obtain ⟨v, hve⟩:=nm9 (nth (dig x) (i + 1))
   rw [hue] at H1 hu
   rw [hve] at H2 hv
   rw [W32_eq] at hu hv
   have HA:=Hd9 H1; clear H1
   have e1 : ((i + 1 : Nat) : Int) = (i : Int) + 1:=by omega
   rw [e1] at H2
   have HB:=Hd9 H2; clear H2 e1
   have hsl : s.length ≤ 1099511627776:=by rw [HS.1]; have:=HI.out; omega
   rw [HI.out] at hue hve
   have HD:=Hd9 (shr_digit (l:=l) (by omega) hue hve)
   clear hue hve
   have hbs:=hbel.size
   have hgw : g ≤ wr.heap.size:=by rw [HG.out]; exact hbs
   have hcl : (wr.alloc (.cells #[.int .u32 (bits .or .u64 (u : Int) ((v : Int) * 4294967296) / 2 ^ l % 4294967296)] 140)).cell? ⟨wr.heap.size, 0, none⟩ = some (.int .u32 (((u + W32 * v) / 2 ^ l % W32 : Nat) : Int)):=by
    have E : (((u + W32 * v) / 2 ^ l % W32 : Nat) : Int) = bits .or .u64 (u : Int) ((v : Int) * 4294967296) / 2 ^ l % 4294967296:=by
     rw [or_digit' v u hv hu, Int.natCast_emod, Int.natCast_ediv, Int.natCast_pow]; rfl
    rw [E]
    simp
   have HCL:=Hd9 hcl; clear hcl
   go_wp2_with fail
   refine HA.out.mono ?_; rintro e w' ⟨rfl, rfl⟩
   go_wp2_with fail
   refine HB.out.mono ?_; rintro e w' ⟨rfl, rfl⟩
   go_wp2_with (at_builtin; refine wp_app1 _ rfl _ _ rfl g _ s rfl (hown.alloc _) wr.heap.size ((u + W32 * v) / 2 ^ l % W32) rfl HCL.out (Nat.mod_lt _ W32_pos) (by omega) (by simp; omega) ?_)
   intro o2 w2 h2 g2
   have hb2:=(hbel.alloc hbs (.cells #[.int .u32 (bits .or .u64 (u : Int) ((v : Int) * 4294967296) / 2 ^ l % 4294967296)] 140)).grown g2 (by simp; omega) (fun kk hkk => by rw [← HG.out]; exact hown.blockGe kk hkk)
   have H2':=Hd9 h2; clear h2 g2
   go_wp2_with fail
   go_roundw
   case rel => exact ⟨j + 1, _, congrArg (Value.int .i64) (by rw [HI.out]; omega), by have:=HI.out; omega, digsIs_step HS HD.out, H2'.out, hb2⟩
   case measure => simp [intOf]; omega
  ·have H:=hown.form
   obtain ⟨C, cc, rfl, hsl, _⟩:=H
   have hsl2 : s.length ≤ 1099511627776 ∧ x / 2 ^ (32 * q + l) < W32 ^ j:=by
    have h3:=HI.out
    rw [HS.1]
    rcases HMM.out with h4 | ⟨h4, h5⟩
    ·refine ⟨by omega, ?_⟩
     have:=shr_small (x:=x) (l:=l) (Nat.le_of_eq HLX.out) (show q ≤ n by omega)
     rwa [show n - q = j from by omega] at this
    ·refine ⟨by omega, ?_⟩
     rw [shr_zero (Nat.le_of_eq HLX.out) h4]
     exact Nat.pow_pos W32_pos
   have HR:=Hd9 (rtrim_any s C _ cc wr hsl (by omega))
   have HE:=Hd9 (digsIs_end HS hsl2.2)
   clear hsl2
   go_wp2_with fail
   refine HR.out.mono ?_
   rintro e w' ⟨v, rfl, hv⟩
   go_wp2_with fail
   go_ret
   refine ⟨_, rfl, ?_, hbel.trans (hv.below.mono hbel.size)⟩
   rw [HK.out, ← HE.out]
   exact hv.own.base_le hbel.size

end Go.Proofs.YtiddbhhhmeopeaaGreatDoor


/- Walks: the mill's Nat and Mod. -/
namespace Go.Proofs.YtiddbhhhmeopeaaGreatDoor
set_option maxHeartbeats 64000000
open Go.RowKit
set_option linter.unusedVariables false
set_option linter.unusedSimpArgs false
set_option maxRecDepth 100000

theorem tmod_neg {v n : Int} (h : v < 0) : v.tmod n = -((-v) % n):=by
 rw [← Int.tmod_eq_emod_of_nonneg (show 0 ≤ -v by omega), Int.neg_tmod, Int.neg_neg]
theorem emod_neg {v n : Int} (hn : 1 ≤ n) : v % n = if (-v) % n = 0 then 0 else n - (-v) % n:=by
 have h1:=Int.mul_ediv_add_emod (-v) n
 have h2:=Int.emod_nonneg (-v) (show n ≠ 0 by omega)
 have h3:=Int.emod_lt_of_pos (-v) (show 0 < n by omega)
 generalize (-v) % n = r at *
 generalize (-v) / n = q at *
 split
 ·rename_i hr
  have e : v = n * (-q):=by rw [Int.mul_neg]; omega
  rw [e, Int.mul_emod_right]
 ·have e : v = (n - r) + n * (-q - 1):=by rw [Int.mul_sub, Int.mul_neg, Int.mul_one]; omega
  rw [e, Int.add_mul_emod_self_left, Int.emod_eq_of_lt (by omega) (by omega)]
theorem mod_any (v n : Int) (w : World) (hn : 1 ≤ n) (hn2 : n ≤ 1000000000) (h1 : -9223372036854775808 ≤ v) (h2 : v ≤ 9223372036854775807) :
  Calls Tryz.prog 15 #[.int .i64 v, .int .i64 n] w fun e w' => e = .returned (.int .i64 (v % n)) ∧ w = w':=by
 have hz : (n == 0) = false:=by rw [beq_eq_false_iff_ne]; omega
 have hlo:=Int.emod_nonneg v (show n ≠ 0 by omega)
 have hhi:=Int.emod_lt_of_pos v (show 0 < n by omega)
 rcases Int.lt_or_le v 0 with h0 | h0
 ·have e1:=tmod_neg (n:=n) h0
  have e2:=emod_neg (v:=v) hn
  have h3:=Int.emod_nonneg (-v) (show n ≠ 0 by omega)
  have h4:=Int.emod_lt_of_pos (-v) (show 0 < n by omega)
  rw [e2]
  by_cases hr : (-v) % n = 0
  ·rw [if_pos hr]
   rw [hr] at e1
   have e1' : v.tmod n = 0:=e1
   clear e2 h3 h4 hr e1 hlo hhi
   go_enter Tryz.func15, Tryz.ntmps15
   go_wp2_with fail
   go_ret
   exact ⟨rfl, rfl⟩
  ·rw [if_neg hr]
   generalize (-v) % n = r at *
   have hneg : v.tmod n < 0:=by omega
   have hlow : -1000000000 ≤ v.tmod n:=by omega
   have E:=Hd9 e1
   clear e2 hr e1 hlo hhi
   go_enter Tryz.func15, Tryz.ntmps15
   go_wp2_with fail
   go_ret
   exact ⟨congrArg (fun i => Ending.returned (Value.int .i64 i)) (by rw [E.out]; omega), rfl⟩
 ·go_enter Tryz.func15, Tryz.ntmps15
  go_wp2_with fail
  go_ret
  exact ⟨rfl, rfl⟩

end Go.Proofs.YtiddbhhhmeopeaaGreatDoor


/- Walks: the reference's Low, Bit, Bits, Zeros; Bit of the program at any int. -/
namespace Go.Proofs.YtiddbhhhmeopeaaGreatDoor
set_option maxHeartbeats 64000000
open Go.RowKit
set_option linter.unusedVariables false
set_option linter.unusedSimpArgs false
set_option maxRecDepth 100000

theorem rbit_any (x : Nat) (i : Int) (va : Value) (w : World) (ha : IsN w va x) (hi : i ≤ 9223372036854775807) :
  Calls Tryz.prog 136 #[va, .int .i64 i] w fun e w' => e = .returned (.bool (bitI x i)) ∧ w = w':=by
 obtain ⟨A, n, c, rfl, ha⟩:=ha
 rcases Int.lt_or_le i 0 with h0 | h0
 ·rw [bitI_neg x h0]
  go_enter Tryz.func136, Tryz.ntmps136
  go_wp2_with fail
  go_ret
  exact ⟨rfl, rfl⟩
 ·obtain ⟨k, rfl⟩ : ∃ k : Nat, i = (k : Int):=⟨i.toNat, by omega⟩
  rw [bitI_nat]
  obtain ⟨q, hq⟩ : ∃ q, q = k / 32:=⟨_, rfl⟩
  obtain ⟨l, hl⟩ : ∃ l, l = k % 32:=⟨_, rfl⟩
  have hk : k = 32 * q + l:=by omega
  have hl32 : l < 32:=by omega
  have h1 : (k : Int) / 32 = (q : Int):=by omega
  have h2 : (k : Int) % 32 = (l : Int):=by omega
  have hb : bitB x k = decide (nth (dig x) q / 2 ^ l % 2 = 1):=by rw [hk]; exact bitB_dig x q l hl32
  rw [hb]
  have H1:=at_any _ q A n c w ha
  have hu:=(small_dig x).get q
  obtain ⟨u, hue⟩:=nm9 (nth (dig x) q)
  rw [hue] at H1 hu ⊢
  rw [W32_eq] at hu
  have HA:=Hd9 H1
  clear H1 hue hb hq hl hk
  refine Calls.mono (R:=fun e w' => e = .returned (.bool ((u : Int) / 2 ^ l % 2 == 1)) ∧ w = w') ?_ ?_
  ·go_enter Tryz.func136, Tryz.ntmps136
   go_wp2_with fail
   refine HA.out.mono ?_; rintro e w' ⟨rfl, rfl⟩
   go_wp2_with fail
   go_ret
   exact ⟨rfl, rfl⟩
  ·rintro e w' ⟨rfl, rfl⟩
   refine ⟨?_, rfl⟩
   have e1 : (u : Int) / 2 ^ l = ((u / 2 ^ l : Nat) : Int):=by rw [Int.natCast_ediv, Int.natCast_pow]; rfl
   have e3 : ((u : Int) / 2 ^ l % 2 == 1) = decide (u / 2 ^ l % 2 = 1):=by
    rw [e1, Bool.eq_iff_iff, beq_iff_eq, decide_eq_true_iff]
    omega
   rw [e3]

def NoBitFrom (x k : Nat) : Prop:=∀ j, k ≤ j → bitB x j = false
def NoBitTo (x k : Nat) : Prop:=∀ j, j < k → bitB x j = false

theorem rbits_any (x : Nat) (va : Value) (w : World) (ha : IsN w va x) (hx : len x ≤ 1099511627776) :
  Calls Tryz.prog 103 #[va] w fun e w' => e = .returned (.int .i64 (blen x : Nat)) ∧ w = w':=by
 have HB:=Hd9 (fun k : Nat => fun hk : k ≤ 9223372036854775807 => rbit_any x (k : Int) va w ha (by omega))
 obtain ⟨A, n, c, rfl, ha⟩:=ha
 have hn40 : n ≤ 1099511627776:=by rw [← ha.len]; exact hx
 have hlen : blen x ≤ 32 * n:=by rw [← ha.len, length_dig]; exact blen_le_len x
 have HLEN:=Hd9 hlen; clear hlen
 refine Calls.mono (R:=fun e w' => ∃ k : Nat, e = .returned (.int .i64 k) ∧ Hid (blen x = k) ∧ w = w') ?_ (by rintro e w' ⟨k, rfl, h1, h2⟩; exact ⟨by rw [h1.out], h2⟩)
 go_enter Tryz.func103, Tryz.ntmps103
 go_wp2_with fail
 go_loop [3] (fun t => ∃ k : Nat, t = .int .i64 k ∧ k ≤ 32 * n ∧ NoBitFrom x k) (fun t => (intOf t).toNat)
 case atStart => exact ⟨32 * n, congrArg (Value.int .i64) (by omega), by omega, fun j hj => bitB_high (Nat.le_trans HLEN.out hj)⟩
 case round =>
  obtain ⟨k, rfl, hk, HN⟩:=hrel
  rcases Nat.eq_zero_or_pos k with h0 | h0
  ·subst h0
   go_wp2_with fail
   go_ret
   exact ⟨0, rfl, blen_of_bits HN (by omega), rfl⟩
  ·obtain ⟨m, rfl⟩ : ∃ m, k = m + 1:=⟨k - 1, by omega⟩
   have H1:=HB.out m (by omega)
   rw [bitI_nat] at H1
   rcases hb : bitB x m with _ | _
   ·rw [hb] at H1
    have HH:=Hd9 H1; clear H1
    have HBB:=Hd9 hb; clear hb
    go_wp2_with fail
    refine HH.out.mono ?_; rintro e w' ⟨rfl, rfl⟩
    go_wp2_with fail
    go_round
    case rel =>
     refine ⟨m, by go_num, by omega, fun j hj => ?_⟩
     rcases Nat.eq_or_lt_of_le hj with rfl | hj
     ·exact HBB.out
     ·exact HN j hj
    case measure => simp [intOf] <;> omega
   ·rw [hb] at H1
    have HH:=Hd9 H1; clear H1
    have HBB:=Hd9 hb; clear hb
    go_wp2_with fail
    refine HH.out.mono ?_; rintro e w' ⟨rfl, rfl⟩
    go_wp2_with fail
    go_ret
    exact ⟨m + 1, rfl, blen_of_bits HN (fun _ => HBB.out), rfl⟩

theorem rzeros_any (x : Nat) (va : Value) (w : World) (ha : IsN w va x) (hx : len x ≤ 1099511627776) :
  Calls Tryz.prog 75 #[va] w fun e w' => e = .returned (.int .i64 (tz x : Nat)) ∧ w = w':=by
 have HB:=Hd9 (fun k : Nat => fun hk : k ≤ 9223372036854775807 => rbit_any x (k : Int) va w ha (by omega))
 obtain ⟨A, n, c, rfl, ha⟩:=ha
 have hn40 : n ≤ 1099511627776:=by rw [← ha.len]; exact hx
 have hlen : blen x ≤ 32 * n:=by rw [← ha.len, length_dig]; exact blen_le_len x
 have HLEN:=Hd9 hlen; clear hlen
 refine Calls.mono (R:=fun e w' => ∃ k : Nat, e = .returned (.int .i64 k) ∧ Hid (tz x = k) ∧ w = w') ?_ (by rintro e w' ⟨k, rfl, h1, h2⟩; exact ⟨by rw [h1.out], h2⟩)
 go_enter Tryz.func75, Tryz.ntmps75
 go_wp2_with fail
 go_loop [3] (fun t => ∃ k : Nat, t = .int .i64 k ∧ k ≤ 32 * n ∧ NoBitTo x k) (fun t => 32 * n - (intOf t).toNat)
 case atStart => exact ⟨0, rfl, by omega, fun j hj => by omega⟩
 case round =>
  obtain ⟨k, rfl, hk, HN⟩:=hrel
  rcases Nat.lt_or_ge k (32 * n) with h0 | h0
  ·have H1:=HB.out k (by omega)
   rw [bitI_nat] at H1
   rcases hb : bitB x k with _ | _
   ·rw [hb] at H1
    have HH:=Hd9 H1; clear H1
    have HBB:=Hd9 hb; clear hb
    go_wp2_with fail
    refine HH.out.mono ?_; rintro e w' ⟨rfl, rfl⟩
    go_wp2_with fail
    go_round
    case rel =>
     refine ⟨k + 1, by go_num, by omega, fun j hj => ?_⟩
     rcases Nat.eq_or_lt_of_le (Nat.le_of_lt_succ hj) with rfl | hj
     ·exact HBB.out
     ·exact HN j hj
    case measure => simp [intOf] <;> omega
   ·rw [hb] at H1
    have HH:=Hd9 H1; clear H1
    have HBB:=Hd9 hb; clear hb
    go_wp2_with fail
    refine HH.out.mono ?_; rintro e w' ⟨rfl, rfl⟩
    go_wp2_with fail
    go_ret
    exact ⟨k, rfl, tz_of HN HBB.out, rfl⟩
  ·have h0' : ¬ (k : Int) < 32 * n:=by omega
   go_wp2_with fail
   go_ret
   refine ⟨0, rfl, ?_, rfl⟩
   have : x = 0:=zero_of_bits fun j => by
    rcases Nat.lt_or_ge j k with h | h
    ·exact HN j h
    ·exact bitB_high (by have:=HLEN.out; omega)
   rw [this]
   exact tz_zero

end Go.Proofs.YtiddbhhhmeopeaaGreatDoor


/- What is known at a point of a law's walk. -/
namespace Go.Proofs.YtiddbhhhmeopeaaGreatDoor
set_option maxHeartbeats 64000000
open Go.RowKit
set_option linter.unusedVariables false
set_option linter.unusedSimpArgs false
set_option maxRecDepth 100000

end Go.Proofs.YtiddbhhhmeopeaaGreatDoor


/- Contracts in the form in which the laws use them. -/
namespace Go.Proofs.YtiddbhhhmeopeaaGreatDoor
set_option maxHeartbeats 64000000
open Go.RowKit
set_option linter.unusedVariables false
set_option linter.unusedSimpArgs false
set_option maxRecDepth 100000
def RetI (w : World) (x : Int) (e : Ending) (w' : World) : Prop:=e = .returned (.int .i64 x) ∧ Below w.heap.size w w'
theorem cmpB_any (x y : Nat) (va vb : Value) (w : World) (ha : IsN w va x) (hb : IsN w vb y) :
  Calls Tryz.prog 194 #[va, vb] w (RetI w (cmpI x y)):=
 (cmp_any x y va vb w ha hb).mono fun _ _ ⟨he, q, hq⟩ => ⟨he, by subst hq; exact belowN (Below.refl _ _) q⟩
theorem rcmpB_any (x y : Nat) (va vb : Value) (w : World) (ha : IsN w va x) (hb : IsN w vb y) :
  Calls Tryz.prog 141 #[va, vb] w (RetI w (cmpI x y)):=by
 obtain ⟨A, n, c, rfl, ha⟩:=ha
 obtain ⟨B, m, d, rfl, hb⟩:=hb
 have:=rcmp_any _ _ A B n c m d w ha hb
 rw [val_dig, val_dig] at this
 exact this.mono fun _ _ ⟨he, hq⟩ => ⟨he, by subst hq; exact Below.refl _ _⟩
theorem isTrim_dig (x : Nat) : isTrim (dig x) = true:=by
 unfold isTrim
 rw [trim_dig]
 exact decide_eq_true rfl
theorem len_two_pow (k : Nat) : len (2 ^ k) ≤ k + 1:=by
 apply len_le
 have h1 : 2 ^ k ≤ W32 ^ k:=Nat.pow_le_pow_left (by unfold W32; omega) k
 have h2 : W32 ^ k < W32 ^ (k + 1):=Nat.pow_lt_pow_right W32_gt (by omega)
 omega
theorem len_shl (x k : Nat) : len (x * 2 ^ k) ≤ len x + k + 1:=by
 have:=len_mul x (2 ^ k)
 have:=len_two_pow k
 omega
theorem shlK_any (x k : Nat) (va : Value) (w : World) (ha : IsN w va x) (hx : len x ≤ 1099511627776) (hk : k ≤ 1048576) :
  Calls Tryz.prog 232 #[va, .int .i64 (k : Int)] w (RetN w (x * 2 ^ k)):=by
 have:=shl_any x (k / 32) (k % 32) va w ha hx (by omega) (by omega)
 rwa [show 32 * (k / 32) + k % 32 = k from by omega] at this
theorem shrK_any (x k : Nat) (va : Value) (w : World) (ha : IsN w va x) (hx : len x ≤ 1099511627776) (hk : k ≤ 9223372036854775807) :
  Calls Tryz.prog 242 #[va, .int .i64 (k : Int)] w (RetN w (x / 2 ^ k)):=by
 have:=shr_any x (k / 32) (k % 32) va w ha hx (by omega) (by omega)
 rwa [show 32 * (k / 32) + k % 32 = k from by omega] at this
theorem rshlK_any (x k : Nat) (va : Value) (w : World) (ha : IsN w va x) (hx : len x ≤ 1099511627776) (hk : k ≤ 1099511627776) :
  Calls Tryz.prog 142 #[va, .int .i64 (k : Int)] w (RetN w (x * 2 ^ k)):=by
 have:=rshl_any x (k / 32) (k % 32) va w ha hx (by omega) (by omega)
 rwa [show 32 * (k / 32) + k % 32 = k from by omega] at this
theorem rshrK_any (x k : Nat) (va : Value) (w : World) (ha : IsN w va x) (hx : len x ≤ 1099511627776) (hk : k ≤ 9223372036854775807) :
  Calls Tryz.prog 76 #[va, .int .i64 (k : Int)] w (RetN w (x / 2 ^ k)):=by
 have:=rshr_any x (k / 32) (k % 32) va w ha hx (by omega) (by omega)
 rwa [show 32 * (k / 32) + k % 32 = k from by omega] at this
end Go.Proofs.YtiddbhhhmeopeaaGreatDoor

