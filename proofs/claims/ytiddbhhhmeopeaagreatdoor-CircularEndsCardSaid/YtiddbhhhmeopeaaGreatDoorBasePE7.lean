/- Base texts, joined: ProdB, ProdC, RefProd, QuotC, QuotD, QuotE, RefQuot, Powmod. -/
import Derived.Test.YtiddbhhhmeopeaaGreatDoorBaseNE7
import Derived.Test.YtiddbhhhmeopeaaGreatDoorBaseRE7
/- Walks: bits.Len (by the library's contract), product.Power. -/
namespace Go.Proofs.YtiddbhhhmeopeaaGreatDoor
set_option maxHeartbeats 64000000
open Go.RowKit
set_option linter.unusedVariables false
set_option linter.unusedSimpArgs false
set_option maxRecDepth 100000

end Go.Proofs.YtiddbhhhmeopeaaGreatDoor


/- Walks: product.Sum; rows of slices. -/
namespace Go.Proofs.YtiddbhhhmeopeaaGreatDoor
set_option maxHeartbeats 64000000
open Go.RowKit
set_option linter.unusedVariables false
set_option linter.unusedSimpArgs false
set_option maxRecDepth 100000
structure Nats (w : World) (A : Option Addr) (n : Nat) (f : Nat → Nat) : Prop where
 place : ∀ j, j < n → ∃ b off V m c, A = some ⟨b, off, none⟩ ∧ b < w.heap.size ∧ w.cell? ⟨b, off + j, none⟩ = some (.slice V m c) ∧ IsN w (.slice V m c) (f j)
theorem Nats.mono {w w' : World} {A : Option Addr} {n : Nat} {f : Nat → Nat} (h : Nats w A n f) (hb : Below w.heap.size w w') : Nats w' A n f:=
 ⟨fun j hj => by
  obtain ⟨b, off, V, m, c, h1, h2, h3, h4⟩:=h.place j hj
  exact ⟨b, off, V, m, c, h1, Nat.lt_of_lt_of_le h2 hb.size, (hb.cell (p:=⟨b, off + j, none⟩) h2).trans h3, h4.mono hb⟩⟩

end Go.Proofs.YtiddbhhhmeopeaaGreatDoor


/- Walks: the reference's Small, Mul, Power. -/
namespace Go.Proofs.YtiddbhhhmeopeaaGreatDoor
set_option maxHeartbeats 64000000
open Go.RowKit
set_option linter.unusedVariables false
set_option linter.unusedSimpArgs false
set_option maxRecDepth 100000

end Go.Proofs.YtiddbhhhmeopeaaGreatDoor


/- Walks: bits.LeadingZeros32; quotient.Small. -/
namespace Go.Proofs.YtiddbhhhmeopeaaGreatDoor
set_option maxHeartbeats 64000000
open Go.RowKit
set_option linter.unusedVariables false
set_option linter.unusedSimpArgs false
set_option maxRecDepth 100000

theorem lz32_any (u : Nat) (w : World) (hu : u < 4294967296) :
  Calls Tryz.prog 271 #[.int .u32 (u : Int)] w fun e w' => e = .returned (.int .i64 ((32 - blen u : Nat) : Int)) ∧ w = w':=by
 have HB:=Hd9 (len32_any u w hu)
 have h:=blen_le (x:=u) (n:=32) hu
 generalize blen u = b at *
 go_enter Tryz.func271, Tryz.ntmps271
 go_wp2_with fail
 refine HB.out.mono ?_
 rintro e w' ⟨rfl, rfl⟩
 go_wp2_with fail
 go_ret
 exact ⟨by rw [show ((32 - b : Nat) : Int) = 32 - (b : Int) from by omega]; rfl, rfl⟩

theorem set_rep (k q : Nat) (qs : List Nat) : (List.replicate (k + 1) 0 ++ qs).set k q = List.replicate k 0 ++ q :: qs:=by
 rw [List.replicate_succ', set_mid _ _ _ _ (List.length_replicate ..), List.append_assoc]
 rfl
def RetQS (w : World) (q r : Nat) (e : Ending) (w' : World) : Prop:=∃ v, e = .returned (.tuple #[v, .int .u32 (r : Int), .bool true]) ∧ Out w w' v (dig q)

theorem qsmall_any (x d : Nat) (va : Value) (w : World) (ha : IsN w va x) (hx : len x ≤ 1099511627776) (hd : 0 < d) (hd2 : d < 4294967296) :
    Calls Tryz.prog 264 #[va, .int .u32 (d : Int)] w (RetQS w (x / d) (x % d)):=by
  obtain ⟨A, n, c, rfl, ha⟩:=ha
  have hlx : len x = n:=ha.len
  have hn : n ≤ 1099511627776:=by omega
  have hdz : ((d : Int) == 0) = false:=by rw [beq_eq_false_iff_ne]; omega
  have hs0:=shortSt_start x hd
  rw [hlx] at hs0
  have HS0:=Hd9 hs0
  clear hs0 hlx
  go_enter Tryz.func264, Tryz.ntmps264
  go_wp2_with (at_make; refine wp_mk _ rfl _ _ rfl w.heap.size _ _ n rfl rfl rfl rfl (by omega) (Nat.le_refl _) ?_)
  intro w1 h1 g1
  have b1 : Below w.heap.size w w1:=(Below.refl _ _).grown g1 (Nat.le_refl _) (fun k h => by cases h)
  obtain ⟨g, hg⟩ : ∃ g, g = w.heap.size:=⟨_, rfl⟩
  rw [← hg] at h1 ⊢
  have HG:=Hd9 hg; clear hg
  clear g1
  go_wp2_with fail
  go_loopw [8, 9] (fun r' i wr => ∃ (t : Int) (k r : Nat) (qs : List Nat), i = .int .i64 t ∧ r' = .int .u32 (r : Int) ∧ t = (k : Int) - 1 ∧ k ≤ n ∧ ShortSt x d k r qs ∧ Own wr g (.slice (some ⟨g, 0, none⟩) n n) (List.replicate k 0 ++ qs) ∧ Below w.heap.size w wr) (fun _ i _ => (intOf i + 1).toNat)
  case atStart => exact ⟨_, n, 0, [], rfl, rfl, rfl, by omega, HS0.out, by rw [List.append_nil]; exact h1, b1⟩
  case round =>
    obtain ⟨t, k, r, qs, rfl, rfl, ht, hk, HS, hown, hbe⟩:=hrel
    clear h1 b1 HS0
    have hrd : r < d:=HS.2.1
    cases k with
    | zero =>
      obtain rfl : t = -1:=by omega
      rw [List.replicate_zero, List.nil_append] at hown
      obtain ⟨e1, e2⟩:=shortSt_end HS
      have HTR:=Hd9 (trim_any qs _ _ _ wr hown.sl (by omega))
      have E1:=Hd9 e1
      have E2:=Hd9 e2
      clear hown e1 e2 HS ht
      go_wp2_with fail
      refine HTR.out.mono ?_
      rintro e w' ⟨v, rfl, o⟩
      go_wp2_with fail
      go_ret3
      exact ⟨_, by rw [← E2.out]; rfl, by rw [← E1.out]; exact o.own.base_le hbe.size, hbe.trans (o.below.mono hbe.size)⟩
    | succ j =>
      obtain rfl : t = (j : Int):=by omega
      obtain ⟨b, off, u, rfl, _, hxc, HU, hu⟩:=ha.get hbe (k:=j) (by omega)
      obtain ⟨hs2, hq, hr⟩:=shortSt_step HS HU.out hu
      have HD:=Hd9 (div32_any r u d wr hrd hu hd2)
      generalize (u + 4294967296 * r) / d = q at *
      generalize (u + 4294967296 * r) % d = r2 at *
      have HS2:=Hd9 hs2
      have HOWN:=Hd9 hown
      clear hown hs2 HS HU ht
      go_wp2_with fail
      refine HD.out.mono ?_
      rintro e w' ⟨rfl, nq, rfl⟩
      have hown:=HOWN.out.below (belowN (Below.refl _ wr) nq)
      have hfree:=hown.free j
      obtain ⟨z, hz, _, _⟩:=hown.cell (j:=j) (by omega)
      have hst:=hown.store (j:=j) (x:=q) hq
      rw [set_rep] at hst
      have hb2:=(belowN hbe nq).setCell (p:=⟨g, j, none⟩) (by rw [HG.out]; exact Nat.le_refl _) (.int .u32 (q : Int))
      have HST:=Hd9 hst
      clear hst hown HOWN
      go_wp2_with fail
      go_roundw
      case rel => exact ⟨(j : Int) - 1, j, r2, _, by go_num, rfl, rfl, by omega, HS2.out, HST.out, hb2⟩
      case measure => simp [intOf] <;> omega

end Go.Proofs.YtiddbhhhmeopeaaGreatDoor


/- Walks: quotient.long. -/
namespace Go.Proofs.YtiddbhhhmeopeaaGreatDoor
set_option maxHeartbeats 64000000
open Go.RowKit
set_option linter.unusedVariables false
set_option linter.unusedSimpArgs false
set_option maxRecDepth 100000
theorem Own.aside {w : World} {base g n c : Nat} {l : List Nat} (h : Own w base (.slice (some ⟨g, 0, none⟩) n c) l) {g' j : Nat} (hne : g ≠ g') (v : Value) : Own (w.setCell ⟨g', j, none⟩ v) base (.slice (some ⟨g, 0, none⟩) n c) l:=by
 obtain ⟨⟨h1, h2⟩, hs⟩:=h
 refine ⟨⟨h1, ?_⟩, hs⟩
 rcases h2 with h2 | ⟨g2, cap, cur, e1, e2, e3, e4⟩
 ·exact .inl h2
 ·refine .inr ⟨g2, cap, cur, e1, e2, ?_, e4⟩
  injection e1 with e1
  injection e1 with e1
  injection e1 with e1
  subst e1
  rw [heap_setCell_other w ⟨g', j, none⟩ g v hne]
  exact e3
theorem Own.lt {w : World} {base g n c : Nat} {l : List Nat} (h : Own w base (.slice (some ⟨g, 0, none⟩) n c) l) : g < w.heap.size:=(h.1.lt g rfl).2
theorem len_norm {y n u : Nat} (hy : len y = n + 1) (hu : nth (dig y) n = u) : len (y * 2 ^ (32 - blen u)) = n + 1 ∧ 0 < u:=by
 have hyp : 0 < y:=by
  rcases Nat.eq_zero_or_pos y with h | h
  ·subst h; rw [len_zero] at hy; omega
  ·exact h
 have ey : y = val ((dig y).take n) + W32 ^ n * u:=by
  have:=row_top (t:=dig y) hy
  rwa [val_dig, hu] at this
 have hlo:=val_lt (small_take (small_dig y) n)
 rw [List.length_take, length_dig, Nat.min_eq_left (by omega)] at hlo
 have hp:=pow_len_le hyp
 rw [hy, Nat.add_sub_cancel] at hp
 have hu0 : 0 < u:=by
  rcases Nat.eq_zero_or_pos u with h | h
  ·subst h; rw [Nat.mul_zero, Nat.add_zero] at ey; omega
  ·exact h
 have hu2 : u < 2 ^ 32:=by rw [← hu]; exact (small_dig y).get n
 refine ⟨Nat.le_antisymm ?_ ?_, hu0⟩
 ·apply len_le
  have hb:=lt_two_pow_blen u
  have hb2:=blen_le hu2
  have h1 : y < W32 ^ n * 2 ^ blen u:=by
   have:=Nat.mul_le_mul_left (W32 ^ n) (show u + 1 ≤ 2 ^ blen u from hb)
   rw [Nat.mul_add] at this
   omega
  have h2:=Nat.mul_lt_mul_of_pos_right h1 (Nat.pow_pos (n:=32 - blen u) (show 0 < 2 by omega))
  rw [Nat.mul_assoc, ← Nat.pow_add, show blen u + (32 - blen u) = 32 from by omega] at h2
  rw [Nat.pow_succ]
  exact h2
 ·rw [← hy]
  exact len_mono (Nat.le_mul_of_pos_right _ (Nat.pow_pos (by omega)))
theorem top_lt {x y n k l : Nat} (hx : len x ≤ n + k) (hy : len y = n + 1) : x * 2 ^ l < W32 ^ k * (y * 2 ^ l):=by
 have hyp : 0 < y:=by
  rcases Nat.eq_zero_or_pos y with h | h
  ·subst h; rw [len_zero] at hy; omega
  ·exact h
 have hp:=pow_len_le hyp
 rw [hy, Nat.add_sub_cancel] at hp
 rw [← Nat.mul_assoc]
 refine Nat.mul_lt_mul_of_pos_right ?_ (Nat.pow_pos (by omega))
 refine Nat.lt_of_lt_of_le (len_le_iff.1 hx) ?_
 rw [Nat.pow_add, Nat.mul_comm]
 exact Nat.mul_le_mul_left _ hp
theorem val_pad {x m : Nat} (h : len x ≤ m) : val (over (dig x) m (List.replicate m 0) (len x)) = x ∧ (over (dig x) m (List.replicate m 0) (len x)).length = m:=by
 unfold over
 rw [List.take_of_length_le (l:=dig x) (by rw [length_dig]; exact h), List.drop_replicate, val_append, val_dig, val_replicate]
 refine ⟨by simp, ?_⟩
 rw [List.length_append, length_dig, List.length_replicate]
 omega
theorem row_cut {lo mid z : List Nat} {j u : Nat} (hl : lo.length = j + 1) (hu : nth lo j = u) : lo ++ mid ++ z = lo.take j ++ (u :: mid) ++ z:=by
 have:=take_succ_nth lo j (by omega)
 rw [List.take_of_length_le (Nat.le_of_eq hl), hu] at this
 have e : lo ++ mid ++ z = (lo.take j ++ [u]) ++ mid ++ z:=by rw [← this]
 rw [e]
 simp
theorem div_norm (x y l : Nat) : x * 2 ^ l / (y * 2 ^ l) = x / y ∧ x * 2 ^ l % (y * 2 ^ l) / 2 ^ l = x % y:=by
 have hp : 0 < 2 ^ l:=Nat.pow_pos (by omega)
 refine ⟨Nat.mul_div_mul_right _ _ hp, ?_⟩
 rw [Nat.mul_mod_mul_right, Nat.mul_div_cancel _ hp]
def RetQR (w : World) (q r : Nat) (e : Ending) (w' : World) : Prop:=∃ vq vr, e = .returned (.tuple #[vq, vr]) ∧ Own w' w.heap.size vq (dig q) ∧ Own w' w.heap.size vr (dig r) ∧ Below w.heap.size w w'

theorem long_any (x y : Nat) (va vb : Value) (w : World) (ha : IsN w va x) (hb : IsN w vb y) (hyx : y ≤ x) (hx : len x ≤ 274877906944) (hy : 0 < len y) :
    Calls Tryz.prog 265 #[va, vb] w (RetQR w (x / y) (x % y)):=by
  have HA:=Hd9 ha
  have HB:=Hd9 hb
  obtain ⟨A, m, c, rfl, ha⟩:=ha
  obtain ⟨B, n', d, rfl, hb⟩:=hb
  have hlx : len x = m:=ha.len
  have hly : len y = n':=hb.len
  have hnm:=len_mono hyx
  obtain ⟨n, rfl⟩ : ∃ n, n' = n + 1:=⟨n' - 1, by omega⟩
  obtain ⟨k0, rfl⟩ : ∃ k0, m = n + k0:=⟨m - n, by omega⟩
  obtain ⟨b, off, u, rfl, _, huc, HU, hu⟩:=hb.get (Below.refl _ w) (k:=n) (by omega)
  obtain ⟨hl1, hup⟩:=len_norm hly HU.out
  have HLZ:=Hd9 (lz32_any u w hu)
  have hl31 : 32 - blen u < 32:=by
    have:=blen_pos hup
    omega
  generalize 32 - blen u = l at *
  have HTL:=Hd9 (top_lt (l:=l) (n:=n) (k:=k0) (by omega) hly : x * 2 ^ l < W32 ^ k0 * (y * 2 ^ l))
  have HY1:=Hd9 (shl_any y 0 l _ w HB.out (by omega) hl31 (by omega))
  have hlX : len (x * 2 ^ l) ≤ n + k0 + 1:=by
    have h1:=len_mul x (2 ^ l)
    have h2 : len (2 ^ l) ≤ 1:=len_le (by rw [Nat.pow_one]; exact Nat.pow_lt_pow_right (n:=32) (by omega) hl31)
    omega
  have HDN:=Hd9 (div_norm x y l)
  have HPAD:=Hd9 (val_pad hlX)
  have HX1:=Hd9 (fun W h => shl_any x 0 l (Value.slice A (n + k0) c) W h (by omega) hl31 (by omega))
  rw [Nat.mul_zero, Nat.zero_add] at HX1 HY1
  have HLX:=Hd9 hlx
  have HLY:=Hd9 hly
  have HL1:=Hd9 hl1
  have hm : n + k0 ≤ 274877906944:=by omega
  clear hlx hly hyx hnm hl1 hy hx HU
  obtain ⟨X, hX⟩ : ∃ X, X = x * 2 ^ l:=⟨_, rfl⟩
  obtain ⟨Y, hY⟩ : ∃ Y, Y = y * 2 ^ l:=⟨_, rfl⟩
  rw [← hX] at HTL HDN HPAD hlX HX1
  rw [← hY] at HTL HDN HY1
  have HLY2:=Hd9 (show len Y = n + 1 by rw [hY]; exact HL1.out)
  clear hX hY
  go_enter Tryz.func265, Tryz.ntmps265
  go_wp2_with fail
  refine HLZ.out.mono ?_
  rintro e w' ⟨rfl, rfl⟩
  go_wp2_with fail
  refine HY1.out.mono ?_
  rintro e w2 ⟨vY, rfl, oY⟩
  obtain ⟨BY, nY, cY, rfl⟩:=oY.slice
  have hYs:=oY.own.sl
  obtain rfl : nY = n + 1:=by rw [← HLY2.out]; exact hYs.len.symm
  go_wp2_with (at_make; refine wp_mk _ rfl _ _ rfl w2.heap.size _ _ (n + k0 + 1) rfl rfl (by omega) (by omega) (by omega) (Nat.le_refl _) ?_)
  intro w3 h3 g3
  have b3 : Below w2.heap.size w2 w3:=(Below.refl _ _).grown g3 (Nat.le_refl _) (fun k h => by cases h)
  obtain ⟨g, hg⟩ : ∃ g, g = w2.heap.size:=⟨_, rfl⟩
  have h3' : Own w3 w2.heap.size (.slice (some ⟨g, 0, none⟩) (n + k0 + 1) (n + k0 + 1)) (List.replicate (n + k0 + 1) 0):=by rw [hg]; exact h3
  rw [← hg]
  have HG:=Hd9 hg; clear hg h3 g3
  have b13:=oY.below.trans (b3.mono oY.below.size)
  have HX2:=Hd9 (HX1.out w3 (HA.out.mono b13))
  go_wp2_with fail
  refine HX2.out.mono ?_
  rintro e w4 ⟨vX, rfl, oX⟩
  obtain ⟨AX, nX, cX, rfl⟩:=oX.slice
  have hX:=oX.own.sl
  have b4:=b3.trans (oX.below.mono b3.size)
  have h4:=h3'.below oX.below
  clear h3' b3
  go_wp2_with (with_reducible refine wp_copyAll _ rfl _ _ rfl w2 _ (n + k0 + 1) _ rfl h4 _ nX cX _ rfl hX b4 ?_)
  intro w5 h5 b5
  obtain rfl : nX = len X:=hX.len.symm
  obtain ⟨hp1, hp2⟩:=HPAD.out
  generalize over (dig X) (n + k0 + 1) (List.replicate (n + k0 + 1) 0) (len X) = R at *
  have HL0:=Hd9 (longSt_start (n:=n + 1) (k:=k0) h5.small hp1 (by omega) HTL.out)
  have hRl : R = R.take k0 ++ R.drop k0 ++ []:=by rw [List.append_nil, List.take_append_drop]
  rw [hRl] at h5
  clear HX2 h4 b4 hX oX HPAD hp1 hp2 hRl huc HLZ HX1 HY1 hlX ha hb
  go_wp2_with (at_make; refine wp_mk _ rfl _ _ rfl w5.heap.size _ _ k0 rfl rfl (by omega) (by omega) (by omega) (Nat.le_refl _) ?_)
  intro w6 h6 g6
  have b56 : Below w5.heap.size w5 w6:=(Below.refl _ _).grown g6 (Nat.le_refl _) (fun k h => by cases h)
  have b6:=b5.trans (b56.mono b5.size)
  have h5':=h5.below b56
  have hgh:=h5.lt
  clear g6 b56
  obtain ⟨h, hh⟩ : ∃ h, h = w5.heap.size:=⟨_, rfl⟩
  rw [← hh] at h6 hgh ⊢
  have hgh2 : g ≠ h:=by omega
  have hgh3 : w2.heap.size ≤ h:=by rw [hh]; exact b5.size
  clear hh h5 b5
  go_wp2_with fail
  go_loopw [10] (fun i wr => ∃ (t : Int) (k : Nat) (lo mid z qs : List Nat), i = .int .i64 t ∧ t = (k : Int) - 1 ∧ k ≤ k0 ∧ LongSt X Y (n + 1) k lo mid z qs ∧ Own wr w2.heap.size (.slice (some ⟨g, 0, none⟩) (n + k0 + 1) (n + k0 + 1)) (lo ++ mid ++ z) ∧ Own wr h (.slice (some ⟨h, 0, none⟩) k0 k0) (List.replicate k 0 ++ qs) ∧ Below w2.heap.size w2 wr) (fun i _ => (intOf i + 1).toNat)
  case atStart => exact ⟨_, k0, _, _, [], [], rfl, rfl, by omega, HL0.out, h5', by rw [List.append_nil]; exact h6, b6⟩
  case round =>
    obtain ⟨t, k, lo, mid, z, qs, rfl, ht, hk, HS, h1, h2, hbe⟩:=hrel
    clear h5' h6 b6 HL0
    cases k with
    | zero =>
      obtain rfl : t = -1:=by omega
      rw [List.replicate_zero, List.nil_append] at h2
      obtain ⟨e1, e2⟩:=longSt_end HS
      have HTR:=Hd9 (trim_any qs _ _ _ wr h2.sl (by omega))
      have HSR:=Hd9 (fun W (hW : Below wr.heap.size wr W) => shrL_any (X % Y) 0 l (n + k0 + 1) (n + k0 + 1) _ (lo ++ mid ++ z) W (h1.sl.mono hW) e2.symm (by omega) hl31 (by omega))
      rw [Nat.mul_zero, Nat.zero_add, HDN.out.2] at HSR
      have E1:=Hd9 (show trim qs = dig (x / y) by rw [← dig_val h2.small, e1, HDN.out.1])
      clear h1 h2 e1 e2 HS ht
      go_wp2_with fail
      refine HTR.out.mono ?_
      rintro e w7 ⟨v7, rfl, o7⟩
      rw [E1.out] at o7
      go_wp2_with fail
      refine (HSR.out w7 o7.below).mono ?_
      rintro e w8 ⟨v8, rfl, o8⟩
      have hb8:=oY.below.trans (hbe.mono oY.below.size)
      have hb9:=hb8.trans (o7.below.mono hb8.size)
      go_wp2_with fail
      go_ret2
      exact ⟨_, _, rfl, (o7.own.below o8.below).base_le hb8.size, o8.own.base_le hb9.size, hb9.trans (o8.below.mono hb9.size)⟩
    | succ j =>
      obtain rfl : t = (j : Int):=by omega
      obtain ⟨v, hv⟩:=nm9 (nth lo j)
      have hlo : lo.length = j + 1:=HS.1
      have hsm:=h1.small
      rw [row_cut hlo hv] at h1
      have hv32 : v < 4294967296:=by
        have hsl : Small lo:=fun y hy => hsm y (List.mem_append_left _ (List.mem_append_left _ hy))
        rw [← hv]
        exact hsl.get j
      have hlt:=longSt_lt HS hv32
      have hYp : 0 < Y:=by
        rcases Nat.eq_zero_or_pos Y with h0 | h0
        · subst h0; omega
        · exact h0
      have hq : val (v :: mid) / Y < 4294967296:=(Nat.div_lt_iff_lt_mul hYp).2 hlt
      have hsm2 : Small (v :: mid):=fun y hy => h1.small y (List.mem_append_left _ (List.mem_append_right _ hy))
      have HD:=Hd9 (divide_any w2 wr g j (n + k0 + 1) (n + k0 + 1 - j) n cY Y BY (lo.take j) (v :: mid) z h1 (by rw [List.length_take]; omega) (by rw [List.length_cons, HS.2.1]) (by omega) (by omega) hYs hbe (by omega) hlt hsm2)
      have HST:=Hd9 (fun s hs hv' => longSt_step (s:=s) HS hv hYp hs hv')
      have H2:=Hd9 h2
      have hgle:=h1.row.2
      clear h1 h2 hlo hsm ht hlt hv HS hsm2
      obtain ⟨q, hq2⟩:=nm9 (val (v :: mid) / Y)
      rw [hq2] at HST hq
      have HQ2:=Hd9 hq2
      clear hq2
      go_wp2_with fail
      rw [show j + (n + 1) + 1 - j = n + 1 + 1 from by omega]
      refine HD.out.mono ?_
      rintro e w7 ⟨s, he, hsl, hsv, h7, hgr⟩
      rw [HQ2.out] at he
      subst he
      have hs3:=HST.out s hsl hsv
      have hb7:=grown_below hbe hgr hgle
      have h27:=H2.out.grown hgr (.inr (fun e => hgh2 (by injection e with e; exact e.symm)))
      rw [List.append_assoc (lo.take j ++ s)] at h7
      have hfree:=h27.free j
      obtain ⟨z0, hz0, _, _⟩:=h27.cell (j:=j) (by omega)
      have hst:=h27.store (j:=j) (x:=q) hq
      rw [set_rep] at hst
      have h17:=h7.aside (g':=h) (j:=j) hgh2 (.int .u32 (q : Int))
      have hb8:=hb7.setCell (p:=⟨h, j, none⟩) hgh3 (.int .u32 (q : Int))
      have H1:=Hd9 h17
      have H3:=Hd9 hst
      have HS3:=Hd9 hs3
      clear h17 hst h27 h7 hs3 hsl hsv HD HST H2
      go_wp2_with fail
      go_roundw
      case rel => exact ⟨(j : Int) - 1, j, _, _, _, _, by go_num, rfl, by omega, HS3.out, H1.out, H3.out, hb8⟩
      case measure => simp [intOf] <;> omega

end Go.Proofs.YtiddbhhhmeopeaaGreatDoor


/- Walks: quotient.DivMod, Exact, Divides, remainder. -/
namespace Go.Proofs.YtiddbhhhmeopeaaGreatDoor
set_option maxHeartbeats 64000000
open Go.RowKit
set_option linter.unusedVariables false
set_option linter.unusedSimpArgs false
set_option maxRecDepth 100000
def RetD (w : World) (q r : Nat) (e : Ending) (w' : World) : Prop:=∃ vq vr, e = .returned (.tuple #[vq, vr, .bool true]) ∧ Own w' w.heap.size vq (dig q) ∧ Own w' w.heap.size vr (dig r) ∧ Below w.heap.size w w'
def RetNo (w : World) (e : Ending) (w' : World) : Prop:=e = .returned (.tuple #[.slice none 0 0, .slice none 0 0, .bool false]) ∧ Below w.heap.size w w'

theorem trimD_any (x : Nat) (v : Value) (w : World) (h : IsN w v x) (hx : len x ≤ 1099511627776) : Calls Tryz.prog 222 #[v] w (RetN w x):=by
 obtain ⟨A, n, c, rfl, h⟩:=h
 have hl : len x = n:=h.len
 have:=trim_any _ A n c w h (by omega)
 rwa [trim_dig] at this

theorem divmod_zero (x : Nat) (va vb : Value) (w : World) (ha : IsN w va x) (hb : IsN w vb 0) (hx : len x ≤ 274877906944) :
  Calls Tryz.prog 248 #[va, vb] w (RetNo w):=by
 have HTA:=Hd9 (trimD_any x va w ha (by omega))
 have HTB:=Hd9 (fun W (hW : Below w.heap.size w W) => trimD_any 0 vb W (hb.mono hW) (by rw [len_zero]; omega))
 obtain ⟨A, n, c, rfl, _⟩:=ha
 obtain ⟨B, m, d, rfl, _⟩:=hb
 go_enter Tryz.func248, Tryz.ntmps248
 go_wp2_with fail
 refine HTA.out.mono ?_
 rintro e w1 ⟨v1, rfl, o1⟩
 go_wp2_with fail
 refine (HTB.out w1 o1.below).mono ?_
 rintro e w2 ⟨v2, rfl, o2⟩
 obtain ⟨B2, m2, d2, rfl⟩:=o2.slice
 have hl:=o2.own.sl.len
 rw [dig_zero] at hl
 obtain rfl : m2 = 0:=hl.symm
 have hb2:=o1.below.trans (o2.below.mono o1.below.size)
 clear hl o1 o2
 go_wp2_with fail
 go_ret3
 exact ⟨rfl, hb2⟩

theorem divmod_any (x y : Nat) (va vb : Value) (w : World) (ha : IsN w va x) (hb : IsN w vb y) (hx : len x ≤ 274877906944) (hly : len y ≤ 274877906944) (hy : 0 < y) :
  Calls Tryz.prog 248 #[va, vb] w (RetD w (x / y) (x % y)):=by
 have HTA:=Hd9 (trimD_any x va w ha (by omega))
 have HTB:=Hd9 (fun W (hW : Below w.heap.size w W) => trimD_any y vb W (hb.mono hW) (by omega))
 obtain ⟨A, n, c, rfl, _⟩:=ha
 obtain ⟨B, m, d, rfl, _⟩:=hb
 have hyl:=len_pos hy
 go_enter Tryz.func248, Tryz.ntmps248
 go_wp2_with fail
 refine HTA.out.mono ?_
 rintro e w1 ⟨v1, rfl, o1⟩
 go_wp2_with fail
 refine (HTB.out w1 o1.below).mono ?_
 rintro e w2 ⟨v2, rfl, o2⟩
 obtain ⟨A1, n1, c1, rfl⟩:=o1.slice
 obtain ⟨B2, m2, d2, rfl⟩:=o2.slice
 have hs:=o2.own.sl
 have hm2 : len y = m2:=hs.len
 have hb2:=o1.below.trans (o2.below.mono o1.below.size)
 have hown:=o1.own.below o2.below
 have hnz : ((m2 : Int) == 0) = false:=by rw [beq_eq_false_iff_ne]; omega
 have i1:=isN_of_own hown rfl
 have i2:=o2.isN
 have HC:=cmpB_any x y _ _ w2 i1 i2
 clear o1 o2
 rcases Nat.lt_or_ge x y with hlt | hge
 ·rw [cmpI_lt (by omega)] at HC
  have HCC:=Hd9 HC
  have HLT:=Hd9 hlt
  clear HC hlt hs hm2
  go_wp2_with fail
  refine HCC.out.mono ?_
  rintro e w3 ⟨rfl, b3⟩
  go_wp2_with fail
  go_ret3
  refine ⟨_, _, rfl, ?_, ?_, hb2.trans (b3.mono hb2.size)⟩
  ·rw [Nat.div_eq_of_lt HLT.out, dig_zero]
   exact Own.nil _ _
  ·rw [Nat.mod_eq_of_lt HLT.out]
   exact hown.below b3
 ·have hcm : ¬ cmpI (x : Int) (y : Int) < 0:=by
   unfold cmpI; rw [if_neg (by omega)]; split <;> omega
  generalize cmpI (x : Int) (y : Int) = cc at *
  have HCC:=Hd9 HC
  clear HC
  by_cases h1 : m2 = 1
  ·subst h1
   have hd:=dig_of_len1 hm2
   obtain ⟨b, off, u, rfl, hbl, huc, HU, hu⟩:=hs.get (Below.refl _ w2) (k:=0) (by omega)
   have huy : u = y:=by rw [← HU.out, hd]; rfl
   subst huy
   have HS:=Hd9 (fun W (hW : Below w2.heap.size w2 W) => qsmall_any x u (.slice A1 n1 c1) W (i1.mono hW) (by omega) hy hu)
   have hrm : x % u < 4294967296:=Nat.lt_trans (Nat.mod_lt _ hy) hu
   have HO:=Hd9 (fun W => of_any (x % u) W (by omega))
   generalize x % u = r at *
   have HUC:=Hd9 (fun W (hW : Below w2.heap.size w2 W) => (hW.cell (p:=⟨b, off + 0, none⟩) hbl).trans huc)
   clear hd hs hm2 HU huc i1 i2 hge
   go_wp2_with fail
   refine HCC.out.mono ?_
   rintro e w3 ⟨rfl, b3⟩
   have huc3:=HUC.out w3 b3
   have HS3:=Hd9 (HS.out w3 b3)
   rw [Nat.add_zero] at huc3
   have hb3:=hb2.trans (b3.mono hb2.size)
   clear hown
   go_wp2_with fail
   refine HS3.out.mono ?_
   rintro e w4 ⟨v4, rfl, o4⟩
   have hb4:=hb3.trans (o4.below.mono hb3.size)
   go_wp2_with fail
   refine (HO.out w4).mono ?_
   rintro e w5 ⟨v5, rfl, o5⟩
   go_wp2_with fail
   go_ret3
   exact ⟨_, _, rfl, (o4.own.below o5.below).base_le hb3.size, o5.own.base_le hb4.size, hb4.trans (o5.below.mono hb4.size)⟩
  ·have hn1 : ((m2 : Int) == 1) = false:=by rw [beq_eq_false_iff_ne]; omega
   have HL:=Hd9 (fun W (hW : Below w2.heap.size w2 W) => long_any x y (.slice A1 n1 c1) (.slice B2 m2 d2) W (i1.mono hW) (i2.mono hW) hge hx hyl)
   clear hs hm2 i1 i2 hge hown
   go_wp2_with fail
   refine HCC.out.mono ?_
   rintro e w3 ⟨rfl, b3⟩
   have hb3:=hb2.trans (b3.mono hb2.size)
   have HL3:=Hd9 (HL.out w3 b3)
   go_wp2_with fail
   refine HL3.out.mono ?_
   rintro e w4 ⟨vq, vr, rfl, o1, o2, b4⟩
   go_wp2_with fail
   go_ret3
   exact ⟨_, _, rfl, o1.base_le hb3.size, o2.base_le hb3.size, hb3.trans (b4.mono hb3.size)⟩
def exB (x y : Nat) : Bool:=decide (0 < y ∧ x % y = 0)
def exQ (x y : Nat) : Nat:=if 0 < y ∧ x % y = 0 then x / y else 0
theorem exB_zero (x : Nat) : exB x 0 = false:=decide_eq_false (by omega)
theorem exQ_zero (x : Nat) : exQ x 0 = 0:=if_neg (by omega)
theorem exB_yes {x y : Nat} (h : 0 < y) (h2 : x % y = 0) : exB x y = true:=decide_eq_true ⟨h, h2⟩
theorem exQ_yes {x y : Nat} (h : 0 < y) (h2 : x % y = 0) : exQ x y = x / y:=if_pos ⟨h, h2⟩
theorem exB_no {x y : Nat} (h2 : 0 < x % y) : exB x y = false:=decide_eq_false (by omega)
theorem exQ_no {x y : Nat} (h2 : 0 < x % y) : exQ x y = 0:=if_neg (by omega)
theorem exact_any (x y : Nat) (va vb : Value) (w : World) (ha : IsN w va x) (hb : IsN w vb y) (hx : len x ≤ 274877906944) (hly : len y ≤ 274877906944) :
  Calls Tryz.prog 263 #[va, vb] w (RetNB w (exQ x y) (exB x y)):=by
 rcases Nat.eq_zero_or_pos y with rfl | hy
 ·rw [exQ_zero, exB_zero]
  have H:=Hd9 (divmod_zero x va vb w ha hb hx)
  clear ha hb
  go_enter Tryz.func263, Tryz.ntmps263
  go_wp2_with fail
  refine H.out.mono ?_
  rintro e w1 ⟨rfl, b1⟩
  go_wp2_with fail
  go_ret2
  exact ⟨_, rfl, by rw [dig_zero]; exact Own.nil _ _, b1⟩
 ·have H:=Hd9 (divmod_any x y va vb w ha hb hx hly hy)
  clear ha hb
  rcases Nat.eq_zero_or_pos (x % y) with hr | hr
  ·rw [exQ_yes hy hr, exB_yes hy hr]
   rw [hr] at H
   clear hr
   go_enter Tryz.func263, Tryz.ntmps263
   go_wp2_with fail
   refine H.out.mono ?_
   rintro e w1 ⟨vq, vr, rfl, o1, o2, b1⟩
   obtain ⟨A, c, rfl, _, _⟩:=o2.form
   rw [dig_zero]
   clear o2
   go_wp2_with fail
   go_ret2
   exact ⟨_, rfl, o1, b1⟩
  ·rw [exQ_no hr, exB_no hr]
   have hl:=len_pos hr
   clear hr
   go_enter Tryz.func263, Tryz.ntmps263
   go_wp2_with fail
   refine H.out.mono ?_
   rintro e w1 ⟨vq, vr, rfl, o1, o2, b1⟩
   obtain ⟨A, c, rfl, _, _⟩:=o2.form
   rw [length_dig]
   clear o2
   generalize len (x % y) = k at *
   go_wp2_with fail
   go_ret2
   exact ⟨_, rfl, by rw [dig_zero]; exact Own.nil _ _, b1⟩

end Go.Proofs.YtiddbhhhmeopeaaGreatDoor


/- Walks: the reference's fits, DivMod, Div, Divides, Exact. -/
namespace Go.Proofs.YtiddbhhhmeopeaaGreatDoor
set_option maxHeartbeats 64000000
open Go.RowKit
set_option linter.unusedVariables false
set_option linter.unusedSimpArgs false
set_option maxRecDepth 100000

end Go.Proofs.YtiddbhhhmeopeaaGreatDoor


/- Walks: Powmod, of the program and of the reference. -/
namespace Go.Proofs.YtiddbhhhmeopeaaGreatDoor
set_option maxHeartbeats 64000000
open Go.RowKit
set_option linter.unusedVariables false
set_option linter.unusedSimpArgs false
set_option maxRecDepth 100000

end Go.Proofs.YtiddbhhhmeopeaaGreatDoor

