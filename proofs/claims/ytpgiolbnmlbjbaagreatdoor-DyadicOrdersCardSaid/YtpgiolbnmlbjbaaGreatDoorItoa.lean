/- strconv.Itoa: the text of an integer; strings.Cut at the letter p. -/
import Derived.Test.YtpgiolbnmlbjbaaGreatDoorTrim
import Derived.Test.YtpgiolbnmlbjbaaGreatDoorDyTxt
import Derived.Test.YtpgiolbnmlbjbaaGreatDoorBaseI
import Derived.Shelf.Strconv.Itoa3
import Derived.Lib.AppendIntMem
namespace Go.Proofs.YtpgiolbnmlbjbaaGreatDoor
open Go.RowKit
set_option linter.unusedVariables false
set_option linter.unusedSimpArgs false
set_option maxRecDepth 100000
attribute [local go_sem ↓] Go.wp_at_zero Go.wp_at_succ

def itRen : Go.Shelf.Ren := ⟨fun | 129 => 167 | 171 => 92 | 243 => 121 | 246 => 138 | 283 => 154 | 284 => 155 | 285 => 156 | 286 => 157 | 317 => 166 | 318 => 168 | 319 => 169 | 320 => 170 | 337 => 99 | 338 => 180 | n => n, fun | 0 => 0 | 2 => 2 | 3 => 3 | 4 => 4 | 5 => 5 | 9 => 9 | 20 => 20 | 37 => 119 | 46 => 98 | 51 => 99 | 53 => 75 | 171 => 138 | 173 => 141 | 212 => 154 | 213 => 155 | 232 => 112 | 233 => 164 | n => n, fun | 17 => 3 | 18 => 0 | 19 => 4 | n => n⟩
theorem itLays0 : Go.Proofs.Lays.n171 Tryz.prog itRen := {
  mixed := by kernel_rfl
  f129 := Tryz.func167.trans (congrArg some (by kernel_rfl))
  f171 := Tryz.func92.trans (congrArg some (by kernel_rfl))
  f243 := Tryz.func121.trans (congrArg some (by kernel_rfl))
  f246 := Tryz.func138.trans (congrArg some (by kernel_rfl))
  f283 := Tryz.func154.trans (congrArg some (by kernel_rfl))
  f284 := Tryz.func155.trans (congrArg some (by kernel_rfl))
  f285 := Tryz.func156.trans (congrArg some (by kernel_rfl))
  f286 := Tryz.func157.trans (congrArg some (by kernel_rfl))
  f317 := Tryz.func166.trans (congrArg some (by kernel_rfl))
  f318 := Tryz.func168.trans (congrArg some (by kernel_rfl))
  f319 := Tryz.func169.trans (congrArg some (by kernel_rfl))
  f320 := Tryz.func170.trans (congrArg some (by kernel_rfl))
  f337 := Tryz.func99.trans (congrArg some (by kernel_rfl))
  f338 := Tryz.func180.trans (congrArg some (by kernel_rfl))
  t0 := Tryz.underlying0
  a0 := Tryz.isAgg0
  z0 := Tryz.sizeOf0
  v0 := Tryz.zeroValue0
  t2 := Tryz.underlying2
  a2 := Tryz.isAgg2
  z2 := Tryz.sizeOf2
  v2 := Tryz.zeroValue2
  t3 := Tryz.underlying3
  a3 := Tryz.isAgg3
  z3 := Tryz.sizeOf3
  v3 := Tryz.zeroValue3
  t4 := Tryz.underlying4
  a4 := Tryz.isAgg4
  z4 := Tryz.sizeOf4
  v4 := Tryz.zeroValue4
  t5 := Tryz.underlying5
  a5 := Tryz.isAgg5
  z5 := Tryz.sizeOf5
  v5 := Tryz.zeroValue5
  t9 := Tryz.underlying9
  a9 := Tryz.isAgg9
  z9 := Tryz.sizeOf9
  v9 := Tryz.zeroValue9
  t20 := Tryz.underlying20
  a20 := Tryz.isAgg20
  z20 := Tryz.sizeOf20
  v20 := Tryz.zeroValue20
  t37 := Tryz.underlying119
  a37 := Tryz.isAgg119
  z37 := Tryz.sizeOf119
  v37 := Tryz.zeroValue119
  t46 := Tryz.underlying98
  a46 := Tryz.isAgg98
  z46 := Tryz.sizeOf98
  v46 := Tryz.zeroValue98
  t51 := Tryz.underlying99
  a51 := Tryz.isAgg99
  z51 := Tryz.sizeOf99
  v51 := Tryz.zeroValue99
  t53 := Tryz.underlying75
  a53 := Tryz.isAgg75
  z53 := Tryz.sizeOf75
  v53 := Tryz.zeroValue75
  t171 := Tryz.underlying138
  a171 := Tryz.isAgg138
  z171 := Tryz.sizeOf138
  v171 := Tryz.zeroValue138
  t173 := Tryz.underlying141
  a173 := Tryz.isAgg141
  z173 := Tryz.sizeOf141
  v173 := Tryz.zeroValue141
  t212 := Tryz.underlying154
  a212 := Tryz.isAgg154
  z212 := Tryz.sizeOf154
  v212 := Tryz.zeroValue154
  t213 := Tryz.underlying155
  a213 := Tryz.isAgg155
  z213 := Tryz.sizeOf155
  t232 := Tryz.underlying112
  a232 := Tryz.isAgg112
  z232 := Tryz.sizeOf112
  v232 := Tryz.zeroValue112
  t233 := Tryz.underlying164
  a233 := Tryz.isAgg164
  z233 := Tryz.sizeOf164
  v233 := Tryz.zeroValue164
  g17 := by kernel_rfl
  g18 := by kernel_rfl
  g19 := by kernel_rfl }
theorem itLays : Go.Proofs.LaysM.n171 Tryz.prog itRen := { itLays0 with
  i0 := by kernel_rfl
  i2 := by kernel_rfl
  i3 := by kernel_rfl
  i4 := by kernel_rfl
  i5 := by kernel_rfl
  i9 := by kernel_rfl
  i20 := by kernel_rfl
  i37 := by kernel_rfl
  i46 := by kernel_rfl
  i51 := by kernel_rfl
  i53 := by kernel_rfl
  i171 := by kernel_rfl
  i173 := by kernel_rfl
  i212 := by kernel_rfl
  i232 := by kernel_rfl
  i233 := by kernel_rfl
  m17 := by kernel_rfl
  m18 := by kernel_rfl
  m19 := by kernel_rfl }

theorem dec_dd (u : Nat) : Lib.decDigits u = (dd u).map UInt8.ofNat := by
  induction u using Nat.strongRecOn with
  | _ u ih =>
    rw [Lib.decDigits]
    by_cases h : u < 10
    · rw [dif_pos h]
      rcases Nat.eq_zero_or_pos u with rfl | h0
      · rw [dd_zero]; rfl
      · rw [dd_pos h0, rd_pos h0, show u / 10 = 0 by omega, rd_zero, show u % 10 = u by omega]; rfl
    · rw [dif_neg h, ih (u / 10) (by omega), dd_pos (by omega : 0 < u), rd_pos (by omega : 0 < u), List.reverse_cons, List.map_append, dd_pos (by omega : 0 < u / 10)]
      rfl
theorem itoa_fmt (n : Int) : (⟨(Lib.itoa n).toArray⟩ : ByteArray) = str (fmt n) := by
  unfold Lib.itoa fmt str
  by_cases h : n < 0
  · rw [if_pos h, if_pos h, dec_dd]; rfl
  · rw [if_neg h, if_neg h, dec_dd, show n.toNat = n.natAbs by omega]
/-- The powers of ten stand where the library lays them. -/
def Pow10 (w : World) : Prop := Lib.TabIs Tryz.prog w "internal/strconv.uint64pow10" .u64 Lib.pow10Tab
theorem Pow10.mono {w w' : World} (h : Pow10 w) (hb : Below w.heap.size w w') : Pow10 w' := Lib.tabBelow_of_tabIs h w' hb
theorem itoa_any (n : Int) (w : World) (h0 : -9223372036854775808 ≤ n) (h1 : n ≤ 9223372036854775807) (hP : Pow10 w) :
    Calls Tryz.prog 92 #[.int .i64 n] w (RetS w (fmt n)) := by
  refine (Any.strconv_Itoa itLays n h0 h1 w hP).mono ?_
  rintro e w' ⟨rfl, k, os, rfl⟩
  rw [itoa_fmt]
  exact ⟨rfl, Lib.below_grow _ w (Nat.le_refl _) k os⟩

theorem eq112 {x : Nat} (h : x < 256) : (UInt8.ofNat x == 112) = decide (x = 112) := by
  have : ∀ x : Nat, x < 256 → (UInt8.ofNat x == 112) = decide (x = 112) := by decide
  exact this x h
theorem index8_no : ∀ {l : List Nat}, Byt l → 112 ∉ l → Lib.indexByte (l.map UInt8.ofNat) 112 = -1
  | [], _, _ => rfl
  | x :: t, hb, h => by
    have hx : x ≠ 112 := fun e => h (e ▸ List.mem_cons_self ..)
    rw [List.map_cons, Lib.indexByte, eq112 (hb x (List.mem_cons_self ..)), decide_eq_false hx, index8_no (fun y hy => hb y (List.mem_cons_of_mem _ hy)) (fun e => h (List.mem_cons_of_mem _ e))]
    rfl
theorem index8_yes : ∀ {a b : List Nat}, Byt a → 112 ∉ a → Lib.indexByte ((a ++ 112 :: b).map UInt8.ofNat) 112 = (a.length : Int)
  | [], b, _, _ => by rw [List.nil_append, List.map_cons, Lib.indexByte, eq112 (by omega)]; rfl
  | x :: t, b, hb, h => by
    have hx : x ≠ 112 := fun e => h (e ▸ List.mem_cons_self ..)
    rw [List.cons_append, List.map_cons, Lib.indexByte, eq112 (hb x (List.mem_cons_self ..)), decide_eq_false hx, index8_yes (fun y hy => hb y (List.mem_cons_of_mem _ hy)) (fun e => h (List.mem_cons_of_mem _ e))]
    have e : (((t.length : Nat) : Int) == -1) = false := by rw [beq_eq_false_iff_ne]; omega
    rw [e, List.length_cons]
    show ((t.length : Nat) : Int) + 1 = ((t.length + 1 : Nat) : Int)
    omega
theorem single112 (l : List Nat) (hb : Byt l) : ((⟨#[112]⟩ : ByteArray).toList == (str l).toList) = decide (l = [112]) := by
  have e : (⟨#[112]⟩ : ByteArray) = str [112] := rfl
  rw [e, str_eql (byt_one (by omega)) hb, Bool.eq_iff_iff, decide_eq_true_iff, decide_eq_true_iff]
  exact ⟨fun h => h.symm, fun h => h.symm⟩
theorem hd8_no {l : List Nat} (h : 112 ∉ l) : hd8 l = l ∧ tl8 l = [] := by
  unfold hd8 tl8
  induction l with
  | nil => exact ⟨rfl, rfl⟩
  | cons c t ih =>
    have hc : decide (c ≠ 112) = true := decide_eq_true (fun e : c = 112 => h (by rw [e]; exact List.mem_cons_self ..))
    obtain ⟨e1, e2⟩ := ih (fun e => h (List.mem_cons_of_mem _ e))
    rw [List.takeWhile_cons, List.dropWhile_cons, if_pos hc, if_pos hc, e1, e2]
    exact ⟨rfl, rfl⟩
/-- Where the first p stands. -/
def ix8 (l : List Nat) : Int := if 112 ∈ l then ((hd8 l).length : Int) else -1
theorem index8_ix {l : List Nat} (hb : Byt l) : Lib.indexByte (l.map UInt8.ofNat) 112 = ix8 l := by
  unfold ix8
  by_cases hm : 112 ∈ l
  · obtain ⟨a, b, rfl, h⟩ := cut8 l hm
    rw [if_pos hm, hd8_cut h, index8_yes (fun x hx => hb x (List.mem_append_left _ hx)) h]
  · rw [if_neg hm, index8_no hb hm]
theorem liteByte8_any (l : List Nat) (w : World) (hb : Byt l) :
    Calls Tryz.prog 142 #[.string (str l), .int .u8 112] w fun e w' => e = .returned (.int .i64 (ix8 l)) ∧ w = w' := by
  refine (Any.stringslite_IndexByte { ixLays with } (str l) 112 w).mono ?_
  rintro e w' ⟨rfl, rfl⟩
  rw [str_data, ← index8_ix hb]
  exact ⟨rfl, rfl⟩
theorem liteIndex8_any (l : List Nat) (w : World) (hb : Byt l) (hl : l.length ≤ 1000000) :
    Calls Tryz.prog 131 #[.string (str l), .string ⟨#[112]⟩] w fun e w' => e = .returned (.int .i64 (ix8 l)) ∧ w = w' := by
  have H := Lib.hid (liteByte8_any l w hb)
  have hq := single112 l hb
  have hq2 : (([112] : List UInt8) == (str l).toList) = decide (l = [112]) := by rw [← hq, show (⟨#[112]⟩ : ByteArray) = str [112] from rfl, str_toList [112]]; rfl
  by_cases h1 : l = [112]
  · subst h1
    rw [show ix8 [112] = 0 from rfl]
    rw [decide_eq_true rfl] at hq hq2
    clear H
    generalize str [112] = s at *
    go_enter Tryz.func131, Tryz.ntmps131
    go_wp2_with fail
    go_ret
    exact ⟨rfl, rfl⟩
  · rw [decide_eq_false h1] at hq hq2
    clear h1
    generalize ix8 l = I at *
    go_enter Tryz.func131, Tryz.ntmps131
    go_wp2_with fail
    refine H.out.mono ?_
    rintro e w' ⟨rfl, rfl⟩
    go_wp2_with fail
    go_ret
    exact ⟨rfl, rfl⟩
theorem liteCut8_any (l : List Nat) (w : World) (hb : Byt l) (hl : l.length ≤ 1000000) :
    Calls Tryz.prog 117 #[.string (str l), .string ⟨#[112]⟩] w fun e w' => e = .returned (.tuple #[.string (str (hd8 l)), .string (str (tl8 l)), .bool (decide (112 ∈ l))]) ∧ Below w.heap.size w w' := by
  have H := Lib.hid (liteIndex8_any l w hb hl)
  by_cases hm : 112 ∈ l
  · obtain ⟨a, b, rfl, h⟩ := cut8 l hm
    rw [decide_eq_true hm]
    rw [show ix8 (a ++ 112 :: b) = ((a.length : Nat) : Int) from by unfold ix8; rw [if_pos hm, hd8_cut h]] at H
    rw [hd8_cut h, tl8_cut h]
    have hsz := str_size (a ++ 112 :: b)
    have hx1 : (str (a ++ 112 :: b)).extract 0 a.length = str a := by rw [str_extract, List.drop_zero, Nat.sub_zero, List.take_left']; rfl
    have hx2 : (str (a ++ 112 :: b)).extract (a.length + 1) (a.length + (b.length + 1)) = str b := by
      rw [str_extract, List.drop_append, List.drop_eq_nil_of_le (by omega), List.nil_append, show a.length + 1 - a.length = 1 by omega, List.drop_succ_cons, List.drop_zero, List.take_of_length_le (by omega)]
    rw [List.length_append, List.length_cons] at hsz hl
    clear h hb hm
    generalize str (a ++ 112 :: b) = s at *
    generalize str a = sa at *
    generalize str b = sb at *
    obtain ⟨k, hk⟩ : ∃ k, a.length = k := ⟨_, rfl⟩
    obtain ⟨m, hm⟩ : ∃ m, b.length = m := ⟨_, rfl⟩
    rw [hk, hm] at hsz hx2 hl
    rw [hk] at hx1 H
    have i1 : (0 : Int) ≤ (k : Int) := by omega
    have i2 : (k : Int) ≤ (k : Int) + ((m : Int) + 1) := by omega
    have i3 : (k : Int) + 1 ≤ (k : Int) + ((m : Int) + 1) := by omega
    have i4 : (0 : Int) ≤ (k : Int) + 1 := by omega
    have i5 : IntKind.i64.wrap ((k : Int) + 1) = (k : Int) + 1 := by rw [IntKind.wrap_i64]; omega
    clear hk hm
    go_enter Tryz.func117, Tryz.ntmps117
    go_wp2_with fail
    refine H.out.mono ?_
    rintro e w' ⟨rfl, rfl⟩
    clear H
    go_wp2_with fail
    go_region
    go_wp2_with fail
    go_ret3
    exact ⟨rfl, (Below.refl _ _).drew⟩
  · obtain ⟨e1, e2⟩ := hd8_no hm
    rw [show ix8 l = -1 from if_neg hm] at H
    rw [e1, e2, decide_eq_false hm]
    clear e1 e2 hm hb hl
    generalize str l = s at *
    go_enter Tryz.func117, Tryz.ntmps117
    go_wp2_with fail
    refine H.out.mono ?_
    rintro e w' ⟨rfl, rfl⟩
    go_wp2_with fail
    go_ret3
    exact ⟨rfl, Below.refl _ _⟩
theorem cut8_any (l : List Nat) (w : World) (hb : Byt l) (hl : l.length ≤ 1000000) :
    Calls Tryz.prog 89 #[.string (str l), .string ⟨#[112]⟩] w fun e w' => e = .returned (.tuple #[.string (str (hd8 l)), .string (str (tl8 l)), .bool (decide (112 ∈ l))]) ∧ Below w.heap.size w w' := by
  have H := Lib.hid (liteCut8_any l w hb hl)
  generalize str (hd8 l) = sa at *
  generalize str (tl8 l) = sb at *
  generalize decide (112 ∈ l) = hp at *
  go_enter Tryz.func89, Tryz.ntmps89
  go_wp2_with fail
  refine H.out.mono ?_
  rintro e w' ⟨rfl, be⟩
  go_wp2_with fail
  go_ret3
  exact ⟨rfl, be⟩

end Go.Proofs.YtpgiolbnmlbjbaaGreatDoor
