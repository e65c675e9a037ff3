/- strings.Cut at a point, strings.HasSuffix and TrimLeft of zeros. -/
import Derived.Test.YtbndgggjfjdfbabGreatDoorTrim
import Derived.Test.YtbndgggjfjdfbabGreatDoorDecRat
import Derived.Test.YtbndgggjfjdfbabGreatDoorBaseI
import Derived.Shelf.Strings.Trim
import Derived.Shelf.Strings.Prefix
namespace Go.Proofs.YtbndgggjfjdfbabGreatDoor
open Go.RowKit
set_option linter.unusedVariables false
set_option linter.unusedSimpArgs false
set_option maxRecDepth 100000
attribute [local go_sem ↓] Go.wp_at_zero Go.wp_at_succ

def tlRen : Go.Shelf.Ren := ⟨fun | 119 => 168 | 137 => 167 | 151 => 151 | 152 => 163 | 161 => 96 | 197 => 150 | 217 => 142 | 224 => 144 | 225 => 143 | 227 => 125 | 228 => 149 | 231 => 124 | 233 => 126 | 235 => 127 | 260 => 162 | 266 => 159 | n => n, fun | 0 => 0 | 3 => 3 | 4 => 4 | 5 => 5 | 9 => 9 | 21 => 21 | 46 => 92 | 105 => 148 | 116 => 136 | 117 => 137 | 119 => 160 | 124 => 140 | 138 => 162 | 139 => 163 | n => n, fun | 3 => 3 | 4 => 4 | n => n⟩
theorem tlLays : Go.Proofs.Lays.n161 Tryz.prog tlRen := {
  mixed := by kernel_rfl
  f119 := Tryz.func168.trans (congrArg some (by kernel_rfl))
  f137 := Tryz.func167.trans (congrArg some (by kernel_rfl))
  f151 := Tryz.func151.trans (congrArg some (by kernel_rfl))
  f152 := Tryz.func163.trans (congrArg some (by kernel_rfl))
  f161 := Tryz.func96.trans (congrArg some (by kernel_rfl))
  f197 := Tryz.func150.trans (congrArg some (by kernel_rfl))
  f217 := Tryz.func142.trans (congrArg some (by kernel_rfl))
  f224 := Tryz.func144.trans (congrArg some (by kernel_rfl))
  f225 := Tryz.func143.trans (congrArg some (by kernel_rfl))
  f227 := Tryz.func125.trans (congrArg some (by kernel_rfl))
  f228 := Tryz.func149.trans (congrArg some (by kernel_rfl))
  f231 := Tryz.func124.trans (congrArg some (by kernel_rfl))
  f233 := Tryz.func126.trans (congrArg some (by kernel_rfl))
  f235 := Tryz.func127.trans (congrArg some (by kernel_rfl))
  f260 := Tryz.func162.trans (congrArg some (by kernel_rfl))
  f266 := Tryz.func159.trans (congrArg some (by kernel_rfl))
  t0 := Tryz.underlying0
  a0 := Tryz.isAgg0
  z0 := Tryz.sizeOf0
  v0 := Tryz.zeroValue0
  t3 := Tryz.underlying3
  a3 := Tryz.isAgg3
  z3 := Tryz.sizeOf3
  v3 := Tryz.zeroValue3
  t4 := Tryz.underlying4
  a4 := Tryz.isAgg4
  z4 := Tryz.sizeOf4
  v4 := Tryz.zeroValue4
  t5 := Tryz.underlying5
  a5 := Tryz.isAgg5
  z5 := Tryz.sizeOf5
  v5 := Tryz.zeroValue5
  t9 := Tryz.underlying9
  a9 := Tryz.isAgg9
  z9 := Tryz.sizeOf9
  v9 := Tryz.zeroValue9
  t21 := Tryz.underlying21
  a21 := Tryz.isAgg21
  z21 := Tryz.sizeOf21
  v21 := Tryz.zeroValue21
  t46 := Tryz.underlying92
  a46 := Tryz.isAgg92
  z46 := Tryz.sizeOf92
  v46 := Tryz.zeroValue92
  t105 := Tryz.underlying148
  a105 := Tryz.isAgg148
  z105 := Tryz.sizeOf148
  v105 := Tryz.zeroValue148
  t116 := Tryz.underlying136
  a116 := Tryz.isAgg136
  z116 := Tryz.sizeOf136
  t117 := Tryz.underlying137
  a117 := Tryz.isAgg137
  z117 := Tryz.sizeOf137
  v117 := Tryz.zeroValue137
  t119 := Tryz.underlying160
  a119 := Tryz.isAgg160
  z119 := Tryz.sizeOf160
  t124 := Tryz.underlying140
  a124 := Tryz.isAgg140
  z124 := Tryz.sizeOf140
  v124 := Tryz.zeroValue140
  t138 := Tryz.underlying162
  a138 := Tryz.isAgg162
  z138 := Tryz.sizeOf162
  v138 := Tryz.zeroValue162
  t139 := Tryz.underlying163
  a139 := Tryz.isAgg163
  z139 := Tryz.sizeOf163
  v139 := Tryz.zeroValue163
  g3 := by kernel_rfl
  g4 := by kernel_rfl }
def hsRen : Go.Shelf.Ren := ⟨fun | 100 => 95 | 207 => 123 | n => n, fun | 3 => 3 | 4 => 4 | 9 => 9 | n => n, fun  | n => n⟩
theorem hsLays : Go.Proofs.Lays.n100 Tryz.prog hsRen := {
  mixed := by kernel_rfl
  f100 := Tryz.func95.trans (congrArg some (by kernel_rfl))
  f207 := Tryz.func123.trans (congrArg some (by kernel_rfl))
  t3 := Tryz.underlying3
  a3 := Tryz.isAgg3
  z3 := Tryz.sizeOf3
  v3 := Tryz.zeroValue3
  t4 := Tryz.underlying4
  a4 := Tryz.isAgg4
  z4 := Tryz.sizeOf4
  v4 := Tryz.zeroValue4
  t9 := Tryz.underlying9
  a9 := Tryz.isAgg9
  z9 := Tryz.sizeOf9
  v9 := Tryz.zeroValue9 }

theorem eq46 {x : Nat} (h : x < 256) : (UInt8.ofNat x == 46) = decide (x = 46) := by
  have : ∀ x : Nat, x < 256 → (UInt8.ofNat x == 46) = decide (x = 46) := by decide
  exact this x h
theorem eq48 {x : Nat} (h : x < 256) : (UInt8.ofNat x == 48) = decide (x = 48) := by
  have : ∀ x : Nat, x < 256 → (UInt8.ofNat x == 48) = decide (x = 48) := by decide
  exact this x h
theorem indexByte_no : ∀ {l : List Nat}, Byt l → 46 ∉ l → Lib.indexByte (l.map UInt8.ofNat) 46 = -1
  | [], _, _ => rfl
  | x :: t, hb, h => by
    have hx : x ≠ 46 := fun e => h (e ▸ List.mem_cons_self ..)
    rw [List.map_cons, Lib.indexByte, eq46 (hb x (List.mem_cons_self ..)), decide_eq_false hx, indexByte_no (fun y hy => hb y (List.mem_cons_of_mem _ hy)) (fun e => h (List.mem_cons_of_mem _ e))]
    rfl
theorem indexByte_yes : ∀ {a b : List Nat}, Byt a → 46 ∉ a → Lib.indexByte ((a ++ 46 :: b).map UInt8.ofNat) 46 = (a.length : Int)
  | [], b, _, _ => by rw [List.nil_append, List.map_cons, Lib.indexByte, eq46 (by omega)]; rfl
  | x :: t, b, hb, h => by
    have hx : x ≠ 46 := fun e => h (e ▸ List.mem_cons_self ..)
    rw [List.cons_append, List.map_cons, Lib.indexByte, eq46 (hb x (List.mem_cons_self ..)), decide_eq_false hx, indexByte_yes (fun y hy => hb y (List.mem_cons_of_mem _ hy)) (fun e => h (List.mem_cons_of_mem _ e))]
    have e : (((t.length : Nat) : Int) == -1) = false := by rw [beq_eq_false_iff_ne]; omega
    rw [e, List.length_cons]
    show ((t.length : Nat) : Int) + 1 = ((t.length + 1 : Nat) : Int)
    omega
theorem single46 (l : List Nat) (hb : Byt l) : ((⟨#[46]⟩ : ByteArray).toList == (str l).toList) = decide (l = [46]) := by
  have e : (⟨#[46]⟩ : ByteArray) = str [46] := rfl
  rw [e, str_eql (byt_one (by omega)) hb, Bool.eq_iff_iff, decide_eq_true_iff, decide_eq_true_iff]
  exact ⟨fun h => h.symm, fun h => h.symm⟩
/-- Where the first point stands. -/
def ixP (l : List Nat) : Int := if 46 ∈ l then ((whl l).length : Int) else -1
theorem indexByte_ixP {l : List Nat} (hb : Byt l) : Lib.indexByte (l.map UInt8.ofNat) 46 = ixP l := by
  rcases cut_cases l with h | ⟨a, b, rfl, h⟩
  · unfold ixP; rw [if_neg h, indexByte_no hb h]
  · unfold ixP
    rw [if_pos (by simp), (parts_yes h).1, indexByte_yes (fun x hx => hb x (List.mem_append_left _ hx)) h]
theorem liteByte_any (l : List Nat) (w : World) (hb : Byt l) :
    Calls Tryz.prog 142 #[.string (str l), .int .u8 46] w fun e w' => e = .returned (.int .i64 (ixP l)) ∧ w = w' := by
  refine (Any.stringslite_IndexByte { ixLays with } (str l) 46 w).mono ?_
  rintro e w' ⟨rfl, rfl⟩
  rw [str_data, ← indexByte_ixP hb]
  exact ⟨rfl, rfl⟩
theorem liteIndex_any (l : List Nat) (w : World) (hb : Byt l) (hl : l.length ≤ 1000000) :
    Calls Tryz.prog 121 #[.string (str l), .string ⟨#[46]⟩] w fun e w' => e = .returned (.int .i64 (ixP l)) ∧ w = w' := by
  have H := Lib.hid (liteByte_any l w hb)
  have hq := single46 l hb
  have hq2 : (([46] : List UInt8) == (str l).toList) = decide (l = [46]) := by rw [← hq, show (⟨#[46]⟩ : ByteArray) = str [46] from rfl, str_toList [46]]; rfl
  by_cases h1 : l = [46]
  · subst h1
    rw [show ixP [46] = 0 from rfl]
    rw [decide_eq_true rfl] at hq hq2
    clear H
    generalize str [46] = s at *
    go_enter Tryz.func121, Tryz.ntmps121
    go_wp2_with fail
    go_ret
    exact ⟨rfl, rfl⟩
  · rw [decide_eq_false h1] at hq hq2
    clear h1
    generalize ixP l = I at *
    go_enter Tryz.func121, Tryz.ntmps121
    go_wp2_with fail
    refine H.out.mono ?_
    rintro e w' ⟨rfl, rfl⟩
    go_wp2_with fail
    go_ret
    exact ⟨rfl, rfl⟩
theorem liteCut_any (l : List Nat) (w : World) (hb : Byt l) (hl : l.length ≤ 1000000) :
    Calls Tryz.prog 93 #[.string (str l), .string ⟨#[46]⟩] w fun e w' => e = .returned (.tuple #[.string (str (whl l)), .string (str (frc l)), .bool (hasP l)]) ∧ Below w.heap.size w w' := by
  have H := Lib.hid (liteIndex_any l w hb hl)
  rcases cut_cases l with h | ⟨a, b, rfl, h⟩
  · obtain ⟨e1, e2, e3⟩ := parts_no h
    rw [show ixP l = -1 from if_neg h] at H
    rw [e1, e2, e3]
    clear e1 e2 e3 h hb hl
    generalize str l = s at *
    go_enter Tryz.func93, Tryz.ntmps93
    go_wp2_with fail
    refine H.out.mono ?_
    rintro e w' ⟨rfl, rfl⟩
    go_wp2_with fail
    go_ret3
    exact ⟨rfl, Below.refl _ _⟩
  · obtain ⟨e1, e2, e3⟩ := parts_yes (b := b) h
    rw [show ixP (a ++ 46 :: b) = ((a.length : Nat) : Int) from by unfold ixP; rw [if_pos (by simp), e1]] at H
    rw [e1, e2, e3]
    have hsz := str_size (a ++ 46 :: b)
    have hx1 : (str (a ++ 46 :: b)).extract 0 a.length = str a := by rw [str_extract, List.drop_zero, Nat.sub_zero, List.take_left']; rfl
    have hx2 : (str (a ++ 46 :: b)).extract (a.length + 1) (a.length + (b.length + 1)) = str b := by
      rw [str_extract, List.drop_append, List.drop_eq_nil_of_le (by omega), List.nil_append, show a.length + 1 - a.length = 1 by omega, List.drop_succ_cons, List.drop_zero, List.take_of_length_le (by omega)]
    rw [List.length_append, List.length_cons] at hsz hl
    clear e1 e2 e3 h hb
    generalize str (a ++ 46 :: b) = s at *
    generalize str a = sa at *
    generalize str b = sb at *
    obtain ⟨k, hk⟩ : ∃ k, a.length = k := ⟨_, rfl⟩
    obtain ⟨m, hm⟩ : ∃ m, b.length = m := ⟨_, rfl⟩
    rw [hk, hm] at hsz hx2 hl
    rw [hk] at hx1 H
    have i1 : (0 : Int) ≤ (k : Int) := by omega
    have i2 : (k : Int) ≤ (k : Int) + ((m : Int) + 1) := by omega
    have i3 : (k : Int) + 1 ≤ (k : Int) + ((m : Int) + 1) := by omega
    have i4 : (0 : Int) ≤ (k : Int) + 1 := by omega
    have i5 : IntKind.i64.wrap ((k : Int) + 1) = (k : Int) + 1 := by rw [IntKind.wrap_i64]; omega
    clear hk hm
    go_enter Tryz.func93, Tryz.ntmps93
    go_wp2_with fail
    refine H.out.mono ?_
    rintro e w' ⟨rfl, rfl⟩
    clear H
    go_wp2_with fail
    go_region
    go_wp2_with fail
    go_ret3
    exact ⟨rfl, (Below.refl _ _).drew⟩
theorem cut7_any (l : List Nat) (w : World) (hb : Byt l) (hl : l.length ≤ 1000000) :
    Calls Tryz.prog 58 #[.string (str l), .string ⟨#[46]⟩] w fun e w' => e = .returned (.tuple #[.string (str (whl l)), .string (str (frc l)), .bool (hasP l)]) ∧ Below w.heap.size w w' := by
  have H := Lib.hid (liteCut_any l w hb hl)
  generalize str (whl l) = sa at *
  generalize str (frc l) = sb at *
  generalize hasP l = hp at *
  go_enter Tryz.func58, Tryz.ntmps58
  go_wp2_with fail
  refine H.out.mono ?_
  rintro e w' ⟨rfl, be⟩
  go_wp2_with fail
  go_ret3
  exact ⟨rfl, be⟩

/-- Whether the last byte is a zero. -/
theorem suffix_any (l : List Nat) (w : World) (hb : Byt l) (h0 : l ≠ []) (hl : l.length ≤ 1000000) :
    Calls Tryz.prog 95 #[.string (str l), .string ⟨#[48]⟩] w fun e w' => e = .returned (.bool (decide (nth l (l.length - 1) = 48))) ∧ w = w' := by
  refine (Any.strings_HasSuffix hsLays (str l) ⟨#[48]⟩ w (by rw [str_size]; omega)).mono ?_
  rintro e w' ⟨rfl, rfl⟩
  have e : Lib.hasSuffix (str l).data.toList (ByteArray.mk #[48]).data.toList = decide (nth l (l.length - 1) = 48) := by
    rw [← Lib.hasSuffix_raw]
    have hp : 0 < l.length := List.length_pos_iff.2 h0
    have e1 : (⟨#[48]⟩ : ByteArray) = str [48] := rfl
    obtain ⟨b, c, rfl⟩ : ∃ b c, l = b ++ [c] := ⟨l.dropLast, l.getLast h0, (List.dropLast_concat_getLast h0).symm⟩
    have hc : c < 256 := hb c (by simp)
    rw [e1, str_size, str_size, str_extract, List.length_append]
    show (decide (1 ≤ b.length + 1) && ((str (((b ++ [c]).drop (b.length + 1 - 1)).take (b.length + 1 - (b.length + 1 - 1)))).toList == (str [48]).toList)) = decide (nth (b ++ [c]) (b.length + 1 - 1) = 48)
    rw [Nat.add_sub_cancel, List.drop_left' rfl, show b.length + 1 - b.length = 1 by omega, List.take_of_length_le (by simp), str_eql (byt_one hc) (byt_one (by omega)), decide_eq_true (by omega : 1 ≤ b.length + 1), Bool.true_and, nth_eq, List.getElem?_append_right (Nat.le_refl _), Nat.sub_self]
    simp
  rw [e]
  exact ⟨rfl, rfl⟩
def zdrop (l : List Nat) : List Nat := l.dropWhile fun c => decide (c = 48)
theorem zdrop_map : ∀ {l : List Nat}, Byt l → (l.map UInt8.ofNat).dropWhile (fun x => x == 48) = (zdrop l).map UInt8.ofNat
  | [], _ => rfl
  | x :: t, hb => by
    unfold zdrop
    rw [List.map_cons, List.dropWhile_cons, List.dropWhile_cons, eq48 (hb x (List.mem_cons_self ..))]
    split
    · exact zdrop_map fun y hy => hb y (List.mem_cons_of_mem _ hy)
    · rfl
theorem trimLeft_any (l : List Nat) (w : World) (hb : Byt l) :
    Calls Tryz.prog 96 #[.string (str l), .string ⟨#[48]⟩] w fun e w' => e = .returned (.string (str (zdrop l))) ∧ w = w' := by
  refine (Any.strings_TrimLeft_one tlLays (str l) 48 (by decide) w).mono ?_
  rintro e w' ⟨rfl, rfl⟩
  have e : Lib.trimLeftB (str l).data.toList 48 = (zdrop l).map UInt8.ofNat := by rw [str_data]; exact zdrop_map hb
  rw [e]
  exact ⟨rfl, rfl⟩

end Go.Proofs.YtbndgggjfjdfbabGreatDoor
