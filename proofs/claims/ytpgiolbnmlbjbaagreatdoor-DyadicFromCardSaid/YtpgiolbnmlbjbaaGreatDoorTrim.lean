/- strings.Trim and strings.IndexByte, by the library's contracts. -/
import Derived.Test.YtpgiolbnmlbjbaaGreatDoorDecMath
import Derived.Test.YtpgiolbnmlbjbaaGreatDoorBaseN
import Derived.Shelf.Strings.SlTrimAscii
import Derived.Shelf.Small.Strs
namespace Go.Proofs.YtpgiolbnmlbjbaaGreatDoor
open Go.RowKit
set_option linter.unusedVariables false
set_option linter.unusedSimpArgs false
set_option maxRecDepth 100000

def trimRen : Go.Shelf.Ren := ⟨fun | 119 => 189 | 120 => 178 | 137 => 188 | 151 => 183 | 152 => 187 | 160 => 162 | 197 => 182 | 217 => 142 | 224 => 144 | 225 => 143 | 227 => 173 | 228 => 181 | 231 => 171 | 232 => 172 | 233 => 174 | 234 => 175 | 235 => 176 | 236 => 177 | 260 => 186 | 266 => 159 | 271 => 184 | n => n, fun | 0 => 0 | 3 => 3 | 4 => 4 | 5 => 5 | 9 => 9 | 21 => 21 | 46 => 98 | 105 => 150 | 116 => 158 | 117 => 159 | 119 => 166 | 124 => 162 | 138 => 168 | 139 => 169 | n => n, fun | 3 => 5 | 4 => 6 | n => n⟩
theorem trimLays : Go.Proofs.Lays.n160 Tryz.prog trimRen := {
  mixed := by kernel_rfl
  f119 := Tryz.func189.trans (congrArg some (by kernel_rfl))
  f120 := Tryz.func178.trans (congrArg some (by kernel_rfl))
  f137 := Tryz.func188.trans (congrArg some (by kernel_rfl))
  f151 := Tryz.func183.trans (congrArg some (by kernel_rfl))
  f152 := Tryz.func187.trans (congrArg some (by kernel_rfl))
  f160 := Tryz.func162.trans (congrArg some (by kernel_rfl))
  f197 := Tryz.func182.trans (congrArg some (by kernel_rfl))
  f217 := Tryz.func142.trans (congrArg some (by kernel_rfl))
  f224 := Tryz.func144.trans (congrArg some (by kernel_rfl))
  f225 := Tryz.func143.trans (congrArg some (by kernel_rfl))
  f227 := Tryz.func173.trans (congrArg some (by kernel_rfl))
  f228 := Tryz.func181.trans (congrArg some (by kernel_rfl))
  f231 := Tryz.func171.trans (congrArg some (by kernel_rfl))
  f232 := Tryz.func172.trans (congrArg some (by kernel_rfl))
  f233 := Tryz.func174.trans (congrArg some (by kernel_rfl))
  f234 := Tryz.func175.trans (congrArg some (by kernel_rfl))
  f235 := Tryz.func176.trans (congrArg some (by kernel_rfl))
  f236 := Tryz.func177.trans (congrArg some (by kernel_rfl))
  f260 := Tryz.func186.trans (congrArg some (by kernel_rfl))
  f266 := Tryz.func159.trans (congrArg some (by kernel_rfl))
  f271 := Tryz.func184.trans (congrArg some (by kernel_rfl))
  t0 := Tryz.underlying0
  a0 := Tryz.isAgg0
  z0 := Tryz.sizeOf0
  v0 := Tryz.zeroValue0
  t3 := Tryz.underlying3
  a3 := Tryz.isAgg3
  z3 := Tryz.sizeOf3
  v3 := Tryz.zeroValue3
  t4 := Tryz.underlying4
  a4 := Tryz.isAgg4
  z4 := Tryz.sizeOf4
  v4 := Tryz.zeroValue4
  t5 := Tryz.underlying5
  a5 := Tryz.isAgg5
  z5 := Tryz.sizeOf5
  v5 := Tryz.zeroValue5
  t9 := Tryz.underlying9
  a9 := Tryz.isAgg9
  z9 := Tryz.sizeOf9
  v9 := Tryz.zeroValue9
  t21 := Tryz.underlying21
  a21 := Tryz.isAgg21
  z21 := Tryz.sizeOf21
  v21 := Tryz.zeroValue21
  t46 := Tryz.underlying98
  a46 := Tryz.isAgg98
  z46 := Tryz.sizeOf98
  v46 := Tryz.zeroValue98
  t105 := Tryz.underlying150
  a105 := Tryz.isAgg150
  z105 := Tryz.sizeOf150
  v105 := Tryz.zeroValue150
  t116 := Tryz.underlying158
  a116 := Tryz.isAgg158
  z116 := Tryz.sizeOf158
  t117 := Tryz.underlying159
  a117 := Tryz.isAgg159
  z117 := Tryz.sizeOf159
  v117 := Tryz.zeroValue159
  t119 := Tryz.underlying166
  a119 := Tryz.isAgg166
  z119 := Tryz.sizeOf166
  t124 := Tryz.underlying162
  a124 := Tryz.isAgg162
  z124 := Tryz.sizeOf162
  v124 := Tryz.zeroValue162
  t138 := Tryz.underlying168
  a138 := Tryz.isAgg168
  z138 := Tryz.sizeOf168
  v138 := Tryz.zeroValue168
  t139 := Tryz.underlying169
  a139 := Tryz.isAgg169
  z139 := Tryz.sizeOf169
  v139 := Tryz.zeroValue169
  g3 := by kernel_rfl
  g4 := by kernel_rfl }
def ixRen : Go.Shelf.Ren := ⟨fun | 137 => 188 | 217 => 142 | 266 => 159 | n => n, fun | 3 => 3 | 5 => 5 | 9 => 9 | n => n, fun  | n => n⟩
theorem ixLays : Go.Proofs.Lays.n137 Tryz.prog ixRen := {
  mixed := by kernel_rfl
  f137 := Tryz.func188.trans (congrArg some (by kernel_rfl))
  f217 := Tryz.func142.trans (congrArg some (by kernel_rfl))
  f266 := Tryz.func159.trans (congrArg some (by kernel_rfl))
  t3 := Tryz.underlying3
  a3 := Tryz.isAgg3
  z3 := Tryz.sizeOf3
  v3 := Tryz.zeroValue3
  t5 := Tryz.underlying5
  a5 := Tryz.isAgg5
  z5 := Tryz.sizeOf5
  v5 := Tryz.zeroValue5
  t9 := Tryz.underlying9
  a9 := Tryz.isAgg9
  z9 := Tryz.sizeOf9
  v9 := Tryz.zeroValue9 }

/-- The decimal digits; the hexadecimal ones. -/
def decs : List Nat := [48, 49, 50, 51, 52, 53, 54, 55, 56, 57]
def hexs : List Nat := [48, 49, 50, 51, 52, 53, 54, 55, 56, 57, 97, 98, 99, 100, 101, 102]

theorem contains_decs : ∀ c : Nat, c < 256 → (decs.map UInt8.ofNat).contains (UInt8.ofNat c) = isD c := by decide
theorem dropWhile_nil {p : UInt8 → Bool} : ∀ {l : List UInt8}, l.dropWhile p = [] ↔ ∀ x ∈ l, p x = true
  | [] => ⟨fun _ x h => (by cases h), fun _ => rfl⟩
  | y :: l => by
    rw [List.dropWhile_cons]
    by_cases h : p y = true
    · rw [if_pos h, dropWhile_nil]
      exact ⟨fun h1 x hx => (List.mem_cons.1 hx).elim (fun e => by rw [e]; exact h) (h1 x), fun h1 x hx => h1 x (List.mem_cons_of_mem _ hx)⟩
    · rw [if_neg h]
      exact ⟨fun h1 => (by cases h1), fun h1 => absurd (h1 y (List.mem_cons_self ..)) h⟩
theorem dropWhile_twice (p : UInt8 → Bool) : ∀ l : List UInt8, (l.dropWhile p).dropWhile p = l.dropWhile p
  | [] => rfl
  | y :: l => by
    rw [List.dropWhile_cons]
    by_cases h : p y = true
    · rw [if_pos h]; exact dropWhile_twice p l
    · rw [if_neg h, List.dropWhile_cons, if_neg h]
theorem trimS_nil {l : List Nat} (hb : Byt l) : (Lib.trimS (l.map UInt8.ofNat) (decs.map UInt8.ofNat) = []) ↔ l.all isD = true := by
  unfold Lib.trimS Lib.trimLeftS Lib.trimRightS
  have e : ((l.map UInt8.ofNat).reverse.dropWhile fun x => (decs.map UInt8.ofNat).contains x) = [] ↔ l.all isD = true := by
    rw [dropWhile_nil, List.all_eq_true]
    constructor
    · intro h c hc
      rw [← contains_decs c (hb c hc)]
      exact h _ (List.mem_reverse.2 (List.mem_map.2 ⟨c, hc, rfl⟩))
    · intro h x hx
      obtain ⟨c, hc, rfl⟩ := List.mem_map.1 (List.mem_reverse.1 hx)
      rw [contains_decs c (hb c hc)]
      exact h c hc
  rw [← e, dropWhile_nil]
  constructor
  · intro h
    rw [← dropWhile_twice, dropWhile_nil]
    exact fun x hx => h x (List.mem_reverse.2 hx)
  · intro h
    rw [h]
    exact fun x hx => (by cases hx)

/-- 'strings.Trim(s, "0123456789") == ""' asks whether all are digits. -/
theorem trim_decs {l : List Nat} (w : World) (hb : Byt l) (hl : l.length ≤ 1000000) :
    Calls Tryz.prog 162 #[.string (str l), .string ⟨#[48, 49, 50, 51, 52, 53, 54, 55, 56, 57]⟩] w fun e w' => ∃ r : ByteArray, e = .returned (.string r) ∧ (r.toList == []) = l.all isD ∧ Below w.heap.size w w' := by
  refine (Any.strings_Trim_laid trimLays (by kernel_rfl) (str l) ⟨#[48, 49, 50, 51, 52, 53, 54, 55, 56, 57]⟩ w (by rw [str_size]; omega) (by decide) (ascii_of_all (by decide))).mono ?_
  rintro e w' ⟨rfl, hB⟩
  refine ⟨_, rfl, ?_, hB⟩
  rw [ByteArray.toList_mk, str_data, Bool.eq_iff_iff, beq_iff_eq]
  exact trimS_nil hb

/-- Where a byte stands among the hexadecimal digits, or -1. -/
def hix (c : Nat) : Int := if 48 ≤ c ∧ c ≤ 57 then (c : Int) - 48 else if 97 ≤ c ∧ c ≤ 102 then (c : Int) - 87 else -1
theorem hix_eq : ∀ c : Nat, c < 256 → Lib.indexByte [48, 49, 50, 51, 52, 53, 54, 55, 56, 57, 97, 98, 99, 100, 101, 102] (UInt8.ofNat c) = hix c := by decide
theorem ix_any (c : Nat) (w : World) (hc : c < 256) :
    Calls Tryz.prog 188 #[.string ⟨#[48, 49, 50, 51, 52, 53, 54, 55, 56, 57, 97, 98, 99, 100, 101, 102]⟩, .int .u8 (c : Int)] w fun e w' => e = .returned (.int .i64 (hix c)) ∧ w = w' := by
  refine (Any.strings_IndexByte ixLays ⟨#[48, 49, 50, 51, 52, 53, 54, 55, 56, 57, 97, 98, 99, 100, 101, 102]⟩ (c : Int) w).mono ?_
  rintro e w' ⟨rfl, rfl⟩
  refine ⟨?_, rfl⟩
  have e1 := hix_eq c hc
  rw [← e1]
  rfl

end Go.Proofs.YtpgiolbnmlbjbaaGreatDoor
