/- strings.Trim and strings.IndexByte, by the library's contracts. -/
import Derived.Test.YtejdmmnhnbmimaaDoorDecMath
import Derived.Test.YtejdmmnhnbmimaaDoorBaseN
import Derived.Shelf.Strings.SlTrimAscii
import Derived.Shelf.Small.Strs
namespace Go.Proofs.YtejdmmnhnbmimaaDoor
open Go.RowKit
set_option linter.unusedVariables false
set_option linter.unusedSimpArgs false
set_option maxRecDepth 8000

def trimRen : Go.Shelf.Ren := ⟨fun | 119 => 93 | 120 => 82 | 137 => 44 | 151 => 86 | 152 => 92 | 160 => 62 | 197 => 85 | 217 => 65 | 224 => 94 | 225 => 95 | 227 => 74 | 228 => 84 | 231 => 72 | 232 => 73 | 233 => 75 | 234 => 76 | 235 => 77 | 236 => 78 | 260 => 91 | 266 => 79 | 271 => 87 | n => n, fun | 0 => 0 | 3 => 3 | 4 => 4 | 5 => 5 | 9 => 9 | 21 => 21 | 46 => 82 | 105 => 89 | 116 => 94 | 117 => 95 | 119 => 104 | 124 => 98 | 138 => 106 | 139 => 107 | n => n, fun | 3 => 2 | 4 => 3 | n => n⟩
theorem trimLays : Go.Proofs.Lays.n160 Tryd.prog trimRen := {
  mixed := by kernel_rfl
  f119 := Tryd.func93.trans (congrArg some (by kernel_rfl))
  f120 := Tryd.func82.trans (congrArg some (by kernel_rfl))
  f137 := Tryd.func44.trans (congrArg some (by kernel_rfl))
  f151 := Tryd.func86.trans (congrArg some (by kernel_rfl))
  f152 := Tryd.func92.trans (congrArg some (by kernel_rfl))
  f160 := Tryd.func62.trans (congrArg some (by kernel_rfl))
  f197 := Tryd.func85.trans (congrArg some (by kernel_rfl))
  f217 := Tryd.func65.trans (congrArg some (by kernel_rfl))
  f224 := Tryd.func94.trans (congrArg some (by kernel_rfl))
  f225 := Tryd.func95.trans (congrArg some (by kernel_rfl))
  f227 := Tryd.func74.trans (congrArg some (by kernel_rfl))
  f228 := Tryd.func84.trans (congrArg some (by kernel_rfl))
  f231 := Tryd.func72.trans (congrArg some (by kernel_rfl))
  f232 := Tryd.func73.trans (congrArg some (by kernel_rfl))
  f233 := Tryd.func75.trans (congrArg some (by kernel_rfl))
  f234 := Tryd.func76.trans (congrArg some (by kernel_rfl))
  f235 := Tryd.func77.trans (congrArg some (by kernel_rfl))
  f236 := Tryd.func78.trans (congrArg some (by kernel_rfl))
  f260 := Tryd.func91.trans (congrArg some (by kernel_rfl))
  f266 := Tryd.func79.trans (congrArg some (by kernel_rfl))
  f271 := Tryd.func87.trans (congrArg some (by kernel_rfl))
  t0 := Tryd.underlying0
  a0 := Tryd.isAgg0
  z0 := Tryd.sizeOf0
  v0 := Tryd.zeroValue0
  t3 := Tryd.underlying3
  a3 := Tryd.isAgg3
  z3 := Tryd.sizeOf3
  v3 := Tryd.zeroValue3
  t4 := Tryd.underlying4
  a4 := Tryd.isAgg4
  z4 := Tryd.sizeOf4
  v4 := Tryd.zeroValue4
  t5 := Tryd.underlying5
  a5 := Tryd.isAgg5
  z5 := Tryd.sizeOf5
  v5 := Tryd.zeroValue5
  t9 := Tryd.underlying9
  a9 := Tryd.isAgg9
  z9 := Tryd.sizeOf9
  v9 := Tryd.zeroValue9
  t21 := Tryd.underlying21
  a21 := Tryd.isAgg21
  z21 := Tryd.sizeOf21
  v21 := Tryd.zeroValue21
  t46 := Tryd.underlying82
  a46 := Tryd.isAgg82
  z46 := Tryd.sizeOf82
  v46 := Tryd.zeroValue82
  t105 := Tryd.underlying89
  a105 := Tryd.isAgg89
  z105 := Tryd.sizeOf89
  v105 := Tryd.zeroValue89
  t116 := Tryd.underlying94
  a116 := Tryd.isAgg94
  z116 := Tryd.sizeOf94
  t117 := Tryd.underlying95
  a117 := Tryd.isAgg95
  z117 := Tryd.sizeOf95
  v117 := Tryd.zeroValue95
  t119 := Tryd.underlying104
  a119 := Tryd.isAgg104
  z119 := Tryd.sizeOf104
  t124 := Tryd.underlying98
  a124 := Tryd.isAgg98
  z124 := Tryd.sizeOf98
  v124 := Tryd.zeroValue98
  t138 := Tryd.underlying106
  a138 := Tryd.isAgg106
  z138 := Tryd.sizeOf106
  v138 := Tryd.zeroValue106
  t139 := Tryd.underlying107
  a139 := Tryd.isAgg107
  z139 := Tryd.sizeOf107
  v139 := Tryd.zeroValue107
  g3 := by kernel_rfl
  g4 := by kernel_rfl }
def ixRen : Go.Shelf.Ren := ⟨fun | 137 => 44 | 217 => 65 | 266 => 79 | n => n, fun | 3 => 3 | 5 => 5 | 9 => 9 | n => n, fun  | n => n⟩
theorem ixLays : Go.Proofs.Lays.n137 Tryd.prog ixRen := {
  mixed := by kernel_rfl
  f137 := Tryd.func44.trans (congrArg some (by kernel_rfl))
  f217 := Tryd.func65.trans (congrArg some (by kernel_rfl))
  f266 := Tryd.func79.trans (congrArg some (by kernel_rfl))
  t3 := Tryd.underlying3
  a3 := Tryd.isAgg3
  z3 := Tryd.sizeOf3
  v3 := Tryd.zeroValue3
  t5 := Tryd.underlying5
  a5 := Tryd.isAgg5
  z5 := Tryd.sizeOf5
  v5 := Tryd.zeroValue5
  t9 := Tryd.underlying9
  a9 := Tryd.isAgg9
  z9 := Tryd.sizeOf9
  v9 := Tryd.zeroValue9 }

/-- The decimal digits; the hexadecimal ones. -/
def decs : List Nat := [48, 49, 50, 51, 52, 53, 54, 55, 56, 57]
def hexs : List Nat := [48, 49, 50, 51, 52, 53, 54, 55, 56, 57, 97, 98, 99, 100, 101, 102]

theorem contains_decs : ∀ c : Nat, c < 256 → (decs.map UInt8.ofNat).contains (UInt8.ofNat c) = isD c := by decide
theorem dropWhile_nil {p : UInt8 → Bool} : ∀ {l : List UInt8}, l.dropWhile p = [] ↔ ∀ x ∈ l, p x = true
  | [] => ⟨fun _ x h => (by cases h), fun _ => rfl⟩
  | y :: l => by
    rw [List.dropWhile_cons]
    by_cases h : p y = true
    · rw [if_pos h, dropWhile_nil]
      exact ⟨fun h1 x hx => (List.mem_cons.1 hx).elim (fun e => by rw [e]; exact h) (h1 x), fun h1 x hx => h1 x (List.mem_cons_of_mem _ hx)⟩
    · rw [if_neg h]
      exact ⟨fun h1 => (by cases h1), fun h1 => absurd (h1 y (List.mem_cons_self ..)) h⟩
theorem dropWhile_twice (p : UInt8 → Bool) : ∀ l : List UInt8, (l.dropWhile p).dropWhile p = l.dropWhile p
  | [] => rfl
  | y :: l => by
    rw [List.dropWhile_cons]
    by_cases h : p y = true
    · rw [if_pos h]; exact dropWhile_twice p l
    · rw [if_neg h, List.dropWhile_cons, if_neg h]
theorem trimS_nil {l : List Nat} (hb : Byt l) : (Lib.trimS (l.map UInt8.ofNat) (decs.map UInt8.ofNat) = []) ↔ l.all isD = true := by
  unfold Lib.trimS Lib.trimLeftS Lib.trimRightS
  have e : ((l.map UInt8.ofNat).reverse.dropWhile fun x => (decs.map UInt8.ofNat).contains x) = [] ↔ l.all isD = true := by
    rw [dropWhile_nil, List.all_eq_true]
    constructor
    · intro h c hc
      rw [← contains_decs c (hb c hc)]
      exact h _ (List.mem_reverse.2 (List.mem_map.2 ⟨c, hc, rfl⟩))
    · intro h x hx
      obtain ⟨c, hc, rfl⟩ := List.mem_map.1 (List.mem_reverse.1 hx)
      rw [contains_decs c (hb c hc)]
      exact h c hc
  rw [← e, dropWhile_nil]
  constructor
  · intro h
    rw [← dropWhile_twice, dropWhile_nil]
    exact fun x hx => h x (List.mem_reverse.2 hx)
  · intro h
    rw [h]
    exact fun x hx => (by cases hx)

/-- 'strings.Trim(s, "0123456789") == ""' asks whether all are digits. -/
theorem trim_decs {l : List Nat} (w : World) (hb : Byt l) (hl : l.length ≤ 1000000) :
    Calls Tryd.prog 62 #[.string (str l), .string ⟨#[48, 49, 50, 51, 52, 53, 54, 55, 56, 57]⟩] w fun e w' => ∃ r : ByteArray, e = .returned (.string r) ∧ (r.toList == []) = l.all isD ∧ Below w.heap.size w w' := by
  refine (Any.strings_Trim_laid trimLays (by kernel_rfl) (str l) ⟨#[48, 49, 50, 51, 52, 53, 54, 55, 56, 57]⟩ w (by rw [str_size]; omega) (by decide) (ascii_of_all (by decide))).mono ?_
  rintro e w' ⟨rfl, hB⟩
  refine ⟨_, rfl, ?_, hB⟩
  rw [ByteArray.toList_mk, str_data, Bool.eq_iff_iff, beq_iff_eq]
  exact trimS_nil hb

/-- Where a byte stands among the hexadecimal digits, or -1. -/
def hix (c : Nat) : Int := if 48 ≤ c ∧ c ≤ 57 then (c : Int) - 48 else if 97 ≤ c ∧ c ≤ 102 then (c : Int) - 87 else -1
theorem hix_eq : ∀ c : Nat, c < 256 → Lib.indexByte [48, 49, 50, 51, 52, 53, 54, 55, 56, 57, 97, 98, 99, 100, 101, 102] (UInt8.ofNat c) = hix c := by decide
theorem ix_any (c : Nat) (w : World) (hc : c < 256) :
    Calls Tryd.prog 44 #[.string ⟨#[48, 49, 50, 51, 52, 53, 54, 55, 56, 57, 97, 98, 99, 100, 101, 102]⟩, .int .u8 (c : Int)] w fun e w' => e = .returned (.int .i64 (hix c)) ∧ w = w' := by
  refine (Any.strings_IndexByte ixLays ⟨#[48, 49, 50, 51, 52, 53, 54, 55, 56, 57, 97, 98, 99, 100, 101, 102]⟩ (c : Int) w).mono ?_
  rintro e w' ⟨rfl, rfl⟩
  refine ⟨?_, rfl⟩
  have e1 := hix_eq c hc
  rw [← e1]
  rfl

end Go.Proofs.YtejdmmnhnbmimaaDoor
