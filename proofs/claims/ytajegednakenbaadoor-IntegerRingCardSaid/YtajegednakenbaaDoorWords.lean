/- Words for memory: a slice of 32-bit numbers that is read; one that the call made; the number that it stands for. -/
import Derived.Test.YtajegednakenbaaDoorProg
import Derived.Test.YtajegednakenbaaDoorMath
import Derived.WalkKit
import Derived.WalkSpells
import Derived.WalkLawsBesides
import Derived.Laws.CopyOwn
import Derived.Lib.Hide
import Derived.BigQuiet
import Derived.Deep.QuietTactic
import Derived.OpenShut
namespace Go.Proofs.YtajegednakenbaaDoor
open Go.RowKit
set_option linter.unusedVariables false
set_option linter.unusedSimpArgs false

def u32s (l : List Nat) : List Value := l.map fun n : Nat => Value.int .u32 (n : Int)
theorem length_u32s (l : List Nat) : (u32s l).length = l.length := by simp [u32s]
theorem u32s_append (a b : List Nat) : u32s (a ++ b) = u32s a ++ u32s b := by simp [u32s]
theorem u32s_one (x : Nat) : u32s [x] = [Value.int .u32 (x : Int)] := rfl
theorem u32s_take (l : List Nat) (k : Nat) : (u32s l).take k = u32s (l.take k) := by simp [u32s]
theorem u32s_set (l : List Nat) (j x : Nat) : (u32s l).set j (.int .u32 (x : Int)) = u32s (l.set j x) := by simp [u32s]
theorem u32s_get {l : List Nat} {j : Nat} (h : j < l.length) : (u32s l)[j]? = some (.int .u32 (nth l j : Nat)) := by
  simp [u32s, h, nth_eq]
theorem u32s_oneCell (l : List Nat) : ∀ u ∈ u32s l, u.oneCell' = true := by
  intro u hu
  simp only [u32s, List.mem_map] at hu
  obtain ⟨n, _, rfl⟩ := hu
  rfl
theorem u32s_zeros (k : Nat) : u32s (List.replicate k 0) = List.replicate k (.int .u32 0) := by simp [u32s]

theorem or_digit (hi lo : Nat) (h1 : hi < 4294967296) (h2 : lo < 4294967296) : bits .or .u64 ((hi : Int) * 4294967296) (lo : Int) = ((lo + 4294967296 * hi : Nat) : Int) := by
  have e : (hi : Int) * 4294967296 = ((hi * 4294967296 : Nat) : Int) := by omega
  rw [e, u64_or_nat _ _ (by omega) (by omega)]
  have := Nat.two_pow_add_eq_or_of_lt (i := 32) (b := lo) (by omega) hi
  rw [Nat.mul_comm] at this
  rw [show hi * 4294967296 = hi * 2 ^ 32 from rfl, ← this]
  omega
theorem or_digit' (hi lo : Nat) (h1 : hi < 4294967296) (h2 : lo < 4294967296) : bits .or .u64 (lo : Int) ((hi : Int) * 4294967296) = ((lo + 4294967296 * hi : Nat) : Int) := by
  rw [← or_digit hi lo h1 h2]
  have e : (hi : Int) * 4294967296 = ((hi * 4294967296 : Nat) : Int) := by omega
  rw [e, u64_or_nat _ _ (by omega) (by omega), u64_or_nat _ _ (by omega) (by omega), Nat.or_comm]

theorem ofInt32 (a : Nat) (ha : a < 4294967296) : (BitVec.ofInt 32 (a : Int)).toNat = a := by
  rw [BitVec.ofInt_natCast, BitVec.toNat_ofNat]; exact Nat.mod_eq_of_lt (by omega)
theorem or_u32 (a b : Nat) (ha : a < 4294967296) (hb : b < 4294967296) : bits .or .u32 (a : Int) (b : Int) = ((a ||| b : Nat) : Int) := by
  have hx : a ||| b < 2 ^ 32 := Nat.or_lt_two_pow (by omega) (by omega)
  show IntKind.u32.wrap ((BitVec.ofInt 32 (a : Int) ||| BitVec.ofInt 32 (b : Int)).toNat : Int) = _
  rw [BitVec.toNat_or, ofInt32 a ha, ofInt32 b hb, IntKind.wrap_u32]
  omega
theorem wrap_shl {u l : Nat} (hu : u < 4294967296) (hl : l < 32) : IntKind.u64.wrap ((u : Int) * 2 ^ l) = ((u * 2 ^ l : Nat) : Int) := by
  have h : u * 2 ^ l < 4294967296 * 4294967296 :=
    Nat.lt_of_lt_of_le (Nat.mul_lt_mul_of_pos_right hu (Nat.pow_pos (by omega))) (Nat.mul_le_mul_left _ (Nat.le_of_lt (Nat.pow_lt_pow_right (a := 2) (by omega) hl)))
  have e : (u : Int) * 2 ^ l = ((u * 2 ^ l : Nat) : Int) := by rw [Int.natCast_mul, Int.natCast_pow]; rfl
  rw [e, IntKind.wrap_u64]
  omega

theorem sub_low {e : Int} (h1 : -4294967296 ≤ e) (h2 : e < 0) : IntKind.u64.wrap e % 4294967296 = e + 4294967296 := by rw [IntKind.wrap_u64]; omega
theorem sub_top {e : Int} (h1 : -4294967296 ≤ e) (h2 : e < 0) : IntKind.u64.wrap e / 9223372036854775808 = 1 := by rw [IntKind.wrap_u64]; omega
theorem sub_two (v : Nat) : IntKind.u64.wrap (IntKind.u64.wrap (-1) - (v : Int)) = IntKind.u64.wrap (-1 - (v : Int)) := by simp only [IntKind.wrap_u64]; omega

/-- A slice that reads as a list of 32-bit numbers. -/
structure Sl (w : World) (A : Option Addr) (n c : Nat) (l : List Nat) : Prop where
  len : l.length = n
  cap : n ≤ c
  most : c ≤ maxLen
  small : Small l
  place : 0 < n → ∃ b off, A = some ⟨b, off, none⟩ ∧ b < w.heap.size ∧ ∀ j, j < n → w.cell? ⟨b, off + j, none⟩ = some (.int .u32 (nth l j : Nat))

/-- One element, under a name of its own. -/
theorem Sl.get {w w' : World} {A : Option Addr} {n c : Nat} {l : List Nat} (h : Sl w A n c l) (hb : Below w.heap.size w w') {k : Nat} (hk : k < n) :
    ∃ b off x, A = some ⟨b, off, none⟩ ∧ b < w.heap.size ∧ w'.cell? ⟨b, off + k, none⟩ = some (.int .u32 (x : Nat)) ∧ Hid (nth l k = x) ∧ x < 4294967296 := by
  obtain ⟨b, off, h1, h2, h3⟩ := h.place (by omega)
  exact ⟨b, off, nth l k, h1, h2, (hb.cell (p := ⟨b, off + k, none⟩) h2).trans (h3 k hk), show _ = _ from rfl, h.small.get k⟩
theorem Sl.mono {w w' : World} {A : Option Addr} {n c : Nat} {l : List Nat} (h : Sl w A n c l) (hb : Below w.heap.size w w') : Sl w' A n c l :=
  ⟨h.len, h.cap, h.most, h.small, fun hn => by
    obtain ⟨b, off, h1, h2, h3⟩ := h.place hn
    exact ⟨b, off, h1, Nat.lt_of_lt_of_le h2 hb.size, fun j hj => (hb.cell (p := ⟨b, off + j, none⟩) h2).trans (h3 j hj)⟩⟩
theorem Sl.le63 {w : World} {A : Option Addr} {n c : Nat} {l : List Nat} (h : Sl w A n c l) : n ≤ 9223372036854775807 := by
  have := h.cap
  have := h.most
  unfold maxLen at this
  omega
theorem Sl.nil (w : World) : Sl w none 0 0 [] := ⟨rfl, Nat.le_refl _, Nat.zero_le _, small_nil, fun h => by omega⟩
theorem Sl.takeN {w : World} {A : Option Addr} {n c : Nat} {l : List Nat} (h : Sl w A n c l) {k : Nat} (hk : k ≤ n) : Sl w A k c (l.take k) :=
  ⟨by rw [List.length_take, h.len]; omega, Nat.le_trans hk h.cap, h.most, small_take h.small k, fun hn => by
    obtain ⟨b, off, h1, h2, h3⟩ := h.place (by omega)
    refine ⟨b, off, h1, h2, fun j hj => ?_⟩
    rw [h3 j (by omega)]
    have e : nth (l.take k) j = nth l j := by simp [nth_eq, hj]
    rw [e]⟩

/-- A slice of the arguments. -/
theorem sl_of_ints {w : World} {a : Addr} {n c : Nat} {zs : List Int} (hl : n ≤ c) (hm : c ≤ maxLen) (hz : zs.length = c) (hcell : ∀ i, i < zs.length → w.cell? (a.add i) = some (.int .u32 (zs.getD i 0))) (hwz : ∀ x ∈ zs, (Lit.int .u32 x).wf = true) :
    Sl w (some a) n c ((zs.take n).map Int.toNat) := by
  have hb : ∀ x ∈ zs, 0 ≤ x ∧ x ≤ 4294967295 := fun x hx => bounds_u32 (hwz x hx)
  refine ⟨by rw [List.length_map, List.length_take]; omega, hl, hm, ?_, fun hn => ?_⟩
  · intro y hy
    obtain ⟨x, hx, rfl⟩ := List.mem_map.1 hy
    have := hb x (List.mem_of_mem_take hx)
    unfold W32
    omega
  · obtain ⟨b, off, rfl, hc⟩ := ints_at hcell (by omega)
    refine ⟨b, off, rfl, ?_, fun j hj => ?_⟩
    · exact World.block_lt_of_cell? w ⟨b, off + 0, none⟩ (hc 0 (by omega))
    · rw [hc j (by omega)]
      have hjz : j < zs.length := by omega
      have e : (nth ((zs.take n).map Int.toNat) j : Int) = zs.getD j 0 := by
        have h0 := (hb zs[j] (List.getElem_mem hjz)).1
        rw [nth_eq, List.getElem?_map, List.getElem?_take_of_lt hj, List.getElem?_eq_getElem hjz, List.getD_eq_getElem?_getD, List.getElem?_eq_getElem hjz]
        show ((zs[j].toNat : Nat) : Int) = zs[j]
        omega
      rw [e]

/-- A slice that the call made: it lies in a block from 'base' on, and can be written. -/
def Own (w : World) (base : Nat) (v : Value) (l : List Nat) : Prop := w.ownsRow base 34 1 v l.length (u32s l) ∧ Small l

theorem Own.small {w : World} {base : Nat} {v : Value} {l : List Nat} (h : Own w base v l) : Small l := h.2
theorem Own.nil (w : World) (base : Nat) : Own w base (.slice none 0 0) [] := ⟨World.ownsRow_nil w base 34 1, small_nil⟩
theorem Own.base_le {w : World} {base base' : Nat} {v : Value} {l : List Nat} (h : Own w base v l) (hb : base' ≤ base) : Own w base' v l := by
  obtain ⟨⟨h1, h2⟩, hs⟩ := h
  refine ⟨⟨h1, ?_⟩, hs⟩
  rcases h2 with h2 | ⟨g, cap, cur, e1, e2, e3⟩
  · exact .inl h2
  · exact .inr ⟨g, cap, cur, e1, Nat.le_trans hb e2, e3⟩
theorem Own.form {w : World} {base : Nat} {v : Value} {l : List Nat} (h : Own w base v l) :
    ∃ A c, v = .slice A l.length c ∧ Sl w A l.length c l ∧ (A = none ∧ l = [] ∨ ∃ g, A = some ⟨g, 0, none⟩ ∧ base ≤ g ∧ g < w.heap.size) := by
  have hown := h.1
  obtain ⟨⟨h1, h2⟩, hs⟩ := h
  rcases h2 with ⟨rfl, h0⟩ | ⟨g, cap, cur, rfl, hb, hg, hc, hm, hsz, htake⟩
  · have : l = [] := List.eq_nil_of_length_eq_zero h0
    subst this
    exact ⟨none, 0, rfl, Sl.nil w, .inl ⟨rfl, rfl⟩⟩
  · have hlt : g < w.heap.size := (hown.lt g rfl).2
    refine ⟨some ⟨g, 0, none⟩, cap, rfl, ⟨rfl, hc, hm, hs, fun _ => ⟨g, 0, rfl, hlt, fun j hj => ?_⟩⟩, .inr ⟨g, rfl, hb, hlt⟩⟩
    rw [Nat.zero_add, hown.cellAt j (by omega), u32s_get hj]
theorem Own.sl {w : World} {base : Nat} {A : Option Addr} {n c : Nat} {l : List Nat} (h : Own w base (.slice A n c) l) : Sl w A n c l := by
  obtain ⟨A', c', e, h1, _⟩ := h.form
  injection e with e1 e2 e3
  subst e1; subst e2; subst e3
  exact h1
theorem Own.blockGe {w : World} {base : Nat} {v : Value} {l : List Nat} (h : Own w base v l) : ∀ k, v.ownBlock = some k → base ≤ k := fun k hk => (h.1.lt k hk).1
theorem Own.grown {w w' : World} {base : Nat} {v : Value} {l : List Nat} {row : Option Nat} (h : Own w base v l) (hg : w.grownBy w' row) (hne : v.ownBlock = none ∨ v.ownBlock ≠ row) : Own w' base v l :=
  ⟨h.1.kept hg hne, h.2⟩
theorem Own.alloc {w : World} {base : Nat} {v : Value} {l : List Nat} (h : Own w base v l) (o : Obj) : Own (w.alloc o) base v l := ⟨h.1.alloc o, h.2⟩
/-- Behind a call that turns nothing of what was there. -/
theorem Own.below {w w' : World} {base : Nat} {v : Value} {l : List Nat} (h : Own w base v l) (hb : Below w.heap.size w w') : Own w' base v l := by
  have hlt := h.1.lt
  obtain ⟨⟨h1, h2⟩, hs⟩ := h
  refine ⟨⟨h1, ?_⟩, hs⟩
  rcases h2 with h2 | ⟨g, cap, cur, e1, e2, e3, e4⟩
  · exact .inl h2
  · refine .inr ⟨g, cap, cur, e1, e2, ?_, e4⟩
    rw [hb.block g (hlt g (by rw [e1]; rfl)).2]; exact e3
/-- A cut from the head on: 'v[:k]'. -/
theorem Own.cut {w : World} {base : Nat} {A : Option Addr} {n c : Nat} {l : List Nat} (h : Own w base (.slice A n c) l) {k : Nat} (hk : k ≤ n) : Own w base (.slice A k c) (l.take k) := by
  have hl : l.length = n := h.sl.len
  obtain ⟨⟨h1, h2⟩, hs⟩ := h
  have hlen : (l.take k).length = k := by rw [List.length_take]; omega
  refine ⟨⟨by rw [length_u32s]; omega, ?_⟩, small_take hs k⟩
  rw [hlen]
  rcases h2 with ⟨e, h0⟩ | ⟨g, cap, cur, e, hb, hg, hc, hm, hsz, htake⟩
  · injection e with e1 e2 e3
    subst e1; subst e2; subst e3
    have : k = 0 := by omega
    subst this
    exact .inl ⟨rfl, rfl⟩
  · injection e with e1 e2 e3
    subst e1; subst e3
    refine .inr ⟨g, c, cur, rfl, hb, hg, by omega, hm, hsz, ?_⟩
    rw [← u32s_take, ← htake, List.take_take]
    congr 1
    omega

/-- A store into it. -/
theorem Own.store {w : World} {base : Nat} {g n c : Nat} {l : List Nat} (h : Own w base (.slice (some ⟨g, 0, none⟩) n c) l) {j x : Nat} (hx : x < W32) :
    Own (w.setCell ⟨g, j, none⟩ (.int .u32 (x : Int))) base (.slice (some ⟨g, 0, none⟩) n c) (l.set j x) := by
  have hl := h.sl.len
  obtain ⟨h1, hs⟩ := h
  rw [hl] at h1
  refine ⟨?_, ?_⟩
  · rw [List.length_set, hl, ← u32s_set]
    exact (h1.stored j _).1
  · intro y hy
    rcases List.mem_or_eq_of_mem_set hy with hy | rfl
    · exact hs y hy
    · exact hx
theorem Own.free {w : World} {base : Nat} {g n c : Nat} {l : List Nat} (h : Own w base (.slice (some ⟨g, 0, none⟩) n c) l) (j : Nat) : w.frozen? ⟨g, j, none⟩ = false := by
  have h1 := h.1
  rw [h.sl.len] at h1
  exact h1.frozenAt j
theorem Own.cell {w : World} {base : Nat} {g n c : Nat} {l : List Nat} (h : Own w base (.slice (some ⟨g, 0, none⟩) n c) l) {j : Nat} (hj : j < n) :
    ∃ x, w.cell? ⟨g, j, none⟩ = some (.int .u32 (x : Nat)) ∧ Hid (nth l j = x) ∧ x < 4294967296 := by
  have hs := h.sl
  obtain ⟨b, off, e, _, hc⟩ := hs.place (by omega)
  injection e with e
  injection e with e1 e2
  subst e1; subst e2
  have := hc j hj
  rw [Nat.zero_add] at this
  exact ⟨_, this, show _ = _ from rfl, hs.small.get j⟩

/-- A call inside a region that draws its order: the callee leaves the world as it is. -/
theorem quietA {P : Program} {f : FuncId} {args : Array Value} {w : World} {a n : Nat} {v : Value}
    (h : Calls P f args (w.drewN (a + n)) fun e w' => e = .returned v ∧ w.drewN (a + n) = w') :
    Calls P f args (w.drewN (a + n)) fun e w'' => e = .returned v ∧ ∃ m, w'' = w.drewN (a + m) :=
  h.mono fun _ _ ⟨he, hm⟩ => ⟨he, n, hm.symm⟩
theorem quietB {P : Program} {f : FuncId} {args : Array Value} {w : World} {n : Nat} {v : Value}
    (h : Calls P f args (w.drewN n) fun e w' => e = .returned v ∧ w.drewN n = w') : Calls P f args (w.drewN n) fun e w'' => e = .returned v ∧ ∃ m, w'' = w.drewN m :=
  h.mono fun _ _ ⟨he, hm⟩ => ⟨he, n, hm.symm⟩
theorem belowN {B : Nat} {a w : World} (h : Below B a w) (n : Nat) : Below B a (w.drewN n) := ⟨h.os, h.tape, h.output, h.size, h.block⟩

/-- A value stands for a number: its digits, in their normal form. -/
def IsN (w : World) (v : Value) (x : Nat) : Prop := ∃ A n c, v = .slice A n c ∧ Sl w A n c (dig x)
theorem IsN.mono {w w' : World} {v : Value} {x : Nat} (h : IsN w v x) (hb : Below w.heap.size w w') : IsN w' v x := by
  obtain ⟨A, n, c, e, hs⟩ := h
  exact ⟨A, n, c, e, hs.mono hb⟩
theorem IsN.zero (w : World) : IsN w (.slice none 0 0) 0 := ⟨none, 0, 0, rfl, by rw [dig_zero]; exact Sl.nil w⟩

/-- What a call leaves that returns new memory. -/
structure Out (w w' : World) (v : Value) (l : List Nat) : Prop where
  own : Own w' w.heap.size v l
  below : Below w.heap.size w w'
theorem Out.isN {w w' : World} {v : Value} {x : Nat} (h : Out w w' v (dig x)) : IsN w' v x := by
  obtain ⟨A, c, e, hs, _⟩ := h.own.form
  exact ⟨A, _, c, e, hs⟩

theorem Out.slice {w w' : World} {v : Value} {l : List Nat} (o : Out w w' v l) : ∃ A n c, v = .slice A n c := by
  obtain ⟨A, c, e, _⟩ := o.own.form
  exact ⟨A, _, c, e⟩

def RetL (w : World) (l : List Nat) (e : Ending) (w' : World) : Prop := ∃ v, e = .returned v ∧ Out w w' v l
/-- A new natural. -/
def RetN (w : World) (x : Nat) (e : Ending) (w' : World) : Prop := RetL w (dig x) e w'
/-- A new natural and a bool. -/
def RetNB (w : World) (x : Nat) (b : Bool) (e : Ending) (w' : World) : Prop := ∃ v, e = .returned (.tuple #[v, .bool b]) ∧ Out w w' v (dig x)
/-- A plain value; nothing has turned. -/
def RetV (w : World) (v : Value) (e : Ending) (w' : World) : Prop := e = .returned v ∧ Below w.heap.size w w'

theorem info_u32 : (Tryd.prog.info? 34).map (fun i => (i.zero, i.size, i.bytes)) = some (some (.int .u32 0), 1, 4) := by kernel_rfl

theorem Own.row {w : World} {base : Nat} {g n : Nat} {l : List Nat} (h : Own w base (.slice (some ⟨g, 0, none⟩) n n) l) : w.heap[g]? = some (.cells (u32s l).toArray 34 (0, 0)) ∧ base ≤ g := by
  have hl := h.sl.len
  obtain ⟨⟨h1, h2⟩, hs⟩ := h
  rcases h2 with ⟨e, h0⟩ | ⟨g', cap, cur, e, hb, hg, hc, hm, hsz, htake⟩
  · cases e
  · injection e with e1 e2 e3
    injection e1 with e1
    injection e1 with e1
    subst e1; subst e3
    have : cur = (u32s l).toArray := by
      rw [← htake, hl, Nat.mul_one, List.take_of_length_le (by rw [Array.length_toList]; omega)]
    rw [← this]
    exact ⟨hg, hb⟩
theorem own_of_row {w : World} {base : Nat} {g : Nat} {l : List Nat} (h : w.heap[g]? = some (.cells (u32s l).toArray 34 (0, 0))) (hb : base ≤ g) (hs : Small l) (hm : l.length ≤ maxLen) : Own w base (.slice (some ⟨g, 0, none⟩) l.length l.length) l :=
  ⟨⟨by rw [length_u32s]; omega, .inr ⟨g, l.length, _, rfl, hb, h, Nat.le_refl _, hm, by simp [length_u32s], by rw [Nat.mul_one]; exact List.take_of_length_le (by simp [length_u32s])⟩⟩, hs⟩

/-- 'copy(d, s)' into a row of the call's own, all of it. -/
theorem wp_copyAll (w : World) {ops : Array Oper} {rest : List Oper} {o : Oper} {a : Act} {Q : Exit → Act → World → Prop} (hgd : o.guard = none) (d s : Operand)
    (ho : o.op = .call { callee := .builtin .copy, args := #[d, s], argTypes := #[22, 22] })
    (w0 : World) (g n : Nat) (l : List Nat) (hd : a.eval d = .slice (some ⟨g, 0, none⟩) n n) (hown : Own w w0.heap.size (.slice (some ⟨g, 0, none⟩) n n) l)
    (A : Option Addr) (m c : Nat) (t : List Nat) (hs : a.eval s = .slice A m c) (ht : Sl w A m c t) (hb : Below w0.heap.size w0 w)
    (h : ∀ w', Own w' w0.heap.size (.slice (some ⟨g, 0, none⟩) n n) (over t n l m) → Below w0.heap.size w0 w' → wpList Tryd.prog ops Q rest (a.put o.dst (goInt ((min m n : Nat) : Int))) w') :
    wpList Tryd.prog ops Q (o :: rest) a w := by
  obtain ⟨i0, hi, hz0, hz1, hz2⟩ := info_parts info_u32
  obtain ⟨hrow, hbg⟩ := hown.row
  have hl := hown.sl.len
  have htl := ht.len
  have hlen : (u32s (t.take n)).length = min m n := by rw [length_u32s, List.length_take, htl, Nat.min_comm]
  refine wpList_copy_splice hgd d s 22 22 ho 34 Tryd.underlying22 (by rw [hi]; simp [hz1]) (some ⟨g, 0, none⟩) A n n m c hd hs g 0 (u32s l) 34 hrow (u32s (t.take n)) hlen ?_ (by rw [hlen, length_u32s]; omega) (u32s_oneCell _) w0.heap.size w0 hb hbg ?_
  · intro hp
    refine ⟨rfl, ?_⟩
    obtain ⟨b, off, e, _, hc⟩ := ht.place (by rw [hlen] at hp; omega)
    refine ⟨_, e, fun j u hj => ?_⟩
    have hjt : j < (t.take n).length := by
      rcases Nat.lt_or_ge j (t.take n).length with h1 | h1
      · exact h1
      · rw [List.getElem?_eq_none (by rw [length_u32s]; exact h1)] at hj; cases hj
    rw [u32s_get hjt] at hj
    rw [List.length_take] at hjt
    have hcj := hc j (by omega)
    have e2 : nth (t.take n) j = nth t j := by
      have : j < n := by omega
      simp [nth_eq, this]
    rw [← hj, e2, ← hcj]
    by_cases h0 : j = 0 <;> simp [Addr.add, h0]
  · intro w' h1 h2
    have e : splice (u32s l) 0 (u32s (t.take n)) = u32s (t.take n ++ l.drop m) := by
      unfold splice
      rw [hlen, u32s_append]
      simp only [List.take_zero, List.nil_append, Nat.zero_add]
      congr 1
      simp only [u32s, List.map_drop]
      rcases Nat.lt_or_ge m n with h3 | h3
      · rw [Nat.min_eq_left (by omega)]
      · rw [Nat.min_eq_right h3, List.drop_eq_nil_of_le (by simp [hl]), List.drop_eq_nil_of_le (by simp [hl]; omega)]
    have h1' := h1.out
    rw [e] at h1'
    have e3 : (t.take n ++ l.drop m).length = n := by rw [List.length_append, List.length_take, List.length_drop]; omega
    have hsm : Small (t.take n ++ l.drop m) := small_append (small_take ht.small n) (small_drop hown.small m)
    have := own_of_row h1' hbg hsm (by rw [e3]; exact hown.sl.most)
    rw [e3] at this
    rw [hlen]
    exact h w' this h2

/-- 'make([]uint32, n)'. -/
theorem wp_mk (w : World) {ops : Array Oper} {rest : List Oper} {o : Oper} {a : Act} {Q : Exit → Act → World → Prop}
    (hg : o.guard = none) (s c : Operand) (hop : o.op = Op.makeSlice 22 s c) (base : Nat)
    (L C : Int) (n : Nat) (hl : a.eval s = .int .i64 L) (hc : a.eval c = .int .i64 C) (hL : L = (n : Int)) (hC : C = (n : Int)) (hn : n ≤ 70368744177664) (hbase : base ≤ w.heap.size)
    (hK : ∀ w', Own w' base (.slice (some ⟨w.heap.size, 0, none⟩) n n) (List.replicate n 0) → w.grownBy w' none → wpList Tryd.prog ops Q rest (a.put o.dst (.slice (some ⟨w.heap.size, 0, none⟩) n n)) w') :
    wpList Tryd.prog ops Q (o :: rest) a w := by
  obtain ⟨i0, hi, hz0, hz1, hz2⟩ := info_parts info_u32
  refine wpList_make_full w hg s c 22 hop base 34 i0 (.int .u32 0) 1 Tryd.underlying22 hi hz0 hz1 .i64 .i64 L C n hl hc hL hC (by rw [hz2]; omega) (by unfold maxLen; omega) hbase ?_
  intro w' h1 h2
  refine hK w' ⟨?_, small_replicate n⟩ h2
  have e : (madeCells (Value.int .u32 0).cells (n * 1)).toList = u32s (List.replicate n 0) := by
    rw [Nat.mul_one, u32s_zeros]; exact toList_madeCells_one _ n
  rw [e] at h1
  rw [List.length_replicate]
  exact h1

/-- 'append(s, x)', x a new row of one cell. -/
theorem wp_app1 (w : World) {ops : Array Oper} {rest : List Oper} {o : Oper} {a : Act} {Q : Exit → Act → World → Prop} (hgd : o.guard = none) (s x : Operand)
    (ho : o.op = .call { callee := .builtin .append, args := #[s, x], argTypes := #[22, 22] })
    (base : Nat) (v : Value) (l : List Nat) (hs : a.eval s = v) (hown : Own w base v l) (g y : Nat) (hx : a.eval x = .slice (some ⟨g, 0, none⟩) 1 1) (hcell : w.cell? ⟨g, 0, none⟩ = some (.int .u32 (y : Int)))
    (hy : y < W32) (hl : l.length < 35184372088832) (hbase : base ≤ w.heap.size)
    (h : ∀ v' w', Own w' base v' (l ++ [y]) → w.grownBy w' v.ownBlock → wpList Tryd.prog ops Q rest (a.put o.dst v') w') : wpList Tryd.prog ops Q (o :: rest) a w := by
  obtain ⟨i0, hi, hz0, hz1, hz2⟩ := info_parts info_u32
  refine wpList_append_own w hgd s x 22 ho base 34 i0 (.int .u32 0) 1 4 Tryd.underlying22 hi hz0 hz1 hz2 rfl (by decide) v l.length (u32s l) hs hown.1 ⟨g, 0, none⟩ 1 1 [.int .u32 (y : Int)] hx rfl ?_ (fun u hu => by rw [List.mem_singleton] at hu; subst hu; rfl) (by unfold maxLen; omega) (by omega) hbase ?_
  · intro j u hj
    cases j with
    | zero => simp at hj; subst hj; simpa [Addr.add] using hcell
    | succ j => simp at hj
  · intro v' w' h1 h2 _
    refine h v' w' ⟨?_, small_append hown.2 (small_one hy)⟩ h2
    rw [List.length_append, u32s_append, u32s_one]
    exact h1

/-- 'append(s, t...)': t is read. -/
theorem wp_appS (w : World) {ops : Array Oper} {rest : List Oper} {o : Oper} {a : Act} {Q : Exit → Act → World → Prop} (hgd : o.guard = none) (s x : Operand)
    (ho : o.op = .call { callee := .builtin .append, args := #[s, x], argTypes := #[22, 22] })
    (base : Nat) (v : Value) (l : List Nat) (hs : a.eval s = v) (hown : Own w base v l) (A : Option Addr) (n c : Nat) (t : List Nat) (hx : a.eval x = .slice A n c) (ht : Sl w A n c t)
    (hl : l.length + n ≤ 35184372088832) (hbase : base ≤ w.heap.size)
    (h : ∀ v' w', Own w' base v' (l ++ t) → w.grownBy w' v.ownBlock → wpList Tryd.prog ops Q rest (a.put o.dst v') w') : wpList Tryd.prog ops Q (o :: rest) a w := by
  obtain ⟨i0, hi, hz0, hz1, hz2⟩ := info_parts info_u32
  cases A with
  | some ad =>
    refine wpList_append_own w hgd s x 22 ho base 34 i0 (.int .u32 0) 1 4 Tryd.underlying22 hi hz0 hz1 hz2 rfl (by decide) v l.length (u32s l) hs hown.1 ad n c (u32s t) hx (by rw [length_u32s, ht.len]; omega) ?_ (u32s_oneCell t) (by unfold maxLen; omega) (by omega) hbase ?_
    · intro j u hj
      have hjt : j < t.length := by
        rcases Nat.lt_or_ge j t.length with h1 | h1
        · exact h1
        · rw [List.getElem?_eq_none (by rw [length_u32s]; exact h1)] at hj; cases hj
      have hlen := ht.len
      obtain ⟨b, off, e, _, hc⟩ := ht.place (by omega)
      injection e with e
      subst e
      rw [u32s_get hjt] at hj
      have hcj := hc j (by omega)
      rw [← hj, ← hcj]
      by_cases h0 : j = 0 <;> simp [Addr.add, h0]
    · intro v' w' h1 h2 _
      refine h v' w' ⟨?_, small_append hown.2 ht.small⟩ h2
      rw [List.length_append, ht.len, u32s_append]
      exact h1
  | none =>
    have hn : n = 0 := by
      rcases Nat.eq_zero_or_pos n with h0 | h0
      · exact h0
      · obtain ⟨_, _, e, _⟩ := ht.place h0
        cases e
    subst hn
    have htn : t = [] := List.eq_nil_of_length_eq_zero ht.len
    subst htn
    refine wpList_plain hgd fun K hK => ?_
    have hrun : (Builtin.append_ #[22, 22] o.type #[v, .slice none 0 c]).run Tryd.prog w = .ok v w := by
      rcases hown.1.2 with ⟨rfl, _⟩ | ⟨g, cap, cur, rfl, _, _, hnc, _⟩
      · simp [Builtin.append_, run_underlying Tryd.underlying22, sizeOf, typeInfo, hi, Builtin.lenOf, Builtin.firstCells]
      · simp [Builtin.append_, run_underlying Tryd.underlying22, sizeOf, typeInfo, hi, Builtin.lenOf, Builtin.firstCells, hnc, storeCells]
    unfold Oper.wp execOp
    simp only [ho, resolve, invoke, builtin, Sem.run_bind, Sem.run_pure, Result.andThen_ok, List.map_toArray, List.map_cons, List.map_nil, hs, hx, hrun]
    exact hK _ _ (h v w (by rw [List.append_nil]; exact hown) (World.grownBy.refl w _))

end Go.Proofs.YtajegednakenbaaDoor
