/- Walks: product.Sum; rows of slices. -/
import Derived.Test.YtmfoaljikhicdaaProdMath
import Derived.Test.YtmfoaljikhicdaaNatC
import Derived.Test.YtmfoaljikhicdaaLits
namespace Go.Proofs.Ytmfoaljikhicdaa
open Go.RowKit

/-- A slice of naturals. -/
structure Nats (w : World) (A : Option Addr) (n : Nat) (f : Nat → Nat) : Prop where
  place : ∀ j, j < n → ∃ b off V m c, A = some ⟨b, off, none⟩ ∧ b < w.heap.size ∧ w.cell? ⟨b, off + j, none⟩ = some (.slice V m c) ∧ IsN w (.slice V m c) (f j)
theorem Nats.mono {w w' : World} {A : Option Addr} {n : Nat} {f : Nat → Nat} (h : Nats w A n f) (hb : Below w.heap.size w w') : Nats w' A n f :=
  ⟨fun j hj => by
    obtain ⟨b, off, V, m, c, h1, h2, h3, h4⟩ := h.place j hj
    exact ⟨b, off, V, m, c, h1, Nat.lt_of_lt_of_le h2 hb.size, (hb.cell (p := ⟨b, off + j, none⟩) h2).trans h3, h4.mono hb⟩⟩

set_option maxHeartbeats 400000 in
theorem sum_any (f : Nat → Nat) (A : Option Addr) (n c : Nat) (w : World) (h : Nats w A n f) (hn : n ≤ 1000000) (hl : ∀ j, j < n → len (f j) ≤ 1000000) :
    Calls Try.prog 18 #[.slice A n c] w (RetN w (sumTo f n)) := by
  have HLS := Lib.hid (fun k (hk : k ≤ n) => len_sumTo n hl k hk)
  have HL := Lib.hid hl; clear hl
  go_enter Try.func18, Try.ntmps18
  go_wp2_with fail
  go_loopw [3, 8] (fun s i wr => ∃ k : Nat, i = .int .i64 k ∧ k ≤ n ∧ Own wr w.heap.size s (dig (sumTo f k)) ∧ Below w.heap.size w wr) (fun _ i _ => n - (intOf i).toNat)
  case atStart => exact ⟨0, rfl, by omega, by rw [show sumTo f 0 = 0 from rfl, dig_zero]; exact Own.nil _ _, Below.refl _ _⟩
  case round =>
    obtain ⟨k, rfl, hk, hown, hbe⟩ := hrel
    rcases Nat.eq_or_lt_of_le hk with rfl | hkn
    · go_wp2_with fail
      go_ret
      exact ⟨_, rfl, hown, hbe⟩
    · obtain ⟨b, off, V, m, c', rfl, hbl, hcell, hV⟩ := (h.mono hbe).place k hkn
      have HAD := Lib.hid (add_any (sumTo f k) (f k) _ _ wr (isN_of_own hown rfl) hV (Nat.le_trans (HLS.out k (by omega)) (by omega)) (Nat.le_trans (HL.out k hkn) (by omega)))
      go_wp2_with fail
      refine HAD.out.mono ?_
      rintro e w2 ⟨v2, rfl, o2⟩
      go_wp2_with fail
      go_roundw
      case rel => exact ⟨k + 1, by go_num, by omega, o2.own.base_le hbe.size, hbe.trans (o2.below.mono hbe.size)⟩
      case measure => simp [intOf]; omega

def two (x y : Nat) (j : Nat) : Nat := if j = 0 then x else y
theorem sumTo_two (x y : Nat) : sumTo (two x y) 2 = x + y := by simp [sumTo, two]
/-- A literal of two naturals. -/
theorem nats_two (w : World) (u v : Value) (x y : Nat) (hu : IsN w u x) (hv : IsN w v y) (eu : ∃ A n c, u = .slice A n c) (ev : ∃ A n c, v = .slice A n c) : Nats (w.alloc (.cells #[u, v] 22)) (some ⟨w.heap.size, 0, none⟩) 2 (two x y) :=
  ⟨fun j hj => by
    have hb := (Below.refl w.heap.size w).alloc (Nat.le_refl _) (.cells #[u, v] 22)
    obtain ⟨A, n, c, rfl⟩ := eu
    obtain ⟨B, m, d, rfl⟩ := ev
    rcases (show j = 0 ∨ j = 1 by omega) with rfl | rfl
    · exact ⟨_, _, _, _, _, rfl, by simp, by simp, hu.mono hb⟩
    · exact ⟨_, _, _, _, _, rfl, by simp, by simp, hv.mono hb⟩⟩

theorem info_sl : (Try.prog.info? 22).map (fun i => (i.zero, i.size, i.bytes)) = some (some (.slice none 0 0), 1, 24) := by kernel_rfl

/-- Slices of naturals that a call collects one after the other: the row and the numbers are its own. -/
def Terms (w : World) (B : Nat) (v : Value) (f : Nat → Nat) (k : Nat) : Prop :=
  ∃ vs : List Value, vs.length = k ∧ w.ownsRow B 22 1 v k vs ∧ ∀ j, j < k → ∃ V m c, vs[j]? = some (.slice V m c) ∧ Own w B (.slice V m c) (dig (f j))
theorem Terms.nil (w : World) (B : Nat) (f : Nat → Nat) : Terms w B (.slice none 0 0) f 0 := ⟨[], rfl, World.ownsRow_nil w B 22 1, fun j hj => absurd hj (Nat.not_lt_zero j)⟩
theorem Terms.blockGe {w : World} {B : Nat} {v : Value} {f : Nat → Nat} {k : Nat} (h : Terms w B v f k) : ∀ g, v.ownBlock = some g → B ≤ g := by
  obtain ⟨vs, h1, h2, h3⟩ := h
  exact fun g hg => (h2.lt g hg).1
theorem ownsRow_below {w w' : World} {B k : Nat} {t : TypeId} {v : Value} {vs : List Value} (h : w.ownsRow B t 1 v k vs) (hb : Below w.heap.size w w') : w'.ownsRow B t 1 v k vs := by
  have hlt := h.lt
  obtain ⟨h1, h2⟩ := h
  refine ⟨h1, ?_⟩
  rcases h2 with h2 | ⟨g, cap, cur, e1, e2, e3, e4⟩
  · exact .inl h2
  · refine .inr ⟨g, cap, cur, e1, e2, ?_, e4⟩
    rw [hb.block g (hlt g (by rw [e1]; rfl)).2]; exact e3
theorem Terms.below {w w' : World} {B : Nat} {v : Value} {f : Nat → Nat} {k : Nat} (h : Terms w B v f k) (hb : Below w.heap.size w w') : Terms w' B v f k := by
  obtain ⟨vs, h1, h2, h3⟩ := h
  refine ⟨vs, h1, ownsRow_below h2 hb, fun j hj => ?_⟩
  obtain ⟨V, m, c, e, o⟩ := h3 j hj
  exact ⟨V, m, c, e, o.below hb⟩
theorem Terms.nats {w : World} {B : Nat} {v : Value} {f : Nat → Nat} {k : Nat} (h : Terms w B v f k) : ∃ A c, v = .slice A k c ∧ Nats w A k f := by
  obtain ⟨vs, h1, h2, h3⟩ := h
  have h2' := h2
  rcases h2.2 with ⟨rfl, h0⟩ | ⟨g, cap, cur, rfl, hb, hg, hc, hm, hsz, htake⟩
  · subst h0
    exact ⟨none, 0, rfl, ⟨fun j hj => absurd hj (Nat.not_lt_zero j)⟩⟩
  · refine ⟨_, cap, rfl, ⟨fun j hj => ?_⟩⟩
    obtain ⟨V, m, c, e, o⟩ := h3 j hj
    exact ⟨g, 0, V, m, c, rfl, (h2'.lt g rfl).2, by rw [Nat.zero_add, h2'.cellAt j (by omega), e], isN_of_own o rfl⟩
/-- A row of numbers and a row of slices are two rows. -/
theorem own_ne {w : World} {B B' k : Nat} {u v : Value} {l : List Nat} {vs : List Value} (h : Own w B u l) (h2 : w.ownsRow B' 22 1 v k vs) : u.ownBlock = none ∨ u.ownBlock ≠ v.ownBlock := by
  obtain ⟨⟨_, h1⟩, _⟩ := h
  rcases h1 with ⟨rfl, _⟩ | ⟨g, cap, cur, rfl, _, hg, _⟩
  · exact .inl rfl
  · right
    obtain ⟨_, h2⟩ := h2
    rcases h2 with ⟨rfl, _⟩ | ⟨g', cap', cur', rfl, _, hg', _⟩
    · intro e; cases e
    · intro e
      injection e with e
      subst e
      rw [hg] at hg'
      injection hg' with hg'
      injection hg' with _ hg'
      exact absurd hg' (by decide)

/-- 'append(s, x)', x a new row of one slice. -/
theorem wp_appT (w : World) {ops : Array Oper} {rest : List Oper} {o : Oper} {a : Act} {Q : Exit → Act → World → Prop} (hgd : o.guard = none) (s x : Operand)
    (ho : o.op = .call { callee := .builtin .append, args := #[s, x], argTypes := #[34, 34] })
    (B : Nat) (v : Value) (f : Nat → Nat) (k : Nat) (hs : a.eval s = v) (hT : Terms w B v f k) (g : Nat) (V : Option Addr) (m c : Nat) (hx : a.eval x = .slice (some ⟨g, 0, none⟩) 1 1) (hcell : w.cell? ⟨g, 0, none⟩ = some (.slice V m c))
    (hO : Own w B (.slice V m c) (dig (f k))) (hk : k < 1000000) (hbase : B ≤ w.heap.size)
    (h : ∀ v' w', Terms w' B v' f (k + 1) → w.grownBy w' v.ownBlock → (∀ B' u l, Own w B' u l → Own w' B' u l) → wpList Try.prog ops Q rest (a.put o.dst v') w') : wpList Try.prog ops Q (o :: rest) a w := by
  obtain ⟨i0, hi, hz0, hz1, hz2⟩ := info_parts info_sl
  obtain ⟨vs, h1, h2, h3⟩ := hT
  refine wpList_append_own w hgd s x 34 ho B 22 i0 (.slice none 0 0) 1 24 Try.underlying34 hi hz0 hz1 hz2 rfl (by decide) v k vs hs h2 ⟨g, 0, none⟩ 1 1 [.slice V m c] hx rfl ?_ (fun u hu => by rw [List.mem_singleton] at hu; subst hu; rfl) (by unfold maxLen; omega) (by omega) hbase ?_
  · intro j u hj
    cases j with
    | zero => simp at hj; subst hj; simpa [Addr.add] using hcell
    | succ j => simp at hj
  · intro v' w' hr hg2 _
    have hkeep : ∀ B' u l, Own w B' u l → Own w' B' u l := fun B' u l hu => hu.grown hg2 (own_ne hu h2)
    refine h v' w' ⟨vs ++ [.slice V m c], by rw [List.length_append, h1]; rfl, hr, fun j hj => ?_⟩ hg2 hkeep
    rcases Nat.lt_or_ge j k with hjk | hjk
    · obtain ⟨V', m', c', e, o⟩ := h3 j hjk
      exact ⟨V', m', c', by rw [List.getElem?_append_left (by omega)]; exact e, hkeep _ _ _ o⟩
    · obtain rfl : j = k := by omega
      exact ⟨V, m, c, by rw [List.getElem?_append_right (by omega), h1]; simp, hkeep _ _ _ hO⟩

end Go.Proofs.Ytmfoaljikhicdaa
