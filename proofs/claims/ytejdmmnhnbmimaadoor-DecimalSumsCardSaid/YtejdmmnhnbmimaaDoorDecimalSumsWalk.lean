/- The walk of DecimalSums: whatever the input, the law returns true and turns nothing that was there. -/
import Derived.Test.YtejdmmnhnbmimaaDoorAwake6
import Derived.Test.YtejdmmnhnbmimaaDoorBaseI
import Derived.Test.YtejdmmnhnbmimaaDoorBaseJ
import Derived.Test.YtejdmmnhnbmimaaDoorBaseR
import Derived.Deep.RegionHeld3
import Derived.Deep.DrawnRows
import Derived.Deep.Cut
import Derived.Deep.CutRange
namespace Go.Proofs.YtejdmmnhnbmimaaDoor
open Go.RowKit
set_option linter.unusedVariables false
set_option linter.unusedSimpArgs false
set_option maxRecDepth 100000
attribute [local go_sem ↓] Go.wp_at_zero Go.wp_at_succ

/-- A new variable, with its integer. -/
def Made1 (w0 : World) (z : Int) (s : Value) (w' : World) : Prop := ∃ g A c, s = .pointer (some ⟨g, 0, none⟩) ∧ Below w0.heap.size w0 w' ∧ Box w' g (ng z) (.slice A (zl z) c) ∧ IsZ w' (.agg #[.bool (ng z), .slice A (zl z) c]) z
section
variable {w0 w : World} {ns : List (Value × Nat)} {zs : List (Value × Int)} {z : Int} {A : Option Addr} {c : Nat}
theorem made1_of {w' : World} {g : Nat} (D : Dz w0 w' ns zs [(g, ng z, .slice A (zl z) c)]) (h : (.agg #[.bool (ng z), .slice A (zl z) c], z) ∈ zs) : Made1 w0 z (.pointer (some ⟨g, 0, none⟩)) w' :=
  ⟨g, A, c, rfl, D.lz.below, D.lz.b0, D.getZ h⟩
theorem made1_a (D : Dz w0 w ns zs []) (h : (.agg #[.bool (ng z), .slice A (zl z) c], z) ∈ zs) :
    Made1 w0 z (.pointer (some ⟨w.heap.size, 0, none⟩)) (w.alloc (.cells #[.bool (ng z), .slice A (zl z) c] 24)) := made1_of (D.box _ _ _ _) h
theorem made1_b {g : Nat} {b : Bool} {s : Value} (D : Dz w0 w ns zs [(g, b, s)]) (h : (.agg #[.bool (ng z), .slice A (zl z) c], z) ∈ zs) :
    Made1 w0 z (.pointer (some ⟨g, 0, none⟩)) ((w.setCell ⟨g, 0, none⟩ (.bool (ng z))).setCell ⟨g, 1, none⟩ (.slice A (zl z) c)) := made1_of (D.put g (ng z) A (zl z) c) h
end
theorem decs_extract {d : Nat} (h : d < 10) : (⟨#[48, 49, 50, 51, 52, 53, 54, 55, 56, 57]⟩ : ByteArray).extract d (d + 1) = str [48 + d] := by
  have e : (⟨#[48, 49, 50, 51, 52, 53, 54, 55, 56, 57]⟩ : ByteArray) = str decs := rfl
  rw [e, str_extract, Nat.add_sub_cancel_left]
  have : ∀ d : Nat, d < 10 → (decs.drop d).take 1 = [48 + d] := by decide
  rw [this d h]
theorem sum_parse {x d : Nat} (hx : 0 < x) (hd : d < 10) (hl : len x ≤ 1000) (W : World) : Calls Tryd.prog 15 #[.string (str (dd x ++ [48 + d]))] W (RetZE W ((10 * x + d : Nat) : Int) 0) := by
  have e1 := dd_snoc hx hd
  have hl2 := dd_length hl
  have e2 : fmt ((10 * x + d : Nat) : Int) = dd (10 * x + d) := by rw [fmt_nn (by omega), Int.natAbs_natCast]
  have e3 : (dd (10 * x + d)).length = (dd x).length + 1 := by rw [← e1, List.length_append]; rfl
  obtain ⟨e4, e5⟩ := parse_fmt ((10 * x + d : Nat) : Int) (by rw [e2, e3]; omega)
  have := parse_any (fmt ((10 * x + d : Nat) : Int)) W (fmt_byt _) (by rw [e2, e3]; omega)
  rw [e4, e5, e2, ← e1] at this
  exact this

set_option maxHeartbeats 2000000 in
theorem walk_DecimalSums (a0 : Option Addr) (len0 cap0 : Nat) (z0 : List Nat) (a1 : Int) (w : World) (h0 : Sl w a0 len0 cap0 z0) (h1 : -9223372036854775808 ≤ a1 ∧ a1 ≤ 9223372036854775807) :
    Calls Tryd.prog 8 #[.slice a0 len0 cap0, .int .i64 a1] w (fun e w' => e = .returned (.bool true) ∧ Below w.heap.size w w') := by
  obtain ⟨d, hd⟩ : ∃ d : Nat, a1 % 10 = (d : Int) := ⟨(a1 % 10).toNat, by omega⟩
  have hd10 : d < 10 := by omega
  have h6 := fun W => mod_any a1 10 W (by omega) (by omega) h1.1 h1.2
  rw [hd] at h6
  have H6 := Lib.hid h6
  clear h6 hd h1
  go_enter Tryd.func8, Tryd.ntmps8
  go_wp2_with fail
  have L := Lz.mk0 w
  refine (awake6_any _).mono ?_
  rintro e w1 ⟨rfl, be⟩
  replace L := L.step be
  clear be
  go_wp2_with fail
  refine (mill_any z0 30 a0 len0 cap0 _ (h0.mono L.below) (by omega)).mono ?_
  rintro e w2 ⟨vx, ok, x, rfl, hx, lx, be⟩
  replace L := (L.step be).n hx
  obtain ⟨A, c, rfl⟩ := hx.form
  clear be hx h0
  cases ok
  · go_wp2_with fail
    go_ret
    exact ⟨rfl, L.below⟩
  · rcases Nat.eq_zero_or_pos x with hx0 | hx0
    · subst hx0
      rw [len_zero]
      go_wp2_with fail
      go_ret
      exact ⟨rfl, L.below⟩
    · have hlp := len_pos hx0
      obtain ⟨k, hk⟩ : ∃ k, len x = k + 1 := ⟨len x - 1, by omega⟩
      have hk0 : ((k : Int) + 1 == 0) = false := by simp; omega
      have hdl := dd_length (x := x) (n := 1000) (by omega)
      have hsz1 := str_size (dd x)
      obtain ⟨n, hn⟩ : ∃ n, (dd x).length = n := ⟨_, rfl⟩
      rw [hn] at hsz1 hdl
      have hsz2 : (str [48 + d]).size = 1 := str_size _
      have hcat : str (dd x) ++ str [48 + d] = str (dd x ++ [48 + d]) := str_append _ _
      have hex := decs_extract hd10
      have H1 := Lib.hid (fun v W h => digits_any x v W h (by omega))
      have h2 := sum_parse hx0 hd10 (show len x ≤ 1000 by omega)
      obtain ⟨z, hz⟩ : ∃ z : Int, ((10 * x + d : Nat) : Int) = z := ⟨_, rfl⟩
      rw [hz] at h2
      have H2 := Lib.hid h2
      have HZ := Lib.hid hz
      have HXP := Lib.hid hx0
      have HK := Lib.hid hk
      rw [hk]
      rw [hk] at L
      generalize dd x = T at *
      clear hlp hn hx0 hk h2 hz
      go_wp2_with fail
      refine (H6.out _).mono ?_
      rintro e w' ⟨rfl, rfl⟩
      go_wp2_with fail
      have BL := Lib.hid L.below
      have HN := Lib.hid L.hn
      clear L
      have D0 : Dz w2 w2 [(.slice A (k + 1) c, x)] [] [] := ⟨(Lz.mk0 w2).n HN.out, List.nodup_nil, fun p hp => by cases hp⟩
      have D := D0.drew
      obtain ⟨m, hmw⟩ : ∃ m, w2.heap.size = m := ⟨_, rfl⟩
      have hz0 : m ≤ w2.heap.size := by omega
      have hmd : w2.drew.heap.size = m := hmw
      have hw1 : IntKind.i64.wrap ((d : Int) + 1) = (d : Int) + 1 := by rw [IntKind.wrap_i64]; omega
      have hs1 : ¬ 9223372036854775807 < n + 1 := by omega
      have hs2 : ¬ 9223372036854775807 ≤ n := by omega
      have hd0 : (0 : Int) ≤ (d : Int) := by omega
      have hd1 : (d : Int) ≤ (d : Int) + 1 := by omega
      have hd2 : (d : Int) + 1 ≤ 10 := by omega
      go_cut [7, 8] from 26 to 36 (fun s7 s8 wx => Made1 w2 z s7 wx ∧ s8 = .int .i64 0)
      case first =>
        go_region_held3 (fun _ => True) (trivial) (first
          | (go_at_call 13; (with_reducible refine (H1.out _ _ ?_).mono ?_); (· (first | (with_reducible refine D.lz.getN ?_; (repeat (first | (with_reducible exact List.mem_cons_self) | apply List.mem_cons_of_mem))) | (with_reducible refine (D.box false none 0 0).lz.getN ?_; (repeat (first | (with_reducible exact List.mem_cons_self) | apply List.mem_cons_of_mem))) | (refine (D0.box false none 0 0).drew.lz.getN ?_; (repeat (first | (with_reducible exact List.mem_cons_self) | apply List.mem_cons_of_mem))))); rintro e wh ⟨rfl, be⟩; (first | (replace D := D.step be) | (replace D := (D.boxM hmd false none 0 0).step be) | (replace D := (D.box false none 0 0).step be)); have hz := be.size; (try simp at hz); (try (have q000 := D.lz.b0.c0; have q001 := D.lz.b0.c1; have q002 := D.lz.b0.fr 0; have q003 := D.lz.b0.fr 1)); (try (have q010 := (D.alloc (.cells #[.bool false, .slice none 0 0] 24)).lz.b0.c0; have q011 := (D.alloc (.cells #[.bool false, .slice none 0 0] 24)).lz.b0.c1; have q012 := (D.alloc (.cells #[.bool false, .slice none 0 0] 24)).lz.b0.fr 0; have q013 := (D.alloc (.cells #[.bool false, .slice none 0 0] 24)).lz.b0.fr 1)); (try (have q020 := ((D.alloc (.cells #[.bool false, .slice none 0 0] 24)).alloc (.cells #[.bool false, .slice none 0 0] 24)).lz.b0.c0; have q021 := ((D.alloc (.cells #[.bool false, .slice none 0 0] 24)).alloc (.cells #[.bool false, .slice none 0 0] 24)).lz.b0.c1; have q022 := ((D.alloc (.cells #[.bool false, .slice none 0 0] 24)).alloc (.cells #[.bool false, .slice none 0 0] 24)).lz.b0.fr 0; have q023 := ((D.alloc (.cells #[.bool false, .slice none 0 0] 24)).alloc (.cells #[.bool false, .slice none 0 0] 24)).lz.b0.fr 1)); (try obtain ⟨na, nb, nc, nd, nl⟩ := D.n0))
          | (go_at_call 15; (with_reducible refine (H2.out _).mono ?_); rintro e wh ⟨vz, rfl, iz, be⟩; (first | (replace D := (D.step be).z iz) | (replace D := ((D.boxM hmd false none 0 0).step be).z iz) | (replace D := ((D.box false none 0 0).step be).z iz)); obtain ⟨A3, c3, rfl, _⟩ := iz.form; have hz := be.size; (try simp at hz); (try (have q000 := D.lz.b0.c0; have q001 := D.lz.b0.c1; have q002 := D.lz.b0.fr 0; have q003 := D.lz.b0.fr 1)); (try (have q010 := (D.alloc (.cells #[.bool false, .slice none 0 0] 24)).lz.b0.c0; have q011 := (D.alloc (.cells #[.bool false, .slice none 0 0] 24)).lz.b0.c1; have q012 := (D.alloc (.cells #[.bool false, .slice none 0 0] 24)).lz.b0.fr 0; have q013 := (D.alloc (.cells #[.bool false, .slice none 0 0] 24)).lz.b0.fr 1)); (try (have q020 := ((D.alloc (.cells #[.bool false, .slice none 0 0] 24)).alloc (.cells #[.bool false, .slice none 0 0] 24)).lz.b0.c0; have q021 := ((D.alloc (.cells #[.bool false, .slice none 0 0] 24)).alloc (.cells #[.bool false, .slice none 0 0] 24)).lz.b0.c1; have q022 := ((D.alloc (.cells #[.bool false, .slice none 0 0] 24)).alloc (.cells #[.bool false, .slice none 0 0] 24)).lz.b0.fr 0; have q023 := ((D.alloc (.cells #[.bool false, .slice none 0 0] 24)).alloc (.cells #[.bool false, .slice none 0 0] 24)).lz.b0.fr 1)); (try obtain ⟨na, nb, nc, nd, nl⟩ := D.n0)))
        all_goals
          go_wp2_with fail
          go_meet
          refine ⟨?_, rfl⟩
          first
          | ((with_reducible refine made1_a D ?_) <;> (repeat (first | (with_reducible exact List.mem_cons_self) | apply List.mem_cons_of_mem)))
          | ((with_reducible refine made1_b D ?_) <;> (repeat (first | (with_reducible exact List.mem_cons_self) | apply List.mem_cons_of_mem)))
      case rest =>
        obtain ⟨⟨g, A3, c3, rfl, bw, hbx, hzz⟩, rfl⟩ := hcut
        clear D D0 hmw hz0 hmd
        have HV := HN.out.mono bw
        have HW := BL.out.trans (bw.mono BL.out.size)
        generalize wc = wd at *
        have L := ((⟨HW, fun _ h => (by cases h), fun _ h => (by cases h), fun _ h => (by cases h)⟩ : Lz w wd [] [] []).n HV).z hzz
        replace L := L.b hbx
        have hlx : len x ≤ 30 := lx
        have l10 : zl 10 ≤ 1 := len_le1 (show 10 < 4294967296 by omega)
        have lsx : zl (sg false x) ≤ 30 := by rw [zl_sg]; exact hlx
        have lm := zl_mul (sg false x) 10
        have ld : zl ((d : Nat) : Int) ≤ 1 := len_le1 (show d < 4294967296 by omega)
        have HE := Lib.hid (show z = sg false x * 10 + (d : Int) by rw [← HZ.out]; show _ = (x : Int) * 10 + (d : Int); omega)
        have H3 := Lib.hid (fun W h => znatN_any false x (.slice A (k + 1) c) W h (by omega))
        have H4 := Lib.hid (fun W => zof_any 10 W (by omega) (by omega))
        have H5 := Lib.hid (fun vx vy W h1 h2 => zmul_any (sg false x) 10 vx vy W h1 h2 (by omega) (by omega))
        have H7 := Lib.hid (fun W => zof_any (d : Int) W (by omega) (by omega))
        have h8 := fun vx vy W h1 h2 => zadd_any (sg false x * 10) (d : Int) vx vy W h1 h2 (by omega) (by omega)
        rw [← HE.out] at h8
        have H8 := Lib.hid h8
        generalize sg false x * 10 = p at *
        generalize sg false x = sx at *
        clear HN BL HV HW hbx hzz bw l10 lsx lm ld h8
        go_wp2_with fail
        refine (H3.out _ (L.getN (by simp))).mono ?_
        rintro e w3 ⟨v3, rfl, iz, be⟩
        replace L := (L.step be).z iz
        clear be iz
        go_wp2_with fail
        refine (H4.out _).mono ?_
        rintro e w4 ⟨v4, rfl, iz, be⟩
        replace L := (L.step be).z iz
        clear be iz
        go_wp2_with fail
        refine (H5.out _ _ _ (L.getZ (by simp)) (L.getZ (by simp))).mono ?_
        rintro e w5 ⟨v5, rfl, iz, be⟩
        replace L := (L.step be).z iz
        clear be iz
        go_wp2_with fail
        refine (H7.out _).mono ?_
        rintro e w6 ⟨v6, rfl, iz, be⟩
        replace L := (L.step be).z iz
        clear be iz
        go_wp2_with fail
        refine (H8.out _ _ _ (L.getZ (by simp)) (L.getZ (by simp))).mono ?_
        rintro e w7 ⟨v7, rfl, iz, be⟩
        replace L := (L.step be).z iz
        obtain ⟨B, c7, rfl, _⟩ := iz.form
        clear be iz
        replace L := L.box w7.heap.size rfl (ng z) B (zl z) c7
        have c00 := L.b0.c0
        have c01 := L.b0.c1
        have c10 := L.tl.b0.c0
        have c11 := L.tl.b0.c1
        go_wp2_with fail
        refine (zsame_yes z z _ _ _ (L.getZ (by simp)) (L.getZ (by simp)) rfl).mono ?_
        rintro e w8 ⟨rfl, be⟩
        replace L := L.step be
        go_wp2_with fail
        go_ret
        exact ⟨rfl, L.below⟩

end Go.Proofs.YtejdmmnhnbmimaaDoor
