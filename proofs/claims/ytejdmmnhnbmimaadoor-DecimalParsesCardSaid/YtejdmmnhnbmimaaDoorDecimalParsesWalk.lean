/- The walk of DecimalParses: whatever the input, the law returns true and turns nothing that was there. -/
import Derived.Test.YtejdmmnhnbmimaaDoorAwake6
import Derived.Test.YtejdmmnhnbmimaaDoorRefPars
namespace Go.Proofs.YtejdmmnhnbmimaaDoor
open Go.RowKit
set_option linter.unusedVariables false
set_option linter.unusedSimpArgs false
set_option maxRecDepth 100000
attribute [local go_sem ↓] Go.wp_at_zero Go.wp_at_succ

theorem errP_int (l : List Nat) : errP l = 0 ∨ errP l = 6 ∨ errP l = 7 := by
  unfold errP; split
  · exact .inr (.inr rfl)
  · split
    · exact .inl rfl
    · exact .inr (.inl rfl)
theorem errN_int (l : List Nat) : errN l = 0 ∨ errN l = 6 ∨ errN l = 7 := by
  unfold errN; split
  · exact .inr (.inr rfl)
  · split
    · exact .inl rfl
    · exact .inr (.inl rfl)
theorem zl_parse {l : List Nat} (h : l.length ≤ 1000) : zl (valP l) ≤ 1000 := by
  unfold valP
  split
  · rw [zl_zero]; omega
  · split
    · next h2 =>
      have hg : good (bod l) = true := by
        unfold okP at h2
        rw [Bool.and_eq_true] at h2
        exact h2.1
      have e : sgz (sgn l) (num (bod l)) = sg (sgn l) (num (bod l)) := rfl
      rw [e, zl_sg]
      have := bod_length l
      exact Nat.le_trans (len_num (num_lt (good_all hg))) (by omega)
    · rw [zl_zero]; omega

set_option maxHeartbeats 2000000 in
theorem walk_DecimalParses (s : ByteArray) (w : World) (hs : s.size ≤ 9223372036854775807) :
    Calls Tryd.prog 5 #[.string s] w (fun e w' => e = .returned (.bool true) ∧ Below w.heap.size w w') := by
  obtain ⟨l, rfl, hb⟩ := str_of s
  have hsz := str_size l
  obtain ⟨n, hn⟩ : ∃ n, l.length = n := ⟨_, rfl⟩
  rw [hn] at hsz
  rw [hsz] at hs
  rcases Nat.lt_or_ge 300 n with hbig | hsmall
  · clear hn
    go_enter Tryd.func5, Tryd.ntmps5
    go_wp2_with fail
    have L := Lz.mk0 w
    refine (awake6_any _).mono ?_
    rintro e w1 ⟨rfl, be⟩
    replace L := L.step be
    go_wp2_with fail
    go_ret
    exact ⟨rfl, L.below⟩
  · have H1 := Lib.hid (fun W => parse_any l W hb (by omega))
    have H2 := Lib.hid (fun W => rparse_any l W hb (by omega))
    have H3 := Lib.hid (fun W => natural_any l W hb (by omega))
    have H4 := Lib.hid (fun W => rnatural_any l W hb (by omega))
    have hzl := zl_parse (l := l) (by omega)
    have H5 := Lib.hid (fun v W h => format_any (valP l) v W h (by omega))
    have h6 := fun va vb W => same_any (valN l) (valN l) va vb W
    rw [show sameB (valN l) (valN l) = true from decide_eq_true rfl] at h6
    have H6 := Lib.hid h6
    have HF := Lib.hid (fmt_parse (l := l))
    have he := errP_int l
    have hq : ((str (fmt (valP l))).toList == (str l).toList) = decide (fmt (valP l) = l) := str_eql (fmt_byt _) hb
    generalize errP l = ep at *
    generalize errN l = en at *
    generalize valP l = z at *
    generalize valN l = x at *
    generalize fmt z = F at *
    clear h6 hb hn
    go_enter Tryd.func5, Tryd.ntmps5
    go_wp2_with fail
    have L := Lz.mk0 w
    refine (awake6_any _).mono ?_
    rintro e w1 ⟨rfl, be⟩
    replace L := L.step be
    clear be
    go_wp2_with fail
    refine (H1.out _).mono ?_
    rintro e w2 ⟨v1, rfl, iz, be⟩
    replace L := (L.step be).z iz
    obtain ⟨A, c, rfl, _⟩ := iz.form
    clear be iz
    replace L := L.box w2.heap.size rfl (ng z) A (zl z) c
    go_wp2_with fail
    obtain ⟨g1, hg1⟩ : ∃ g, w2.heap.size = g := ⟨_, rfl⟩
    rw [hg1] at L ⊢
    clear hg1
    refine (H2.out _).mono ?_
    rintro e w3 ⟨v2, rfl, iz, be⟩
    replace L := (L.step be).z iz
    obtain ⟨B, d, rfl, _⟩ := iz.form
    clear be iz
    replace L := L.box w3.heap.size rfl (ng z) B (zl z) d
    go_wp2_with fail
    obtain ⟨g2, hg2⟩ : ∃ g, w3.heap.size = g := ⟨_, rfl⟩
    rw [hg2] at L ⊢
    clear hg2
    refine (H3.out _).mono ?_
    rintro e w4 ⟨v3, rfl, hn, be⟩
    replace L := (L.step be).n hn
    clear be hn
    go_wp2_with fail
    refine (H4.out _).mono ?_
    rintro e w5 ⟨v4, rfl, hn, be⟩
    replace L := (L.step be).n hn
    clear be hn
    have c00 := L.b0.c0
    have c01 := L.b0.c1
    have c10 := L.tl.b0.c0
    have c11 := L.tl.b0.c1
    go_wp2_with fail
    refine (zsame_yes z z _ _ _ (L.getZ (by simp)) (L.getZ (by simp)) rfl).mono ?_
    rintro e w6 ⟨rfl, be⟩
    clear c00 c01 c10 c11
    replace L := L.step be
    clear be
    have c00 := L.b0.c0
    have c01 := L.b0.c1
    have c10 := L.tl.b0.c0
    have c11 := L.tl.b0.c1
    go_wp2_with fail
    refine (H6.out _ _ _ (L.getN (by simp)) (L.getN (by simp))).mono ?_
    rintro e w7 ⟨rfl, rfl⟩
    rcases he with rfl | rfl | rfl
    · rw [decide_eq_true (HF.out rfl)] at hq
      go_wp2_with fail
      refine (H5.out _ _ (L.getZ (by simp))).mono ?_
      rintro e w8 ⟨rfl, be⟩
      replace L := L.step be
      go_wp2_with fail
      go_ret
      exact ⟨rfl, L.below⟩
    · go_wp2_with fail
      go_ret
      exact ⟨rfl, L.below⟩
    · go_wp2_with fail
      go_ret
      exact ⟨rfl, L.below⟩

end Go.Proofs.YtejdmmnhnbmimaaDoor
