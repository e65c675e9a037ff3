/- The reference's Format of dyadics. -/
import Derived.Test.YtpgiolbnmlbjbaaGreatDoorRefDyC
import Derived.Test.YtpgiolbnmlbjbaaGreatDoorBaseJ
import Derived.Test.YtpgiolbnmlbjbaaGreatDoorRefDig
import Derived.Deep.RegionHeld3
import Derived.Deep.DrawnRows
namespace Go.Proofs.YtpgiolbnmlbjbaaGreatDoor
open Go.RowKit
set_option linter.unusedVariables false
set_option linter.unusedSimpArgs false
set_option maxRecDepth 100000
attribute [local go_sem ↓] Go.wp_at_zero Go.wp_at_succ

/-- The text of a dyadic. -/
def fmtD (m e : Int) : List Nat := fmt m ++ 112 :: fmt e
theorem cat_p (l : List Nat) : str l ++ (⟨#[112]⟩ : ByteArray) = str (l ++ [112]) := by
  have e : (⟨#[112]⟩ : ByteArray) = str [112] := rfl
  rw [e, str_append]
theorem fmtD_byt (m e : Int) : Byt (fmtD m e) := fun x hx => by
  unfold fmtD at hx
  rcases List.mem_append.1 hx with h | h
  · exact fmt_byt m x h
  · rcases List.mem_cons.1 h with rfl | h
    · omega
    · exact fmt_byt e x h

set_option maxHeartbeats 4000000 in
theorem rformat8_any (m e : Int) (vx : Value) (w : World) (hx : IsD w vx m e) (lm : zl m ≤ 100000) (he : -1000000 ≤ e ∧ e ≤ 1000000) :
    Calls Tryz.prog 48 #[vx] w (RetS w (fmtD m e)) := by
  obtain ⟨A, c, rfl, hz, hn⟩ := hx.form
  have L0 := ((Lq.mk0 w).z hz).n hn
  clear hx hz hn
  have le1 : zl e ≤ 1 := len_le1 (x := e.natAbs) (by omega)
  have hl1 : (fmt m).length ≤ 10 * 100000 + 2 := fmt_length lm
  have hl2 : (fmt e).length ≤ 10 * 1 + 2 := fmt_length le1
  have H1 := Lib.hid (fun v W h => rformat_any m v W h lm)
  have H2 := Lib.hid (fun v W h => rformat_any e v W h (Nat.le_trans le1 (by omega)))
  have H3 := Lib.hid (fun W => rzof_any e W (by omega) (by omega))
  unfold fmtD
  have s1 := str_size (fmt m)
  have s2 := str_size (fmt m ++ [112])
  have s3 := str_size (fmt e)
  have s4 := str_size (fmt m ++ 112 :: fmt e)
  rw [List.length_append] at s2 s4
  have c1 := cat_p (fmt m)
  have c2 := str_append (fmt m ++ [112]) (fmt e)
  rw [List.append_assoc] at c2
  have e1 : (fmt m ++ ([112] ++ fmt e)) = fmt m ++ 112 :: fmt e := rfl
  rw [e1] at c2
  clear e1 le1 lm he
  simp only [List.length_cons, List.length_nil] at s2 s4
  obtain ⟨p, hp⟩ : ∃ p, (fmt m).length = p := ⟨_, rfl⟩
  obtain ⟨q, hq⟩ : ∃ q, (fmt e).length = q := ⟨_, rfl⟩
  rw [hp] at s1 s2 s4 hl1
  rw [hq] at s3 s4 hl2
  have s5 : (str (fmt m ++ [112])).size = p + 1 := by rw [s2]
  clear s2
  have b2 : ¬ 9223372036854775807 < p + 1 := by omega
  have b3 : ¬ 9223372036854775807 < p + 1 + q := by omega
  have b4 : ¬ 9223372036854775807 ≤ p := by omega
  generalize fmt m ++ 112 :: fmt e = T at *
  generalize fmt m ++ [112] = S at *
  generalize fmt m = P at *
  generalize fmt e = Q at *
  clear hp hq
  go_enter Tryz.func48, Tryz.ntmps48
  go_wp2_with fail
  have L := (L0.varD (w.heap.size) (by simp) (ng m) A (zl m) c e)
  replace L := L.drew
  have c00 := L.b0.c30
  have f00 := L.b0.fr 0
  have c01 := L.b0.c31
  have f01 := L.b0.fr 1
  have c02 := L.b0.c32
  have f02 := L.b0.fr 2
  go_region_held3 (fun w' => w'.cell? ⟨w.heap.size, 0, none⟩ = some (.bool (ng m)) ∧ w'.cell? ⟨w.heap.size, 1, none⟩ = some (.slice A (zl m) c) ∧ w'.cell? ⟨w.heap.size, 2, none⟩ = some (.int .i64 e)) (first | (with_reducible exact ⟨L.b0.c30, L.b0.c31, L.b0.c32⟩) | exact ⟨L.b0.c30, L.b0.c31, L.b0.c32⟩) (first | (go_at_call 93; (with_reducible refine (H1.out _ _ ?_ ).mono ?_); (· (refine L.getZ ?_; (repeat (first | (with_reducible exact List.mem_cons_self) | apply List.mem_cons_of_mem)))); rintro e wh ⟨rfl, be⟩; replace L := L.step be; clear be; (try (have x00 := L.b0.c30; have x01 := L.b0.c31; have x02 := L.b0.c32; have y00 := L.b0.fr 0; have y01 := L.b0.fr 1; have y02 := L.b0.fr 2))) | (go_at_call 93; (with_reducible refine (H2.out _ _ ?_ ).mono ?_); (· (refine L.getZ ?_; (repeat (first | (with_reducible exact List.mem_cons_self) | apply List.mem_cons_of_mem)))); rintro e wh ⟨rfl, be⟩; replace L := L.step be; clear be; (try (have x00 := L.b0.c30; have x01 := L.b0.c31; have x02 := L.b0.c32; have y00 := L.b0.fr 0; have y01 := L.b0.fr 1; have y02 := L.b0.fr 2))) | (go_at_call 52; (with_reducible refine (H3.out _ ).mono ?_); rintro e wh ⟨vh, rfl, iz, be⟩; replace L := (L.step be).z iz; obtain ⟨A9, c9, rfl, _⟩ := iz.form; clear be iz; (try (have x00 := L.b0.c30; have x01 := L.b0.c31; have x02 := L.b0.c32; have y00 := L.b0.fr 0; have y01 := L.b0.fr 1; have y02 := L.b0.fr 2))))
  clear c00 f00 c01 f01 c02 f02
  go_wp2_with fail
  go_ret
  exact ⟨rfl, L.below⟩

end Go.Proofs.YtpgiolbnmlbjbaaGreatDoor
