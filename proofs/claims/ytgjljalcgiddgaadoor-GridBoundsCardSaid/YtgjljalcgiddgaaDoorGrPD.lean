/- The program's grid: the closures over fractions and what is made of them. -/
import Derived.Test.YtgjljalcgiddgaaDoorGrPB
import Derived.Deep.RegionHeld3
import Derived.Deep.DrawnRows
namespace Go.Proofs.YtgjljalcgiddgaaDoor
open Go.RowKit
set_option linter.unusedVariables false
set_option linter.unusedSimpArgs false
set_option maxRecDepth 100000
attribute [local go_sem ↓] Go.wp_at_zero Go.wp_at_succ

set_option maxHeartbeats 4000000 in
theorem gfloorR1_any (a : Int) (d : Nat) (p : Int) (g h : Nat) (A B : Option Addr) (c k : Nat) (w : World) (hx : IsP w (.agg #[.bool (ng a), .slice A (zl a) c, .slice B (len d) k]) a d) (hg : Var w g 40 #[.bool (ng a), .slice A (zl a) c, .slice B (len d) k]) (hh : Var w h 3 #[.int .i64 p]) (la : zl a ≤ 1000) (ld : len d ≤ 1000) (hd : 0 < d) (hp : permB p = true) (hT : Tab w) :
    Calls Tryd.prog 66 #[.pointer (some ⟨g, 0, none⟩), .pointer (some ⟨h, 0, none⟩)] w (RetZ w (cutQ (Rat.divInt a d) p)) := by
  obtain ⟨hpa, hpb⟩ := perm_yes hp
  have hlg := hg.lt
  have hlh := hh.lt
  have L0 := (((Lq.mk0 w).q hx).b hg).b hh
  have H1 := Lib.hid (fun v W h (hW : Below w.heap.size w W) => gflR_any a d p v W h (by omega) (by omega) hd (by omega) (hT.mono hW))
  generalize cutQ (Rat.divInt a (d : Int)) p = C at *
  clear hx hg hh la ld hd hp hT hpa hpb
  go_enter Tryd.func66, Tryd.ntmps66
  have L := (L0.varZ (w.heap.size) (by simp) false none 0 0)
  have c00 := L.b0.c20
  have f00 := L.b0.fr 0
  have c01 := L.b0.c21
  have f01 := L.b0.fr 1
  have c10 := L.tl.b0.c10
  have c20 := L.tl.tl.b0.c30
  have c21 := L.tl.tl.b0.c31
  have c22 := L.tl.tl.b0.c32
  (try go_wp2_with fail)
  refine (H1.out _ _ (L.getQ (v := .agg #[.bool (ng a), .slice A (zl a) c, .slice B (len d) k]) (by simp)) L.below).mono ?_
  rintro e w1 ⟨v9, rfl, iz, be⟩
  clear c00 f00 c01 f01 c10 c20 c21 c22
  replace L := (L.step be).z iz
  obtain ⟨A9, c9, rfl, _⟩ := iz.form
  clear be iz
  have c00 := L.b0.c20
  have f00 := L.b0.fr 0
  have c01 := L.b0.c21
  have f01 := L.b0.fr 1
  have c10 := L.tl.b0.c10
  have c20 := L.tl.tl.b0.c30
  have c21 := L.tl.tl.b0.c31
  have c22 := L.tl.tl.b0.c32
  (try go_wp2_with fail)
  have LP := L.putZ (by omega) (by first | (simp; done) | (simp; omega)) (ng C) A9 (zl C) c9
  have k0 := LP.b0.c20
  have k1 := LP.b0.c21
  unfold put2 at k0 k1
  exact bodyPost_ret (v := .agg #[.bool (ng C), .slice A9 (zl C) c9]) (by simp [results, Tryd.results66, go_sem, k0, k1]) rfl ⟨_, rfl, LP.hz, LP.below⟩
set_option maxHeartbeats 4000000 in
theorem gfloorR_any (a : Int) (d : Nat) (p : Int) (vx : Value) (w : World) (hx : IsP w vx a d) (la : zl a ≤ 1000) (ld : len d ≤ 1000) (hd : 0 < d) (hp1 : -9223372036854775808 ≤ p) (hp2 : p ≤ 9223372036854775807) (hT : Tab w) :
    Calls Tryd.prog 29 #[vx, .int .i64 p] w (RetDE w (gM (cutQ (Rat.divInt a d) p) p) (gE (cutQ (Rat.divInt a d) p) p) (gR (cutQ (Rat.divInt a d) p) p)) := by
  obtain ⟨A, c, B, k, rfl, hz, _, hn⟩ := hx.form
  have L0 := (Lq.mk0 w).q hx
  have hen : ∀ args w, (callFunc 66 args).run Tryd.prog w = .ok (.enter 66 args) w := enters_of Tryd.func66 (by kernel_rfl) rfl
  have hzl : permB p = true → zl (cutQ (Rat.divInt a d) p) ≤ 30000 := fun hp => by
    obtain ⟨hpa, hpb⟩ := perm_yes hp
    have hzc := zl_cut a d hd p
    omega
  have HM := Lib.hid (fun g h W (hW : Below w.heap.size w W) (k1 : IsP W (.agg #[.bool (ng a), .slice A (zl a) c, .slice B (len d) k]) a d) (k2 : Var W g 40 #[.bool (ng a), .slice A (zl a) c, .slice B (len d) k]) (k3 : Var W h 3 #[.int .i64 p]) => gmult_any 66 #[.pointer (some ⟨g, 0, none⟩), .pointer (some ⟨h, 0, none⟩)] hen (cutQ (Rat.divInt a d) p) p hzl W hp1 hp2 (hT.mono hW) (fun hp W2 h2 => gfloorR1_any a d p g h A B c k W2 (k1.mono h2) (k2.mono h2) (k3.mono h2) la ld hd hp ((hT.mono hW).mono h2)))
  clear hzl hx hz hn la ld hd hT
  generalize gM (cutQ (Rat.divInt a d) p) p = M at *
  generalize gE (cutQ (Rat.divInt a d) p) p = E at *
  generalize gR (cutQ (Rat.divInt a d) p) p = R at *
  go_enter Tryd.func29, Tryd.ntmps29
  go_wp2_with fail
  have L := (((L0.varQ (w.heap.size) (by simp) (ng a) A B (zl a) c (len d) k).var1 (w.heap.size + 1) (by simp) p).varD (w.heap.size + 2) (by simp) false none 0 0 0)
  have c00 := L.b0.c30
  have f00 := L.b0.fr 0
  have c01 := L.b0.c31
  have f01 := L.b0.fr 1
  have c02 := L.b0.c32
  have f02 := L.b0.fr 2
  have c10 := L.tl.b0.c10
  have f10 := L.tl.b0.fr 0
  have c20 := L.tl.tl.b0.c30
  have f20 := L.tl.tl.b0.fr 0
  have c21 := L.tl.tl.b0.c31
  have f21 := L.tl.tl.b0.fr 1
  have c22 := L.tl.tl.b0.c32
  have f22 := L.tl.tl.b0.fr 2
  (try go_wp2_with fail)
  refine (HM.out _ _ _ L.below (L.getQ (by simp)) L.tl.tl.b0 L.tl.b0).mono ?_
  rintro e w1 ⟨v8, rfl, id, be⟩
  clear c00 f00 c01 f01 c02 f02 c10 f10 c20 f20 c21 f21 c22 f22
  obtain ⟨A9, c9, rfl, _, in9⟩ := id.form
  replace L := (L.step be).n in9
  clear be in9 id
  have c00 := L.b0.c30
  have f00 := L.b0.fr 0
  have c01 := L.b0.c31
  have f01 := L.b0.fr 1
  have c02 := L.b0.c32
  have f02 := L.b0.fr 2
  have c10 := L.tl.b0.c10
  have c20 := L.tl.tl.b0.c30
  have c21 := L.tl.tl.b0.c31
  have c22 := L.tl.tl.b0.c32
  (try go_wp2_with fail)
  have LP := L.putD (by omega) (by first | (simp; done) | (simp; omega)) (ng M) A9 (zl M) c9 (E)
  have k0 := LP.b0.c30
  have k1 := LP.b0.c31
  have k2 := LP.b0.c32
  unfold put3 at k0 k1 k2
  exact bodyPost_ret (v := .tuple #[.agg #[.bool (ng M), .slice A9 (zl M) c9, .int .i64 (E)], .int .i64 R]) (by simp [results, Tryd.results29, go_sem, k0, k1, k2]) rfl ⟨_, rfl, isD_n LP.hn, LP.below⟩
end Go.Proofs.YtgjljalcgiddgaaDoor
