/- Joined: AtK, CpE (what the law leans on). -/
import Derived.Test.YtmgbjldogggpcaaGreatDoorJV2
import Derived.Test.YtmgbjldogggpcaaGreatDoorJV3
import Derived.Deep.DrawnRows
import Derived.Deep.RegionHeld3
namespace Go.Proofs.YtmgbjldogggpcaaGreatDoor
set_option maxHeartbeats 64000000
open Go.RowKit
set_option linter.unusedVariables false
set_option linter.unusedSimpArgs false
set_option maxRecDepth 100000
attribute [local go_sem ↓] Go.wp_at_zero Go.wp_at_succ
def chkH (p : Nat) : List Int → Int → Option Int
 | [], C => some C
 | S :: r, C => if decide (0 ≤ S) && (decide (S * S ≤ C * C + 2 ^ p * 2 ^ p) && decide (C * C + 2 ^ p * 2 ^ p + 1 ≤ (S + 1) * (S + 1))) then chkH p r (C + S) else none
theorem chkH_hv {p : Nat} {C0 : Int} (l : List Int) : ∀ {j : Nat} {C D : Int}, HvI p C0 j C → chkH p l C = some D → HvI p C0 (j + l.length) D:=by
  induction l with
  | nil => intro j C D h e; cases e; exact h
  | cons S r ih =>
    intro j C D h e
    have e2 : chkH p (S :: r) C = if decide (0 ≤ S) && (decide (S * S ≤ C * C + 2 ^ p * 2 ^ p) && decide (C * C + 2 ^ p * 2 ^ p + 1 ≤ (S + 1) * (S + 1))) then chkH p r (C + S) else none:=rfl
    rw [e2] at e
    split at e
    · next hb =>
      rw [Bool.and_eq_true, Bool.and_eq_true] at hb
      have:=ih (h.step ⟨of_decide_eq_true hb.1, of_decide_eq_true hb.2.1, of_decide_eq_true hb.2.2⟩) e
      rwa [show j + 1 + r.length = j + (S :: r).length by simp; omega] at this
    · cases e
def agB (p : Nat) (C0 : Int) (l : List Int) (X : Int) (n : Nat) : Bool:=match chkH p l C0 with
 | none => false
 | some C => decide (l.length ≤ 11) && (decide (1024 * 2 ^ p ≤ C) && (decide (0 ≤ X) && (decide (X * 1024 ≤ 2 ^ p) && (decide (X * C ≤ 2 ^ p * 2 ^ p) && (decide (2 ^ p * 2 ^ p ≤ (X + 1) * C) && (decide (pwA (X * X / 2 ^ p) X p n = 0) && decide (n ≤ 300)))))))
theorem agB_ok {p : Nat} {C0 : Int} {l : List Int} {X : Int} {n : Nat} (h0 : 0 ≤ C0) (h : agB p C0 l X n = true) : AgI p C0 (smA (X * X / 2 ^ p) X p n * 2 ^ l.length):=by
  unfold agB at h
  cases hc : chkH p l C0 with
  | none => rw [hc] at h; cases h
  | some C =>
    rw [hc] at h
    simp only [Bool.and_eq_true, decide_eq_true_eq] at h
    obtain ⟨h1, h2, h3, h4, h5, h6, h7, h8⟩:=h
    have hv:=chkH_hv l (HvI.first h0) hc
    rw [Nat.zero_add] at hv
    have e : ∀ x y : Int, dq x (-(p : Int)) * dq y (-(p : Int)) = dq (x * y) (-(2 * (p : Int))):=fun x y => by rw [← dq_mul, show -(p : Int) + -(p : Int) = -(2 * (p : Int)) by omega]
    have one : dq (2 ^ p * 2 ^ p) (-(2 * (p : Int))) = 1:=by rw [← e, dq_scale (2 ^ p), two_cast]; exact Rat.one_mul 1
    refine ang_end hv h1 h2 ⟨h3, h4, rfl⟩ ?_ ?_ h7 h8
    · rw [e, ← one]
      exact (dq_le_iff _ _ _).2 h5
    · rw [← dq_succ, e, ← one]
      exact (dq_le_iff _ _ _).2 h6
def hl1 : List Int:=[4854144976951898484138253545293905541163285372944040890261730987545933979380808102295273332944599415299549742394460048703522978425979551053023782779153732004, 8969290384096661594157619675319866162388905900682120289691605901743742734070603338724299493707119061766802287619742945165590501275937051288461501796191577949, 17593895968768485557227143617215962571356850823021065913504000812842033355026556221194151977053139232496866906408030585251951894463541908574987453597235291893, 35018353101555863887651634738568429691386414551581901478276083994628610779859244295180371721189358796602603730052974145916134587710898678496319221603365288652, 69952343923244605351835814491459433134130833515048873808931445690769366831145720275162727429246870338082839816505152540249615970704986115938655420123821621787, 139862551170196463482918133510615739491389733478955923369195441802860769138575749926137131344649034855050433361786335357973551829851842450281997905254895125723, 279704039554641590306518271705733663507184013483262168253046800818410339965995742125860563183518868302363846391608468911195004689223398949491370573003635660484, 559397548410283310724997031404079187591347507122427110819909173012814632769712228330727719067495105085017218600898766395499692190065772953599315465429177014085, 1118789831557795738232828833394140684100791215373317874039566583454884153739429603799826637208758428876028453668960820035235413216289987554719920741592061371809, 2237577030495046996862148459884200014834202420262284210740712855039573605273148281112989921295271858788197842719125689004357105862209160541673405767379987807040]
def hX1 : Int:=2632617447074382384773402232446434428942990971479173632756833481250388253196671819766716378607548000580057195197610148067010196957006323066688054893594078
theorem ag1_b : agB 520 (1 * 2 ^ 520) hl1 hX1 27 = true:=by decide +kernel
def aZ1 : Int:=smA (hX1 * hX1 / 2 ^ 520) hX1 520 27 * 2 ^ hl1.length
theorem at1_b : AtB 520 aZ1 (1 : Rat)⁻¹:=by
 have e : dq (1 * 2 ^ 520) (-((520 : Nat) : Int)) = 1:=by rw [dq_scale, Rat.intCast_mul, Rat.mul_assoc, two_cast, Rat.mul_one]; rfl
 refine (agB_ok (by decide +kernel) ag1_b).at (by decide +kernel) ?_ ?_
 ·rw [e, Rat.inv_inv]; exact Rat.le_refl
 ·rw [e, Rat.inv_inv]; have:=dq_pos (-((520 : Nat) : Int)); grind
def hl5 : List Int:=[17501868612936034489709377335808538019912814935144270948485483187067187271117093122538179416408352177519750919863590951405867314025535657038169166460320003831, 34833385471397038334409258764885975772746130814728591406481922907395432042122580482308956463960073557509483803356430340907009214557272874916025752365203824300, 69581957962668240517826186141374823442627476648046600424793409380064709631568841175669297383508339844940135508620964612806872823576300887310096245186968306882, 139121554613968671216471860020641485238742518965289500501191814215630868705712870795779329694671568280595059501035973203167769489098278514622993101105315542939, 278221934213880493294476139999773784308943992735534872984606030130717781169878882541793107589432908261939094488940142799326512351981190339621257856125018953232, 556433281625757689041339011702688994734003332020065980960124908962716581898970034952164244456968053171952307478075971392010284662574896478995594332218288175141, 1112861269938636301103367628793331281037247200759771310508625515496320581265596056756826613855717548593875290453527869809636263039070116937260520098977256192983, 2225719893231848211168351516448498262194478702250831604205965294905426827893257732022079352852091640964319378301696746930938440445642780923784890048636453445699]
def hX5 : Int:=2646642277218883297301692289896597081647121892212948170051977549827949797232064693224889771160688545015369797101676585056580759897624488798425470294803511
theorem ag5_b : agB 520 (5 * 2 ^ 520) hl5 hX5 27 = true:=by decide +kernel
def aZ5 : Int:=smA (hX5 * hX5 / 2 ^ 520) hX5 520 27 * 2 ^ hl5.length
theorem at5_b : AtB 520 aZ5 (5 : Rat)⁻¹:=by
 have e : dq (5 * 2 ^ 520) (-((520 : Nat) : Int)) = 5:=by rw [dq_scale, Rat.intCast_mul, Rat.mul_assoc, two_cast, Rat.mul_one]; rfl
 refine (agB_ok (by decide +kernel) ag5_b).at (by decide +kernel) ?_ ?_
 ·rw [e, Rat.inv_inv]; exact Rat.le_refl
 ·rw [e, Rat.inv_inv]; have:=dq_pos (-((520 : Nat) : Int)); grind
def hl239 : List Int:=[820350501104870843819364849154670036456595228027542910454232536895262842515356569287901193267637301185623906464663748230895383353990544127961019289676980708718, 1640697411846181780700308349983317605419987196713642041131656350531356929342606100563194566840625037017913805304069010194962465668401270857976697520339433331667, 3281393028514020972298881146276733364678192734398381858141423374762352669647008015138464797414806951892619920634605065383642512588818249288298493551617655367709]
def hX239 : Int:=1795177360486838870801648519233337912791290071910132896103963060487373025447058723160247500794369295299654590344422348586000460295366758180360812991997660
theorem ag239_b : agB 520 (239 * 2 ^ 520) hl239 hX239 27 = true:=by decide +kernel
def aZ239 : Int:=smA (hX239 * hX239 / 2 ^ 520) hX239 520 27 * 2 ^ hl239.length
theorem at239_b : AtB 520 aZ239 (239 : Rat)⁻¹:=by
 have e : dq (239 * 2 ^ 520) (-((520 : Nat) : Int)) = 239:=by rw [dq_scale, Rat.intCast_mul, Rat.mul_assoc, two_cast, Rat.mul_one]; rfl
 refine (agB_ok (by decide +kernel) ag239_b).at (by decide +kernel) ?_ ?_
 ·rw [e, Rat.inv_inv]; exact Rat.le_refl
 ·rw [e, Rat.inv_inv]; have:=dq_pos (-((520 : Nat) : Int)); grind
theorem pi_1 : 4 * (aZ1 + 2097152) ≤ (cPi + 1048576) * 2 ^ 20 ∧ (cPi - 1048576) * 2 ^ 20 ≤ 4 * (aZ1 - 2097152):=by decide +kernel
theorem pi_2 : 16 * (aZ5 + 2097152) - 4 * (aZ239 - 2097152) ≤ (cPi + 1048576) * 2 ^ 20 ∧ (cPi - 1048576) * 2 ^ 20 ≤ 16 * (aZ5 - 2097152) - 4 * (aZ239 + 2097152):=by decide +kernel
theorem pim_all : (List.range 200).all (fun k => inM cPi k (piT (k + 32))) = true:=by decide +kernel
theorem cn_pi {k : Nat} (hk : k < 200) : ∃ T, piT (k + 32) = some T ∧ Cn T cPi k:=
 cn_of hk ⟨by decide +kernel, by decide +kernel⟩ (List.all_eq_true.1 pim_all k (List.mem_range.2 hk))
theorem dq_520 (c : Int) : dq c (-500) = dq (c * 2 ^ 20) (-((520 : Nat) : Int)):=by
 refine dq_eq (F := -520) ?_ (by decide) (by decide)
 rw [show ((-500 : Int) - -520).toNat = 20 by decide, show (-((520 : Nat) : Int) - -520).toNat = 0 by decide]
 simp
theorem dq_times (n c : Int) (e : Int) : dq (n * c) e = (n : Rat) * dq c e:=by
 rw [dq_scale, dq_scale c, Rat.intCast_mul, Rat.mul_assoc]
theorem four_lo {k : Nat} {a T : Int} (h : AtL (dq a (-(k : Int))) ((1 : Rat)⁻¹)) (hC : Cn T cPi k) : dq (4 * a) (-(k : Int)) ≤ dq (hiC T) (-(k : Int)):=by
 have h1:=at_le h at1_b.2 Rat.le_refl
 have h2:=(dq_le_iff _ _ (-((520 : Nat) : Int))).2 pi_1.1
 rw [dq_times, ← dq_520] at h2
 have h3:=hC.hi
 rw [dq_times]
 generalize dq (aZ1 + 2097152) (-((520 : Nat) : Int)) = u at *
 generalize dq (cPi + 1048576) (-500) = v at *
 generalize dq a (-(k : Int)) = x at *
 generalize dq (hiC T) (-(k : Int)) = y at *
 have e : ((4 : Int) : Rat) = 4:=rfl
 rw [e] at h2 ⊢
 clear h hC
 grind
theorem four_hi {k : Nat} {b T : Int} (h : AtU ((1 : Rat)⁻¹) (dq b (-(k : Int)))) (hC : Cn T cPi k) : dq (loC T) (-(k : Int)) ≤ dq (4 * b) (-(k : Int)):=by
 have h1:=at_le at1_b.1 h Rat.le_refl
 have h2:=(dq_le_iff _ _ (-((520 : Nat) : Int))).2 pi_1.2
 have h3:=hC.lo
 generalize cPi - 1048576 = q at h2 h3
 rw [← dq_520, dq_times] at h2
 rw [dq_times]
 generalize dq (aZ1 - 2097152) (-((520 : Nat) : Int)) = u at *
 generalize dq q (-500) = v at *
 generalize dq b (-(k : Int)) = x at *
 generalize dq (loC T) (-(k : Int)) = y at *
 have e : ((4 : Int) : Rat) = 4:=rfl
 rw [e] at h2 ⊢
 clear h hC
 grind
theorem mach_lo {k : Nat} {a b T : Int} (h : AtL (dq a (-(k : Int))) ((5 : Rat)⁻¹)) (g : AtU ((239 : Rat)⁻¹) (dq b (-(k : Int)))) (hC : Cn T cPi k) : dq (16 * a - 4 * b) (-(k : Int)) ≤ dq (hiC T) (-(k : Int)):=by
 have h1:=at_le h at5_b.2 Rat.le_refl
 have h4:=at_le at239_b.1 g Rat.le_refl
 have h2:=(dq_le_iff _ _ (-((520 : Nat) : Int))).2 pi_2.1
 rw [dq_sub9, dq_times, dq_times, ← dq_520] at h2
 have h3:=hC.hi
 rw [dq_sub9, dq_times, dq_times]
 generalize dq (aZ5 + 2097152) (-((520 : Nat) : Int)) = u at *
 generalize dq (aZ239 - 2097152) (-((520 : Nat) : Int)) = u2 at *
 generalize dq (cPi + 1048576) (-500) = v at *
 generalize dq a (-(k : Int)) = x at *
 generalize dq b (-(k : Int)) = z at *
 generalize dq (hiC T) (-(k : Int)) = y at *
 have e : ((4 : Int) : Rat) = 4:=rfl
 have e2 : ((16 : Int) : Rat) = 16:=rfl
 rw [e, e2] at h2 ⊢
 clear h g hC
 grind
theorem mach_hi {k : Nat} {a b T : Int} (h : AtU ((5 : Rat)⁻¹) (dq a (-(k : Int)))) (g : AtL (dq b (-(k : Int))) ((239 : Rat)⁻¹)) (hC : Cn T cPi k) : dq (loC T) (-(k : Int)) ≤ dq (16 * a - 4 * b) (-(k : Int)):=by
 have h1:=at_le at5_b.1 h Rat.le_refl
 have h4:=at_le g at239_b.2 Rat.le_refl
 have h2:=(dq_le_iff _ _ (-((520 : Nat) : Int))).2 pi_2.2
 have h3:=hC.lo
 generalize cPi - 1048576 = q at h2 h3
 rw [← dq_520, dq_sub9, dq_times, dq_times] at h2
 rw [dq_sub9, dq_times, dq_times]
 generalize dq (aZ5 - 2097152) (-((520 : Nat) : Int)) = u at *
 generalize dq (aZ239 + 2097152) (-((520 : Nat) : Int)) = u2 at *
 generalize dq q (-500) = v at *
 generalize dq a (-(k : Int)) = x at *
 generalize dq b (-(k : Int)) = z at *
 generalize dq (loC T) (-(k : Int)) = y at *
 have e : ((4 : Int) : Rat) = 4:=rfl
 have e2 : ((16 : Int) : Rat) = 16:=rfl
 rw [e, e2] at h2 ⊢
 clear h g hC
 grind

theorem plainP2 (a0 : Int) (F0 : Nat) (n0 : Int) (a1 : Int) (F1 : Nat) (n1 : Int) : Plain #[.int .i64 a0, .func (.func F0) #[] #[], .int .i64 n0, .int .i64 a1, .func (.func F1) #[] #[], .int .i64 n1]:=fun j x => by
 match j with
 | 0 => simp
 | 1 => simp
 | 2 => simp
 | 3 => simp
 | 4 => simp
 | 5 => simp
 | j + 6 => simp
theorem rowP_2 {w : World} {g : Nat} {a0 : Int} {F0 : Nat} {n0 : Int} {a1 : Int} {F1 : Nat} {n1 : Int} (hv : Var w g 100 #[.int .i64 a0, .func (.func F0) #[] #[], .int .i64 n0, .int .i64 a1, .func (.func F1) #[] #[], .int .i64 n1]) : RowP w (.slice (some ⟨g, 0, none⟩) 2 2) [(a0, F0, n0), (a1, F1, n1)]:=by
  refine ⟨g, 2, rfl, hv.lt, fun j x hx => ?_⟩
  match j with
  | 0 =>
    obtain rfl : (a0, F0, n0) = x:=by simpa using hx
    exact ⟨hv.cell 0, hv.cell 1, hv.cell 2⟩
  | 1 =>
    obtain rfl : (a1, F1, n1) = x:=by simpa using hx
    exact ⟨hv.cell 3, hv.cell 4, hv.cell 5⟩
  | j + 2 => simp at hx
theorem pt1_some {c : Int} {p : Nat → Int × Int} {v : Nat} {T : Int} (h : pt1 c p v = some T) : ∃ S, smP p 600 0 (2 ^ v) 0 = some S ∧ T = S * c:=by
 unfold pt1 at h
 split at h
 ·cases h
 ·next a ha => exact ⟨a, ha, (Option.some.inj h).symm⟩
theorem add2_some {x y : Option Int} {T : Int} (h : add2 x y = some T) : ∃ a b, x = some a ∧ y = some b ∧ T = a + b:=by
 match x, y with
 | some a, some b => exact ⟨a, b, rfl, rfl, (Option.some.inj h).symm⟩
 | none, _ => cases h
 | some _, none => cases h
theorem pt_abs {c S : Int} {p : Nat → Int × Int} {v : Nat} (hg : GdP p) (hS : smP p 600 0 (2 ^ v) 0 = some S) (hc : AbP c 10) (hv : v ≤ 4200) : AbP (S * c) 4850:=((smP_abs hg 600 0 _ _ _ (sp_first hS)).mul hc).up (by omega)

theorem cpi_yes (k : Nat) (T : Int) (w : World) (hk : k ≤ 4150) (hT : Tab w) (hS : piT (k + 32) = some T) :
    Calls Tryz.prog 28 #[.int .i64 (k : Int)] w (RetIE w (mkM (loC T) (-(k : Int))) (mkE (loC T) (-(k : Int))) (mkM (hiC T) (-(k : Int))) (mkE (hiC T) (-(k : Int))) 0):=by
  unfold piT at hS
  obtain ⟨T0, T1, h0, h1, rfl⟩:=add2_some hS
  obtain ⟨S0, hS0, r0⟩:=pt1_some h0
  obtain ⟨S1, hS1, r1⟩:=pt1_some h1
  subst r0 r1
  have hen0 : ∀ args w, (callFunc 88 args).run Tryz.prog w = .ok (.enter 88 args) w:=enters_of Tryz.func88 (by kernel_rfl) rfl
  have G0 : GdP (tnP 5 1):=tnP_good (by simp)
  have a0 : AbP (16) 10:=by unfold AbP; decide
  have u0:=fun W (hW : Below w.heap.size w W) => csum_any 88 hen0 (tnP 5 1) 5 (16) S0 (k + 32) W G0 hS0 a0 (by omega) (hT.mono hW) (fun j W hj => carc_any 5 j W (by omega) (by omega) hj)
  have b0:=pt_abs G0 hS0 a0 (by omega)
  have hen1 : ∀ args w, (callFunc 88 args).run Tryz.prog w = .ok (.enter 88 args) w:=enters_of Tryz.func88 (by kernel_rfl) rfl
  have G1 : GdP (tnP 239 1):=tnP_good (by simp)
  have a1 : AbP (-4) 10:=by unfold AbP; decide
  have u1:=fun W (hW : Below w.heap.size w W) => csum_any 88 hen1 (tnP 239 1) 239 (-4) S1 (k + 32) W G1 hS1 a1 (by omega) (hT.mono hW) (fun j W hj => carc_any 239 j W (by omega) (by omega) hj)
  have b1:=pt_abs G1 hS1 a1 (by omega)
  have g1:=fun v W (hl : RowP W v [((16 : Int), 88, (5 : Int)), ((-4 : Int), 88, (239 : Int))]) (hW : Below w.heap.size w W) => cencl_yes k [((16 : Int), 88, (5 : Int)), ((-4 : Int), 88, (239 : Int))] [S0 * (16), S1 * (-4)] (S0 * (16) + S1 * (-4)) v W hk hl rfl (by simp) (hT.mono hW) (fun c hc => by
    simp only [List.mem_cons, List.not_mem_nil, or_false] at hc
    rcases hc with rfl | rfl <;> assumption) (by unfold ttl; unfold ttl; unfold ttl; rw [Int.zero_add]) (fun j x c W2 hx hc hW2 => by
    have hW3:=hW.trans (hW2.mono hW.size)
    match j with
    | 0 =>
      obtain rfl : ((16 : Int), 88, (5 : Int)) = x:=by simpa using hx
      obtain rfl : S0 * (16) = c:=by simpa using hc
      exact u0 W2 hW3
    | 1 =>
      obtain rfl : ((-4 : Int), 88, (239 : Int)) = x:=by simpa using hx
      obtain rfl : S1 * (-4) = c:=by simpa using hc
      exact u1 W2 hW3
    | j + 2 => simp at hx)
  generalize S0 * (16) + S1 * (-4) = T at *
  clear hen0 G0 a0 u0 b0 hS0 hen1 G1 a1 u1 b1 hS1 hS h0 h1
  generalize mkM (loC T) (-(k : Int)) = Ma at *
  generalize mkE (loC T) (-(k : Int)) = Ea at *
  generalize mkM (hiC T) (-(k : Int)) = Na at *
  generalize mkE (hiC T) (-(k : Int)) = Fa at *
  have H1:=Hd9 g1
  clear g1
  go_enter Tryz.func28, Tryz.ntmps28
  have L:=((Lq.mk0 w).varI (w.heap.size) (by simp) false none 0 0 0 false none 0 0 0)
  replace L:=L.var (w.heap.size + 1) (by simp) 100 #[.int .i64 (16), .func (.func 88) #[] #[], .int .i64 5, .int .i64 (-4), .func (.func 88) #[] #[], .int .i64 239] (plainP2 _ _ _ _ _ _ )
  have p0:=L.b0.cell 0
  have p1:=L.b0.cell 1
  have p2:=L.b0.cell 2
  have p3:=L.b0.cell 3
  have p4:=L.b0.cell 4
  have p5:=L.b0.cell 5
  (try go_wp2_with fail)
  clear p0 p1 p2 p3 p4 p5
  refine (H1.out _ _ (rowP_2 L.b0) L.below).mono ?_
  rintro e w1 ⟨v2, rfl, ii, be⟩
  obtain ⟨A8, c8, B8, d8, rfl, ia, ib⟩:=ii.form
  replace L:=(((L.step be).n ib).n ia).swap
  clear be ii ia ib
  obtain ⟨c00,c01,c02,c03,c04,c05⟩:=L.b0.a6
  obtain ⟨f00,f01,f02,f03,f04,f05⟩:=L.b0.f6
  go_wp2_with fail
  have LP:=L.putI (by omega) (by first | (simp; done) | (simp; omega)) (ng Ma) A8 (zl Ma) c8 Ea (ng Na) B8 (zl Na) d8 Fa
  obtain ⟨k0,k1,k2,k3,k4,k5⟩:=LP.b0.a6
  unfold put6 at k0 k1 k2 k3 k4 k5
  exact bodyPost_ret (v:=.tuple #[.agg #[.bool (ng Ma), .slice A8 (zl Ma) c8, .int .i64 Ea, .bool (ng Na), .slice B8 (zl Na) d8, .int .i64 Fa], .int .i64 0]) (by simp [results, Tryz.results28, go_sem, k0, k1, k2, k3, k4, k5]) rfl ⟨_, rfl, isI_n (LP.getN (by simp)) (LP.getN (by simp)), LP.below⟩

end Go.Proofs.YtmgbjldogggpcaaGreatDoor
