/- Texts side by side. -/
import Derived.Test.YtaeddnjjeholgaaGreatUgaw
set_option linter.unusedVariables false
set_option linter.unusedSimpArgs false
set_option maxRecDepth 100000
set_option maxHeartbeats 16000000
namespace Go.Proofs.YtaeddnjjeholgaaGreat
open Kap Go.ChangeShapes Go.WideShapes Go.ChangeAt Go.RowKit Mem
namespace Cfl
open Abv Tre Ref3 Law3 Fix3 Crd CrdB CrdC Cpl Own Res Rel Lim
variable {l:List (Int×Int)} {u:List Int} {c c':Nat} {A A':Option Addr} {w w':World}
open Cfr
structure RSt (l : List (Int × Int)) (u : List Int) : Prop where
  one : 1 ≤ l.length
  few : l.length ≤ 32
  len : u.length = l.length
  rt : rightF l u = true
  wn : WfN l
  wi : WfI u
theorem GoodSt.rs {l : List (Int × Int)} {u : List Int} (h : GoodSt l u) : RSt l u := ⟨h.one, h.few, h.len, h.right, h.wf, h.wfi⟩
theorem rst_begin {l : List (Int × Int)} (h : (chk l).1 = 0) (hw : WfN l) : RSt l (zeros l.length) := by
  have h1 : l.length ≤ 32 := by
    by_cases e : 32 < l.length
    · rw [chk, if_pos e] at h; cases h
    · omega
  have h2 : 1 ≤ l.length := by
    by_cases e : l.length = 0
    · rw [chk, if_neg (by omega), if_pos e] at h; cases h
    · omega
  have hz : UOk (zeros l.length) := fun i hi => by
    have : gI (zeros l.length) i = 0 := by
      simp only [gI, zeros, List.length_replicate] at hi ⊢
      simp [List.getD, hi]
    rw [this]; decide
  refine ⟨h2, h1, zeros_len _, ?_, hw, uok_wf hz⟩
  unfold rightF
  simp only [Bool.and_eq_true, decide_eq_true_eq]
  exact ⟨⟨h, zeros_len _⟩, all_of hz⟩
theorem limit_right(A A':Option Addr)(c c':Nat)(l:List (Int×Int))(u:List Int)(n x:Int)(w:World)(hl:Hid (Nds w w.heap.size A l))(hu:Hid (Ris w w.heap.size A' u))(hg:RSt l u)(hn:inI n)(hx0: -9223372036854775808≤x)(hx1:x≤9223372036854775807):
  Calls Tryz.prog 139 #[.agg #[.slice A l.length c,.slice A' u.length c'],.int .i64 n,.int .i64 x] w (MadeLimF (limL l n x) u (limF l n x) w):=by
 have hr:=κ hg.rt;have hw:=κ hg.wn;have hwu:=κ hg.wi;have g1:=hg.few;have g2:(l.length:Int)≤32:=by omega
 have g3:(u.length:Int)≤32:=by rw[hg.len];omega
 have HG:=κ hg;obtain⟨P,hP⟩:=ν (pathF l 3 n);have HP:=κ hP;have p1:P.length≤3:=by rw[hP];exact path_le3 _ _ _
 clear hP hg
 go_enter Tryz.func139,Tryz.ntmps139
 go_wp2_with fail
 refine(start_own A A' c c' l u w hl hu g2 g3).mono ?_;rintro e w1 ⟨A1,c1,A2,c2,rfl,hpre⟩;have f0:=χ (hpre.k3.cell 0);have f1:=χ (hpre.k3.cell 1);have z0:=hpre.k3.thaw 0;have z1:=hpre.k3.thaw 1;have how:=κ hpre.store;have FA:Hid (∀a,A1=some a→w.heap.size≤a.block):=fun a h=>by have:=Rsf.own_fresh hpre.o1 a h;omega
 have FB:Hid (∀a,A2=some a→w.heap.size≤a.block):=fun a h=>by have:=Rsf.own_fresh hpre.o2 a h;omega
 clear hpre hl hu
 go_wp2_with fail
 generalize (w1.setCell (α w.heap.size 0) (.slice A1 l.length c1)).setCell (α w.heap.size 1) (.slice A2 u.length c2)=W2 at how ⊢;clear f0 f1 z0 z1;refine(pathOf_any A1 A2 c1 c2 l u n W2 (Rd.of_own how.out.o1) (Rd.of_own how.out.o2) hw hwu (by omega) (by omega) hn hr.out).mono ?_;rintro e W3 ⟨A3,c3,rfl,hr3,hf3,hb3⟩;have HF3:=κ hf3;have hob:=κ how.out.o2;have hsz2:w.heap.size+2≤W2.heap.size:=how.out.k6.lt;rw[←HP.out]at hr3 ⊢;have HR:=κ hr3;have how3:=κ (how.out.below hb3);clear how hr3 hb3 hf3;have f0:=χ (how3.out.k3.cell 0);have f1:=χ (how3.out.k3.cell 1);have r0:=χ (how3.out.k6.cell 0);have r1:=χ (how3.out.k6.cell 1);have y0:=how3.out.k6.thaw 0;have y1:=how3.out.k6.thaw 1;by_cases hp0:P.length=0
 ·have q0:((P.length:Int)==0)=true:=beq_iff_eq.2 (by omega);have hout:=(path_none n).1 (by rw[←HP.out];exact hp0);have hres:Hid (limF l n x=18):=by show _=_;rw[limF,hout];rfl
  have hresu:Hid (limL l n x=l):=by show _=_;rw[limL,hres.out];rfl
  obtain⟨t1,t2,t3,t4,t5⟩:=fin_st how3.out.o1 how3.out.o2 how3.out.k6 (by omega) (by omega) how3.out.bl (.slice A1 l.length c1) (.slice A2 u.length c2);have T1:=κ t1;have T2:=κ t2;clear t1 t2 hp0 hout
  go_wp2_with fail
  exact bodyPost_ret (v:= .tuple #[.agg #[.slice A1 l.length c1,.slice A2 u.length c2],ι 18]) (by simp[results,Tryz.results139,go_sem,t4,t5]) rfl (madeLimF_mk FA.out FB.out hresu.out hres.out T1.out T2.out t3)
 have q0:((P.length:Int)==0)=false:=beq_eq_false_iff_ne.2 (by omega)
 have hin:Hid (inR l.length n=true):=by
  show _=_;cases hh:inR l.length n with
  |true=>rfl
  |false=>exact absurd (by rw[HP.out];exact(path_none n).2 hh) hp0
 obtain⟨hn0,hn1⟩:=inR_of hin.out;clear hp0;by_cases hx:x<0∨4611686018427387904<x
 ·have hres:Hid (limF l n x=1):=by show _=_;rw[limF,if_pos hin.out,if_pos hx]
  have hresu:Hid (limL l n x=l):=by show _=_;rw[limL,hres.out];rfl
  obtain⟨t1,t2,t3,t4,t5⟩:=fin_st how3.out.o1 how3.out.o2 how3.out.k6 (by omega) (by omega) how3.out.bl (.slice A1 l.length c1) (.slice A2 u.length c2);have T1:=κ t1;have T2:=κ t2;clear t1 t2;by_cases hx0:x<0
  ·clear hx
   go_wp2_with fail
   exact bodyPost_ret (v:= .tuple #[.agg #[.slice A1 l.length c1,.slice A2 u.length c2],ι 1]) (by simp[results,Tryz.results139,go_sem,t4,t5]) rfl (madeLimF_mk FA.out FB.out hresu.out hres.out T1.out T2.out t3)
  ·have hx2:4611686018427387904<x:=by omega
   clear hx
   go_wp2_with fail
   exact bodyPost_ret (v:= .tuple #[.agg #[.slice A1 l.length c1,.slice A2 u.length c2],ι 1]) (by simp[results,Tryz.results139,go_sem,t4,t5]) rfl (madeLimF_mk FA.out FB.out hresu.out hres.out T1.out T2.out t3)
 have hres:Hid (limF l n x=0):=by show _=_;rw[limF,if_pos hin.out,if_neg hx]
 have hresu:Hid (limL l n x=l.set n.toNat (nP l n.toNat,x)):=by show _=_;rw[limL,hres.out];rfl
 have hx0:0≤x:=by omega
 have hx2:x≤4611686018427387904:=by omega
 have hnl:n.toNat<l.length:=by omega
 clear hx;obtain⟨g1',rfl,hg1a,hg1b,_,hc1,hs1⟩:=own_at2 how3.out.o1 (by have:=HG.out.one;omega);obtain⟨d1,d2,d3⟩:=hc1 n.toNat hnl;have hsm:=hs1 n.toNat x hnl
 have o1':(W3.setCell (α g1' (n.toNat*2+1)) (ι x)).ownsRow (w.heap.size+2) 102 2 (.slice (some (α g1' 0)) (l.set n.toNat (nP l n.toNat,x)).length c1) (l.set n.toNat (nP l n.toNat,x)).length (nds (l.set n.toNat (nP l n.toNat,x))):=by
  rw[List.length_set];exact hsm
 have o2':=own_other how3.out.o2 how3.out.o1 (by decide) (n.toNat*2+1) (ι x);have k6':=blk_far how3.out.k6 (p:=(α g1' (n.toNat*2+1))) (by simp;omega) (ι x);have k3':=blk_far how3.out.k3 (p:=(α g1' (n.toNat*2+1))) (by simp;omega) (ι x);have bl':=how3.out.bl.setCell (p:=(α g1' (n.toNat*2+1))) (by simp;omega) (ι x);obtain⟨t1,t2,t3,t4,t5⟩:=fin_st o1' o2' k6' (by omega) (by omega) bl' (.slice (some ⟨g1',0,none⟩) l.length c1) (.slice A2 u.length c2);have v0:=χ (k3'.cell 0);have v1:=χ (k3'.cell 1);have s0:=χ (k6'.cell 0);have s1:=χ (k6'.cell 1);have T1:=κ t1;have T2:=κ t2;have hend:=κ (madeLimF_mk (c:=c1) (c':=c2) FA.out FB.out hresu.out hres.out T1.out T2.out t3);rw[List.length_set]at hend;clear t1 t2 o1' o2' k6' k3' hsm hc1 hs1
 go_wp2_with fail
 exact bodyPost_ret (v:= .tuple #[.agg #[.slice (some (α g1' 0)) l.length c1,.slice A2 u.length c2],ι 0]) (by simp[results,Tryz.results139,go_sem,t4,t5]) rfl hend.out
end Cfl
namespace Gli
open Lat Lax Go.Lib Cel Bkp Bks Wpl Hpa Gpl Mdp Cfg Gow Gac Gat Gup Gex Gth Gmz Gsn Gsm Grf
theorem MadeT.from {base g0 g : Nat} {ρ ρ1 : Nat → Nat} {q : Gq} {gp gp1 : Option Nat} {w w1 w' : World} {v : Value} {G : Gp} {a' : Ap} {e : Ending} (h : MadeT base ρ1 q g0 g gp1 w1 v G a' e w') (f : Fs (· = g + 8) ρ w ρ1 w1) (hg : gp1 = gp) : MadeT base ρ q g0 g gp w v G a' e w' := by
  obtain ⟨he, ρ', r', f', hG, hA, hp⟩ := h
  exact ⟨he, ρ', r', f.trans f', hG, hA, hp.trans hg⟩
theorem limF_in {l : List (Int × Int)} {z v : Int} (h : Cpl.limF l z v = 0) : 0 ≤ z ∧ z < l.length := by
  unfold Cpl.limF at h
  split at h
  · rename_i h1; exact Tre.inR_of h1
  · omega
def limA (G : Gp) (a : Ap) (z v : Int) : Ap := if Cpl.limF G.nd z v = 0 then thenA a [.one (.take (ndL G z)), .aft (.store (capW z) v) .mark, .one (.free (ndL G z))] else thenA a [.one (.load 0 (.look a.place (.refuse (Cpl.limF G.nd z v))))]
theorem limA_t {G : Gp} {a : Ap} {z v : Int} (h : Cpl.limF G.nd z v = 0) : limA G a z v = thenA a [.one (.take (ndL G z)), .aft (.store (capW z) v) .mark, .one (.free (ndL G z))] := if_pos h
theorem limA_f {G : Gp} {a : Ap} {z v c : Int} (h : c = Cpl.limF G.nd z v) (h' : ¬ c = 0) : limA G a z v = thenA a [.one (.load 0 (.look a.place (.refuse c)))] := by subst h; exact if_neg h'
theorem limit_any (base : Nat) (ρ : Nat → Nat) (q : Gq) (r : Aq) (g0 g : Nat) (z v : Int) (G : Gp) (a : Ap) (w : World) (HG : Hid (Gt base ρ w g0 q G)) (ha : Hid (Ac ρ w g0 g r a)) (hmax : a.todo.length ≤ 100000) (HGS : Hid (Cfl.RSt G.nd (CrdC.zeros G.nd.length))) (hnl : G.nd.length ≤ 400) (hz : inI z) (hv : inI v) (s0 : 0 ≤ G.sh) (s1 : G.sh ≤ 1000) :
    Calls Tryz.prog 85 #[pv g, .int .i64 z, .int .i64 v] w (MadeT base ρ q g0 g r.gp w (.tuple #[]) G (limA G a z v)) := by
  have hmf := Gmk.make_f
  obtain ⟨lc, hlc⟩ : ∃ x, x = Cpl.limF G.nd z v := ⟨_, rfl⟩
  have HLC := κ hlc
  have hgs := HGS.out
  have hlim := fun (A A' : Option Addr) (c c' : Nat) (W : World) hl hu => Cfl.limit_right A A' c c' G.nd (CrdC.zeros G.nd.length) z v W hl hu hgs hz hv.1 hv.2
  rw [← hlc] at hlim
  clear hlc
  go_enter Tryz.func85, Tryz.ntmps85
  have z1 := HG.out.new
  have z2 := new_alloc (o := .cells #[pv g] 46) z1
  have z3 := new_alloc (o := .cells #[pv g0] 36) z2
  have c0 := Ac.c0 (Ac.ext ha.out (β (w) (.cells #[pv g] 46)))
  have b4 : Below w.heap.size w (((w).alloc (.cells #[pv g] 46)).alloc (.cells #[pv g0] 36)) := (below_step (β (w) (.cells #[pv g] 46)) (β ((w).alloc (.cells #[pv g] 46)) (.cells #[pv g0] 36)))
  have K5 : Hid (B1 ρ (((w).alloc (.cells #[pv g] 46)).alloc (.cells #[pv g0] 36)) (w.heap.size) 46 #[pv g]) := κ (B1.ext (B1.mk (b := w.heap.size) (te := 46) (cs := #[pv g]) z1 (by simp)) (β ((w).alloc (.cells #[pv g] 46)) (.cells #[pv g0] 36)))
  have K6 : Hid (B1 ρ (((w).alloc (.cells #[pv g] 46)).alloc (.cells #[pv g0] 36)) (w.heap.size + 1) 36 #[pv g0]) := κ (B1.mk (b := w.heap.size + 1) (te := 36) (cs := #[pv g0]) z2 (by simp))
  have H7 := κ (Gt.ext HG.out b4)
  have H8 := κ (Ac.ext ha.out b4)
  go_upto_region 2 with fail
  obtain ⟨g9, e10⟩ : ∃ x, x = w.heap.size + 1 := ⟨_, rfl⟩
  obtain ⟨g11, e12⟩ : ∃ x, x = w.heap.size := ⟨_, rfl⟩
  simp only [← e10] at K5 K6 ⊢
  simp only [← e12] at K5 K6 ⊢
  clear e10 e12
  have F13 : Hid (Fs (· = g + 8) ρ w ρ (((w).alloc (.cells #[pv g] 46)).alloc (.cells #[pv g0] 36))) := κ (Fs.quiet b4)
  generalize ((w).alloc (.cells #[pv g] 46)).alloc (.cells #[pv g0] 36) = w1 at H7 H8 K6 K5 F13 ⊢
  have k0 := K6.out.1.cell 0
  simp at k0
  have c4 := Gt.c4 H7.out
  go_wp2_with fail
  refine (Cfr.begin_fresh q.A q.c G.nd w1 (κ H7.out.nds.1) (by omega)).mono ?_
  rintro e w2 ⟨A2, n2, A3, n3, rfl, hn2, hu2, hb2, -, -⟩
  have H14 := κ (Gt.ext H7.out hb2)
  have H15 := κ (Ac.ext H8.out hb2)
  have H16 := κ (B1.ext K6.out hb2)
  have H17 := κ (B1.ext K5.out hb2)
  have F18 := κ (F13.out.trans (Fs.quiet hb2))
  have hn2 := κ hn2
  have hu2 := κ hu2
  clear k0 c4
  go_wp2_with fail
  refine (hlim A2 A3 n2 n3 w2 hn2 hu2).mono ?_
  rintro e w3 ⟨A4, n4, A5, n5, rfl, hn4, hu4, hb3, -, -⟩
  have H19 := κ (Gt.ext H14.out hb3)
  have H20 := κ (Ac.ext H15.out hb3)
  have H21 := κ (B1.ext H16.out hb3)
  have H22 := κ (B1.ext H17.out hb3)
  have F23 := κ (F18.out.trans (Fs.quiet hb3))
  have hb4 := β w3 (.cells #[.slice A4 (Cpl.limL G.nd z v).length n4, .slice A5 (CrdC.zeros G.nd.length).length n5] 194)
  have H24 := κ (Gt.ext H19.out hb4)
  have H25 := κ (Ac.ext H20.out hb4)
  have H26 := κ (B1.ext H21.out hb4)
  have H27 := κ (B1.ext H22.out hb4)
  have F28 := κ (F23.out.trans (Fs.quiet hb4))
  clear hn2 hu2 hn4 hu4 hlim hgs
  go_upto_region 3 with fail
  generalize (w3.alloc (.cells #[.slice A4 (Cpl.limL G.nd z v).length n4, .slice A5 (CrdC.zeros G.nd.length).length n5] 194)) = w4 at H24 H25 H26 H27 F28 ⊢
  by_cases hl0 : lc = 0
  case neg =>
    have k0 := H27.out.1.cell 0
    simp at k0
    have t0 : (lc == 0) = false := by simpa using hl0
    go_wp2_with fail
    refine (refuse_any base ρ q r g0 g lc G a w4 H24 H25 hmax).mono ?_
    rintro e w5 hT
    have hT := κ hT
    obtain ⟨rfl, _⟩ := hT.out
    go_wp2_with fail
    exact bodyPost_ret (v := .tuple #[]) (by simp [results, Tryz.results85, go_sem]) rfl (by rw [limA_f HLC.out hl0]; exact MadeT.from hT.out F28.out rfl)
  case pos =>
    have hz0 := limF_in (HLC.out.symm.trans hl0)
    have t0 : (lc == 0) = true := by simpa using hl0
    go_upto_region 6 with fail
    have b29 : Below w4.heap.size w4 w4.drew := (Below.refl _ _).drew
    have H30 := κ (Gt.ext H24.out b29)
    have H31 := κ (Ac.ext H25.out b29)
    have H32 := κ (B1.ext H26.out b29)
    have H33 := κ (B1.ext H27.out b29)
    have F34 := κ (F28.out.trans (Fs.quiet b29))
    let T35 : World → Prop := fun w' => w'.cell? ⟨g11, 0, none⟩ = some (.pointer (some ⟨g, 0, none⟩)) ∧ w'.cell? ⟨g9, 0, none⟩ = some (.pointer (some ⟨g0, 0, none⟩))
    have P36 : Hid (T35 w4.drew) := κ ⟨(H33.out.1.cell 0), (H32.out.1.cell 0)⟩
    refine Ω T35 [] ?_
    generalize w4.drew = wd at H30 H31 H32 H33 F34 P36 ⊢
    refine jB 0 P36.out ?_
    refine jB 1 P36.out ?_
    refine jB 2 P36.out ?_
    refine jA 3 P36.out ?_
    refine jB 6 P36.out ?_
    refine jA 7 P36.out ?_
    refine jA 9 P36.out ?_
    refine jA 11 P36.out ?_
    refine jB 13 P36.out ?_
    refine jB 14 P36.out ?_
    refine jA 15 P36.out ?_
    refine jN 4 fun K' hK => ?_
    go_simp
    refine (nodeLatch_any base ρ q g0 z G wd H30 hz0.1 (by omega) s0 s1).mono ?_
    rintro e w9 ⟨rfl, rfl⟩
    refine hK.out _ _ P36.out ?_
    clear hK K'
    refine jP ?_
    refine jN 5 fun K' hK => ?_
    go_simp
    refine (take_acc g0 r.gp H30.out.new (ndL G z)).mono ?_
    rintro e w39 ⟨k37, cap38, rfl, i40, b41⟩
    have H42 := κ (Gt.ext H30.out b41)
    have H43 := κ (Ac.ext H31.out b41)
    have H44 := κ (B1.ext H32.out b41)
    have H45 := κ (B1.ext H33.out b41)
    have i40 := κ i40
    have F46 := κ (F34.out.trans (Fs.quiet b41))
    have P47 : Hid (T35 w39) := κ ⟨(H45.out.1.cell 0), (H44.out.1.cell 0)⟩
    refine hK.out _ _ P47.out ?_
    clear hK K'
    refine jP ?_
    refine jN 8 fun K' hK => ?_
    go_simp
    refine (capWord_any z w39 hz0.1 (by omega)).mono ?_
    rintro e w9 ⟨rfl, rfl⟩
    refine hK.out _ _ P47.out ?_
    clear hK K'
    refine jP ?_
    refine jN 10 fun K' hK => ?_
    go_simp
    refine (store_acc g0 r.gp H42.out.new (capW z) v).mono ?_
    rintro e w50 ⟨k48, cap49, rfl, i51, b52⟩
    have I53 := κ (IsAcc.ext i40.out b52)
    have H54 := κ (Gt.ext H42.out b52)
    have H55 := κ (Ac.ext H43.out b52)
    have H56 := κ (B1.ext H44.out b52)
    have H57 := κ (B1.ext H45.out b52)
    have i51 := κ i51
    have F58 := κ (F46.out.trans (Fs.quiet b52))
    have P59 : Hid (T35 w50) := κ ⟨(H57.out.1.cell 0), (H56.out.1.cell 0)⟩
    refine hK.out _ _ P59.out ?_
    clear hK K'
    refine jP ?_
    refine jN 12 fun K' hK => ?_
    go_simp
    refine (after_acc g0 r.gp H54.out.new (.store (capW z) v) .mark k48 141 cap49 #[pv g9, pv g11] i51.out (.inr ⟨_, _, rfl, H56.out, H57.out⟩)).mono ?_
    rintro e w62 ⟨k60, cap61, rfl, i63, b64⟩
    have I65 := κ (IsAcc.ext I53.out b64)
    have I66 := κ (IsAcc.ext i51.out b64)
    have H67 := κ (Gt.ext H54.out b64)
    have H68 := κ (Ac.ext H55.out b64)
    have H69 := κ (B1.ext H56.out b64)
    have H70 := κ (B1.ext H57.out b64)
    have i63 := κ i63
    have F71 := κ (F58.out.trans (Fs.quiet b64))
    have P72 : Hid (T35 w62) := κ ⟨(H70.out.1.cell 0), (H69.out.1.cell 0)⟩
    refine hK.out _ _ P72.out ?_
    clear hK K'
    refine jP ?_
    refine jN 16 fun K' hK => ?_
    go_simp
    refine (nodeLatch_any base ρ q g0 z G w62 H67 hz0.1 (by omega) s0 s1).mono ?_
    rintro e w9 ⟨rfl, rfl⟩
    refine hK.out _ _ P72.out ?_
    clear hK K'
    refine jP ?_
    refine jN 17 fun K' hK => ?_
    go_simp
    refine (free_acc g0 r.gp H67.out.new (ndL G z)).mono ?_
    rintro e w75 ⟨k73, cap74, rfl, i76, b77⟩
    have I78 := κ (IsAcc.ext I65.out b77)
    have I79 := κ (IsAcc.ext I66.out b77)
    have I80 := κ (IsAcc.ext i63.out b77)
    have H81 := κ (Gt.ext H67.out b77)
    have H82 := κ (Ac.ext H68.out b77)
    have H83 := κ (B1.ext H69.out b77)
    have H84 := κ (B1.ext H70.out b77)
    have i76 := κ i76
    have F85 := κ (F71.out.trans (Fs.quiet b77))
    have P86 : Hid (T35 w75) := κ ⟨(H84.out.1.cell 0), (H83.out.1.cell 0)⟩
    refine hK.out _ _ P86.out ?_
    clear hK K'
    refine jP ?_
    refine jN 18 fun K' hK => ?_
    go_simp
    have b88 := β (w75) (.cells #[(.func (.func k37) #[] cap38), (.func (.func k60) #[] cap61), (.func (.func k73) #[] cap74)] 126)
    have K89 := κ (Blk.fresh (w75) 126 #[(.func (.func k37) #[] cap38), (.func (.func k60) #[] cap61), (.func (.func k73) #[] cap74)])
    have H92 := κ (Gt.ext H81.out b88)
    have H93 := κ (Ac.ext H82.out b88)
    have H94 := κ (B1.ext H83.out b88)
    have H95 := κ (B1.ext H84.out b88)
    have L96 : Hid (Are (IsAcc ρ ((w75).alloc (.cells #[(.func (.func k37) #[] cap38), (.func (.func k60) #[] cap61), (.func (.func k73) #[] cap74)] 126)) g0 g r.gp) [.one (.take (ndL G z)), .aft (.store (capW z) v) .mark, .one (.free (ndL G z))] [(.func (.func k37) #[] cap38), (.func (.func k60) #[] cap61), (.func (.func k73) #[] cap74)]) := κ (.cons (IsAcc.ext I78.out b88) (.cons (IsAcc.ext I80.out b88) (.cons (IsAcc.ext i76.out b88) (.nil))))
    obtain ⟨g90, e91⟩ : ∃ x, x = w75.heap.size := ⟨_, rfl⟩
    simp only [← e91] at K89 ⊢
    clear e91
    have F97 := κ (F85.out.trans (Fs.quiet b88))
    generalize (w75).alloc (.cells #[(.func (.func k37) #[] cap38), (.func (.func k60) #[] cap61), (.func (.func k73) #[] cap74)] 126) = w87 at H92 H93 H94 H95 L96 K89 F97 ⊢
    have P98 : Hid (T35 w87) := κ ⟨(H95.out.1.cell 0), (H94.out.1.cell 0)⟩
    refine hK.out _ _ P98.out ?_
    clear hK K'
    refine jP ?_
    refine jN 19 fun K' hK => ?_
    go_simp
    refine (then_any base ρ q r g0 g g90 3 G a _ _ w87 H92 H93 K89 L96 (κ rfl) (by decide) (by omega)).mono ?_
    rintro e w101 ⟨rfl, ρ99, r100, f102, H103, H104, p105⟩
    have H106 := κ (B1.fs H94.out f102 (by omega))
    have H107 := κ (B1.fs H95.out f102 (by omega))
    have H103 := κ H103
    have H104 := κ H104
    have p105 := κ p105
    have F108 := κ (Fs.trans F97.out f102)
    have P109 : Hid (T35 w101) := κ ⟨(H107.out.1.cell 0), (H106.out.1.cell 0)⟩
    refine hK.out _ _ P109.out ?_
    clear hK K'
    refine jP ?_
    refine Δ ?_
    go_wp2_with fail
    exact bodyPost_ret (v := .tuple #[]) (by simp [results, Tryz.results85, go_sem]) rfl (by rw [limA_t (HLC.out.symm.trans hl0)]; exact ⟨rfl, ρ99, r100, F108.out, H103.out, H104.out, p105.out⟩)
end Gli
namespace Gpu
open Lat Lax Go.Lib Cel Bkp Bks Wpl Hpa Gpl Mdp Cfg Gow Gac Gat Gup Gex Gth Gmz
theorem wpL_three {P : Program} {ops : Array Oper} {Q : Exit → Act → World → Prop} {md : Region.Mode} {T : World → Prop} {st : List Nat} {m n l k : Nat} {om on ol : Oper} {up : Array Bool} {a : Act} {w : World} (hr : Region.ready md ops up = [m, n, l]) (hm : ops[m]? = some om) (hn : ops[n]? = some on) (hl : ops[l]? = some ol)
    (h1 : ∀ K : Act → World → Prop, Shut (∀ a w, T w → wpL P md ops Q T st k (up.setIfInBounds m true) a w → K a w) → if Region.wanted om (yielded ops a.tmps) = true then Oper.wp P om a w K Q else K (a.put om.dst undef) w)
    (h2 : ∀ K : Act → World → Prop, Shut (∀ a w, T w → wpL P md ops Q T st k (up.setIfInBounds n true) a w → K a w) → if Region.wanted on (yielded ops a.tmps) = true then Oper.wp P on a w K Q else K (a.put on.dst undef) w)
    (h3 : ∀ K : Act → World → Prop, Shut (∀ a w, T w → wpL P md ops Q T st k (up.setIfInBounds l true) a w → K a w) → if Region.wanted ol (yielded ops a.tmps) = true then Oper.wp P ol a w K Q else K (a.put ol.dst undef) w) :
    wpL P md ops Q T st (k + 1) up a w := by
  refine ⟨fun h0 => (by rw [h0] at hr; cases hr), ?_⟩
  rw [hr]
  intro j hj
  simp only [List.mem_cons, List.not_mem_nil, or_false] at hj
  rcases hj with rfl | rfl | rfl
  · exact wpOp_step hm (fun K hK => h1 K (fun a w hT hW => hK a w ⟨fun _ => hT, hW⟩))
  · exact wpOp_step hn (fun K hK => h2 K (fun a w hT hW => hK a w ⟨fun _ => hT, hW⟩))
  · exact wpOp_step hl (fun K hK => h3 K (fun a w hT hW => hK a w ⟨fun _ => hT, hW⟩))
section
variable {ρ : Nat → Nat} {w : World} {g0 g : Nat} {gp : Option Nat} {v : Value}
theorem IsDec.gq {d : Dec} (h : IsDec ρ w g0 g none d v) : IsDec ρ w g0 g gp d v := by
  cases d with
  | refuse c => exact h
  | ord1 c => exact h
  | ord2 o x s => obtain ⟨_, _, _, _, _, _, _, _, _, _, _, h, _⟩ := h; cases h.1
  | cancel id s => exact h
  | settle s x b => obtain ⟨_, _, _, _, _, _, _, _, _, _, _, _, _, _, _, h, _⟩ := h; cases h.1
  | sweep s ep pl => exact h
theorem IsSee.gq {d : See} (h : IsSee ρ w g0 g none d v) : IsSee ρ w g0 g gp d v := by
  cases d with
  | used n => obtain ⟨_, _, _, _, h, _⟩ := h; cases h.1
  | caps n => obtain ⟨_, _, _, _, h, _⟩ := h; cases h.1
  | look pl d => obtain ⟨b1, b2, b3, vd, h0, h1, h2, h3, h4⟩ := h; exact ⟨b1, b2, b3, vd, h0, h1, h2, h3, IsDec.gq h4⟩
  | kill => exact h
  | rearm => exact h
theorem IsDn.gq {d : Dn} (h : IsDn ρ w g0 g none d v) : IsDn ρ w g0 g gp d v := by cases d <;> exact h
theorem IsA0.gq {x : A0} (h : IsA0 ρ w g0 g none x v) : IsA0 ρ w g0 g gp x v := by
  cases x with
  | take l => exact h
  | free l => exact h
  | store l x => exact h
  | load a s => obtain ⟨b1, b2, b3, vs, h0, h1, h2, h3, h4⟩ := h; exact ⟨b1, b2, b3, vs, h0, h1, h2, h3, IsSee.gq h4⟩
theorem IsAcc.gq {x : Acc} (h : IsAcc ρ w g0 g none x v) : IsAcc ρ w g0 g gp x v := by
  cases x with
  | one x => exact IsA0.gq h
  | aft x d => obtain ⟨b1, b2, vx, vd, h0, h1, h2, h3, h4⟩ := h; exact ⟨b1, b2, vx, vd, h0, h1, h2, IsA0.gq h3, IsDn.gq h4⟩
end
theorem own_of_made {w : World} {gu n : Nat} (h : Blk w gu 2 (madeCells #[.int .i64 0] n)) (hn : n ≤ 1000) : w.ownsRow 0 2 1 (.slice (some ⟨gu, 0, none⟩) n n) n (ints (List.replicate n 0)) :=
  ⟨by simp [ints], .inr ⟨gu, n, _, rfl, Nat.zero_le _, h, Nat.le_refl _, by simp only [maxLen]; omega, by simpa using size_madeCells #[.int .i64 0] n, by
    rw [show (madeCells #[.int .i64 0] n).toList = ints (CrdC.zeros n) from CrdC.made_zeros n]
    show (ints (CrdC.zeros n)).take (n * 1) = ints (List.replicate n 0)
    rw [List.take_of_length_le (by simp [ints, CrdC.zeros])]
    rfl⟩⟩
def rhoP (ρ : Nat → Nat) (gp gu j : Nat) (v : Value) : Nat → Nat := fun k => if k = gp ∨ k = gu ∨ v.ownBlock = some k then j else ρ k
theorem Ac_purse {base : Nat} {ρ : Nat → Nat} {w w' : World} {g0 g i : Nat} {q : Gq} {G : Gp} {r : Aq} {a : Ap} (hG : Gt base ρ w g0 q G) (h : Ac ρ w g0 g r a) (hr : r.gp = none) (hnl : G.nd.length ≤ 1000) {gp cp cn gu B : Nat} {Ap An : Option Addr}
    (k1 : Blk w' gp 198 #[.int .i64 (gI G.ac i), .slice Ap (Tre.pathF G.nd 3 (gI G.ac i)).length cp, .slice An G.nd.length cn, .slice (some ⟨gu, 0, none⟩) G.nd.length G.nd.length]) (l1 : B ≤ gp) (lB : w.heap.size ≤ B) (k2 : Rd w' B Ap (ints (Tre.pathF G.nd 3 (gI G.ac i)))) (l2 : ∀ a, Ap = some a → w.heap.size ≤ a.block) (k3 : w'.ownsRow B 102 2 (.slice An G.nd.length cn) G.nd.length (nds G.nd)) (k4 : Blk w' gu 2 (madeCells #[.int .i64 0] G.nd.length)) (l4 : B ≤ gu) (hb : Below w.heap.size w w') :
    ∃ ρ' r', Fs No ρ w ρ' w' ∧ Gt base ρ' w' g0 q G ∧ Ac ρ' w' g0 g r' { a with pu := purseF G i } ∧ r'.gp = some gp := by
  have hge : ∀ k, (Value.slice An G.nd.length cn).ownBlock = some k → B ≤ k ∧ k < w'.heap.size := World.ownsRow.lt k3
  have ho : ∀ k, k < w.heap.size → rhoP ρ gp gu (g + 8) (.slice An G.nd.length cn) k = ρ k := by
    intro k hk
    unfold rhoP
    rw [if_neg]
    rintro (e | e | e)
    · omega
    · omega
    · have := (hge k e).1; omega
  have f : Fs No ρ w (rhoP ρ gp gu (g + 8) (.slice An G.nd.length cn)) w' := Fs.of_below hb ho fun N hN hc k => by
    have h1 := k1.lt
    have hg := h.blk.lt
    have hs := hb.size
    unfold rhoP
    split
    · omega
    · exact hc k
  have hz : ∀ k, w'.heap.size ≤ k → rhoP ρ gp gu (g + 8) (.slice An G.nd.length cn) k = 0 := by
    intro k hk
    have h1 := k1.lt
    have h4 := k4.lt
    have hs := hb.size
    unfold rhoP
    rw [if_neg]
    · exact hG.new k (by omega)
    · rintro (e | e | e)
      · omega
      · omega
      · have := (hge k e).2; omega
  have A := Ac.fs h f id id
  refine ⟨_, { r with gp := some gp, Ap := Ap, cp := cp, An := An, cn := cn, Au := some ⟨gu, 0, none⟩, cu := G.nd.length }, f, Gt.fs hG f hz (fun _ _ h => h), ⟨A.blk, A.own, A.tod, by have := A.acc; rw [hr] at this; exact this.mono fun x v k => IsAcc.gq k, ?_⟩, rfl⟩
  intro gp' hgp
  injection hgp with hgp
  subst hgp
  refine ⟨by simpa [puV, purseF] using k1, if_pos (.inl rfl), ⟨?_, ?_⟩, ?_⟩
  · rcases k2 with e | ⟨b, o, hA, hlt, hc⟩
    · exact .inl e
    · exact .inr ⟨b, o, hA, by have := k1.lt; omega, hc⟩
  · rcases k2 with e | ⟨b, o, hA, hlt, hc⟩
    · exact .inl e
    · refine .inr fun a ha => ?_
      have h2 := l2 a ha
      rw [hA] at ha
      injection ha with ha
      subst ha
      show rhoP ρ gp gu (g + 8) (.slice An G.nd.length cn) b = 0
      unfold rhoP
      rw [if_neg (fun e => e.elim (fun e => by omega) (fun e => e.elim (fun e => by omega) (fun e => by have := (hge b e).1; omega)))]
      exact hG.new _ h2
  · simp only [purseF, if_true]
    refine ⟨⟨CrdB.own_mono k3 (Nat.zero_le _), fun b hb => if_pos (.inr (.inr hb))⟩, ⟨by simpa using own_of_made k4 hnl, fun b hb => ?_⟩⟩
    injection hb with hb
    exact if_pos (.inr (.inl hb.symm))
end Gpu
end Go.Proofs.YtaeddnjjeholgaaGreat
