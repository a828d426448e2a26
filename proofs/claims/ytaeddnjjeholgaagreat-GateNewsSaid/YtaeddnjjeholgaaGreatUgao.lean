/- Texts side by side. -/
import Derived.Deep.WholeRow
import Derived.Test.YtaeddnjjeholgaaGreatUgah
import Derived.Test.YtaeddnjjeholgaaGreatUgam
set_option linter.unusedVariables false
set_option linter.unusedSimpArgs false
set_option maxRecDepth 100000
set_option maxHeartbeats 16000000
namespace Go.Proofs.YtaeddnjjeholgaaGreat
open Kap Mem
namespace Hpa
open Go.ChangeShapes Go.WideShapes Go.ChangeAt Go.RowKit Go.Lib Wpl
structure He where
  w : Int
  b : Int
  k : Int
  e : Int
  m : M
  sw : Bool
  sx : Int
  ex : Int
  c : Int
  d : Int
def he0 : He := ⟨0, 0, 0, 0, m0, false, 0, 0, 0, 0⟩
def hv (x : He) : List Value := [.int .i64 x.w, .int .i64 x.b, .int .i64 x.k, .int .i64 x.e] ++ (mvs x.m ++ [.bool x.sw, .int .i64 x.sx, .int .i64 x.ex, .int .i64 x.c, .int .i64 x.d])
def hrow (E : List He) : List Value := E.flatMap hv
def gH (E : List He) (i : Nat) : He := E.getD i he0
theorem hrow_len (E : List He) : (hrow E).length = E.length * 21 := by
  induction E with
  | nil => rfl
  | cons x t ih => simp only [hrow, List.flatMap_cons, List.length_append] at ih ⊢; rw [ih]; simp [hv, mvs]; omega
theorem hrow_get (E : List He) (i j : Nat) (hi : i < E.length) (hj : j < 21) : (hrow E)[i * 21 + j]? = (hv (gH E i))[j]? := by
  induction E generalizing i with
  | nil => simp at hi
  | cons x t ih =>
    have hx : (hv x).length = 21 := rfl
    show (hv x ++ hrow t)[i * 21 + j]? = _
    cases i with
    | zero => rw [List.getElem?_append_left (by rw [hx]; omega)]; simp [gH]
    | succ i =>
      rw [List.getElem?_append_right (by rw [hx]; omega), hx, show (i + 1) * 21 + j - 21 = i * 21 + j by omega, ih i (by simpa using hi)]
      simp [gH]
theorem hrow_snoc (E : List He) (x : He) : hrow (E ++ [x]) = hrow E ++ hv x := by simp [hrow]
def timB (b k e : Int) : Bool := !(decide (b < 0) || (k != 0 && decide (k ≤ b))) && (e == 0 || (k != 0 && decide (k ≤ e)))
def timE (x : He) : Bool := timB x.b x.k x.e
def okE (n : Int) (x : He) : Bool := decide (0 ≤ x.w) && (decide (x.w < n) && timE x)
def mkS (x : He) (s : List Int) : List Int := if x.k = 0 then s else x.k :: s
def rgt (n : Int) : List He → List Int → Bool
  | [], _ => true
  | x :: t, s => okE n x && (!(s.contains x.k) && rgt n t (mkS x s))
def rightF (n : Int) (E : List He) : Bool := decide (1 ≤ n) && (decide (n ≤ 8) && (decide ((E.length : Int) ≤ 65536) && rgt n E []))
abbrev hA (x : He) : Array Value := #[.int .i64 x.w, .int .i64 x.b, .int .i64 x.k, .int .i64 x.e, .int .i64 x.m.k, .int .i64 x.m.a, .int .i64 x.m.s, .bool x.m.x, .int .i64 x.m.p, .int .i64 x.m.q, .int .i64 x.m.n, .int .i64 x.m.t, .int .i64 x.m.i, .int .i64 x.m.y, .int .i64 x.m.z, .int .i64 x.m.v, .bool x.sw, .int .i64 x.sx, .int .i64 x.ex, .int .i64 x.c, .int .i64 x.d]
def H21 (w : World) (b o : Nat) (x : He) : Prop := w.cell? ⟨b, o, none⟩ = some (.int .i64 x.w) ∧ w.cell? ⟨b, o + 1, none⟩ = some (.int .i64 x.b) ∧ w.cell? ⟨b, o + 2, none⟩ = some (.int .i64 x.k) ∧ w.cell? ⟨b, o + 3, none⟩ = some (.int .i64 x.e) ∧ w.cell? ⟨b, o + 4, none⟩ = some (.int .i64 x.m.k) ∧ w.cell? ⟨b, o + 5, none⟩ = some (.int .i64 x.m.a) ∧ w.cell? ⟨b, o + 6, none⟩ = some (.int .i64 x.m.s) ∧ w.cell? ⟨b, o + 7, none⟩ = some (.bool x.m.x) ∧ w.cell? ⟨b, o + 8, none⟩ = some (.int .i64 x.m.p) ∧ w.cell? ⟨b, o + 9, none⟩ = some (.int .i64 x.m.q) ∧ w.cell? ⟨b, o + 10, none⟩ = some (.int .i64 x.m.n) ∧ w.cell? ⟨b, o + 11, none⟩ = some (.int .i64 x.m.t) ∧ w.cell? ⟨b, o + 12, none⟩ = some (.int .i64 x.m.i) ∧ w.cell? ⟨b, o + 13, none⟩ = some (.int .i64 x.m.y) ∧ w.cell? ⟨b, o + 14, none⟩ = some (.int .i64 x.m.z) ∧ w.cell? ⟨b, o + 15, none⟩ = some (.int .i64 x.m.v) ∧ w.cell? ⟨b, o + 16, none⟩ = some (.bool x.sw) ∧ w.cell? ⟨b, o + 17, none⟩ = some (.int .i64 x.sx) ∧ w.cell? ⟨b, o + 18, none⟩ = some (.int .i64 x.ex) ∧ w.cell? ⟨b, o + 19, none⟩ = some (.int .i64 x.c) ∧ w.cell? ⟨b, o + 20, none⟩ = some (.int .i64 x.d)
theorem run_ld (W : World) (a : Addr) (cs : List Value) (k : Nat) (hk : cs.length = k) (h : ∀ j v, cs[j]? = some v → W.cell? (a.add j) = some v) : Sem.run Tryz.prog (loadCellsFrom a 0 k #[]) W = .ok cs.toArray W := by
  have := run_loadCells_list (P := Tryz.prog) (w := W) a cs h
  rw [hk] at this
  simpa [loadCells] using this
theorem H21.load {w : World} {b o : Nat} {x : He} (h : H21 w b o x) : (loadCellsFrom ⟨b, o, none⟩ 0 21 #[]).run Tryz.prog w = .ok (hA x) w := by
  have e : (hA x) = (hv x).toArray := rfl
  rw [e]
  obtain ⟨f0, f1, f2, f3, f4, f5, f6, f7, f8, f9, f10, f11, f12, f13, f14, f15, f16, f17, f18, f19, f20⟩ := h
  refine run_ld _ _ (hv x) 21 rfl fun i v hi => ?_
  have ha : (⟨b, o, none⟩ : Addr).add i = ⟨b, o + i, none⟩ := by unfold Addr.add; split <;> simp_all
  rw [ha]
  match i, hi with
  | 0, hi => cases hi; exact f0
  | 1, hi => cases hi; exact f1
  | 2, hi => cases hi; exact f2
  | 3, hi => cases hi; exact f3
  | 4, hi => cases hi; exact f4
  | 5, hi => cases hi; exact f5
  | 6, hi => cases hi; exact f6
  | 7, hi => cases hi; exact f7
  | 8, hi => cases hi; exact f8
  | 9, hi => cases hi; exact f9
  | 10, hi => cases hi; exact f10
  | 11, hi => cases hi; exact f11
  | 12, hi => cases hi; exact f12
  | 13, hi => cases hi; exact f13
  | 14, hi => cases hi; exact f14
  | 15, hi => cases hi; exact f15
  | 16, hi => cases hi; exact f16
  | 17, hi => cases hi; exact f17
  | 18, hi => cases hi; exact f18
  | 19, hi => cases hi; exact f19
  | 20, hi => cases hi; exact f20
  | k + 21, hi => exact absurd hi (by simp [hv, mvs])
theorem hrow_one (E : List He) : ∀ u ∈ hrow E, u.oneCell' = true := by
  intro u hu
  simp only [hrow, List.mem_flatMap] at hu
  obtain ⟨e, _, he⟩ := hu
  simp only [hv, mvs, List.cons_append, List.nil_append, List.mem_cons, List.not_mem_nil, or_false] at he
  rcases he with rfl | rfl | rfl | rfl | rfl | rfl | rfl | rfl | rfl | rfl | rfl | rfl | rfl | rfl | rfl | rfl | rfl | rfl | rfl | rfl | rfl <;> rfl
end Hpa
namespace Bkg
open Abv Go.ChangeShapes Go.WideShapes Go.ChangeAt Go.RowKit Tre Ref3 Law3 CrdB CrdC Bkp Bks Bkf Stk
def findE(l:List En)(k:Int):En:=if posE l k<l.length then gE l (posE l k) else en0
end Bkg
namespace Bkw
open Abv Go.ChangeShapes Go.WideShapes Go.ChangeAt Go.RowKit Tre Ref3 Law3 Crd CrdB CrdC Rr4 Bkp Bks Bkf Bcl Dlk Stk Apt Bko Bku Bka Bkc Bkq
variable {b:Bk} {ca sh:Int} {op:List En} {ids:List Int} {rl:List Rc} {rows:List Ro} {base c ci co cr d gB gZ ni no nr:Nat} {A Ai Ao Ar C:Option Addr} {w w' w0:World}
theorem infoN:(Tryz.prog.info? 3).map (fun i=>(i.zero,i.size,i.bytes))=some (some (.int .i64 0),1,8):=by kernel_rfl
def swC(ep:Int)(e:En):Bool:=decide (e.st=1)&&decide (e.ep≤ep)
def swE(ep:Int)(e:En):En:=if swC ep e=true then setS e 2 else e
def swI(ep:Int)(l:List En):List Int:=(l.filter (swC ep)).map En.id
def sweepF(b:Bk)(ep:Int):Bk:=⟨b.sh,b.ca,b.rows,b.op.map (swE ep)⟩
def swO(ep:Int)(op:List En)(i:Nat):List En:=(op.take i).map (swE ep)++op.drop i
theorem swO_len(ep:Int)(op:List En)(i:Nat):(swO ep op i).length=op.length:=by
 unfold swO;rw[List.length_append,List.length_map,List.length_take,List.length_drop];omega
theorem swO_get(ep:Int)(op:List En)(i:Nat)(hi:i<op.length):gE (swO ep op i) i=gE op i:=by
 unfold swO gE;rw[List.getD,List.getElem?_append_right (by rw[List.length_map,List.length_take];omega),List.length_map,List.length_take,List.getElem?_drop];simp only[List.getD]
 congr 2
 omega
theorem swO_succ(ep:Int)(op:List En)(i:Nat)(hi:i<op.length):swO ep op (i+1)=(op.take i).map (swE ep)++swE ep (gE op i) :: op.drop (i+1):=by
 unfold swO
 have e:op.take (i+1)=op.take i++[gE op i]:=by
  rw[List.take_succ_eq_append_getElem hi];simp[gE,hi]
 rw[e,List.map_append,List.append_assoc]
 rfl
theorem swO_no(ep:Int)(op:List En)(i:Nat)(hi:i<op.length)(h:swC ep (gE op i)=false):swO ep op (i+1)=swO ep op i:=by
 rw[swO_succ _ _ _ hi];unfold swO swE;rw[h,if_neg (by decide)]
 congr 1
 rw[List.drop_eq_getElem_cons hi];simp[gE,hi]
theorem swO_yes(ep:Int)(op:List En)(i:Nat)(hi:i<op.length)(h:swC ep (gE op i)=true):swO ep op (i+1)=(swO ep op i).set i (setS (gE op i) 2):=by
 rw[swO_succ _ _ _ hi];have e2:swE ep (gE op i)=setS (gE op i) 2:=by unfold swE;rw[if_pos h]
 rw[e2];unfold swO;rw[List.set_append_right _ _ (by rw[List.length_map,List.length_take];omega),List.length_map,List.length_take,show i-min i op.length=0 by omega,List.drop_eq_getElem_cons hi]
 rfl
theorem swI_succ(ep:Int)(op:List En)(i:Nat)(hi:i<op.length):swI ep (op.take (i+1))=swI ep (op.take i)++(if swC ep (gE op i)=true then [(gE op i).id] else []):=by
 have e:op.take (i+1)=op.take i++[gE op i]:=by
  rw[List.take_succ_eq_append_getElem hi];simp[gE,hi]
 unfold swI;rw[e,List.filter_append,List.map_append]
 congr 1
 split
 ·rename_i h;simp[h]
 ·rename_i h;simp[h]
theorem swO_all(ep:Int)(op:List En):swO ep op op.length=op.map (swE ep):=by simp[swO]
theorem swI_le(ep:Int)(l:List En):(swI ep l).length≤l.length:=by
 unfold swI;rw[List.length_map];exact List.length_filter_le _ _
structure Sw(w0 w:World)(gB gZ:Nat)(sh ca:Int)(Ar Ao:Option Addr)(nr cr no co:Nat)(rl:List Rc)(rows:List Ro)(op:List En)(Ai:Option Addr)(ni ci:Nat)(ids:List Int):Prop where
 kB:Blk w gB 63 #[.int .i64 sh,.int .i64 ca,.slice Ar nr cr,.slice Ao no co]
 kR:Blk w gZ 63 #[.int .i64 0,.int .i64 0,.slice none 0 0,.slice none 0 0]
 bo:Bo w0.heap.size w Ar Ao cr co rl ⟨sh,ca,rows,op⟩
 ids:w.ownsRow w0.heap.size 3 1 (.slice Ai ni ci) ni (ints ids)
 b:Below w0.heap.size w0 w
theorem Bo_below(h:Bo base w A C c d rl b)(hb:Below w.heap.size w w'):Bo base w' A C c d rl b:=
 ⟨own_below h.r hb,own_below h.o hb,h.e,fun k hk=>own_below (h.own k hk) hb,h.ap⟩
theorem Bo_grown(h:Bo base w A C c d rl b){b2 s2 n2:Nat}{e2:TypeId}{v2:Value}{x2:List Value}(k:w.ownsRow b2 e2 s2 v2 n2 x2)(h1:165≠e2)(h2:162≠e2)(h3:2≠e2)(hg:w.grownBy w' v2.ownBlock):Bo base w' A C c d rl b:=
 ⟨own_grown h.r k h1 hg,own_grown h.o k h2 hg,h.e,fun j hj=>own_grown (h.own j hj) k h3 hg,h.ap⟩
theorem Sw_below(h:Sw w0 w gB gZ sh ca Ar Ao nr cr no co rl rows op Ai ni ci ids)(hb:Below w.heap.size w w'):Sw w0 w' gB gZ sh ca Ar Ao nr cr no co rl rows op Ai ni ci ids:=
 ⟨Blk.below' h.kB hb,Blk.below' h.kR hb,Bo_below h.bo hb,own_below h.ids hb,below_step h.b hb⟩
theorem Sw_set{go:Nat}(h:Sw w0 w gB gZ sh ca Ar (some ⟨go,0,none⟩) nr cr no co rl rows op Ai ni ci ids)(i:Nat)(hi:i<op.length):
  Sw w0 (w.setCell ⟨go,i*11+9,none⟩ (.int .i64 2)) gB gZ sh ca Ar (some ⟨go,0,none⟩) nr cr no co rl rows (op.set i (setS (gE op i) 2)) Ai ni ci ids:=by
 obtain⟨s1,g1⟩:=World.ownsRow.stored h.bo.o (i*11+9) (.int .i64 2);exact⟨blk_own_grown h.kB h.bo.o (by decide) g1,blk_own_grown h.kR h.bo.o (by decide) g1,Bo_setE h.bo (i*11+9) _ _ (by simp) (ens_setS _ _ hi _),own_grown h.ids h.bo.o (by decide) g1,h.b.setCell (p:=(α go (i*11+9))) (own_fresh h.bo.o (α go 0) rfl) _⟩
theorem Sw_app(h:Sw w0 w gB gZ sh ca Ar Ao nr cr no co rl rows op Ai ni ci ids){A':Option Addr}{n' c':Nat}{x:Int}
  (ho:w'.ownsRow w0.heap.size 3 1 (.slice A' n' c') n' (ints ids++[.int .i64 x]))(hg:w.grownBy w' (Value.slice Ai ni ci).ownBlock):Sw w0 w' gB gZ sh ca Ar Ao nr cr no co rl rows op A' n' c' (ids++[x]):=
 ⟨blk_own_grown h.kB h.ids (by decide) hg,blk_own_grown h.kR h.ids (by decide) hg,Bo_grown h.bo h.ids (by decide) (by decide) (by decide) hg,by rw[ints_snoc];exact ho,grown_below h.b h.ids hg τ h.b.size⟩
def MadeSw(b:Bk)(ids:List Int)(w:World)(e:Ending)(w':World):Prop:=
 ∃A C c d rl Ai ci,e= .returned (.tuple #[bkA A C c d b,.slice Ai ids.length ci])∧Bm w' A C rl b∧Fb w.heap.size A C rl∧Ris w' w'.heap.size Ai ids∧(∀a,Ai=some a→w.heap.size≤a.block)∧Below w.heap.size w w'
theorem sweep_any(sh ca:Int)(A C:Option Addr)(nr no c d:Nat)(rl:List Rc)(bk:Bk)(ep:Int)(w:World)(hsh:Hid (sh=bk.sh∧ca=bk.ca))(hnr:Hid (nr=bk.rows.length))(hno:Hid (no=bk.op.length))(hm:Hid (Bm w A C rl bk))(hf:Hid (FewB bk)):
  Calls Tryz.prog 171 #[.agg #[.int .i64 sh,.int .i64 ca,.slice A nr c,.slice C no d],.int .i64 ep] w (MadeSw (sweepF bk ep) (swI ep bk.op) w):=by
 obtain⟨i0,hi,hz0,hz1,hz2⟩:=info_parts infoN;have hl1:nr≤1000:=by rw[hnr.out];exact hf.out.rl
 have hl2:no≤1000:=by rw[hno.out];exact hf.out.ol
 have b0:=κ (γ w (.cells (vB sh ca A nr c C no d) 63) (.cells (vB 0 0 none 0 0 none 0 0) 63));have K0:=κ ((Blk.fresh w 63 (vB sh ca A nr c C no d)).alloc (.cells (vB 0 0 none 0 0 none 0 0) 63));have R0:=κ (δ (w.alloc (.cells (vB sh ca A nr c C no d) 63)) 63 (vB 0 0 none 0 0 none 0 0) (w.heap.size+1))
 go_enter Tryz.func171,Tryz.ntmps171
 go_upto_region 1 with fail
 generalize ((w.alloc (.cells (vB sh ca A nr c C no d) 63)).alloc (.cells (vB 0 0 none 0 0 none 0 0) 63))=w0 at b0 K0 R0 ⊢;obtain⟨gB,hgB⟩:=ν w.heap.size;obtain⟨gZ,hgR⟩:=ν (w.heap.size+1);have hBR:Hid (gZ≠gB):=by show _≠_;omega
 have hLB:Hid (w.heap.size≤gB):=by show _≤_;omega
 have hLR:Hid (w.heap.size≤gZ):=by show _≤_;omega
 have J1:=κ (ζ hgB K0.out);have J3:=κ (ζ hgR R0.out);simp only[←hgR];simp only[←hgB];clear hgB hgR K0 R0;obtain⟨k0,k1,k2,k3⟩:=q4_of J1.out;have HM:=κ (hm.out.below b0.out)
 go_wp2_with fail
 refine(own_any sh ca A C nr no c d rl bk _ hsh hnr hno HM hf).mono ?_;rintro e w2 ⟨Ar,Ao,cr,co,rl2,he,hbo,hb2⟩;have hbk:bkA Ar Ao cr co bk= .agg (vB sh ca Ar nr cr Ao no co):=by unfold bkA;rw[hnr.out,hno.out,hsh.out.1,hsh.out.2]
 rw[hbk]at he;subst he;have HBO:=κ (Bo_mono hbo b0.out.size);have HB2:=κ (below_step b0.out hb2);have L1:=κ (Blk.below' J1.out hb2);have L3:=κ (Blk.below' J3.out hb2);clear k0 k1 k2 k3 hb2 hbk hbo J1 J3 HM b0;obtain⟨k0,k1,k2,k3,f0,f1,f2,f3⟩:=z4_of L1.out;have B3:Hid (Bo w.heap.size ((((w2.setCell (α gB 0) (ι sh)).setCell (α gB 1) (ι ca)).setCell (α gB 2) (.slice Ar nr cr)).setCell (α gB 3) (.slice Ao no co)) Ar Ao cr co rl2 bk):=Bo_st4 HBO.out L1.out (by decide) (by decide) (by decide) _ _ _ _;have P1:Hid (Blk ((((w2.setCell (α gB 0) (ι sh)).setCell (α gB 1) (ι ca)).setCell (α gB 2) (.slice Ar nr cr)).setCell (α gB 3) (.slice Ao no co)) gB 63 (vB sh ca Ar nr cr Ao no co)):=st4_blk L1.out;have P3:Hid (Blk ((((w2.setCell (α gB 0) (ι sh)).setCell (α gB 1) (ι ca)).setCell (α gB 2) (.slice Ar nr cr)).setCell (α gB 3) (.slice Ao no co)) gZ 63 (vB 0 0 none 0 0 none 0 0)):=st4_far L3.out hBR.out;have B3b:Hid (Below w.heap.size w ((((w2.setCell (α gB 0) (ι sh)).setCell (α gB 1) (ι ca)).setCell (α gB 2) (.slice Ar nr cr)).setCell (α gB 3) (.slice Ao no co))):=st4_below HB2.out hLB.out
 go_upto_region 3 with fail
 clear k0 k1 k2 k3 f0 f1 f2 f3 L1 L3 HBO HB2;generalize ((((w2.setCell (α gB 0) (ι sh)).setCell (α gB 1) (ι ca)).setCell (α gB 2) (.slice Ar nr cr)).setCell (α gB 3) (.slice Ao no co))=w3 at B3 P1 P3 B3b ⊢;have SW0:Hid (Sw w w3 gB gZ sh ca Ar Ao nr cr no co rl2 bk.rows (swO ep bk.op 0) none 0 0 (swI ep (bk.op.take 0))):=⟨P1.out,P3.out,by have h:=B3.out;exact⟨h.r,h.o,h.e,h.own,h.ap⟩,World.ownsRow_nil _ _ _ _,B3b.out⟩;obtain⟨k0,k1,k2,k3⟩:=q4_of P1.out
 go_upto_region 4 with fail
 clear k0 k1 k2 k3 B3 P1 P3 B3b
 go_wp2_with fail
 go_loopg [6,14] no (fun g s6 s14 w'=> ∃(i:Nat) (Ai:Option Addr) (ni ci:Nat),i+g=no∧s6= .slice Ai ni ci∧s14= ι i∧Hid (ni=(swI ep (bk.op.take i)).length)∧Hid (Sw w w' gB gZ sh ca Ar Ao nr cr no co rl2 bk.rows (swO ep bk.op i) Ai ni ci (swI ep (bk.op.take i))))
 case atStart=>exact⟨0,none,0,0,by omega,rfl,rfl,rfl,SW0⟩
 case round=>
  clear SW0;obtain⟨i,Ai,ni,ci,hg0,rfl,rfl,HNI,SWi⟩:=hrel;by_cases hlt:i<no
  ·obtain⟨g,rfl⟩: ∃g,gk=g+1:=⟨gk-1,by omega⟩;have t0:decide ((i:Int)<(no:Int))=true:=by simp;omega
   have hio:i<bk.op.length:=by rw[←hno.out];exact hlt
   have HIO:=κ hio;have hol:(swO ep bk.op i).length=bk.op.length:=swO_len _ _ _;obtain⟨go,hgo⟩:=own_at SWi.out.bo.o (by show 0<(swO ep bk.op i).length;omega);subst hgo;obtain⟨_,_,hncap,_,hroom,hcell⟩:=own_room SWi.out.bo.o;have hco:no≤co:=by rw[hno.out,←hol];exact hncap
   have cs:=fun j (hj:j<11) v hv=>hcell (i*11+j) v ((ens_get (swO ep bk.op i) i j (by omega) hj).trans hv)
   rw[swO_get _ _ _ hio]at cs;obtain⟨E,hE⟩:=ν (gE bk.op i);rw[←hE]at cs;have HE:=κ hE;clear hE;obtain⟨id,⟨a,s,x,p,q',n,tt⟩,lf,st,ep'⟩:=E;have c0:=cs 0 (by decide) _ rfl;have c1:=cs 1 (by decide) _ rfl;have c2:=cs 2 (by decide) _ rfl;have c3:=cs 3 (by decide) _ rfl;have c4:=cs 4 (by decide) _ rfl;have c5:=cs 5 (by decide) _ rfl;have c6:=cs 6 (by decide) _ rfl;have c7:=cs 7 (by decide) _ rfl;have c8:=cs 8 (by decide) _ rfl;have c9:=cs 9 (by decide) _ rfl;have c10:=cs 10 (by decide) _ rfl;simp only[Nat.add_zero]at c0;clear cs hcell hroom;have U5:=κ (β wr (.cells (vE id a s x p q' n tt lf st ep') 162));have E5:=κ (Blk.fresh wr 162 (vE id a s x p q' n tt lf st ep'));have S5:=κ (Sw_below SWi.out U5.out);have hgE:Hid (go≠wr.heap.size):=by show _≠_;have:=World.ownsRow.lt SWi.out.bo.o go rfl;omega
   go_upto_region 6 with fail
   clear c0 c1 c2 c3 c4 c5 c6 c7 c8 c9 c10 U5 SWi;generalize wr.alloc (.cells (vE id a s x p q' n tt lf st ep') 162)=w5 at E5 S5 ⊢;generalize wr.heap.size=gE' at E5 hgE ⊢;obtain⟨e0,e1,e2,e3,e4,e5,e6,e7,e8,e9,e10⟩:=q11_of E5.out;by_cases hst:st=1
   ·have t1:(st==1)=true:=by simp[hst]
    by_cases hep:ep'≤ep
    ·have t2:decide (ep'≤ep)=true:=by simp[hep]
     have hC:swC ep (gE bk.op i)=true:=by rw[←HE.out];unfold swC;simp[hst,hep]
     have HO:=κ (swO_yes ep bk.op i hio hC);have HI2:=κ (swI_succ ep bk.op i hio);rw[hC,if_pos rfl,←HE.out]at HI2;have HID:Hid ((⟨id,⟨a,s,x,p,q',n,tt⟩,lf,st,ep'⟩:En).id=id):=rfl;rw[HID.out]at HI2;have hnl:ni≤1000:=by rw[HNI.out];have:=swI_le ep (bk.op.take i);rw[List.length_take]at this;omega
     clear hst hC;obtain⟨k0,k1,k2,k3⟩:=q4_of S5.out.kB;obtain⟨_,_,_,_,hroom,hcell⟩:=own_room S5.out.bo.o;have d9:=hcell (i*11+9) _ (ens_get (swO ep bk.op i) i 9 (by omega) (by decide));have g9:=(hroom (i*11+9) (by omega)).2;clear hroom hcell
     have S6:Hid (Sw w (w5.setCell (α go (i*11+9)) (ι 2)) gB gZ sh ca Ar (some (α go 0)) nr cr no co rl2 bk.rows (swO ep bk.op (i+1)) Ai ni ci (swI ep (bk.op.take i))):=by
      rw[HO.out,←swO_get ep bk.op i hio];exact Sw_set S5.out i (by omega)
     have E6:Hid (Blk (w5.setCell (α go (i*11+9)) (ι 2)) gE' 162 (vE id a s x p q' n tt lf st ep')):=far_st E5.out (fun e=>hgE.out e.symm) _
     go_upto_region 8 with fail
     clear k0 k1 k2 k3 d9 g9 e0 e1 e2 e3 e4 e5 e6 e7 e8 e9 e10 E5 S5 HO;generalize w5.setCell (α go (i*11+9)) (ι 2)=w6 at S6 E6 ⊢;obtain⟨e0,e1,e2,e3,e4,e5,e6,e7,e8,e9,e10⟩:=q11_of E6.out;obtain⟨ni1,hni1⟩:=ν (ni+1);have HN1:=κ hni1;clear hni1;have V0:=κ (β w6 (.cells #[ι id] 3));have V1:=κ (Sw_below S6.out V0.out);have V2:Hid (Rd (w6.alloc (.cells #[ι id] 3)) (w6.alloc (.cells #[ι id] 3)).heap.size (some (α w6.heap.size 0)) [ι id]):=rd_new rfl;have V3:=κ V1.out.b.size
     go_wp2_with (at_builtin;go_loud (refine wpList_appRG (nm:=ni1) (show Hid _ from V1.out.ids) V2 HN1.out rfl _ _ _ rfl i0 (.int .i64 0) 8 Tryz.underlying23 hi hz0 hz1 hz2 rfl (by decide) rfl rfl (by simp) (by simp[Value.oneCell']) (by unfold maxLen;omega) (by omega) V3.out ?_);intro A6 c6 w7 hown1 hgr1)
     have S7:=κ (Sw_app V1.out hown1.out hgr1);rw[←HI2.out]at S7;have HN7:Hid (ni1=(swI ep (bk.op.take (i+1))).length):=by show _=_;rw[HI2.out,List.length_append,HN1.out,HNI.out];rfl
     clear hgr1 hown1 V0 V1 V2 V3 e0 e1 e2 e3 e4 e5 e6 e7 e8 e9 e10 S6 E6 HI2
     go_roundg g
     case measure=>omega
     case rel=>exact⟨i+1,A6,ni1,c6,by omega,rfl,by rw[Int.natCast_add];rfl,HN7,S7⟩
    ·have t2:decide (ep'≤ep)=false:=by simp only[decide_eq_false_iff_not];exact hep
     have hC:swC ep (gE bk.op i)=false:=by rw[←HE.out];unfold swC;simp[hep]
     have HO:=κ (swO_no ep bk.op i hio hC);have HI2:=κ (swI_succ ep bk.op i hio);rw[hC,if_neg (by decide),List.append_nil]at HI2;have S7:Hid (Sw w w5 gB gZ sh ca Ar (some (α go 0)) nr cr no co rl2 bk.rows (swO ep bk.op (i+1)) Ai ni ci (swI ep (bk.op.take (i+1)))):=by rw[HO.out,HI2.out];exact S5.out
     have HN7:Hid (ni=(swI ep (bk.op.take (i+1))).length):=by show _=_;rw[HI2.out];exact HNI.out
     clear hC HO HI2
     go_wp2_with fail
     go_roundg g
     case measure=>omega
     case rel=>exact⟨i+1,Ai,ni,ci,by omega,rfl,by rw[Int.natCast_add];rfl,HN7,S7⟩
   ·have t1:(st==1)=false:=by simp[hst]
    have hC:swC ep (gE bk.op i)=false:=by rw[←HE.out];unfold swC;simp[hst]
    have HO:=κ (swO_no ep bk.op i hio hC);have HI2:=κ (swI_succ ep bk.op i hio);rw[hC,if_neg (by decide),List.append_nil]at HI2;have S7:Hid (Sw w w5 gB gZ sh ca Ar (some (α go 0)) nr cr no co rl2 bk.rows (swO ep bk.op (i+1)) Ai ni ci (swI ep (bk.op.take (i+1)))):=by rw[HO.out,HI2.out];exact S5.out
    have HN7:Hid (ni=(swI ep (bk.op.take (i+1))).length):=by show _=_;rw[HI2.out];exact HNI.out
    clear hC HO HI2
    go_wp2_with fail
    go_roundg g
    case measure=>omega
    case rel=>exact⟨i+1,Ai,ni,ci,by omega,rfl,by rw[Int.natCast_add];rfl,HN7,S7⟩
  ·have t0:decide ((i:Int)<(no:Int))=false:=by simp;omega
   have hin:i=no:=by omega
   have hall:Hid (swO ep bk.op i=bk.op.map (swE ep)):=by show _=_;rw[hin,hno.out];exact swO_all _ _
   have hids:Hid (swI ep (bk.op.take i)=swI ep bk.op):=by show _=_;rw[hin,hno.out,List.take_length]
   have S9:=SWi.out;rw[hall.out,hids.out]at S9;rw[hids.out]at HNI;have F3:Blk (st4 wr gZ (ι sh) (ι ca) (.slice Ar nr cr) (.slice Ao no co)) gZ 63 (vB sh ca Ar nr cr Ao no co):=st4_blk S9.kR
   have hfin:MadeSw (sweepF bk ep) (swI ep bk.op) w (.returned (.tuple #[.agg (vB sh ca Ar nr cr Ao no co),.slice Ai ni ci])) (st4 wr gZ (ι sh) (ι ca) (.slice Ar nr cr) (.slice Ao no co)):=by
    have hbo:=Bo_st4 S9.bo S9.kR (by decide) (by decide) (by decide) (ι sh) (ι ca) (.slice Ar nr cr) (.slice Ao no co);have hsw:sweepF bk ep=⟨sh,ca,bk.rows,bk.op.map (swE ep)⟩:=by unfold sweepF;rw[hsh.out.1,hsh.out.2]
    rw[hsw];refine⟨Ar,Ao,cr,co,rl2,Ai,ci,?_,hbo.bm,Bo_fb hbo,Rd.of_own (own_st4 S9.ids S9.kR (by decide)),own_fresh S9.ids,st4_below S9.b hLR.out⟩;unfold bkA;simp[hnr.out,hno.out,HNI.out]
   have HF:=κ hfin;obtain⟨k0,k1,k2,k3⟩:=q4_of S9.kB;obtain⟨z0,z1,z2,z3,f0,f1,f2,f3⟩:=z4_of S9.kR;clear hfin S9 SWi hin
   go_wp2_with fail
   obtain⟨d0,d1,d2,d3⟩:=q4_of F3;clear F3;unfold st4 at d0 d1 d2 d3 HF;exact bodyPost_ret (v:= .tuple #[.agg #[ι sh,ι ca,.slice Ar nr cr,.slice Ao no co],.slice Ai ni ci]) (by simp[results,Tryz.results171,go_sem,d0,d1,d2,d3]) rfl HF.out
end Bkw
namespace Gpl
open Go.Lib Bkp Bks Wpl Hpa Cel
def bk0 : Bk := ⟨0, 0, [], []⟩
def gB (l : List Bk) (i : Nat) : Bk := l.getD i bk0
structure Pu where
  leaf : Int
  path : List Int
  cl : List (Int × Int)
  cu : List Int
  fr : Bool
structure Gp where
  sh : Int
  wi : Int
  ra : Int
  ta : Int
  nd : List (Int × Int)
  ac : List Int
  sy : List (Int × Int × Int × Nat)
  bs : List Bk
  cs : S
  log : List He
  out : List (Int × Int)
  at' : List Int
  lp : List (Option Nat)
inductive Dec where
  | refuse (code : Int)
  | ord1 (code : Int)
  | ord2 (o : Od) (worth shard : Int)
  | cancel (id shard : Int)
  | settle (shard x : Int) (b : Bk)
  | sweep (shard ep place : Int)
inductive See where
  | used (n : Int)
  | caps (n : Int)
  | look (place : Int) (d : Dec)
  | kill
  | rearm
inductive Dn where
  | send (k i : Int)
  | mark
  | swp0 (ep : Int)
  | nop
  | swp1 (shard ep place n : Int)
  | settle (fill : Bool) (id y shard : Int)
inductive A0 where
  | take (l : Int)
  | free (l : Int)
  | store (a v : Int)
  | load (a : Int) (s : See)
inductive Acc where
  | one (a : A0)
  | aft (a : A0) (d : Dn)
structure Ap where
  who : Int
  place : Int
  todo : List Acc
  c : Int
  d : Int
  pu : Pu
def usedW (n : Int) : Int := 1 + 2 * n
def capW (n : Int) : Int := 1 + 2 * n + 1
def shL (s : Int) : Int := 2 + s
def ndL (g : Gp) (n : Int) : Int := 2 + g.sh + n
def offW (v : Int) : Bool := decide (v % 2 = 1)
def epW (v : Int) : Int := v / 2
def wordF (ep : Int) (off : Bool) : Int := if off = true then 2 * ep + 1 else 2 * ep
def beginG (g : Gp) (w : Int) (m : M) (sw : Bool) (sx ex : Int) : Gp := { g with log := g.log ++ [⟨w, g.cs.t, 0, 0, m, sw, sx, ex, 0, 0⟩] }
def markG (g : Gp) (p : Int) : Gp := { g with log := g.log.set p.toNat { gH g.log p.toNat with k := g.cs.t } }
def endG (g : Gp) (p c d : Int) : Gp := { g with log := g.log.set p.toNat { gH g.log p.toNat with e := g.cs.t, c := c, d := d } }
def thenA (a : Ap) (l : List Acc) : Ap := { a with todo := a.todo ++ l }
def takes (g : Gp) (l : List Int) : List Acc := l.map fun n => .one (.take (ndL g n))
def frees (g : Gp) (l : List Int) : List Acc := l.map fun n => .one (.free (ndL g n))
def seeU (l : List Int) : List Acc := l.map fun n => .one (.load (usedW n) (.used n))
def seeC (l : List Int) : List Acc := l.map fun n => .one (.load (capW n) (.caps n))
def putU (p : Pu) : List Acc := p.path.map fun n => .one (.store (usedW n) (gI p.cu n.toNat))
def sendL (k i : Int) : List Acc := [.aft (.take 1) (.send k i), .one (.free 1)]
def purseF (g : Gp) (a : Int) : Pu := ⟨gI g.ac a.toNat, Tre.pathF g.nd 3 (gI g.ac a.toNat), g.nd, List.replicate g.nd.length 0, true⟩
def sweepA (g : Gp) (a : Ap) (s ep : Int) : Gp × Ap :=
  if inR g.bs.length s = true then (beginG g a.who m0 true s ep, thenA a [.one (.take (shL s)), .one (.load 0 (.look g.log.length (.sweep s ep g.log.length)))]) else (g, { a with d := ep })
def decF (g : Gp) (a : Ap) (v : Int) : Dec → Gp × Ap
  | .refuse c => (g, { a with c := c })
  | .ord1 c => (g, { a with c := if offW v = true then 2 else c })
  | .ord2 o x s =>
    let b := gB g.bs s.toNat
    let k := if offW v = true then 2 else lookF g.ra g.ta b o
    let out (a : Ap) : Ap := thenA a (frees g a.pu.path ++ [.one (.free (shL s))])
    if k ≠ 0 then (g, out { a with c := k, d := 0 })
    else
      let r := Cpl.resF a.pu.cl a.pu.cu a.pu.leaf x
      if r.1 ≠ 0 then (g, out { a with c := r.1, d := 0 })
      else
        let id := b.sh + g.sh * b.ca
        let p := { a.pu with cu := Cpl.resU a.pu.cl a.pu.cu a.pu.leaf x, fr := false }
        ({ g with bs := g.bs.set s.toNat (Bks.addF g.sh g.wi b o (epW v)) },
          thenA { a with c := 0, d := id, pu := p } (putU p ++ frees g p.path ++ sendL 0 id ++ [.one (.free (shL s))]))
  | .cancel id s =>
    let r := cancelF (gB g.bs s.toNat) id
    ({ g with bs := g.bs.set s.toNat r.1 }, thenA { a with c := r.2 } ((if r.2 = 0 then sendL 1 id else []) ++ [.one (.free (shL s))]))
  | .settle s x b =>
    let p := { a.pu with cu := Cpl.relU a.pu.cl a.pu.cu a.pu.leaf x, fr := false }
    ({ g with bs := g.bs.set s.toNat b }, thenA { a with pu := p } (putU p ++ frees g p.path ++ [.one (.free (shL s))]))
  | .sweep s ep place =>
    let b := gB g.bs s.toNat
    let ids : List Int := Bkw.swI ep b.op
    ({ g with bs := g.bs.set s.toNat (Bkw.sweepF b ep) }, thenA a (ids.flatMap (sendL 1) ++ [.aft (.free (shL s)) (.swp1 s ep place ids.length)]))
def turnL (ep : Int) (off : Bool) (d : Dn) : List Acc := [.aft (.store 0 (wordF ep off)) .mark, .aft (.free 0) d]
def seeF (g : Gp) (a : Ap) (v : Int) : See → Gp × Ap
  | .used n => (g, { a with pu := { a.pu with cu := a.pu.cu.set n.toNat v } })
  | .caps n => (g, { a with pu := { a.pu with cl := a.pu.cl.set n.toNat ((a.pu.cl.getD n.toNat (0, 0)).1, v) } })
  | .look place d => decF (markG g place) a v d
  | .kill => (g, thenA a (turnL (epW v) true (.swp0 (epW v))))
  | .rearm => if offW v = false then (markG g a.place, thenA { a with c := 16 } [.one (.free 0)]) else (g, thenA { a with d := epW v + 1 } (turnL (epW v + 1) false .nop))
def dnF (g : Gp) (a : Ap) : Dn → Gp × Ap
  | .send k i => ({ g with out := g.out ++ [(k, i)], at' := g.at' ++ [g.cs.t] }, a)
  | .mark => (markG g a.place, a)
  | .swp0 ep => sweepA g a 0 ep
  | .nop => (g, a)
  | .swp1 s ep place n => sweepA (endG g place 0 n) a (s + 1) ep
  | .settle fill id y s =>
    let b := gB g.bs s.toNat
    let r := if fill = true then fillF b id y else ackF b id
    if r.2 ≠ 0 then (g, thenA a [.one (.load 0 (.look a.place (.refuse r.2))), .one (.free (shL s))])
    else
      let was : En := Bkg.findE b.op id
      let is : En := Bkg.findE r.1.op id
      let p := purseF g was.o.a
      (g, { thenA a (takes g p.path ++ seeU p.path ++ [.one (.load 0 (.look a.place (.settle s (was.o.p * (was.lf - is.lf)) r.1)))]) with pu := p })
def a0F (g : Gp) (a : Ap) : A0 → Bool × Gp × Ap
  | .take l => ((takeF g.cs a.who l).1, { g with cs := (takeF g.cs a.who l).2 }, a)
  | .free l => (true, { g with cs := (freeF g.cs a.who l).2 }, a)
  | .store x v => (true, { g with cs := storeF g.cs x v }, a)
  | .load x s => (true, seeF { g with cs := (loadF g.cs x).2 } a (loadF g.cs x).1 s)
def accF (g : Gp) (a : Ap) : Acc → Bool × Gp × Ap
  | .one x => a0F g a x
  | .aft x d => if (a0F g a x).1 = true then (true, dnF (a0F g a x).2.1 (a0F g a x).2.2 d) else a0F g a x
def stepA (g : Gp) (a : Ap) : Bool × Gp × Ap :=
  match a.todo with
  | [] => (true, g, a)
  | x :: _ =>
    let r := accF g a x
    let a' := if r.1 = true then { r.2.2 with todo := r.2.2.todo.drop 1 } else r.2.2
    if a'.todo.length > 0 then (false, r.2.1, a') else (true, endG r.2.1 a.place a'.c a'.d, a')
end Gpl
end Go.Proofs.YtaeddnjjeholgaaGreat
