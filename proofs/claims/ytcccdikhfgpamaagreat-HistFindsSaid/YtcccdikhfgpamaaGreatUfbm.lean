/- Texts side by side. -/
import Derived.Test.YtcccdikhfgpamaaGreatUfab
import Derived.Test.YtcccdikhfgpamaaGreatUfbl
set_option linter.unusedVariables false
set_option linter.unusedSimpArgs false
set_option maxRecDepth 100000
set_option maxHeartbeats 16000000
namespace Go.Proofs.YtcccdikhfgpamaaGreat
open Kap Abv Go.ChangeShapes Go.WideShapes Go.ChangeAt Go.RowKit Mem Tre Ref3 Law3 Fix3 Opn Bnd Flo Cfg CrdB CrdC Rr4 Fr4 St7 Rul6 Fcf Fown Lat
namespace Rul7
attribute [local go_sem] run_store_float
variable {ra sh ta wi x:Int} {nd:List (Int×Int)} {sy:List (Int×Int×Int×Nat)} {ac:List Int} {base c c1 c3 ck d f g gO gZ j k:Nat} {A A1 A3 Ak B C:Option Addr} {te:TypeId} {v0 v1 v2 v3 v4 v5 v6:Value} {W w w5 wx:World}
theorem s5_of(hk:Blk W g te #[v0,v1,v2,v3,v4,v5,v6]):
  W.cell? ⟨g,0,none⟩=some v0∧W.cell? ⟨g,1,none⟩=some v1∧W.cell? ⟨g,2,none⟩=some v2∧W.cell? ⟨g,3,none⟩=some v3∧W.cell? ⟨g,4,none⟩=some v4:=
 ⟨hk.cell 0,hk.cell 1,hk.cell 2,hk.cell 3,hk.cell 4⟩
theorem s75_of(hk:Blk W g te #[v0,v1,v2,v3,v4,v5,v6])(hne:g≠gZ): ∀a b c d e f h:Value,(((((((W.setCell ⟨gZ,0,none⟩ a).setCell ⟨gZ,1,none⟩ b).setCell ⟨gZ,2,none⟩ c).setCell ⟨gZ,3,none⟩ d).setCell ⟨gZ,4,none⟩ e).setCell ⟨gZ,5,none⟩ f).setCell ⟨gZ,6,none⟩ h).cell? ⟨g,0,none⟩=some v0∧(((((((W.setCell ⟨gZ,0,none⟩ a).setCell ⟨gZ,1,none⟩ b).setCell ⟨gZ,2,none⟩ c).setCell ⟨gZ,3,none⟩ d).setCell ⟨gZ,4,none⟩ e).setCell ⟨gZ,5,none⟩ f).setCell ⟨gZ,6,none⟩ h).cell? ⟨g,1,none⟩=some v1∧(((((((W.setCell ⟨gZ,0,none⟩ a).setCell ⟨gZ,1,none⟩ b).setCell ⟨gZ,2,none⟩ c).setCell ⟨gZ,3,none⟩ d).setCell ⟨gZ,4,none⟩ e).setCell ⟨gZ,5,none⟩ f).setCell ⟨gZ,6,none⟩ h).cell? ⟨g,2,none⟩=some v2∧(((((((W.setCell ⟨gZ,0,none⟩ a).setCell ⟨gZ,1,none⟩ b).setCell ⟨gZ,2,none⟩ c).setCell ⟨gZ,3,none⟩ d).setCell ⟨gZ,4,none⟩ e).setCell ⟨gZ,5,none⟩ f).setCell ⟨gZ,6,none⟩ h).cell? ⟨g,3,none⟩=some v3∧(((((((W.setCell ⟨gZ,0,none⟩ a).setCell ⟨gZ,1,none⟩ b).setCell ⟨gZ,2,none⟩ c).setCell ⟨gZ,3,none⟩ d).setCell ⟨gZ,4,none⟩ e).setCell ⟨gZ,5,none⟩ f).setCell ⟨gZ,6,none⟩ h).cell? ⟨g,4,none⟩=some v4:=
 fun a b c d e f h=>s5_of (st7_far (a:=a) (b:=b) (c:=c) (d:=d) (e:=e) (f:=f) (h:=h) hk hne)
def FxR(sh wi ra ta:Int)(A B C:Option Addr)(c d f:Nat)(nd:List (Int×Int))(ac:List Int)(sy:List (Int×Int×Int×Nat))(w:World)(s3:Value)(wx:World):Prop:= ∃(gO:Nat) (A1:Option Addr) (c1:Nat),s3= .pointer (some ⟨gO,0,none⟩)∧w.heap.size+2≤gO∧Hid (Blk wx gO 31 #[.int .i64 (1+modF sh 3),.int .i64 (modF wi 4),.int .i64 (1+modF ra 6),.int .i64 (1+modF ta 8),.slice A1 (fixF nd).length c1,.slice none 0 0,.slice none 0 0])∧Hid (Blk wx w.heap.size 31 #[.int .i64 sh,.int .i64 wi,.int .i64 ra,.int .i64 ta,.slice A nd.length c,.slice B ac.length d,.slice C sy.length f])∧Hid (Blk wx (w.heap.size+1) 31 #[.int .i64 0,.int .i64 0,.int .i64 0,.int .i64 0,.slice none 0 0,.slice none 0 0,.slice none 0 0])∧Hid (wx.ownsRow (w.heap.size+2) 133 2 (.slice A1 (fixF nd).length c1) (fixF nd).length (nds (fixF nd)))∧Below w.heap.size w wx
theorem fe1(kB5:Blk w5 w.heap.size 31 #[.int .i64 sh,.int .i64 wi,.int .i64 ra,.int .i64 ta,.slice A nd.length c,.slice B ac.length d,.slice C sy.length f])(kR5:Blk w5 (w.heap.size+1) 31 #[.int .i64 0,.int .i64 0,.int .i64 0,.int .i64 0,.slice none 0 0,.slice none 0 0,.slice none 0 0])(N5:w5.ownsRow (w.heap.size+2) 133 2 (.slice A1 (fixF nd).length c1) (fixF nd).length (nds (fixF nd)))(b5:Below w.heap.size w w5):
  FxR sh wi ra ta A B C c d f nd ac sy w (.pointer (some ⟨w5.heap.size,0,none⟩)) (w5.alloc (.cells #[.int .i64 (1+modF sh 3),.int .i64 (modF wi 4),.int .i64 (1+modF ra 6),.int .i64 (1+modF ta 8),.slice A1 (fixF nd).length c1,.slice none 0 0,.slice none 0 0] 31)):=
 ⟨w5.heap.size,A1,c1,rfl,by have:=kR5.lt;omega,Blk.fresh _ _ _,kB5.alloc _,kR5.alloc _,World.ownsRow.alloc N5 _,below_up b5 _⟩
theorem fe2(kB5:Blk w5 w.heap.size 31 #[.int .i64 sh,.int .i64 wi,.int .i64 ra,.int .i64 ta,.slice A nd.length c,.slice B ac.length d,.slice C sy.length f])(kR5:Blk w5 (w.heap.size+1) 31 #[.int .i64 0,.int .i64 0,.int .i64 0,.int .i64 0,.slice none 0 0,.slice none 0 0,.slice none 0 0])(N5:w5.ownsRow (w.heap.size+2) 133 2 (.slice A1 (fixF nd).length c1) (fixF nd).length (nds (fixF nd)))(b5:Below w.heap.size w w5)(kZ5:Blk w5 gZ 31 #[.int .i64 0,.int .i64 0,.int .i64 0,.int .i64 0,.slice none 0 0,.slice none 0 0,.slice none 0 0])(hz:w.heap.size+2≤gZ):
  FxR sh wi ra ta A B C c d f nd ac sy w (.pointer (some ⟨gZ,0,none⟩)) (((((((w5.setCell ⟨gZ,0,none⟩ (.int .i64 (1+modF sh 3))).setCell ⟨gZ,1,none⟩ (.int .i64 (modF wi 4))).setCell ⟨gZ,2,none⟩ (.int .i64 (1+modF ra 6))).setCell ⟨gZ,3,none⟩ (.int .i64 (1+modF ta 8))).setCell ⟨gZ,4,none⟩ (.slice A1 (fixF nd).length c1)).setCell ⟨gZ,5,none⟩ (.slice none 0 0)).setCell ⟨gZ,6,none⟩ (.slice none 0 0)):=
 ⟨gZ,A1,c1,rfl,hz,st7_blk kZ5,st7_far kB5 (by omega),st7_far kR5 (by omega),own_st7 N5 kZ5 (by decide),st7_below b5 (by omega)⟩
theorem own_oneI(h:Blk w g te #[.int .i64 x])(hb:base≤g):w.ownsRow base te 1 (.slice (some ⟨g,0,none⟩) 1 1) 1 (ints [x]):=
 ⟨by simp[ints],.inr ⟨g,1,#[.int .i64 x],rfl,hb,h,τ,by unfold maxLen;omega,by simp,by simp[ints]⟩⟩
def Lq(sh wi ra ta:Int)(A B C:Option Addr)(c d f:Nat)(nd:List (Int×Int))(ac:List Int)(sy:List (Int×Int×Int×Nat))(w:World)(gO k j:Nat)(A1 A3 Ak:Option Addr)(c1 c3 ck:Nat)(wx:World):Prop:=
 Hid (Blk wx gO 31 #[.int .i64 (1+modF sh 3),.int .i64 (modF wi 4),.int .i64 (1+modF ra 6),.int .i64 (1+modF ta 8),.slice A1 (fixF nd).length c1,.slice A3 k c3,.slice Ak j ck])∧Hid (Blk wx w.heap.size 31 #[.int .i64 sh,.int .i64 wi,.int .i64 ra,.int .i64 ta,.slice A nd.length c,.slice B ac.length d,.slice C sy.length f])∧Hid (Blk wx (w.heap.size+1) 31 #[.int .i64 0,.int .i64 0,.int .i64 0,.int .i64 0,.slice none 0 0,.slice none 0 0,.slice none 0 0])∧Hid (wx.ownsRow (w.heap.size+2) 133 2 (.slice A1 (fixF nd).length c1) (fixF nd).length (nds (fixF nd)))∧Hid (wx.ownsRow (w.heap.size+2) 3 1 (.slice A3 k c3) k (ints (fixA (fixF nd).length ac)))∧Hid (wx.ownsRow (w.heap.size+2) 86 4 (.slice Ak j ck) j (smbs ((sy.take j).map oneS)))∧Hid (Below w.heap.size w wx)
theorem Lq.alloc(h:Lq sh wi ra ta A B C c d f nd ac sy w gO k j A1 A3 Ak c1 c3 ck wx)(o:Obj):Lq sh wi ra ta A B C c d f nd ac sy w gO k j A1 A3 Ak c1 c3 ck (wx.alloc o):=
 ⟨h.1.o.alloc _,h.2.1.o.alloc _,h.2.2.1.o.alloc _,World.ownsRow.alloc h.2.2.2.1.o _,World.ownsRow.alloc h.2.2.2.2.1.o _,World.ownsRow.alloc h.2.2.2.2.2.1.o _,below_up h.2.2.2.2.2.2.o _⟩
theorem Lq.set{gX:Nat}{cs:Array Value}(h:Lq sh wi ra ta A B C c d f nd ac sy w gO k j A1 A3 Ak c1 c3 ck wx)(hx:Blk wx gX 86 cs)(hn:(Value.slice Ak j ck).ownBlock≠some gX)(hg:w.heap.size+2≤gX)(hne:gO≠gX)(i:Nat)(v:Value):Lq sh wi ra ta A B C c d f nd ac sy w gO k j A1 A3 Ak c1 c3 ck (wx.setCell ⟨gX,i,none⟩ v):=
 ⟨blk_far h.1.o hne _,blk_far h.2.1.o (by show w.heap.size≠gX;omega) _,blk_far h.2.2.1.o (by show w.heap.size+1≠gX;omega) _,own_set1 h.2.2.2.1.o hx (by decide) i v,own_set1 h.2.2.2.2.1.o hx (by decide) i v,ownsRow_setCell_other h.2.2.2.2.2.1.o (a:=⟨gX,i,none⟩) hn v,h.2.2.2.2.2.2.o.setCell (p:=⟨gX,i,none⟩) (by show w.heap.size≤gX;omega) v⟩
theorem one64(x:Int):wrap64 (1+wrap64 ((IntKind.u64.wrap x).tmod 1099511627776))=1+modF x 1099511627776:=by
 have:=modF_bd (x:=x) (m:=1099511627776) (by decide) (by decide);unfold modF at this ⊢;generalize wrap64 ((IntKind.u64.wrap x).tmod 1099511627776)=y at this ⊢;unfold wrap64;omega
theorem own_oneS{n:Nat}{p q r:Int}(h:Blk w g 86 #[.int .i64 p,.int .i64 q,.int .i64 r,.float .f64 n])(hb:base≤g):w.ownsRow base 86 4 (.slice (some ⟨g,0,none⟩) 1 1) 1 (smbs [(p,q,r,n)]):=
 ⟨by simp[smbs,syV],.inr ⟨g,1,#[.int .i64 p,.int .i64 q,.int .i64 r,.float .f64 n],rfl,hb,h,τ,by unfold maxLen;omega,by simp,by simp[smbs,syV]⟩⟩
theorem mod_w(x:Int)(m:Int):IntKind.i64.wrap ((IntKind.u64.wrap x).tmod m)=modF x m:=by
 unfold modF wrap64;rw[IntKind.wrap_i64]
theorem one_w{m:Int}(h:0<m)(h':m≤1000):IntKind.i64.wrap (1+modF x m)=1+modF x m:=by
 have:=modF_bd (x:=x) (m:=m) h (by omega);rw[IntKind.wrap_i64];omega
theorem fix5_any(sh wi ra ta:Int)(A B C:Option Addr)(c d f:Nat)(nd:List (Int×Int))(ac:List Int)(sy:List (Int×Int×Int×Nat))(w:World)
  (hl:Hid (Nds w w.heap.size A nd))(hu:Hid (Ris w w.heap.size B ac))(hs:Hid (Smb w w.heap.size C sy))(hw:Hid (WfN nd))(hwa:Hid (WfI ac))(hws:Hid (WfS sy))(hmax:(nd.length:Int)≤4611686018427387904)(hmay:(ac.length:Int)≤4611686018427387904)(hmaz:(sy.length:Int)≤4611686018427387904):
  Calls Tryz.prog 5 #[.agg #[.int .i64 sh,.int .i64 wi,.int .i64 ra,.int .i64 ta,.slice A nd.length c,.slice B ac.length d,.slice C sy.length f]] w (MadeCf (1+modF sh 3) (modF wi 4) (1+modF ra 6) (1+modF ta 8) (fixF nd) (fixA (fixF nd).length ac) (fixS sy) w):=by
 have H1:Hid (∀W,Below w.heap.size w W→Hid (Nds W W.heap.size A nd)):=fun W hb=>Rd.below' hl.o hb hb.size
 obtain⟨W,hW⟩:=ν ((w.alloc (.cells #[.int .i64 sh,.int .i64 wi,.int .i64 ra,.int .i64 ta,.slice A nd.length c,.slice B ac.length d,.slice C sy.length f] 31)).alloc (.cells #[.int .i64 0,.int .i64 0,.int .i64 0,.int .i64 0,.slice none 0 0,.slice none 0 0,.slice none 0 0] 31));have HW:=κ hW;have ad:Hid (W.heap.size=w.heap.size+2):=by show _=_;rw[hW];simp
 have b0:Hid (Below w.heap.size w W):=by rw[hW];exact(ψ.alloc τ _).alloc (by simp) _
 have ak:Hid (Blk W w.heap.size 31 (vC sh wi ra ta A nd.length c B ac.length d C sy.length f)):=by rw[hW];exact(Blk.fresh w _ _).alloc _
 have aD:Hid (Blk W (w.heap.size+1) 31 (vC 0 0 0 0 none 0 0 none 0 0 none 0 0)):=by
  have:=Blk.fresh (w.alloc (.cells (vC sh wi ra ta A nd.length c B ac.length d C sy.length f) 31)) 31 (vC 0 0 0 0 none 0 0 none 0 0 none 0 0);simp only[World.size_alloc]at this;rw[hW];exact this
 clear hW;have bA:=κ b0.o.drew;have bZ:Hid (Below w.heap.size w (W.alloc (.cells (vC 0 0 0 0 none 0 0 none 0 0 none 0 0) 31)).drew):=(below_up b0.o _).drew;have aE:Hid (Blk (W.alloc (.cells (vC 0 0 0 0 none 0 0 none 0 0 none 0 0) 31)).drew w.heap.size 31 (vC sh wi ra ta A nd.length c B ac.length d C sy.length f)):=ak.o.alloc _;have aZ:Hid (Blk (W.alloc (.cells (vC 0 0 0 0 none 0 0 none 0 0 none 0 0) 31)).drew (w.heap.size+1) 31 (vC 0 0 0 0 none 0 0 none 0 0 none 0 0)):=aD.o.alloc _;have a0:Hid (Blk (W.alloc (.cells (vC 0 0 0 0 none 0 0 none 0 0 none 0 0) 31)).drew W.heap.size 31 (vC 0 0 0 0 none 0 0 none 0 0 none 0 0)):=Blk.fresh W _ _;have sA:W.drew.cell? (α w.heap.size 0)=some (ι sh)∧W.drew.cell? (α w.heap.size 1)=some (ι wi)∧W.drew.cell? (α w.heap.size 2)=some (ι ra)∧W.drew.cell? (α w.heap.size 3)=some (ι ta)∧W.drew.cell? (α w.heap.size 4)=some (.slice A nd.length c):=s5_of (te:=31) (v5:= .slice B ac.length d) (v6:= .slice C sy.length f) ak.o;have sZ:=s5_of (te:=31) (v5:= .slice B ac.length d) (v6:= .slice C sy.length f) aE.o;have m1:IntKind.i64.wrap ((IntKind.u64.wrap sh).tmod 3)=modF sh 3:=mod_w sh 3;have m2:IntKind.i64.wrap ((IntKind.u64.wrap wi).tmod 4)=modF wi 4:=mod_w wi 4;have m3:IntKind.i64.wrap ((IntKind.u64.wrap ra).tmod 6)=modF ra 6:=mod_w ra 6;have m4:IntKind.i64.wrap ((IntKind.u64.wrap ta).tmod 8)=modF ta 8:=mod_w ta 8;have o1:IntKind.i64.wrap (1+modF sh 3)=1+modF sh 3:=one_w (by decide) (by decide);have o3:IntKind.i64.wrap (1+modF ra 6)=1+modF ra 6:=one_w (by decide) (by decide);have o4:IntKind.i64.wrap (1+modF ta 8)=1+modF ta 8:=one_w (by decide) (by decide)
 go_enter Tryz.func5,Tryz.ntmps5
 go_upto_region 1 with fail
 rw[←HW.o]
 go_cut [3] (fun s3 wx=>FxR sh wi ra ta A B C c d f nd ac sy w s3 wx)
 case first=>
  go_region_held3 (fun l=>l.cell? ⟨w.heap.size,0,none⟩=some (.int .i64 sh)∧l.cell? ⟨w.heap.size,1,none⟩=some (.int .i64 wi)∧l.cell? ⟨w.heap.size,2,none⟩=some (.int .i64 ra)∧l.cell? ⟨w.heap.size,3,none⟩=some (.int .i64 ta)∧l.cell? ⟨w.heap.size,4,none⟩=some (.slice A nd.length c))
   (first|(with_reducible assumption)|(exact s6 _)|(with_reducible exact s7 _ _ _ _ _ _ _)|(exact s7 _ _ _ _ _ _ _)|go_keep)
   (first
    |(go_at_call 20;(with_reducible refine(fix_own A c nd W.drew (H1.o _ bA.o) hw (by omega)).mono ?_);rintro e w5 ⟨A1,c1,rfl,al,I⟩;have b5:=κ (below_step bA.o I);have Q:=κ (Blk.below' (w:=W.drew) ak.o I);have am:=κ (Blk.below' (w:=W.drew) aD.o I);have N5:Hid (w5.ownsRow (w.heap.size+2) 133 2 (.slice A1 (fixF nd).length c1) (fixF nd).length (nds (fixF nd))):=own_mono al (by simp[ad.o]);have s5:=s5_of Q.o;have s6:=fun X=>s5_of (Q.o.alloc X))
    |(go_at_call 20;(with_reducible refine(fix_own A c nd (W.alloc (.cells #[.int .i64 0,.int .i64 0,.int .i64 0,.int .i64 0,.slice none 0 0,.slice none 0 0,.slice none 0 0] 31)).drew (H1.o _ bZ.o) hw (by omega)).mono ?_);rintro e w5 ⟨A1,c1,rfl,al,I⟩;have b5:=κ (below_step bZ.o I);have Q:=κ (Blk.below' aE.o I);have am:=κ (Blk.below' aZ.o I);have aF:=κ (Blk.below' a0.o I);have N5:Hid (w5.ownsRow (w.heap.size+2) 133 2 (.slice A1 (fixF nd).length c1) (fixF nd).length (nds (fixF nd))):=own_mono al (by simp[ad.o]);have s5:=s5_of Q.o;have a1:w.heap.size≠W.heap.size:=(by have:=ad.o;omega);have s7:=s75_of Q.o a1;obtain⟨bp,bq,br,bs,bt,bu,bv,bw,bx,bz,bB,bC,bD,bE⟩:=z_of aF.o))
  all_goals
   go_wp2_with fail
   go_meet
   first
    |(with_reducible exact fe1 Q.o am.o N5.o b5.o)
    |(with_reducible exact fe2 Q.o am.o N5.o b5.o aF.o (by have:=ad.o;omega))
 case rest=>
  obtain⟨gO,A1,c1,rfl,bG,kO,kB,kR,rN,bl⟩:=hcut
  rename World=>wS
  obtain⟨i0,hi,a2,a3,a4⟩:=info_parts int_info6;obtain⟨aG,bH⟩:=fixF_len nd
  go_wp2_with fail
  go_loopg [4] (min ac.length 5) (fun g s4 l=> ∃(j:Nat) (Ak:Option Addr) (ck:Nat),j+g=min ac.length 5∧s4= ι j∧Hid (Blk l gO 31 (vC (1+modF sh 3) (modF wi 4) (1+modF ra 6) (1+modF ta 8) A1 (fixF nd).length c1 Ak j ck none 0 0))∧Hid (Blk l w.heap.size 31 (vC sh wi ra ta A nd.length c B ac.length d C sy.length f))∧Hid (Blk l (w.heap.size+1) 31 (vC 0 0 0 0 none 0 0 none 0 0 none 0 0))∧Hid (l.ownsRow (w.heap.size+2) 133 2 (.slice A1 (fixF nd).length c1) (fixF nd).length (nds (fixF nd)))∧Hid (l.ownsRow (w.heap.size+2) 3 1 (.slice Ak j ck) j (ints ((ac.take j).map fun a=>modF a (fixF nd).length)))∧Below w.heap.size w l)
  case atStart=>exact⟨0,none,0,by omega,rfl,kO,kB,kR,rN,World.ownsRow_nil _ _ _ _,bl⟩
  case round=>
   obtain⟨j,Ak,ck,G,rfl,E,hB,hR,hN,hS,s⟩:=hrel;have f5:=χ (hB.o.cell 5);have ae:=E.o.lt;have aH:=hR.o.lt;by_cases hlt:j<ac.length∧j<5
   ·obtain⟨g,rfl⟩: ∃g,gk=g+1:=⟨gk-1,by omega⟩;obtain⟨r,a5⟩:=hlt;have t1:decide ((j:Int)<5)=true:=by simp;omega
    have t2:decide ((j:Int)<(ac.length:Int))=true:=by simp;omega
    obtain⟨b,o,an,hb,Z⟩:=Ris.at (i:=j) hu.o r;have d0:=(s.cell (p:=(α b (o+j))) hb).trans (Z j r);have a6:=hwa.o j r;obtain⟨bI,bJ⟩:=a6;have a7:=κ an;have a8:=κ (Z j r);rw[an]at f5
    have t:Hid (ints ((ac.take (j+1)).map fun a=>modF a (fixF nd).length)=ints ((ac.take j).map fun a=>modF a (fixF nd).length)++[ι (modF (gI ac j) (fixF nd).length)]):=by
     show _=_
     have e:ac.take (j+1)=ac.take j++[gI ac j]:=by
      have e2:ac[j]=gI ac j:=by simp[gI,r]
      rw[List.take_succ_eq_append_getElem r,e2]
     rw[e,List.map_append,List.map_cons,List.map_nil,ints_snoc]
    have HJ:=κ G;clear Z an G;have hU:IntKind.u64.wrap ((fixF nd).length:Int)=((fixF nd).length:Int):=by rw[wrap_u64];omega
    have bK:(((fixF nd).length:Int)==0)=false:=beq_eq_false_iff_ne.2 (by omega);have bL: ¬((fixF nd).length:Int)=0:=by omega
    have bM: ¬fixF nd=[]:=by intro e;rw[e]at aG;simp at aG
    have hM:IntKind.i64.wrap ((IntKind.u64.wrap (gI ac j)).tmod ((fixF nd).length:Int))=modF (gI ac j) (fixF nd).length:=mod_w _ _;have v5:=χ (E.o.cell 5);have v4:=χ (E.o.cell 4);have a9:b<wr.heap.size:=by omega
    have ba:w.heap.size<wr.heap.size:=by omega
    have va: ∀X,(fun l=>l.cell? (α gO 5)=some (.slice Ak j ck)∧l.cell? (α w.heap.size 5)=some (.slice (some (α b o)) ac.length d)∧l.cell? (α b (o+j))=some (ι (gI ac j))∧l.cell? (α gO 4)=some (.slice A1 (fixF nd).length c1)) (wr.drew.alloc X):=fun X=>⟨(World.cell?_alloc_lt wr.drew X (α gO 5) ae).trans v5,(World.cell?_alloc_lt wr.drew X (α w.heap.size 5) ba).trans f5,(World.cell?_alloc_lt wr.drew X (α b (o+j)) a9).trans d0,(World.cell?_alloc_lt wr.drew X (α gO 4) ae).trans v4⟩
    have VA:=κ va;clear va;have ao:j+1≤maxLen:=by unfold maxLen;omega
    have ap:(j+1)*8≤140737488355328:=by omega
    have aq:w.heap.size+2≤wr.heap.size:=by omega
    go_upto_region 5 with fail
    refine Ω (fun l=>l.cell? (α gO 5)=some (.slice Ak j ck)∧l.cell? (α w.heap.size 5)=some (.slice (some (α b o)) ac.length d)∧l.cell? (α b (o+j))=some (ι (gI ac j))∧l.cell? (α gO 4)=some (.slice A1 (fixF nd).length c1)) [17] ?_;have hT:(fun l=>l.cell? (α gO 5)=some (.slice Ak j ck)∧l.cell? (α w.heap.size 5)=some (.slice (some (α b o)) ac.length d)∧l.cell? (α b (o+j))=some (ι (gI ac j))∧l.cell? (α gO 4)=some (.slice A1 (fixF nd).length c1)) wr.drew:=⟨v5,f5,d0,v4⟩;have R:=κ hT;clear hT;refine wpL_word (i:=0) (v:=?_) rfl (by kernel_rfl) (fun _ _ _ h=>h) (by kernel_rfl) _ _ _ _ (by kernel_rfl) (by kernel_rfl) (Or.inl ⟨by rfl,?_⟩) (fun _=>R.o) ?_;rotate_left
    ·intro l _;go_simp
     try with_reducible rfl
    try simp only[Act.put,List.setIfInBounds_toArray,List.set_cons_zero,List.set_cons_succ]
    refine wpL_load (i:=1) (v:=?_) rfl (by kernel_rfl) (fun _ _ _ h=>h) (by kernel_rfl) (by kernel_rfl) _ _ _ _ (by kernel_rfl) (by kernel_rfl) (Or.inl ⟨by rfl,?_⟩) (by kernel_rfl) R.o ?_;rotate_left
    ·intro l hS
     try dsimp only at hS
     obtain⟨x4,x5,x6,x7⟩:=hS;go_simp
     try with_reducible rfl
    try simp only[Act.put,List.setIfInBounds_toArray,List.set_cons_zero,List.set_cons_succ]
    refine wpL_word (i:=2) (v:=?_) rfl (by kernel_rfl) (fun _ _ _ h=>h) (by kernel_rfl) _ _ _ _ (by kernel_rfl) (by kernel_rfl) (Or.inl ⟨by rfl,?_⟩) (fun _=>R.o) ?_;rotate_left
    ·intro l _;go_simp
     try with_reducible rfl
    try simp only[Act.put,List.setIfInBounds_toArray,List.set_cons_zero,List.set_cons_succ]
    refine wpL_load (i:=3) (v:=?_) rfl (by kernel_rfl) (fun _ _ _ h=>h) (by kernel_rfl) (by kernel_rfl) _ _ _ _ (by kernel_rfl) (by kernel_rfl) (Or.inl ⟨by rfl,?_⟩) (by kernel_rfl) R.o ?_;rotate_left
    ·intro l hS
     try dsimp only at hS
     obtain⟨x4,x5,x6,x7⟩:=hS;go_simp
     try with_reducible rfl
    try simp only[Act.put,List.setIfInBounds_toArray,List.set_cons_zero,List.set_cons_succ]
    refine wpL_word (i:=4) (v:=?_) rfl (by kernel_rfl) (fun _ _ _ h=>h) (by kernel_rfl) _ _ _ _ (by kernel_rfl) (by kernel_rfl) (Or.inl ⟨by rfl,?_⟩) (fun _=>R.o) ?_;rotate_left
    ·intro l _;go_simp
     try with_reducible rfl
    try simp only[Act.put,List.setIfInBounds_toArray,List.set_cons_zero,List.set_cons_succ]
    refine wpL_word (i:=5) (v:=?_) rfl (by kernel_rfl) (fun _ _ _ h=>h) (by kernel_rfl) _ _ _ _ (by kernel_rfl) (by kernel_rfl) (Or.inl ⟨by rfl,?_⟩) (fun _=>R.o) ?_;rotate_left
    ·intro l _;go_simp
     try with_reducible rfl
    try simp only[Act.put,List.setIfInBounds_toArray,List.set_cons_zero,List.set_cons_succ]
    refine wpL_load (i:=6) (v:=?_) rfl (by kernel_rfl) (fun _ _ _ h=>h) (by kernel_rfl) (by kernel_rfl) _ _ _ _ (by kernel_rfl) (by kernel_rfl) (Or.inl ⟨by rfl,?_⟩) (by kernel_rfl) R.o ?_;rotate_left
    ·intro l hS
     try dsimp only at hS
     obtain⟨x4,x5,x6,x7⟩:=hS;go_simp
     try with_reducible rfl
    try simp only[Act.put,List.setIfInBounds_toArray,List.set_cons_zero,List.set_cons_succ]
    refine wpL_word (i:=7) (v:=?_) rfl (by kernel_rfl) (fun _ _ _ h=>h) (by kernel_rfl) _ _ _ _ (by kernel_rfl) (by kernel_rfl) (Or.inl ⟨by rfl,?_⟩) (fun _=>R.o) ?_;rotate_left
    ·intro l _;go_simp
     try with_reducible rfl
    try simp only[Act.put,List.setIfInBounds_toArray,List.set_cons_zero,List.set_cons_succ]
    refine wpL_word (i:=8) (v:=?_) rfl (by kernel_rfl) (fun _ _ _ h=>h) (by kernel_rfl) _ _ _ _ (by kernel_rfl) (by kernel_rfl) (Or.inl ⟨by rfl,?_⟩) (fun _=>R.o) ?_;rotate_left
    ·intro l _;go_simp
     try with_reducible rfl
    try simp only[Act.put,List.setIfInBounds_toArray,List.set_cons_zero,List.set_cons_succ]
    refine wpL_load (i:=9) (v:=?_) rfl (by kernel_rfl) (fun _ _ _ h=>h) (by kernel_rfl) (by kernel_rfl) _ _ _ _ (by kernel_rfl) (by kernel_rfl) (Or.inl ⟨by rfl,?_⟩) (by kernel_rfl) R.o ?_;rotate_left
    ·intro l hS
     try dsimp only at hS
     obtain⟨x4,x5,x6,x7⟩:=hS;go_simp
     try with_reducible rfl
    try simp only[Act.put,List.setIfInBounds_toArray,List.set_cons_zero,List.set_cons_succ]
    refine wpL_word (i:=10) (v:=?_) rfl (by kernel_rfl) (fun _ _ _ h=>h) (by kernel_rfl) _ _ _ _ (by kernel_rfl) (by kernel_rfl) (Or.inl ⟨by rfl,?_⟩) (fun _=>R.o) ?_;rotate_left
    ·intro l _;go_simp
     try with_reducible rfl
    try simp only[Act.put,List.setIfInBounds_toArray,List.set_cons_zero,List.set_cons_succ]
    refine wpL_word (i:=11) (v:=?_) rfl (by kernel_rfl) (fun _ _ _ h=>h) (by kernel_rfl) _ _ _ _ (by kernel_rfl) (by kernel_rfl) (Or.inl ⟨by rfl,?_⟩) (fun _=>R.o) ?_;rotate_left
    ·intro l _;go_simp
     try with_reducible rfl
    try simp only[Act.put,List.setIfInBounds_toArray,List.set_cons_zero,List.set_cons_succ]
    refine wpL_word (i:=12) (v:=?_) rfl (by kernel_rfl) (fun _ _ _ h=>h) (by kernel_rfl) _ _ _ _ (by kernel_rfl) (by kernel_rfl) (Or.inl ⟨by rfl,?_⟩) (fun _=>R.o) ?_;rotate_left
    ·intro l _;go_simp
     try with_reducible rfl
    try simp only[Act.put,List.setIfInBounds_toArray,List.set_cons_zero,List.set_cons_succ]
    refine wpL_word (i:=13) (v:=?_) rfl (by kernel_rfl) (fun _ _ _ h=>h) (by kernel_rfl) _ _ _ _ (by kernel_rfl) (by kernel_rfl) (Or.inl ⟨by rfl,?_⟩) (fun _=>R.o) ?_;rotate_left
    ·intro l _;go_simp
     try with_reducible rfl
    try simp only[Act.put,List.setIfInBounds_toArray,List.set_cons_zero,List.set_cons_succ]
    refine wpL_next (n:=14) (by kernel_rfl) rfl (fun K hK=>?_);go_simp;refine hK.out _ _ (VA.o _) ?_;clear hK K
    try simp only[Act.put,List.setIfInBounds_toArray,List.set_cons_zero,List.set_cons_succ]
    refine wpL_next (n:=15) (by kernel_rfl) rfl (fun K hK=>?_);refine step_app1G (own_drew hS) rfl _ _ _ rfl i0 (ι 0) 8 Tryz.underlying23 hi a2 a3 a4 rfl (by decide) rfl rfl rfl [ι (modF (gI ac j) (fixF nd).length)] rfl rfl (by simp[Value.oneCell']) ao ap aq ?_;intro J L w2 aI F;have S:=κ (Blk_grown (Blk.alloc (w:=wr.drew) E.o _) F (Ne.symm (own_blk_ne hS.o E.o (by decide))));have ar:=κ (Blk_grown (Blk.alloc (w:=wr.drew) hB.o _) F (Ne.symm (own_blk_ne hS.o hB.o (by decide))));have aJ:=κ (Blk_grown (Blk.alloc (w:=wr.drew) hR.o _) F (Ne.symm (own_blk_ne hS.o hR.o (by decide))));have aK:=own_own (World.ownsRow.alloc (w:=wr.drew) hN.o _) (World.ownsRow.alloc (w:=wr.drew) hS.o _) (by decide) F;have au:=(below_up (W:=wr.drew) s.drew _).grown F (by simp;omega) (fun q hq=>by have:=World.ownsRow.lt hS.o q hq;omega);have z0:=χ (S.o.cell 5);have z1:=S.o.thaw 5;have z2:=(au.cell (p:=(α b (o+j))) hb).trans a8.o;have av:Hid ((fun l=>l.cell? (α gO 5)=some (.slice Ak j ck)∧l.cell? (α w.heap.size 5)=some (.slice (some (α b o)) ac.length d)∧l.cell? (α b (o+j))=some (ι (gI ac j))∧l.cell? (α gO 4)=some (.slice A1 (fixF nd).length c1)) w2):=⟨z0,by rw[←a7.o];exact ar.o.cell 5,z2,S.o.cell 4⟩;refine hK.out _ _ av.o ?_;clear hK K
    try simp only[Act.put,List.setIfInBounds_toArray,List.set_cons_zero,List.set_cons_succ]
    refine wpL_word (i:=16) (v:=?_) rfl (by kernel_rfl) (fun _ _ _ h=>h) (by kernel_rfl) _ _ _ _ (by kernel_rfl) (by kernel_rfl) (Or.inl ⟨by rfl,?_⟩) (fun _=>av.o) ?_;rotate_left
    ·intro l _;go_simp
     try with_reducible rfl
    try simp only[Act.put,List.setIfInBounds_toArray,List.set_cons_zero,List.set_cons_succ]
    refine wpL_late (n:=17) (by kernel_rfl) rfl (by kernel_rfl) (fun K hK=>?_);go_simp;refine hK.out _ _ ?_;clear hK K
    try simp only[Act.put,List.setIfInBounds_toArray,List.set_cons_zero,List.set_cons_succ]
    refine Δ ?_;have aa:Hid (Blk (w2.setCell (α gO 5) (.slice J (j+1) L)) gO 31 (vC (1+modF sh 3) (modF wi 4) (1+modF ra 6) (1+modF ta 8) A1 (fixF nd).length c1 J (j+1) L none 0 0)):=blk_set S.o 5 _;have af:Hid (Blk (w2.setCell (α gO 5) (.slice J (j+1) L)) w.heap.size 31 (vC sh wi ra ta A nd.length c B ac.length d C sy.length f)):=blk_far ar.o (by simp;omega) _;have ag:Hid (Blk (w2.setCell (α gO 5) (.slice J (j+1) L)) (w.heap.size+1) 31 (vC 0 0 0 0 none 0 0 none 0 0 none 0 0)):=blk_far aJ.o (by simp;omega) _;have aw:=κ (own_set1 aK S.o (by decide) 5 (.slice J (j+1) L))
    have H:Hid ((w2.setCell (α gO 5) (.slice J (j+1) L)).ownsRow (w.heap.size+2) 3 1 (.slice J (j+1) L) (j+1) (ints ((ac.take (j+1)).map fun a=>modF a (fixF nd).length))):=by
     rw[t.o];exact own_set1 aI.o S.o (by decide) 5 _
    have ah:Below w.heap.size w (w2.setCell (α gO 5) (.slice J (j+1) L)):=au.setCell (p:=(α gO 5)) (by show w.heap.size≤gO;omega) _;clear ar aJ aK au S aI F z0 z1 z2 R av VA
    go_wp2_with fail
    go_roundg g
    case measure=>omega
    case rel=>exact⟨j+1,J,L,by have:=HJ.o;omega,by go_num,aa,af,ag,aw,H,ah⟩
   ·have ai:Hid (j=min ac.length 5):=by show _=_;omega
    by_cases hx1:j<ac.length
    case' pos=>
     have t1:decide ((j:Int)<5)=false:=by simp;omega
     have t2:decide ((j:Int)<(ac.length:Int))=true:=by simp;omega
     clear hlt G
     go_upto_region 6 with fail
    case' neg=>
     have t2:decide ((j:Int)<(ac.length:Int))=false:=by simp;omega
     clear hlt G
     go_upto_region 6 with fail
    all_goals
     have e5:=χ (E.o.cell 5);have e4:=χ (E.o.cell 4);have y5:=E.o.thaw 5
     go_upto_if 66 with fail
     go_cut [5] (fun sa wx=> ∃(k:Nat) (A3:Option Addr) (c3:Nat),Hid (k=(fixA (fixF nd).length ac).length)∧Hid (Blk wx gO 31 (vC (1+modF sh 3) (modF wi 4) (1+modF ra 6) (1+modF ta 8) A1 (fixF nd).length c1 A3 k c3 none 0 0))∧Hid (Blk wx w.heap.size 31 (vC sh wi ra ta A nd.length c B ac.length d C sy.length f))∧Hid (Blk wx (w.heap.size+1) 31 (vC 0 0 0 0 none 0 0 none 0 0 none 0 0))∧Hid (wx.ownsRow (w.heap.size+2) 133 2 (.slice A1 (fixF nd).length c1) (fixF nd).length (nds (fixF nd)))∧Hid (wx.ownsRow (w.heap.size+2) 3 1 (.slice A3 k c3) k (ints (fixA (fixF nd).length ac)))∧Below w.heap.size w wx)
     case first=>
      by_cases h0:ac.length=0
      ·have ax:j=0:=by have:=ai.o;omega
       have q0:((j:Int)==0)=true:=beq_iff_eq.2 (by omega);have y:Hid (fixA (fixF nd).length ac=[((fixF nd).length:Int)-1]):=by show _=_;unfold fixA;rw[if_pos h0]
       clear h0 ax
       go_wp2_with fail
       go_meet;exact⟨1,some (α wr.heap.size 0),1,(by rw[y.o];rfl),Blk.alloc (blk_set E.o 5 _) _,Blk.alloc (blk_far hB.o (by simp;omega) _) _,Blk.alloc (blk_far hR.o (by simp;omega) _) _,World.ownsRow.alloc (own_set1 hN.o E.o (by decide) 5 _) _,(by rw[y.o];exact own_oneI (blk_at (by simp)) (by omega)),below_up (s.setCell (p:=(α gO 5)) (by show w.heap.size≤gO;omega) _) _⟩
      ·have q0:((j:Int)==0)=false:=beq_eq_false_iff_ne.2 (by have:=ai.o;omega)
       have y:Hid (fixA (fixF nd).length ac=(ac.take j).map fun a=>modF a (fixF nd).length):=by
        show _=_;unfold fixA;rw[if_neg h0,ai.o]
        have e:ac.take (min ac.length 5)=ac.take 5:=by
         by_cases h5:ac.length≤5
         ·rw[Nat.min_eq_left h5,List.take_length,List.take_of_length_le h5]
         ·rw[Nat.min_eq_right (by omega)]
        rw[e]
       have ay:Hid (j=(fixA (fixF nd).length ac).length):=by
        show _=_;rw[y.o,List.length_map,List.length_take];have:=ai.o;omega
       clear h0
       go_wp2_with fail
       go_meet;exact⟨j,Ak,ck,ay,E,hB,hR,hN,(by rw[y.o];exact hS),s⟩
     case rest=>
      obtain⟨k,A3,c3,hk,bb,bc,bd,be,bf,bg⟩:=hcut
      rename World=>wA
      clear y5 e5 e4 f5 E hB hR hN hS s;have bN:Hid (k≤5):=by show _≤_;rw[hk.o];exact fixA_len.2
      obtain⟨j0,ax,bh,bi,bj⟩:=info_parts sym_info
      go_wp2_with fail
      go_loopg [5] (min sy.length 3) (fun g s5 l=> ∃(j:Nat) (Ak:Option Addr) (ck:Nat),j+g=min sy.length 3∧s5= ι j∧Lq sh wi ra ta A B C c d f nd ac sy w gO k j A1 A3 Ak c1 c3 ck l)
      case atStart=>exact⟨0,none,0,by omega,rfl,bb,bc,bd,be,bf,World.ownsRow_nil _ _ _ _,bg⟩
      case round=>
       obtain⟨j,Ak,ck,G,rfl,hq⟩:=hrel;have HQ:=κ hq;obtain⟨E,hB,hR,hN,hA,hS,s⟩:=hq;have f6:=χ (hB.o.cell 6);have ae:=E.o.lt;have aH:=hR.o.lt;by_cases hlt:j<sy.length∧j<3
       ·obtain⟨g,rfl⟩: ∃g,gk=g+1:=⟨gk-1,by omega⟩;obtain⟨r,a5⟩:=hlt;have HJ:=κ G;have t1:decide ((j:Int)<3)=true:=by simp;omega
        have t2:decide ((j:Int)<(sy.length:Int))=true:=by simp;omega
        have aL:Smb wr w.heap.size C sy:=Rd.below hs.o s.o;obtain⟨b,o,aM,hb,Z⟩:=Smb.at (i:=j) aL r;rw[aM]at f6;clear aM G;obtain⟨d0,d1,d2,d3⟩:=Z j r
        have t:Hid (smbs ((sy.take (j+1)).map oneS)=smbs ((sy.take j).map oneS)++[ι (1+modF (sP sy j) 1099511627776),ι (1+modF (sQ sy j) 1099511627776),ι (if sW sy j<0 then 9223372036854775807 else sW sy j),.float .f64 (if rightB (sB sy j)=true then sB sy j else 4602678819172646912)]):=by
         show _=_;rw[takeS_snoc r,List.map_append,List.map_cons,List.map_nil,smbs_snoc]
         rfl
        clear Z aL;generalize sP sy j=xp at *;generalize sQ sy j=xq at *;generalize sW sy j=Y at *;generalize sB sy j=xb at *;have az:Hid ((Value.slice Ak j ck).ownBlock≠some (wr.heap.size+1)):=by show _≠_;intro e;have:=World.ownsRow.lt hS.o _ e;omega
        go_upto_region 13 with fail
        rw[one64,one64];have kX:Hid (Blk ((wr.alloc (.cells (vF xp xq Y xb) 86)).alloc (.cells (vF (1+modF xp 1099511627776) (1+modF xq 1099511627776) Y xb) 86)) (wr.heap.size+1) 86 (vF (1+modF xp 1099511627776) (1+modF xq 1099511627776) Y xb)):=blk_at (by simp);have HX:Hid (Lq sh wi ra ta A B C c d f nd ac sy w gO k j A1 A3 Ak c1 c3 ck ((wr.alloc (.cells (vF xp xq Y xb) 86)).alloc (.cells (vF (1+modF xp 1099511627776) (1+modF xq 1099511627776) Y xb) 86))):=(HQ.o.alloc _).alloc _;have aA:w.heap.size+2≤wr.heap.size+1:=by omega
        have aB:gO≠wr.heap.size+1:=by omega
        clear E hB hR hN hA hS s HQ d0 d1 d2 d3 f6 ae aH;generalize ((wr.alloc (.cells (vF xp xq Y xb) 86)).alloc (.cells (vF (1+modF xp 1099511627776) (1+modF xq 1099511627776) Y xb) 86))=w1 at kX HX ⊢;generalize wr.heap.size+1=gX at kX az aA aB ⊢;have x2:=χ (kX.o.cell 2)
        go_upto_if 108 with fail
        go_cut [7] (fun s7 wx=>s7= .pointer (some (α gX 0))∧Hid (Blk wx gX 86 (vF (1+modF xp 1099511627776) (1+modF xq 1099511627776) (if Y<0 then 9223372036854775807 else Y) xb))∧Hid (Lq sh wi ra ta A B C c d f nd ac sy w gO k j A1 A3 Ak c1 c3 ck wx))
        case first=>
         have y2:=kX.o.thaw 2;by_cases hneg:Y<0
         ·have t3:decide (Y<0)=true:=by simp;exact hneg
          go_wp2_with fail
          go_meet;refine⟨rfl,?_,HX.o.set kX.o az.o aA aB 2 _⟩;rw[if_pos hneg];exact blk_set kX.o 2 _
         ·have t3:decide (Y<0)=false:=by simp;omega
          go_wp2_with fail
          go_meet;refine⟨rfl,?_,HX⟩;rw[if_neg (by omega)];exact kX
        case rest=>
         obtain⟨rfl,T,aC⟩:=hcut
         rename World=>w2
         clear x2 kX HX;generalize (if Y<0 then 9223372036854775807 else Y)=xm at T t;have x3:=χ (T.o.cell 3)
         go_upto_if 113 with(first|(go_at_call 21;refine(rright_any _ _).mono ?_;rintro e l ⟨rfl,rfl⟩))
         go_cut [7] (fun s7 wx=>s7= .pointer (some (α gX 0))∧Hid (Blk wx gX 86 (vF (1+modF xp 1099511627776) (1+modF xq 1099511627776) xm (if rightB xb=true then xb else 4602678819172646912)))∧Hid (Lq sh wi ra ta A B C c d f nd ac sy w gO k j A1 A3 Ak c1 c3 ck wx))
         case first=>
          have y3:=T.o.thaw 3;generalize aN:rightB xb=rb at ⊢;cases rb
          ·simp only[Bool.not_false]
           go_wp2_with fail
           go_meet;refine⟨rfl,?_,aC.o.set T.o az.o aA aB 3 _⟩;rw[if_neg (by rw[aN];decide)];exact blk_set T.o 3 _
          ·simp only[Bool.not_true]
           go_wp2_with fail
           go_meet;refine⟨rfl,?_,aC⟩;rw[if_pos aN];exact T
         case rest=>
          obtain⟨rfl,U,bk⟩:=hcut
          rename World=>w3
          clear x3 T aC;obtain⟨aa,af,ag,aw,bn,H,ah⟩:=bk.o;generalize (if rightB xb=true then xb else 4602678819172646912)=xc at U t;generalize 1+modF xp 1099511627776=xa at U t;generalize 1+modF xq 1099511627776=xe at U t;have s0:=χ (U.o.cell 0);have s1:=χ (U.o.cell 1);have s2:=χ (U.o.cell 2);have s3:=χ (U.o.cell 3);have v6:=χ (aa.o.cell 6);have aq:w.heap.size+2≤w3.heap.size:=by have:=aa.o.lt;omega
          have ao:j+1≤maxLen:=by unfold maxLen;omega
          have ap:(j+1)*32≤140737488355328:=by omega
          go_wp2_with (at_builtin;refine wpList_app1G H rfl _ _ _ rfl j0 (.agg #[.int .i64 0,.int .i64 0,.int .i64 0,.float .f64 0]) 32 Tryz.underlying29 ax bh bi bj rfl (by decide) rfl rfl rfl [.int .i64 xa,.int .i64 xe,.int .i64 xm,.float .f64 xc] rfl rfl (by simp[Value.oneCell']) ao ap aq ?_;intro J L w4 aO z;have V:=κ (Blk_grown (aa.o.alloc _) z (Ne.symm (own_blk_ne H.o aa.o (by decide))));have z0:=χ (V.o.cell 6);have z1:=V.o.thaw 6)
          have aP:=Blk_grown (af.o.alloc _) z (Ne.symm (own_blk_ne H.o af.o (by decide)));have aQ:=Blk_grown (ag.o.alloc _) z (Ne.symm (own_blk_ne H.o ag.o (by decide)));have aR:=own_own (World.ownsRow.alloc aw.o _) (World.ownsRow.alloc H.o _) (by decide) z;have aS:=own_own (World.ownsRow.alloc bn.o _) (World.ownsRow.alloc H.o _) (by decide) z;have aT:=(below_up ah.o _).grown z (by have:=ah.o.size;simp;omega) (fun q hq=>by have:=World.ownsRow.lt H.o q hq;omega)
          have aU:Hid ((w4.setCell (α gO 6) (.slice J (j+1) L)).ownsRow (w.heap.size+2) 86 4 (.slice J (j+1) L) (j+1) (smbs ((sy.take (j+1)).map oneS))):=by
           rw[t.o];exact own_set1 aO.o V.o (by decide) 6 _
          have O:Lq sh wi ra ta A B C c d f nd ac sy w gO k (j+1) A1 A3 J c1 c3 L (w4.setCell (α gO 6) (.slice J (j+1) L)):=
           ⟨blk_set V.o 6 _,blk_far aP (by simp;omega) _,blk_far aQ (by simp;omega) _,own_set1 aR V.o (by decide) 6 (.slice J (j+1) L),own_set1 aS V.o (by decide) 6 (.slice J (j+1) L),aU,aT.setCell (p:=⟨gO,6,none⟩) (by show w.heap.size≤gO;omega) _⟩
          have HE:=κ O;clear O aP aQ aR aS aT V aO z z0 z1 aU
          go_wp2_with fail
          go_roundg g
          case measure=>omega
          case rel=>exact⟨j+1,J,L,by have:=HJ.o;omega,by go_num,HE.o⟩
       ·have aj:Hid (j=min sy.length 3):=by show _=_;omega
        by_cases hx2:j<sy.length
        case' pos=>
         have t1:decide ((j:Int)<3)=false:=by simp;omega
         have t2:decide ((j:Int)<(sy.length:Int))=true:=by simp;omega
         clear hlt G
         go_upto_region 18 with fail
        case' neg=>
         have t2:decide ((j:Int)<(sy.length:Int))=false:=by simp;omega
         clear hlt G
         go_upto_region 18 with fail
        all_goals
         have e6:=χ (E.o.cell 6);have y6:=E.o.thaw 6
         go_upto_if 124 with fail
         go_cut [3] (fun sa wx=> ∃(m:Nat) (A6:Option Addr) (c6:Nat),sa= .pointer (some (α gO 0))∧Hid (m=(fixS sy).length)∧Hid (Blk wx gO 31 (vC (1+modF sh 3) (modF wi 4) (1+modF ra 6) (1+modF ta 8) A1 (fixF nd).length c1 A3 k c3 A6 m c6))∧Hid (Blk wx (w.heap.size+1) 31 (vC 0 0 0 0 none 0 0 none 0 0 none 0 0))∧Hid (wx.ownsRow (w.heap.size+2) 133 2 (.slice A1 (fixF nd).length c1) (fixF nd).length (nds (fixF nd)))∧Hid (wx.ownsRow (w.heap.size+2) 3 1 (.slice A3 k c3) k (ints (fixA (fixF nd).length ac)))∧Hid (wx.ownsRow (w.heap.size+2) 86 4 (.slice A6 m c6) m (smbs (fixS sy)))∧Below w.heap.size w wx)
         case first=>
          by_cases h0:sy.length=0
          ·have bo:j=0:=by have:=aj.o;omega
           have q0:((j:Int)==0)=true:=beq_iff_eq.2 (by omega);have y:Hid (fixS sy=[(10,100,1000,4602678819172646912)]):=by show _=_;unfold fixS;rw[if_pos h0]
           clear h0 bo
           go_wp2_with fail
           go_meet;exact⟨1,some (α wr.heap.size 0),1,rfl,(by rw[y.o];rfl),Blk.alloc (blk_set E.o 6 _) _,Blk.alloc (blk_far hR.o (by simp;omega) _) _,World.ownsRow.alloc (own_set1 hN.o E.o (by decide) 6 _) _,World.ownsRow.alloc (own_set1 hA.o E.o (by decide) 6 _) _,(by rw[y.o];exact own_oneS (blk_at (by simp)) (by omega)),below_up (s.o.setCell (p:=(α gO 6)) (by show w.heap.size≤gO;omega) _) _⟩
          ·have q0:((j:Int)==0)=false:=beq_eq_false_iff_ne.2 (by have:=aj.o;omega)
           have y:Hid (fixS sy=(sy.take j).map oneS):=by
            show _=_;unfold fixS;rw[if_neg h0,aj.o]
            have e:sy.take (min sy.length 3)=sy.take 3:=by
             by_cases h5:sy.length≤3
             ·rw[Nat.min_eq_left h5,List.take_length,List.take_of_length_le h5]
             ·rw[Nat.min_eq_right (by omega)]
            rw[e]
           have ay:Hid (j=(fixS sy).length):=by
            show _=_;rw[y.o,List.length_map,List.length_take];have:=aj.o;omega
           clear h0
           go_wp2_with fail
           go_meet;exact⟨j,Ak,ck,rfl,ay,E,hR,hN,hA,(by rw[y.o];exact hS),s.o⟩
         case rest=>
          obtain⟨m,A6,c6,rfl,hm,P,ab,aV,aW,aX,aY⟩:=hcut
          rename World=>wE
          clear e6 y6 f6 E hB hR hN hA hS s HQ;have e0:=P.o.cell 0;have e1:=P.o.cell 1;have e2:=P.o.cell 2;have e3:=P.o.cell 3;have e4:=P.o.cell 4;have e5:=P.o.cell 5;have e6:=P.o.cell 6;obtain⟨r0,r1,r2,r3,r4,r5,r6,y0,y1,y2,y3,y4,y5,y6⟩:=z_of ab.o;simp only[List.getElem?_toArray,List.getElem?_cons_zero,List.getElem?_cons_succ]at e0 e1 e2 e3 e4 e5 e6;obtain⟨x0,x1,x2,x3,x4,x5,x6⟩:=st7_cells (a:= .int .i64 (1+modF sh 3)) (b:= .int .i64 (modF wi 4)) (c:= .int .i64 (1+modF ra 6)) (d:= .int .i64 (1+modF ta 8)) (e:= .slice A1 (fixF nd).length c1) (f:= .slice A3 k c3) (h:= .slice A6 m c6) ab.o;have bF:Below w.heap.size w (st7 wE (w.heap.size+1) (ι (1+modF sh 3)) (ι (modF wi 4)) (ι (1+modF ra 6)) (ι (1+modF ta 8)) (.slice A1 (fixF nd).length c1) (.slice A3 k c3) (.slice A6 m c6)):=st7_below aY (by omega);have NF:=κ (Rd.of_own (own_st7 (qa:= ι (1+modF sh 3)) (qb:= ι (modF wi 4)) (qc:= ι (1+modF ra 6)) (qd:= ι (1+modF ta 8)) (qe:= .slice A1 (fixF nd).length c1) (qf:= .slice A3 k c3) (qh:= .slice A6 m c6) aV.o ab.o (by decide)));have UF:=κ (Rd.of_own (own_st7 (qa:= ι (1+modF sh 3)) (qb:= ι (modF wi 4)) (qc:= ι (1+modF ra 6)) (qd:= ι (1+modF ta 8)) (qe:= .slice A1 (fixF nd).length c1) (qf:= .slice A3 k c3) (qh:= .slice A6 m c6) aW.o ab.o (by decide)));have SF:=κ (Rd.of_own (own_st7 (qa:= ι (1+modF sh 3)) (qb:= ι (modF wi 4)) (qc:= ι (1+modF ra 6)) (qd:= ι (1+modF ta 8)) (qe:= .slice A1 (fixF nd).length c1) (qf:= .slice A3 k c3) (qh:= .slice A6 m c6) aX.o ab.o (by decide)));have O:=κ (madeCf_mk (sh:=1+modF sh 3) (wi:=modF wi 4) (ra:=1+modF ra 6) (ta:=1+modF ta 8) (c:=c1) (d:=c3) (f:=c6) rfl hk.o hm.o NF.o UF.o SF.o bF);clear bF P ab aV aW aX aY NF UF SF
          go_wp2_with fail
          unfold st7 at x0 x1 x2 x3 x4 x5 x6 O;exact bodyPost_ret (v:= .agg #[ι (1+modF sh 3),ι (modF wi 4),ι (1+modF ra 6),ι (1+modF ta 8),.slice A1 (fixF nd).length c1,.slice A3 k c3,.slice A6 m c6]) (by simp[results,Tryz.results5,go_sem,x0,x1,x2,x3,x4,x5,x6]) rfl O.o
end Rul7
end Go.Proofs.YtcccdikhfgpamaaGreat
