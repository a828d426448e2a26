/- Texts side by side. -/
import Derived.Test.YtaeddnjjeholgaaGreatUgai
import Derived.Test.YtaeddnjjeholgaaGreatUgbs
set_option linter.unusedVariables false
set_option linter.unusedSimpArgs false
set_option maxRecDepth 100000
set_option maxHeartbeats 16000000
namespace Go.Proofs.YtaeddnjjeholgaaGreat
open Kap Abv Go.ChangeShapes Go.WideShapes Go.ChangeAt Go.RowKit Mem Tre Ref3 Law3 Fix3 Opn Bnd Flo Cfg CrdB CrdC Rr4 Fr4 St7 Rul6 Fcf Fown Lat
namespace Rul7
attribute [local go_sem] run_store_float
variable {ra sh ta wi x:Int} {nd:List (Int×Int)} {sy:List (Int×Int×Int×Nat)} {ac:List Int} {base c c1 c3 ck d f g gO gZ j k:Nat} {A A1 A3 Ak B C:Option Addr} {te:TypeId} {v0 v1 v2 v3 v4 v5 v6:Value} {W w w5 wx:World}
theorem s5_of(hk:Blk W g te #[v0,v1,v2,v3,v4,v5,v6]):
  W.cell? ⟨g,0,none⟩=some v0∧W.cell? ⟨g,1,none⟩=some v1∧W.cell? ⟨g,2,none⟩=some v2∧W.cell? ⟨g,3,none⟩=some v3∧W.cell? ⟨g,4,none⟩=some v4:=
 ⟨hk.cell 0,hk.cell 1,hk.cell 2,hk.cell 3,hk.cell 4⟩
theorem s75_of(hk:Blk W g te #[v0,v1,v2,v3,v4,v5,v6])(hne:g≠gZ): ∀a b c d e f h:Value,(((((((W.setCell ⟨gZ,0,none⟩ a).setCell ⟨gZ,1,none⟩ b).setCell ⟨gZ,2,none⟩ c).setCell ⟨gZ,3,none⟩ d).setCell ⟨gZ,4,none⟩ e).setCell ⟨gZ,5,none⟩ f).setCell ⟨gZ,6,none⟩ h).cell? ⟨g,0,none⟩=some v0∧(((((((W.setCell ⟨gZ,0,none⟩ a).setCell ⟨gZ,1,none⟩ b).setCell ⟨gZ,2,none⟩ c).setCell ⟨gZ,3,none⟩ d).setCell ⟨gZ,4,none⟩ e).setCell ⟨gZ,5,none⟩ f).setCell ⟨gZ,6,none⟩ h).cell? ⟨g,1,none⟩=some v1∧(((((((W.setCell ⟨gZ,0,none⟩ a).setCell ⟨gZ,1,none⟩ b).setCell ⟨gZ,2,none⟩ c).setCell ⟨gZ,3,none⟩ d).setCell ⟨gZ,4,none⟩ e).setCell ⟨gZ,5,none⟩ f).setCell ⟨gZ,6,none⟩ h).cell? ⟨g,2,none⟩=some v2∧(((((((W.setCell ⟨gZ,0,none⟩ a).setCell ⟨gZ,1,none⟩ b).setCell ⟨gZ,2,none⟩ c).setCell ⟨gZ,3,none⟩ d).setCell ⟨gZ,4,none⟩ e).setCell ⟨gZ,5,none⟩ f).setCell ⟨gZ,6,none⟩ h).cell? ⟨g,3,none⟩=some v3∧(((((((W.setCell ⟨gZ,0,none⟩ a).setCell ⟨gZ,1,none⟩ b).setCell ⟨gZ,2,none⟩ c).setCell ⟨gZ,3,none⟩ d).setCell ⟨gZ,4,none⟩ e).setCell ⟨gZ,5,none⟩ f).setCell ⟨gZ,6,none⟩ h).cell? ⟨g,4,none⟩=some v4:=
 fun a b c d e f h=>s5_of (st7_far (a:=a) (b:=b) (c:=c) (d:=d) (e:=e) (f:=f) (h:=h) hk hne)
def FxR(sh wi ra ta:Int)(A B C:Option Addr)(c d f:Nat)(nd:List (Int×Int))(ac:List Int)(sy:List (Int×Int×Int×Nat))(w:World)(s3:Value)(wx:World):Prop:= ∃(gO:Nat) (A1:Option Addr) (c1:Nat),s3= .pointer (some ⟨gO,0,none⟩)∧w.heap.size+2≤gO∧Hid (Blk wx gO 33 #[.int .i64 (1+modF sh 3),.int .i64 (modF wi 4),.int .i64 (1+modF ra 6),.int .i64 (1+modF ta 8),.slice A1 (fixF nd).length c1,.slice none 0 0,.slice none 0 0])∧Hid (Blk wx w.heap.size 33 #[.int .i64 sh,.int .i64 wi,.int .i64 ra,.int .i64 ta,.slice A nd.length c,.slice B ac.length d,.slice C sy.length f])∧Hid (Blk wx (w.heap.size+1) 33 #[.int .i64 0,.int .i64 0,.int .i64 0,.int .i64 0,.slice none 0 0,.slice none 0 0,.slice none 0 0])∧Hid (wx.ownsRow (w.heap.size+2) 71 2 (.slice A1 (fixF nd).length c1) (fixF nd).length (nds (fixF nd)))∧Below w.heap.size w wx
theorem fe1(kB5:Blk w5 w.heap.size 33 #[.int .i64 sh,.int .i64 wi,.int .i64 ra,.int .i64 ta,.slice A nd.length c,.slice B ac.length d,.slice C sy.length f])(kR5:Blk w5 (w.heap.size+1) 33 #[.int .i64 0,.int .i64 0,.int .i64 0,.int .i64 0,.slice none 0 0,.slice none 0 0,.slice none 0 0])(N5:w5.ownsRow (w.heap.size+2) 71 2 (.slice A1 (fixF nd).length c1) (fixF nd).length (nds (fixF nd)))(b5:Below w.heap.size w w5):
  FxR sh wi ra ta A B C c d f nd ac sy w (.pointer (some ⟨w5.heap.size,0,none⟩)) (w5.alloc (.cells #[.int .i64 (1+modF sh 3),.int .i64 (modF wi 4),.int .i64 (1+modF ra 6),.int .i64 (1+modF ta 8),.slice A1 (fixF nd).length c1,.slice none 0 0,.slice none 0 0] 33)):=
 ⟨w5.heap.size,A1,c1,rfl,by have:=kR5.lt;omega,Blk.fresh _ _ _,kB5.alloc _,kR5.alloc _,World.ownsRow.alloc N5 _,below_up b5 _⟩
theorem fe2(kB5:Blk w5 w.heap.size 33 #[.int .i64 sh,.int .i64 wi,.int .i64 ra,.int .i64 ta,.slice A nd.length c,.slice B ac.length d,.slice C sy.length f])(kR5:Blk w5 (w.heap.size+1) 33 #[.int .i64 0,.int .i64 0,.int .i64 0,.int .i64 0,.slice none 0 0,.slice none 0 0,.slice none 0 0])(N5:w5.ownsRow (w.heap.size+2) 71 2 (.slice A1 (fixF nd).length c1) (fixF nd).length (nds (fixF nd)))(b5:Below w.heap.size w w5)(kZ5:Blk w5 gZ 33 #[.int .i64 0,.int .i64 0,.int .i64 0,.int .i64 0,.slice none 0 0,.slice none 0 0,.slice none 0 0])(hz:w.heap.size+2≤gZ):
  FxR sh wi ra ta A B C c d f nd ac sy w (.pointer (some ⟨gZ,0,none⟩)) (((((((w5.setCell ⟨gZ,0,none⟩ (.int .i64 (1+modF sh 3))).setCell ⟨gZ,1,none⟩ (.int .i64 (modF wi 4))).setCell ⟨gZ,2,none⟩ (.int .i64 (1+modF ra 6))).setCell ⟨gZ,3,none⟩ (.int .i64 (1+modF ta 8))).setCell ⟨gZ,4,none⟩ (.slice A1 (fixF nd).length c1)).setCell ⟨gZ,5,none⟩ (.slice none 0 0)).setCell ⟨gZ,6,none⟩ (.slice none 0 0)):=
 ⟨gZ,A1,c1,rfl,hz,st7_blk kZ5,st7_far kB5 (by omega),st7_far kR5 (by omega),own_st7 N5 kZ5 (by decide),st7_below b5 (by omega)⟩
theorem own_oneI(h:Blk w g te #[.int .i64 x])(hb:base≤g):w.ownsRow base te 1 (.slice (some ⟨g,0,none⟩) 1 1) 1 (ints [x]):=
 ⟨by simp[ints],.inr ⟨g,1,#[.int .i64 x],rfl,hb,h,τ,by unfold maxLen;omega,by simp,by simp[ints]⟩⟩
def Lq(sh wi ra ta:Int)(A B C:Option Addr)(c d f:Nat)(nd:List (Int×Int))(ac:List Int)(sy:List (Int×Int×Int×Nat))(w:World)(gO k j:Nat)(A1 A3 Ak:Option Addr)(c1 c3 ck:Nat)(wx:World):Prop:=
 Hid (Blk wx gO 33 #[.int .i64 (1+modF sh 3),.int .i64 (modF wi 4),.int .i64 (1+modF ra 6),.int .i64 (1+modF ta 8),.slice A1 (fixF nd).length c1,.slice A3 k c3,.slice Ak j ck])∧Hid (Blk wx w.heap.size 33 #[.int .i64 sh,.int .i64 wi,.int .i64 ra,.int .i64 ta,.slice A nd.length c,.slice B ac.length d,.slice C sy.length f])∧Hid (Blk wx (w.heap.size+1) 33 #[.int .i64 0,.int .i64 0,.int .i64 0,.int .i64 0,.slice none 0 0,.slice none 0 0,.slice none 0 0])∧Hid (wx.ownsRow (w.heap.size+2) 71 2 (.slice A1 (fixF nd).length c1) (fixF nd).length (nds (fixF nd)))∧Hid (wx.ownsRow (w.heap.size+2) 3 1 (.slice A3 k c3) k (ints (fixA (fixF nd).length ac)))∧Hid (wx.ownsRow (w.heap.size+2) 90 4 (.slice Ak j ck) j (smbs ((sy.take j).map oneS)))∧Hid (Below w.heap.size w wx)
theorem Lq.alloc(h:Lq sh wi ra ta A B C c d f nd ac sy w gO k j A1 A3 Ak c1 c3 ck wx)(o:Obj):Lq sh wi ra ta A B C c d f nd ac sy w gO k j A1 A3 Ak c1 c3 ck (wx.alloc o):=
 ⟨h.1.out.alloc _,h.2.1.out.alloc _,h.2.2.1.out.alloc _,World.ownsRow.alloc h.2.2.2.1.out _,World.ownsRow.alloc h.2.2.2.2.1.out _,World.ownsRow.alloc h.2.2.2.2.2.1.out _,below_up h.2.2.2.2.2.2.out _⟩
theorem Lq.set{gX:Nat}{cs:Array Value}(h:Lq sh wi ra ta A B C c d f nd ac sy w gO k j A1 A3 Ak c1 c3 ck wx)(hx:Blk wx gX 90 cs)(hn:(Value.slice Ak j ck).ownBlock≠some gX)(hg:w.heap.size+2≤gX)(hne:gO≠gX)(i:Nat)(v:Value):Lq sh wi ra ta A B C c d f nd ac sy w gO k j A1 A3 Ak c1 c3 ck (wx.setCell ⟨gX,i,none⟩ v):=
 ⟨blk_far h.1.out hne _,blk_far h.2.1.out (by show w.heap.size≠gX;omega) _,blk_far h.2.2.1.out (by show w.heap.size+1≠gX;omega) _,own_set1 h.2.2.2.1.out hx (by decide) i v,own_set1 h.2.2.2.2.1.out hx (by decide) i v,ownsRow_setCell_other h.2.2.2.2.2.1.out (a:=⟨gX,i,none⟩) hn v,h.2.2.2.2.2.2.out.setCell (p:=⟨gX,i,none⟩) (by show w.heap.size≤gX;omega) v⟩
theorem one64(x:Int):wrap64 (1+wrap64 ((IntKind.u64.wrap x).tmod 1099511627776))=1+modF x 1099511627776:=by
 have:=modF_bd (x:=x) (m:=1099511627776) (by decide) (by decide);unfold modF at this ⊢;generalize wrap64 ((IntKind.u64.wrap x).tmod 1099511627776)=y at this ⊢;unfold wrap64;omega
theorem own_oneS{n:Nat}{p q r:Int}(h:Blk w g 90 #[.int .i64 p,.int .i64 q,.int .i64 r,.float .f64 n])(hb:base≤g):w.ownsRow base 90 4 (.slice (some ⟨g,0,none⟩) 1 1) 1 (smbs [(p,q,r,n)]):=
 ⟨by simp[smbs,syV],.inr ⟨g,1,#[.int .i64 p,.int .i64 q,.int .i64 r,.float .f64 n],rfl,hb,h,τ,by unfold maxLen;omega,by simp,by simp[smbs,syV]⟩⟩
theorem mod_w(x:Int)(m:Int):IntKind.i64.wrap ((IntKind.u64.wrap x).tmod m)=modF x m:=by
 unfold modF wrap64;rw[IntKind.wrap_i64]
theorem one_w{m:Int}(h:0<m)(h':m≤1000):IntKind.i64.wrap (1+modF x m)=1+modF x m:=by
 have:=modF_bd (x:=x) (m:=m) h (by omega);rw[IntKind.wrap_i64];omega
theorem fix5_any(sh wi ra ta:Int)(A B C:Option Addr)(c d f:Nat)(nd:List (Int×Int))(ac:List Int)(sy:List (Int×Int×Int×Nat))(w:World)
  (hl:Hid (Nds w w.heap.size A nd))(hu:Hid (Ris w w.heap.size B ac))(hs:Hid (Smb w w.heap.size C sy))(hw:Hid (WfN nd))(hwa:Hid (WfI ac))(hws:Hid (WfS sy))(hmax:(nd.length:Int)≤4611686018427387904)(hmay:(ac.length:Int)≤4611686018427387904)(hmaz:(sy.length:Int)≤4611686018427387904):
  Calls Tryz.prog 21 #[.agg #[.int .i64 sh,.int .i64 wi,.int .i64 ra,.int .i64 ta,.slice A nd.length c,.slice B ac.length d,.slice C sy.length f]] w (MadeCf (1+modF sh 3) (modF wi 4) (1+modF ra 6) (1+modF ta 8) (fixF nd) (fixA (fixF nd).length ac) (fixS sy) w):=by
 have H1:Hid (∀W,Below w.heap.size w W→Hid (Nds W W.heap.size A nd)):=fun W hb=>Rd.below' hl.out hb hb.size
 obtain⟨W,hW⟩:=ν ((w.alloc (.cells #[.int .i64 sh,.int .i64 wi,.int .i64 ra,.int .i64 ta,.slice A nd.length c,.slice B ac.length d,.slice C sy.length f] 33)).alloc (.cells #[.int .i64 0,.int .i64 0,.int .i64 0,.int .i64 0,.slice none 0 0,.slice none 0 0,.slice none 0 0] 33));have HW:=κ hW;have hW2:Hid (W.heap.size=w.heap.size+2):=by show _=_;rw[hW];simp
 have b0:Hid (Below w.heap.size w W):=by rw[hW];exact(ψ.alloc τ _).alloc (by simp) _
 have kB0:Hid (Blk W w.heap.size 33 (vC sh wi ra ta A nd.length c B ac.length d C sy.length f)):=by rw[hW];exact(Blk.fresh w _ _).alloc _
 have kR0:Hid (Blk W (w.heap.size+1) 33 (vC 0 0 0 0 none 0 0 none 0 0 none 0 0)):=by
  have:=Blk.fresh (w.alloc (.cells (vC sh wi ra ta A nd.length c B ac.length d C sy.length f) 33)) 33 (vC 0 0 0 0 none 0 0 none 0 0 none 0 0);simp only[World.size_alloc]at this;rw[hW];exact this
 clear hW;have bA:=κ b0.out.drew;have bZ:Hid (Below w.heap.size w (W.alloc (.cells (vC 0 0 0 0 none 0 0 none 0 0 none 0 0) 33)).drew):=(below_up b0.out _).drew;have kBZ:Hid (Blk (W.alloc (.cells (vC 0 0 0 0 none 0 0 none 0 0 none 0 0) 33)).drew w.heap.size 33 (vC sh wi ra ta A nd.length c B ac.length d C sy.length f)):=kB0.out.alloc _;have kRZ:Hid (Blk (W.alloc (.cells (vC 0 0 0 0 none 0 0 none 0 0 none 0 0) 33)).drew (w.heap.size+1) 33 (vC 0 0 0 0 none 0 0 none 0 0 none 0 0)):=kR0.out.alloc _;have kZZ:Hid (Blk (W.alloc (.cells (vC 0 0 0 0 none 0 0 none 0 0 none 0 0) 33)).drew W.heap.size 33 (vC 0 0 0 0 none 0 0 none 0 0 none 0 0)):=Blk.fresh W _ _;have sA:W.drew.cell? (α w.heap.size 0)=some (ι sh)∧W.drew.cell? (α w.heap.size 1)=some (ι wi)∧W.drew.cell? (α w.heap.size 2)=some (ι ra)∧W.drew.cell? (α w.heap.size 3)=some (ι ta)∧W.drew.cell? (α w.heap.size 4)=some (.slice A nd.length c):=s5_of (te:=33) (v5:= .slice B ac.length d) (v6:= .slice C sy.length f) kB0.out;have sZ:=s5_of (te:=33) (v5:= .slice B ac.length d) (v6:= .slice C sy.length f) kBZ.out;have m1:IntKind.i64.wrap ((IntKind.u64.wrap sh).tmod 3)=modF sh 3:=mod_w sh 3;have m2:IntKind.i64.wrap ((IntKind.u64.wrap wi).tmod 4)=modF wi 4:=mod_w wi 4;have m3:IntKind.i64.wrap ((IntKind.u64.wrap ra).tmod 6)=modF ra 6:=mod_w ra 6;have m4:IntKind.i64.wrap ((IntKind.u64.wrap ta).tmod 8)=modF ta 8:=mod_w ta 8;have o1:IntKind.i64.wrap (1+modF sh 3)=1+modF sh 3:=one_w (by decide) (by decide);have o3:IntKind.i64.wrap (1+modF ra 6)=1+modF ra 6:=one_w (by decide) (by decide);have o4:IntKind.i64.wrap (1+modF ta 8)=1+modF ta 8:=one_w (by decide) (by decide)
 go_enter Tryz.func21,Tryz.ntmps21
 go_upto_region 1 with fail
 rw[←HW.out]
 go_cut [3] (fun s3 wx=>FxR sh wi ra ta A B C c d f nd ac sy w s3 wx)
 case first=>
  go_region_held3 (fun w'=>w'.cell? ⟨w.heap.size,0,none⟩=some (.int .i64 sh)∧w'.cell? ⟨w.heap.size,1,none⟩=some (.int .i64 wi)∧w'.cell? ⟨w.heap.size,2,none⟩=some (.int .i64 ra)∧w'.cell? ⟨w.heap.size,3,none⟩=some (.int .i64 ta)∧w'.cell? ⟨w.heap.size,4,none⟩=some (.slice A nd.length c))
   (first|(with_reducible assumption)|(exact s6 _)|(with_reducible exact s7 _ _ _ _ _ _ _)|(exact s7 _ _ _ _ _ _ _)|go_keep)
   (first
    |(go_at_call 55;(with_reducible refine(fix_own A c nd W.drew (H1.out _ bA.out) hw (by omega)).mono ?_);rintro e w5 ⟨A1,c1,rfl,hn1,hb1⟩;have b5:=κ (below_step bA.out hb1);have kB5:=κ (Blk.below' (w:=W.drew) kB0.out hb1);have kR5:=κ (Blk.below' (w:=W.drew) kR0.out hb1);have N5:Hid (w5.ownsRow (w.heap.size+2) 71 2 (.slice A1 (fixF nd).length c1) (fixF nd).length (nds (fixF nd))):=own_mono hn1 (by simp[hW2.out]);have s5:=s5_of kB5.out;have s6:=fun X=>s5_of (kB5.out.alloc X))
    |(go_at_call 55;(with_reducible refine(fix_own A c nd (W.alloc (.cells #[.int .i64 0,.int .i64 0,.int .i64 0,.int .i64 0,.slice none 0 0,.slice none 0 0,.slice none 0 0] 33)).drew (H1.out _ bZ.out) hw (by omega)).mono ?_);rintro e w5 ⟨A1,c1,rfl,hn1,hb1⟩;have b5:=κ (below_step bZ.out hb1);have kB5:=κ (Blk.below' kBZ.out hb1);have kR5:=κ (Blk.below' kRZ.out hb1);have kZ5:=κ (Blk.below' kZZ.out hb1);have N5:Hid (w5.ownsRow (w.heap.size+2) 71 2 (.slice A1 (fixF nd).length c1) (fixF nd).length (nds (fixF nd))):=own_mono hn1 (by simp[hW2.out]);have s5:=s5_of kB5.out;have hzn:w.heap.size≠W.heap.size:=(by have:=hW2.out;omega);have s7:=s75_of kB5.out hzn;obtain⟨zc0,zc1,zc2,zc3,zc4,zc5,zc6,zt0,zt1,zt2,zt3,zt4,zt5,zt6⟩:=z_of kZ5.out))
  all_goals
   go_wp2_with fail
   go_meet
   first
    |(with_reducible exact fe1 kB5.out kR5.out N5.out b5.out)
    |(with_reducible exact fe2 kB5.out kR5.out N5.out b5.out kZ5.out (by have:=hW2.out;omega))
 case rest=>
  obtain⟨gO,A1,c1,rfl,hgO,kO,kB,kR,rN,bl⟩:=hcut
  rename World=>wS
  obtain⟨i0,hi,hz0,hz1,hz2⟩:=info_parts int_info6;obtain⟨hf1,hf2⟩:=fixF_len nd
  go_wp2_with fail
  go_loopg [4] (min ac.length 5) (fun g s4 w'=> ∃(j:Nat) (Ak:Option Addr) (ck:Nat),j+g=min ac.length 5∧s4= ι j∧Hid (Blk w' gO 33 (vC (1+modF sh 3) (modF wi 4) (1+modF ra 6) (1+modF ta 8) A1 (fixF nd).length c1 Ak j ck none 0 0))∧Hid (Blk w' w.heap.size 33 (vC sh wi ra ta A nd.length c B ac.length d C sy.length f))∧Hid (Blk w' (w.heap.size+1) 33 (vC 0 0 0 0 none 0 0 none 0 0 none 0 0))∧Hid (w'.ownsRow (w.heap.size+2) 71 2 (.slice A1 (fixF nd).length c1) (fixF nd).length (nds (fixF nd)))∧Hid (w'.ownsRow (w.heap.size+2) 3 1 (.slice Ak j ck) j (ints ((ac.take j).map fun a=>modF a (fixF nd).length)))∧Below w.heap.size w w')
  case atStart=>exact⟨0,none,0,by omega,rfl,kO,kB,kR,rN,World.ownsRow_nil _ _ _ _,bl⟩
  case round=>
   obtain⟨j,Ak,ck,hjg,rfl,hO,hB,hR,hN,hS,hbl⟩:=hrel;have f5:=χ (hB.out.cell 5);have hgr:=hO.out.lt;have hwr:=hR.out.lt;by_cases hlt:j<ac.length∧j<5
   ·obtain⟨g,rfl⟩: ∃g,gk=g+1:=⟨gk-1,by omega⟩;obtain⟨hlt1,hlt2⟩:=hlt;have t1:decide ((j:Int)<5)=true:=by simp;omega
    have t2:decide ((j:Int)<(ac.length:Int))=true:=by simp;omega
    obtain⟨b,o,hBe,hb,hcc⟩:=Ris.at (i:=j) hu.out hlt1;have d0:=(hbl.cell (p:=(α b (o+j))) hb).trans (hcc j hlt1);have hin:=hwa.out j hlt1;obtain⟨hin0,hin1⟩:=hin;have HBE:=κ hBe;have hd0:=κ (hcc j hlt1);rw[hBe]at f5
    have hpre:Hid (ints ((ac.take (j+1)).map fun a=>modF a (fixF nd).length)=ints ((ac.take j).map fun a=>modF a (fixF nd).length)++[ι (modF (gI ac j) (fixF nd).length)]):=by
     show _=_
     have e:ac.take (j+1)=ac.take j++[gI ac j]:=by
      have e2:ac[j]=gI ac j:=by simp[gI,hlt1]
      rw[List.take_succ_eq_append_getElem hlt1,e2]
     rw[e,List.map_append,List.map_cons,List.map_nil,ints_snoc]
    have HJ:=κ hjg;clear hcc hBe hjg;have hU:IntKind.u64.wrap ((fixF nd).length:Int)=((fixF nd).length:Int):=by rw[wrap_u64];omega
    have hz1':(((fixF nd).length:Int)==0)=false:=beq_eq_false_iff_ne.2 (by omega);have hz2': ¬((fixF nd).length:Int)=0:=by omega
    have hz3': ¬fixF nd=[]:=by intro e;rw[e]at hf1;simp at hf1
    have hM:IntKind.i64.wrap ((IntKind.u64.wrap (gI ac j)).tmod ((fixF nd).length:Int))=modF (gI ac j) (fixF nd).length:=mod_w _ _;have v5:=χ (hO.out.cell 5);have v4:=χ (hO.out.cell 4);have hbw:b<wr.heap.size:=by omega
    have hbw2:w.heap.size<wr.heap.size:=by omega
    have va: ∀X,(fun w'=>w'.cell? (α gO 5)=some (.slice Ak j ck)∧w'.cell? (α w.heap.size 5)=some (.slice (some (α b o)) ac.length d)∧w'.cell? (α b (o+j))=some (ι (gI ac j))∧w'.cell? (α gO 4)=some (.slice A1 (fixF nd).length c1)) (wr.drew.alloc X):=fun X=>⟨(World.cell?_alloc_lt wr.drew X (α gO 5) hgr).trans v5,(World.cell?_alloc_lt wr.drew X (α w.heap.size 5) hbw2).trans f5,(World.cell?_alloc_lt wr.drew X (α b (o+j)) hbw).trans d0,(World.cell?_alloc_lt wr.drew X (α gO 4) hgr).trans v4⟩
    have VA:=κ va;clear va;have h63:j+1≤maxLen:=by unfold maxLen;omega
    have hby:(j+1)*8≤140737488355328:=by omega
    have hba:w.heap.size+2≤wr.heap.size:=by omega
    go_upto_region 5 with fail
    refine Ω (fun w'=>w'.cell? (α gO 5)=some (.slice Ak j ck)∧w'.cell? (α w.heap.size 5)=some (.slice (some (α b o)) ac.length d)∧w'.cell? (α b (o+j))=some (ι (gI ac j))∧w'.cell? (α gO 4)=some (.slice A1 (fixF nd).length c1)) [17] ?_;have hT:(fun w'=>w'.cell? (α gO 5)=some (.slice Ak j ck)∧w'.cell? (α w.heap.size 5)=some (.slice (some (α b o)) ac.length d)∧w'.cell? (α b (o+j))=some (ι (gI ac j))∧w'.cell? (α gO 4)=some (.slice A1 (fixF nd).length c1)) wr.drew:=⟨v5,f5,d0,v4⟩;have HT:=κ hT;clear hT;refine wpL_word (i:=0) (v:=?_) rfl (by kernel_rfl) (fun _ _ _ h=>h) (by kernel_rfl) _ _ _ _ (by kernel_rfl) (by kernel_rfl) (Or.inl ⟨by rfl,?_⟩) (fun _=>HT.out) ?_;rotate_left
    ·intro w' _;go_simp
     try with_reducible rfl
    try simp only[Act.put,List.setIfInBounds_toArray,List.set_cons_zero,List.set_cons_succ]
    refine wpL_load (i:=1) (v:=?_) rfl (by kernel_rfl) (fun _ _ _ h=>h) (by kernel_rfl) (by kernel_rfl) _ _ _ _ (by kernel_rfl) (by kernel_rfl) (Or.inl ⟨by rfl,?_⟩) (by kernel_rfl) HT.out ?_;rotate_left
    ·intro w' hS
     try dsimp only at hS
     obtain⟨x4,x5,x6,x7⟩:=hS;go_simp
     try with_reducible rfl
    try simp only[Act.put,List.setIfInBounds_toArray,List.set_cons_zero,List.set_cons_succ]
    refine wpL_word (i:=2) (v:=?_) rfl (by kernel_rfl) (fun _ _ _ h=>h) (by kernel_rfl) _ _ _ _ (by kernel_rfl) (by kernel_rfl) (Or.inl ⟨by rfl,?_⟩) (fun _=>HT.out) ?_;rotate_left
    ·intro w' _;go_simp
     try with_reducible rfl
    try simp only[Act.put,List.setIfInBounds_toArray,List.set_cons_zero,List.set_cons_succ]
    refine wpL_load (i:=3) (v:=?_) rfl (by kernel_rfl) (fun _ _ _ h=>h) (by kernel_rfl) (by kernel_rfl) _ _ _ _ (by kernel_rfl) (by kernel_rfl) (Or.inl ⟨by rfl,?_⟩) (by kernel_rfl) HT.out ?_;rotate_left
    ·intro w' hS
     try dsimp only at hS
     obtain⟨x4,x5,x6,x7⟩:=hS;go_simp
     try with_reducible rfl
    try simp only[Act.put,List.setIfInBounds_toArray,List.set_cons_zero,List.set_cons_succ]
    refine wpL_word (i:=4) (v:=?_) rfl (by kernel_rfl) (fun _ _ _ h=>h) (by kernel_rfl) _ _ _ _ (by kernel_rfl) (by kernel_rfl) (Or.inl ⟨by rfl,?_⟩) (fun _=>HT.out) ?_;rotate_left
    ·intro w' _;go_simp
     try with_reducible rfl
    try simp only[Act.put,List.setIfInBounds_toArray,List.set_cons_zero,List.set_cons_succ]
    refine wpL_word (i:=5) (v:=?_) rfl (by kernel_rfl) (fun _ _ _ h=>h) (by kernel_rfl) _ _ _ _ (by kernel_rfl) (by kernel_rfl) (Or.inl ⟨by rfl,?_⟩) (fun _=>HT.out) ?_;rotate_left
    ·intro w' _;go_simp
     try with_reducible rfl
    try simp only[Act.put,List.setIfInBounds_toArray,List.set_cons_zero,List.set_cons_succ]
    refine wpL_load (i:=6) (v:=?_) rfl (by kernel_rfl) (fun _ _ _ h=>h) (by kernel_rfl) (by kernel_rfl) _ _ _ _ (by kernel_rfl) (by kernel_rfl) (Or.inl ⟨by rfl,?_⟩) (by kernel_rfl) HT.out ?_;rotate_left
    ·intro w' hS
     try dsimp only at hS
     obtain⟨x4,x5,x6,x7⟩:=hS;go_simp
     try with_reducible rfl
    try simp only[Act.put,List.setIfInBounds_toArray,List.set_cons_zero,List.set_cons_succ]
    refine wpL_word (i:=7) (v:=?_) rfl (by kernel_rfl) (fun _ _ _ h=>h) (by kernel_rfl) _ _ _ _ (by kernel_rfl) (by kernel_rfl) (Or.inl ⟨by rfl,?_⟩) (fun _=>HT.out) ?_;rotate_left
    ·intro w' _;go_simp
     try with_reducible rfl
    try simp only[Act.put,List.setIfInBounds_toArray,List.set_cons_zero,List.set_cons_succ]
    refine wpL_word (i:=8) (v:=?_) rfl (by kernel_rfl) (fun _ _ _ h=>h) (by kernel_rfl) _ _ _ _ (by kernel_rfl) (by kernel_rfl) (Or.inl ⟨by rfl,?_⟩) (fun _=>HT.out) ?_;rotate_left
    ·intro w' _;go_simp
     try with_reducible rfl
    try simp only[Act.put,List.setIfInBounds_toArray,List.set_cons_zero,List.set_cons_succ]
    refine wpL_load (i:=9) (v:=?_) rfl (by kernel_rfl) (fun _ _ _ h=>h) (by kernel_rfl) (by kernel_rfl) _ _ _ _ (by kernel_rfl) (by kernel_rfl) (Or.inl ⟨by rfl,?_⟩) (by kernel_rfl) HT.out ?_;rotate_left
    ·intro w' hS
     try dsimp only at hS
     obtain⟨x4,x5,x6,x7⟩:=hS;go_simp
     try with_reducible rfl
    try simp only[Act.put,List.setIfInBounds_toArray,List.set_cons_zero,List.set_cons_succ]
    refine wpL_word (i:=10) (v:=?_) rfl (by kernel_rfl) (fun _ _ _ h=>h) (by kernel_rfl) _ _ _ _ (by kernel_rfl) (by kernel_rfl) (Or.inl ⟨by rfl,?_⟩) (fun _=>HT.out) ?_;rotate_left
    ·intro w' _;go_simp
     try with_reducible rfl
    try simp only[Act.put,List.setIfInBounds_toArray,List.set_cons_zero,List.set_cons_succ]
    refine wpL_word (i:=11) (v:=?_) rfl (by kernel_rfl) (fun _ _ _ h=>h) (by kernel_rfl) _ _ _ _ (by kernel_rfl) (by kernel_rfl) (Or.inl ⟨by rfl,?_⟩) (fun _=>HT.out) ?_;rotate_left
    ·intro w' _;go_simp
     try with_reducible rfl
    try simp only[Act.put,List.setIfInBounds_toArray,List.set_cons_zero,List.set_cons_succ]
    refine wpL_word (i:=12) (v:=?_) rfl (by kernel_rfl) (fun _ _ _ h=>h) (by kernel_rfl) _ _ _ _ (by kernel_rfl) (by kernel_rfl) (Or.inl ⟨by rfl,?_⟩) (fun _=>HT.out) ?_;rotate_left
    ·intro w' _;go_simp
     try with_reducible rfl
    try simp only[Act.put,List.setIfInBounds_toArray,List.set_cons_zero,List.set_cons_succ]
    refine wpL_word (i:=13) (v:=?_) rfl (by kernel_rfl) (fun _ _ _ h=>h) (by kernel_rfl) _ _ _ _ (by kernel_rfl) (by kernel_rfl) (Or.inl ⟨by rfl,?_⟩) (fun _=>HT.out) ?_;rotate_left
    ·intro w' _;go_simp
     try with_reducible rfl
    try simp only[Act.put,List.setIfInBounds_toArray,List.set_cons_zero,List.set_cons_succ]
    refine wpL_next (n:=14) (by kernel_rfl) rfl (fun K hK=>?_);go_simp;refine hK.out _ _ (VA.out _) ?_;clear hK K
    try simp only[Act.put,List.setIfInBounds_toArray,List.set_cons_zero,List.set_cons_succ]
    refine wpL_next (n:=15) (by kernel_rfl) rfl (fun K hK=>?_);refine step_app1G (own_drew hS) rfl _ _ _ rfl i0 (ι 0) 8 Tryz.underlying23 hi hz0 hz1 hz2 rfl (by decide) rfl rfl rfl [ι (modF (gI ac j) (fixF nd).length)] rfl rfl (by simp[Value.oneCell']) h63 hby hba ?_;intro A2 c2 w2 hown2 hgr2;have hO2:=κ (Blk_grown (Blk.alloc (w:=wr.drew) hO.out _) hgr2 (Ne.symm (own_blk_ne hS.out hO.out (by decide))));have hB2:=κ (Blk_grown (Blk.alloc (w:=wr.drew) hB.out _) hgr2 (Ne.symm (own_blk_ne hS.out hB.out (by decide))));have hR2:=κ (Blk_grown (Blk.alloc (w:=wr.drew) hR.out _) hgr2 (Ne.symm (own_blk_ne hS.out hR.out (by decide))));have hN2:=own_own (World.ownsRow.alloc (w:=wr.drew) hN.out _) (World.ownsRow.alloc (w:=wr.drew) hS.out _) (by decide) hgr2;have hb2:=(below_up (W:=wr.drew) hbl.drew _).grown hgr2 (by simp;omega) (fun q hq=>by have:=World.ownsRow.lt hS.out q hq;omega);have z0:=χ (hO2.out.cell 5);have z1:=hO2.out.thaw 5;have z2:=(hb2.cell (p:=(α b (o+j))) hb).trans hd0.out;have HT2:Hid ((fun w'=>w'.cell? (α gO 5)=some (.slice Ak j ck)∧w'.cell? (α w.heap.size 5)=some (.slice (some (α b o)) ac.length d)∧w'.cell? (α b (o+j))=some (ι (gI ac j))∧w'.cell? (α gO 4)=some (.slice A1 (fixF nd).length c1)) w2):=⟨z0,by rw[←HBE.out];exact hB2.out.cell 5,z2,hO2.out.cell 4⟩;refine hK.out _ _ HT2.out ?_;clear hK K
    try simp only[Act.put,List.setIfInBounds_toArray,List.set_cons_zero,List.set_cons_succ]
    refine wpL_word (i:=16) (v:=?_) rfl (by kernel_rfl) (fun _ _ _ h=>h) (by kernel_rfl) _ _ _ _ (by kernel_rfl) (by kernel_rfl) (Or.inl ⟨by rfl,?_⟩) (fun _=>HT2.out) ?_;rotate_left
    ·intro w' _;go_simp
     try with_reducible rfl
    try simp only[Act.put,List.setIfInBounds_toArray,List.set_cons_zero,List.set_cons_succ]
    refine wpL_late (n:=17) (by kernel_rfl) rfl (by kernel_rfl) (fun K hK=>?_);go_simp;refine hK.out _ _ ?_;clear hK K
    try simp only[Act.put,List.setIfInBounds_toArray,List.set_cons_zero,List.set_cons_succ]
    refine Δ ?_;have hO3:Hid (Blk (w2.setCell (α gO 5) (.slice A2 (j+1) c2)) gO 33 (vC (1+modF sh 3) (modF wi 4) (1+modF ra 6) (1+modF ta 8) A1 (fixF nd).length c1 A2 (j+1) c2 none 0 0)):=blk_set hO2.out 5 _;have hB3:Hid (Blk (w2.setCell (α gO 5) (.slice A2 (j+1) c2)) w.heap.size 33 (vC sh wi ra ta A nd.length c B ac.length d C sy.length f)):=blk_far hB2.out (by simp;omega) _;have hR3:Hid (Blk (w2.setCell (α gO 5) (.slice A2 (j+1) c2)) (w.heap.size+1) 33 (vC 0 0 0 0 none 0 0 none 0 0 none 0 0)):=blk_far hR2.out (by simp;omega) _;have hN3:=κ (own_set1 hN2 hO2.out (by decide) 5 (.slice A2 (j+1) c2))
    have hS3:Hid ((w2.setCell (α gO 5) (.slice A2 (j+1) c2)).ownsRow (w.heap.size+2) 3 1 (.slice A2 (j+1) c2) (j+1) (ints ((ac.take (j+1)).map fun a=>modF a (fixF nd).length))):=by
     rw[hpre.out];exact own_set1 hown2.out hO2.out (by decide) 5 _
    have hb3:Below w.heap.size w (w2.setCell (α gO 5) (.slice A2 (j+1) c2)):=hb2.setCell (p:=(α gO 5)) (by show w.heap.size≤gO;omega) _;clear hB2 hR2 hN2 hb2 hO2 hown2 hgr2 z0 z1 z2 HT HT2 VA
    go_wp2_with fail
    go_roundg g
    case measure=>omega
    case rel=>exact⟨j+1,A2,c2,by have:=HJ.out;omega,by go_num,hO3,hB3,hR3,hN3,hS3,hb3⟩
   ·have hj5:Hid (j=min ac.length 5):=by show _=_;omega
    by_cases hx1:j<ac.length
    case' pos=>
     have t1:decide ((j:Int)<5)=false:=by simp;omega
     have t2:decide ((j:Int)<(ac.length:Int))=true:=by simp;omega
     clear hlt hjg
     go_upto_region 6 with fail
    case' neg=>
     have t2:decide ((j:Int)<(ac.length:Int))=false:=by simp;omega
     clear hlt hjg
     go_upto_region 6 with fail
    all_goals
     have e5:=χ (hO.out.cell 5);have e4:=χ (hO.out.cell 4);have y5:=hO.out.thaw 5
     go_upto_if 66 with fail
     go_cut [5] (fun sa wx=> ∃(k:Nat) (A3:Option Addr) (c3:Nat),Hid (k=(fixA (fixF nd).length ac).length)∧Hid (Blk wx gO 33 (vC (1+modF sh 3) (modF wi 4) (1+modF ra 6) (1+modF ta 8) A1 (fixF nd).length c1 A3 k c3 none 0 0))∧Hid (Blk wx w.heap.size 33 (vC sh wi ra ta A nd.length c B ac.length d C sy.length f))∧Hid (Blk wx (w.heap.size+1) 33 (vC 0 0 0 0 none 0 0 none 0 0 none 0 0))∧Hid (wx.ownsRow (w.heap.size+2) 71 2 (.slice A1 (fixF nd).length c1) (fixF nd).length (nds (fixF nd)))∧Hid (wx.ownsRow (w.heap.size+2) 3 1 (.slice A3 k c3) k (ints (fixA (fixF nd).length ac)))∧Below w.heap.size w wx)
     case first=>
      by_cases h0:ac.length=0
      ·have hj0:j=0:=by have:=hj5.out;omega
       have q0:((j:Int)==0)=true:=beq_iff_eq.2 (by omega);have hfx:Hid (fixA (fixF nd).length ac=[((fixF nd).length:Int)-1]):=by show _=_;unfold fixA;rw[if_pos h0]
       clear h0 hj0
       go_wp2_with fail
       go_meet;exact⟨1,some (α wr.heap.size 0),1,(by rw[hfx.out];rfl),Blk.alloc (blk_set hO.out 5 _) _,Blk.alloc (blk_far hB.out (by simp;omega) _) _,Blk.alloc (blk_far hR.out (by simp;omega) _) _,World.ownsRow.alloc (own_set1 hN.out hO.out (by decide) 5 _) _,(by rw[hfx.out];exact own_oneI (blk_at (by simp)) (by omega)),below_up (hbl.setCell (p:=(α gO 5)) (by show w.heap.size≤gO;omega) _) _⟩
      ·have q0:((j:Int)==0)=false:=beq_eq_false_iff_ne.2 (by have:=hj5.out;omega)
       have hfx:Hid (fixA (fixF nd).length ac=(ac.take j).map fun a=>modF a (fixF nd).length):=by
        show _=_;unfold fixA;rw[if_neg h0,hj5.out]
        have e:ac.take (min ac.length 5)=ac.take 5:=by
         by_cases h5:ac.length≤5
         ·rw[Nat.min_eq_left h5,List.take_length,List.take_of_length_le h5]
         ·rw[Nat.min_eq_right (by omega)]
        rw[e]
       have hlen:Hid (j=(fixA (fixF nd).length ac).length):=by
        show _=_;rw[hfx.out,List.length_map,List.length_take];have:=hj5.out;omega
       clear h0
       go_wp2_with fail
       go_meet;exact⟨j,Ak,ck,hlen,hO,hB,hR,hN,(by rw[hfx.out];exact hS),hbl⟩
     case rest=>
      obtain⟨k,A3,c3,hk,kO2,kB2,kR2,rN2,rA2,bl2⟩:=hcut
      rename World=>wA
      clear y5 e5 e4 f5 hO hB hR hN hS hbl;have hk5:Hid (k≤5):=by show _≤_;rw[hk.out];exact fixA_len.2
      obtain⟨j0,hj0,hy0,hy1,hy2⟩:=info_parts sym_info
      go_wp2_with fail
      go_loopg [5] (min sy.length 3) (fun g s5 w'=> ∃(j:Nat) (Ak:Option Addr) (ck:Nat),j+g=min sy.length 3∧s5= ι j∧Lq sh wi ra ta A B C c d f nd ac sy w gO k j A1 A3 Ak c1 c3 ck w')
      case atStart=>exact⟨0,none,0,by omega,rfl,kO2,kB2,kR2,rN2,rA2,World.ownsRow_nil _ _ _ _,bl2⟩
      case round=>
       obtain⟨j,Ak,ck,hjg,rfl,hq⟩:=hrel;have HQ:=κ hq;obtain⟨hO,hB,hR,hN,hA,hS,hbl⟩:=hq;have f6:=χ (hB.out.cell 6);have hgr:=hO.out.lt;have hwr:=hR.out.lt;by_cases hlt:j<sy.length∧j<3
       ·obtain⟨g,rfl⟩: ∃g,gk=g+1:=⟨gk-1,by omega⟩;obtain⟨hlt1,hlt2⟩:=hlt;have HJ:=κ hjg;have t1:decide ((j:Int)<3)=true:=by simp;omega
        have t2:decide ((j:Int)<(sy.length:Int))=true:=by simp;omega
        have hsw:Smb wr w.heap.size C sy:=Rd.below hs.out hbl.out;obtain⟨b,o,hCe,hb,hcc⟩:=Smb.at (i:=j) hsw hlt1;rw[hCe]at f6;clear hCe hjg;obtain⟨d0,d1,d2,d3⟩:=hcc j hlt1
        have hpre:Hid (smbs ((sy.take (j+1)).map oneS)=smbs ((sy.take j).map oneS)++[ι (1+modF (sP sy j) 1099511627776),ι (1+modF (sQ sy j) 1099511627776),ι (if sW sy j<0 then 9223372036854775807 else sW sy j),.float .f64 (if rightB (sB sy j)=true then sB sy j else 4602678819172646912)]):=by
         show _=_;rw[takeS_snoc hlt1,List.map_append,List.map_cons,List.map_nil,smbs_snoc]
         rfl
        clear hcc hsw;generalize sP sy j=xp at *;generalize sQ sy j=xq at *;generalize sW sy j=xw at *;generalize sB sy j=xb at *;have hnX:Hid ((Value.slice Ak j ck).ownBlock≠some (wr.heap.size+1)):=by show _≠_;intro e;have:=World.ownsRow.lt hS.out _ e;omega
        go_upto_region 13 with fail
        rw[one64,one64];have kX:Hid (Blk ((wr.alloc (.cells (vF xp xq xw xb) 90)).alloc (.cells (vF (1+modF xp 1099511627776) (1+modF xq 1099511627776) xw xb) 90)) (wr.heap.size+1) 90 (vF (1+modF xp 1099511627776) (1+modF xq 1099511627776) xw xb)):=blk_at (by simp);have HX:Hid (Lq sh wi ra ta A B C c d f nd ac sy w gO k j A1 A3 Ak c1 c3 ck ((wr.alloc (.cells (vF xp xq xw xb) 90)).alloc (.cells (vF (1+modF xp 1099511627776) (1+modF xq 1099511627776) xw xb) 90))):=(HQ.out.alloc _).alloc _;have hX1:w.heap.size+2≤wr.heap.size+1:=by omega
        have hX2:gO≠wr.heap.size+1:=by omega
        clear hO hB hR hN hA hS hbl HQ d0 d1 d2 d3 f6 hgr hwr;generalize ((wr.alloc (.cells (vF xp xq xw xb) 90)).alloc (.cells (vF (1+modF xp 1099511627776) (1+modF xq 1099511627776) xw xb) 90))=w1 at kX HX ⊢;generalize wr.heap.size+1=gX at kX hnX hX1 hX2 ⊢;have x2:=χ (kX.out.cell 2)
        go_upto_if 108 with fail
        go_cut [7] (fun s7 wx=>s7= .pointer (some (α gX 0))∧Hid (Blk wx gX 90 (vF (1+modF xp 1099511627776) (1+modF xq 1099511627776) (if xw<0 then 9223372036854775807 else xw) xb))∧Hid (Lq sh wi ra ta A B C c d f nd ac sy w gO k j A1 A3 Ak c1 c3 ck wx))
        case first=>
         have y2:=kX.out.thaw 2;by_cases hneg:xw<0
         ·have t3:decide (xw<0)=true:=by simp;exact hneg
          go_wp2_with fail
          go_meet;refine⟨rfl,?_,HX.out.set kX.out hnX.out hX1 hX2 2 _⟩;rw[if_pos hneg];exact blk_set kX.out 2 _
         ·have t3:decide (xw<0)=false:=by simp;omega
          go_wp2_with fail
          go_meet;refine⟨rfl,?_,HX⟩;rw[if_neg (by omega)];exact kX
        case rest=>
         obtain⟨rfl,kX2,HX2⟩:=hcut
         rename World=>w2
         clear x2 kX HX;generalize (if xw<0 then 9223372036854775807 else xw)=xm at kX2 hpre;have x3:=χ (kX2.out.cell 3)
         go_upto_if 113 with(first|(go_at_call 43;refine(rright_any _ _).mono ?_;rintro e w' ⟨rfl,rfl⟩))
         go_cut [7] (fun s7 wx=>s7= .pointer (some (α gX 0))∧Hid (Blk wx gX 90 (vF (1+modF xp 1099511627776) (1+modF xq 1099511627776) xm (if rightB xb=true then xb else 4602678819172646912)))∧Hid (Lq sh wi ra ta A B C c d f nd ac sy w gO k j A1 A3 Ak c1 c3 ck wx))
         case first=>
          have y3:=kX2.out.thaw 3;generalize hrt:rightB xb=rb at ⊢;cases rb
          ·simp only[Bool.not_false]
           go_wp2_with fail
           go_meet;refine⟨rfl,?_,HX2.out.set kX2.out hnX.out hX1 hX2 3 _⟩;rw[if_neg (by rw[hrt];decide)];exact blk_set kX2.out 3 _
          ·simp only[Bool.not_true]
           go_wp2_with fail
           go_meet;refine⟨rfl,?_,HX2⟩;rw[if_pos hrt];exact kX2
         case rest=>
          obtain⟨rfl,kX3,HX3⟩:=hcut
          rename World=>w3
          clear x3 kX2 HX2;obtain⟨hO3,hB3,hR3,hN3,hA3,hS3,hb3⟩:=HX3.out;generalize (if rightB xb=true then xb else 4602678819172646912)=xc at kX3 hpre;generalize 1+modF xp 1099511627776=xa at kX3 hpre;generalize 1+modF xq 1099511627776=xe at kX3 hpre;have s0:=χ (kX3.out.cell 0);have s1:=χ (kX3.out.cell 1);have s2:=χ (kX3.out.cell 2);have s3:=χ (kX3.out.cell 3);have v6:=χ (hO3.out.cell 6);have hba:w.heap.size+2≤w3.heap.size:=by have:=hO3.out.lt;omega
          have h63:j+1≤maxLen:=by unfold maxLen;omega
          have hby:(j+1)*32≤140737488355328:=by omega
          go_wp2_with (at_builtin;refine wpList_app1G hS3 rfl _ _ _ rfl j0 (.agg #[.int .i64 0,.int .i64 0,.int .i64 0,.float .f64 0]) 32 Tryz.underlying31 hj0 hy0 hy1 hy2 rfl (by decide) rfl rfl rfl [.int .i64 xa,.int .i64 xe,.int .i64 xm,.float .f64 xc] rfl rfl (by simp[Value.oneCell']) h63 hby hba ?_;intro A2 c2 w4 hown4 hgr4;have hO4:=κ (Blk_grown (hO3.out.alloc _) hgr4 (Ne.symm (own_blk_ne hS3.out hO3.out (by decide))));have z0:=χ (hO4.out.cell 6);have z1:=hO4.out.thaw 6)
          have hB4:=Blk_grown (hB3.out.alloc _) hgr4 (Ne.symm (own_blk_ne hS3.out hB3.out (by decide)));have hR4:=Blk_grown (hR3.out.alloc _) hgr4 (Ne.symm (own_blk_ne hS3.out hR3.out (by decide)));have hN4:=own_own (World.ownsRow.alloc hN3.out _) (World.ownsRow.alloc hS3.out _) (by decide) hgr4;have hA4:=own_own (World.ownsRow.alloc hA3.out _) (World.ownsRow.alloc hS3.out _) (by decide) hgr4;have hb4:=(below_up hb3.out _).grown hgr4 (by have:=hb3.out.size;simp;omega) (fun q hq=>by have:=World.ownsRow.lt hS3.out q hq;omega)
          have hS4:Hid ((w4.setCell (α gO 6) (.slice A2 (j+1) c2)).ownsRow (w.heap.size+2) 90 4 (.slice A2 (j+1) c2) (j+1) (smbs ((sy.take (j+1)).map oneS))):=by
           rw[hpre.out];exact own_set1 hown4.out hO4.out (by decide) 6 _
          have hend:Lq sh wi ra ta A B C c d f nd ac sy w gO k (j+1) A1 A3 A2 c1 c3 c2 (w4.setCell (α gO 6) (.slice A2 (j+1) c2)):=
           ⟨blk_set hO4.out 6 _,blk_far hB4 (by simp;omega) _,blk_far hR4 (by simp;omega) _,own_set1 hN4 hO4.out (by decide) 6 (.slice A2 (j+1) c2),own_set1 hA4 hO4.out (by decide) 6 (.slice A2 (j+1) c2),hS4,hb4.setCell (p:=⟨gO,6,none⟩) (by show w.heap.size≤gO;omega) _⟩
          have HE:=κ hend;clear hend hB4 hR4 hN4 hA4 hb4 hO4 hown4 hgr4 z0 z1 hS4
          go_wp2_with fail
          go_roundg g
          case measure=>omega
          case rel=>exact⟨j+1,A2,c2,by have:=HJ.out;omega,by go_num,HE.out⟩
       ·have hj3:Hid (j=min sy.length 3):=by show _=_;omega
        by_cases hx2:j<sy.length
        case' pos=>
         have t1:decide ((j:Int)<3)=false:=by simp;omega
         have t2:decide ((j:Int)<(sy.length:Int))=true:=by simp;omega
         clear hlt hjg
         go_upto_region 18 with fail
        case' neg=>
         have t2:decide ((j:Int)<(sy.length:Int))=false:=by simp;omega
         clear hlt hjg
         go_upto_region 18 with fail
        all_goals
         have e6:=χ (hO.out.cell 6);have y6:=hO.out.thaw 6
         go_upto_if 124 with fail
         go_cut [3] (fun sa wx=> ∃(m:Nat) (A6:Option Addr) (c6:Nat),sa= .pointer (some (α gO 0))∧Hid (m=(fixS sy).length)∧Hid (Blk wx gO 33 (vC (1+modF sh 3) (modF wi 4) (1+modF ra 6) (1+modF ta 8) A1 (fixF nd).length c1 A3 k c3 A6 m c6))∧Hid (Blk wx (w.heap.size+1) 33 (vC 0 0 0 0 none 0 0 none 0 0 none 0 0))∧Hid (wx.ownsRow (w.heap.size+2) 71 2 (.slice A1 (fixF nd).length c1) (fixF nd).length (nds (fixF nd)))∧Hid (wx.ownsRow (w.heap.size+2) 3 1 (.slice A3 k c3) k (ints (fixA (fixF nd).length ac)))∧Hid (wx.ownsRow (w.heap.size+2) 90 4 (.slice A6 m c6) m (smbs (fixS sy)))∧Below w.heap.size w wx)
         case first=>
          by_cases h0:sy.length=0
          ·have hj0':j=0:=by have:=hj3.out;omega
           have q0:((j:Int)==0)=true:=beq_iff_eq.2 (by omega);have hfx:Hid (fixS sy=[(10,100,1000,4602678819172646912)]):=by show _=_;unfold fixS;rw[if_pos h0]
           clear h0 hj0'
           go_wp2_with fail
           go_meet;exact⟨1,some (α wr.heap.size 0),1,rfl,(by rw[hfx.out];rfl),Blk.alloc (blk_set hO.out 6 _) _,Blk.alloc (blk_far hR.out (by simp;omega) _) _,World.ownsRow.alloc (own_set1 hN.out hO.out (by decide) 6 _) _,World.ownsRow.alloc (own_set1 hA.out hO.out (by decide) 6 _) _,(by rw[hfx.out];exact own_oneS (blk_at (by simp)) (by omega)),below_up (hbl.out.setCell (p:=(α gO 6)) (by show w.heap.size≤gO;omega) _) _⟩
          ·have q0:((j:Int)==0)=false:=beq_eq_false_iff_ne.2 (by have:=hj3.out;omega)
           have hfx:Hid (fixS sy=(sy.take j).map oneS):=by
            show _=_;unfold fixS;rw[if_neg h0,hj3.out]
            have e:sy.take (min sy.length 3)=sy.take 3:=by
             by_cases h5:sy.length≤3
             ·rw[Nat.min_eq_left h5,List.take_length,List.take_of_length_le h5]
             ·rw[Nat.min_eq_right (by omega)]
            rw[e]
           have hlen:Hid (j=(fixS sy).length):=by
            show _=_;rw[hfx.out,List.length_map,List.length_take];have:=hj3.out;omega
           clear h0
           go_wp2_with fail
           go_meet;exact⟨j,Ak,ck,rfl,hlen,hO,hR,hN,hA,(by rw[hfx.out];exact hS),hbl.out⟩
         case rest=>
          obtain⟨m,A6,c6,rfl,hm,gO6,gR6,gN6,gA6,gS6,gb6⟩:=hcut
          rename World=>wE
          clear e6 y6 f6 hO hB hR hN hA hS hbl HQ;have e0:=gO6.out.cell 0;have e1:=gO6.out.cell 1;have e2:=gO6.out.cell 2;have e3:=gO6.out.cell 3;have e4:=gO6.out.cell 4;have e5:=gO6.out.cell 5;have e6:=gO6.out.cell 6;obtain⟨r0,r1,r2,r3,r4,r5,r6,y0,y1,y2,y3,y4,y5,y6⟩:=z_of gR6.out;simp only[List.getElem?_toArray,List.getElem?_cons_zero,List.getElem?_cons_succ]at e0 e1 e2 e3 e4 e5 e6;obtain⟨x0,x1,x2,x3,x4,x5,x6⟩:=st7_cells (a:= .int .i64 (1+modF sh 3)) (b:= .int .i64 (modF wi 4)) (c:= .int .i64 (1+modF ra 6)) (d:= .int .i64 (1+modF ta 8)) (e:= .slice A1 (fixF nd).length c1) (f:= .slice A3 k c3) (h:= .slice A6 m c6) gR6.out;have bF:Below w.heap.size w (st7 wE (w.heap.size+1) (ι (1+modF sh 3)) (ι (modF wi 4)) (ι (1+modF ra 6)) (ι (1+modF ta 8)) (.slice A1 (fixF nd).length c1) (.slice A3 k c3) (.slice A6 m c6)):=st7_below gb6 (by omega);have NF:=κ (Rd.of_own (own_st7 (qa:= ι (1+modF sh 3)) (qb:= ι (modF wi 4)) (qc:= ι (1+modF ra 6)) (qd:= ι (1+modF ta 8)) (qe:= .slice A1 (fixF nd).length c1) (qf:= .slice A3 k c3) (qh:= .slice A6 m c6) gN6.out gR6.out (by decide)));have UF:=κ (Rd.of_own (own_st7 (qa:= ι (1+modF sh 3)) (qb:= ι (modF wi 4)) (qc:= ι (1+modF ra 6)) (qd:= ι (1+modF ta 8)) (qe:= .slice A1 (fixF nd).length c1) (qf:= .slice A3 k c3) (qh:= .slice A6 m c6) gA6.out gR6.out (by decide)));have SF:=κ (Rd.of_own (own_st7 (qa:= ι (1+modF sh 3)) (qb:= ι (modF wi 4)) (qc:= ι (1+modF ra 6)) (qd:= ι (1+modF ta 8)) (qe:= .slice A1 (fixF nd).length c1) (qf:= .slice A3 k c3) (qh:= .slice A6 m c6) gS6.out gR6.out (by decide)));have hend:=κ (madeCf_mk (sh:=1+modF sh 3) (wi:=modF wi 4) (ra:=1+modF ra 6) (ta:=1+modF ta 8) (c:=c1) (d:=c3) (f:=c6) rfl hk.out hm.out NF.out UF.out SF.out bF);clear bF gO6 gR6 gN6 gA6 gS6 gb6 NF UF SF
          go_wp2_with fail
          unfold st7 at x0 x1 x2 x3 x4 x5 x6 hend;exact bodyPost_ret (v:= .agg #[ι (1+modF sh 3),ι (modF wi 4),ι (1+modF ra 6),ι (1+modF ta 8),.slice A1 (fixF nd).length c1,.slice A3 k c3,.slice A6 m c6]) (by simp[results,Tryz.results21,go_sem,x0,x1,x2,x3,x4,x5,x6]) rfl hend.out
end Rul7
end Go.Proofs.YtaeddnjjeholgaaGreat
