/- Texts side by side. -/
import Derived.Laws.StructEq
import Derived.Test.YtaeddnjjeholgaaGreatUgah
import Derived.Test.YtaeddnjjeholgaaGreatUgay
set_option linter.unusedVariables false
set_option linter.unusedSimpArgs false
set_option maxRecDepth 100000
set_option maxHeartbeats 16000000
namespace Go.Proofs.YtaeddnjjeholgaaGreat
open Kap Go.ChangeShapes Go.WideShapes Go.ChangeAt Go.RowKit Mem Tre Ref3 Law3 Fix3
namespace Rul3
open Abv Opn Bnd Flo Cfg Rul1
variable {a sh:Int} {n:Nat}
attribute [local go_sem] run_store_float
section
variable {ac:List Int} {sy:List (Int×Int×Int×Nat)} {a s p q n t:Int}
theorem lok_1(h:p<1∨q<1∨n<0∨t<0):lokF ac sy a s p q n t=(1,0):=by unfold lokF;rw[if_pos h]
theorem lok_3(h: ¬(p<1∨q<1∨n<0∨t<0))(h1:inR ac.length a=false):lokF ac sy a s p q n t=(3,0):=by unfold lokF;rw[if_neg h,if_pos h1]
theorem lok_4(h: ¬(p<1∨q<1∨n<0∨t<0))(h1:inR ac.length a=true)(h2:inR sy.length s=false):lokF ac sy a s p q n t=(4,0):=by
 unfold lokF;rw[if_neg h,if_neg (by rw[h1];decide),if_pos h2]
theorem lok_5(h: ¬(p<1∨q<1∨n<0∨t<0))(h1:inR ac.length a=true)(h2:inR sy.length s=true)(h3:sQ sy s.toNat<q):lokF ac sy a s p q n t=(5,0):=by
 unfold lokF;rw[if_neg h,if_neg (by rw[h1];decide),if_neg (by rw[h2];decide),if_pos h3]
theorem lok_6(h: ¬(p<1∨q<1∨n<0∨t<0))(h1:inR ac.length a=true)(h2:inR sy.length s=true)(h3: ¬sQ sy s.toNat<q)(h4:Fix.noB p q=false):lokF ac sy a s p q n t=(6,0):=by
 rw[Fix.noB_in (by omega) (by omega)]at h4;unfold lokF;rw[if_neg h,if_neg (by rw[h1];decide),if_neg (by rw[h2];decide),if_neg h3,if_pos (by rw[h4];decide)]
theorem no_prod(h: ¬(p<1∨q<1∨n<0∨t<0))(h4:Fix.noB p q=true):Fix.noV p q=p*q:=by
 rw[Fix.noV_in (by omega) (by omega)];rw[Fix.noB_in (by omega) (by omega)]at h4;unfold Fix.numV;rw[h4];rfl
theorem lok_7(h: ¬(p<1∨q<1∨n<0∨t<0))(h1:inR ac.length a=true)(h2:inR sy.length s=true)(h3: ¬sQ sy s.toNat<q)(h4:Fix.noB p q=true)(h5:sW sy s.toNat<Fix.noV p q):lokF ac sy a s p q n t=(7,0):=by
 rw[no_prod h h4]at h5;rw[Fix.noB_in (by omega) (by omega)]at h4;unfold lokF;rw[if_neg h,if_neg (by rw[h1];decide),if_neg (by rw[h2];decide),if_neg h3,if_neg (by rw[h4];decide),if_pos h5]
theorem lok_8(h: ¬(p<1∨q<1∨n<0∨t<0))(h1:inR ac.length a=true)(h2:inR sy.length s=true)(h3: ¬sQ sy s.toNat<q)(h4:Fix.noB p q=true)(h5: ¬sW sy s.toNat<Fix.noV p q)(h6:witB (sP sy s.toNat) p (sB sy s.toNat)=false):lokF ac sy a s p q n t=(8,0):=by
 rw[no_prod h h4]at h5;rw[Fix.noB_in (by omega) (by omega)]at h4;unfold lokF;rw[if_neg h,if_neg (by rw[h1];decide),if_neg (by rw[h2];decide),if_neg h3,if_neg (by rw[h4];decide),if_neg h5,if_pos h6]
theorem lok_0(h: ¬(p<1∨q<1∨n<0∨t<0))(h1:inR ac.length a=true)(h2:inR sy.length s=true)(h3: ¬sQ sy s.toNat<q)(h4:Fix.noB p q=true)(h5: ¬sW sy s.toNat<Fix.noV p q)(h6:witB (sP sy s.toNat) p (sB sy s.toNat)=true):lokF ac sy a s p q n t=(0,Fix.noV p q):=by
 rw[no_prod h h4]at h5 ⊢;rw[Fix.noB_in (by omega) (by omega)]at h4;unfold lokF;rw[if_neg h,if_neg (by rw[h1];decide),if_neg (by rw[h2];decide),if_neg h3,if_neg (by rw[h4];decide),if_neg h5,if_neg (by rw[h6];decide)]
end
theorem look_any(sh wi ra ta:Int)(A B C:Option Addr)(c d f:Nat)(nd:List (Int×Int))(ac:List Int)(sy:List (Int×Int×Int×Nat))(a s:Int)(x:Bool)(p q n t:Int)(w:World)
  (hs:Hid (Smb w w.heap.size C sy))(hwf:Hid (WfS sy))(hp:inI p)(hq:inI q)(hmay:(ac.length:Int)≤1000000)(hmaz:(sy.length:Int)≤1000000):
  Calls Tryz.prog 103 #[.agg #[.int .i64 sh,.int .i64 wi,.int .i64 ra,.int .i64 ta,.slice A nd.length c,.slice B ac.length d,.slice C sy.length f],.agg #[.int .i64 a,.int .i64 s,.bool x,.int .i64 p,.int .i64 q,.int .i64 n,.int .i64 t]] w (Made2 (lokF ac sy a s p q n t) w):=by
 obtain⟨hp0,hp1⟩:=hp;obtain⟨hq0,hq1⟩:=hq;have b0:=γ w (.cells (vC sh wi ra ta A nd.length c B ac.length d C sy.length f) 43) (.cells (vO a s x p q n t) 51);have s0:Hid (Smb ((w.alloc (.cells (vC sh wi ra ta A nd.length c B ac.length d C sy.length f) 43)).alloc (.cells (vO a s x p q n t) 51)) ((w.alloc (.cells (vC sh wi ra ta A nd.length c B ac.length d C sy.length f) 43)).alloc (.cells (vO a s x p q n t) 51)).heap.size C sy):=Rd.below' hs.out b0 b0.size;have k0:=κ ((Blk.fresh w 43 (vC sh wi ra ta A nd.length c B ac.length d C sy.length f)).alloc (.cells (vO a s x p q n t) 51))
 have k1:Hid (Blk ((w.alloc (.cells (vC sh wi ra ta A nd.length c B ac.length d C sy.length f) 43)).alloc (.cells (vO a s x p q n t) 51)) (w.heap.size+1) 51 (vO a s x p q n t)):=by
  have:=Blk.fresh (w.alloc (.cells (vC sh wi ra ta A nd.length c B ac.length d C sy.length f) 43)) 51 (vO a s x p q n t);simp only[World.size_alloc]at this;exact this
 have hsz:w.heap.size+1<((w.alloc (.cells (vC sh wi ra ta A nd.length c B ac.length d C sy.length f) 43)).alloc (.cells (vO a s x p q n t) 51)).heap.size:=by simp
 go_enter Tryz.func103,Tryz.ntmps103
 go_upto_region 1 with fail
 generalize ((w.alloc (.cells (vC sh wi ra ta A nd.length c B ac.length d C sy.length f) 43)).alloc (.cells (vO a s x p q n t) 51))=W0 at b0 s0 k0 k1 hsz ⊢;have f0:=χ (k0.out.cell 5);have f1:=χ (k0.out.cell 6);have g0:=χ (k1.out.cell 0);have g1:=χ (k1.out.cell 1);have g3:=χ (k1.out.cell 3);have g4:=χ (k1.out.cell 4);have g5:=χ (k1.out.cell 5);have g6:=χ (k1.out.cell 6);by_cases hh0:p<1
 ·
  have E:Hid (lokF ac sy a s p q n t=(1,0)):=lok_1 (by omega)
  go_wp2_with (first|(go_at_call 146;(with_reducible refine(hasI_any _ _ _ _ _).mono ?_);rintro e w4 ⟨rfl,rfl⟩)|(go_at_call 147;(with_reducible refine(hasS_any _ _ _ _ _).mono ?_);rintro e w4 ⟨rfl,rfl⟩)|(go_at_call 148;(with_reducible refine(Fix.not_any p q _ (by omega) (by omega) (by omega) (by omega)).mono ?_);rintro e w4 ⟨rfl,rfl⟩)|(go_at_call 149;(with_reducible refine(Bnd.wit_any _ _ _ _ hbb).mono ?_);rintro e w4 ⟨rfl,rfl⟩))
  go_ret2;exact made2 E.out b0
 by_cases hh1:q<1
 ·
  have E:Hid (lokF ac sy a s p q n t=(1,0)):=lok_1 (by omega)
  go_wp2_with (first|(go_at_call 146;(with_reducible refine(hasI_any _ _ _ _ _).mono ?_);rintro e w4 ⟨rfl,rfl⟩)|(go_at_call 147;(with_reducible refine(hasS_any _ _ _ _ _).mono ?_);rintro e w4 ⟨rfl,rfl⟩)|(go_at_call 148;(with_reducible refine(Fix.not_any p q _ (by omega) (by omega) (by omega) (by omega)).mono ?_);rintro e w4 ⟨rfl,rfl⟩)|(go_at_call 149;(with_reducible refine(Bnd.wit_any _ _ _ _ hbb).mono ?_);rintro e w4 ⟨rfl,rfl⟩))
  go_ret2;exact made2 E.out b0
 by_cases hh2:n<0
 ·
  have E:Hid (lokF ac sy a s p q n t=(1,0)):=lok_1 (by omega)
  go_wp2_with (first|(go_at_call 146;(with_reducible refine(hasI_any _ _ _ _ _).mono ?_);rintro e w4 ⟨rfl,rfl⟩)|(go_at_call 147;(with_reducible refine(hasS_any _ _ _ _ _).mono ?_);rintro e w4 ⟨rfl,rfl⟩)|(go_at_call 148;(with_reducible refine(Fix.not_any p q _ (by omega) (by omega) (by omega) (by omega)).mono ?_);rintro e w4 ⟨rfl,rfl⟩)|(go_at_call 149;(with_reducible refine(Bnd.wit_any _ _ _ _ hbb).mono ?_);rintro e w4 ⟨rfl,rfl⟩))
  go_ret2;exact made2 E.out b0
 by_cases hh3:t<0
 ·
  have E:Hid (lokF ac sy a s p q n t=(1,0)):=lok_1 (by omega)
  go_wp2_with (first|(go_at_call 146;(with_reducible refine(hasI_any _ _ _ _ _).mono ?_);rintro e w4 ⟨rfl,rfl⟩)|(go_at_call 147;(with_reducible refine(hasS_any _ _ _ _ _).mono ?_);rintro e w4 ⟨rfl,rfl⟩)|(go_at_call 148;(with_reducible refine(Fix.not_any p q _ (by omega) (by omega) (by omega) (by omega)).mono ?_);rintro e w4 ⟨rfl,rfl⟩)|(go_at_call 149;(with_reducible refine(Bnd.wit_any _ _ _ _ hbb).mono ?_);rintro e w4 ⟨rfl,rfl⟩))
  go_ret2;exact made2 E.out b0
 have HN:Hid (¬(p<1∨q<1∨n<0∨t<0)):=by show ¬_;omega
 cases h1:inR ac.length a
 ·
  have E:Hid (lokF ac sy a s p q n t=(3,0)):=lok_3 HN.out h1
  go_wp2_with (first|(go_at_call 146;(with_reducible refine(hasI_any _ _ _ _ _).mono ?_);rintro e w4 ⟨rfl,rfl⟩)|(go_at_call 147;(with_reducible refine(hasS_any _ _ _ _ _).mono ?_);rintro e w4 ⟨rfl,rfl⟩)|(go_at_call 148;(with_reducible refine(Fix.not_any p q _ (by omega) (by omega) (by omega) (by omega)).mono ?_);rintro e w4 ⟨rfl,rfl⟩)|(go_at_call 149;(with_reducible refine(Bnd.wit_any _ _ _ _ hbb).mono ?_);rintro e w4 ⟨rfl,rfl⟩))
  go_ret2;exact made2 E.out b0
 cases h2:inR sy.length s
 ·
  have E:=κ (lok_4 HN.out h1 h2)
  go_wp2_with (first|(go_at_call 146;(with_reducible refine(hasI_any _ _ _ _ _).mono ?_);rintro e w4 ⟨rfl,rfl⟩)|(go_at_call 147;(with_reducible refine(hasS_any _ _ _ _ _).mono ?_);rintro e w4 ⟨rfl,rfl⟩)|(go_at_call 148;(with_reducible refine(Fix.not_any p q _ (by omega) (by omega) (by omega) (by omega)).mono ?_);rintro e w4 ⟨rfl,rfl⟩)|(go_at_call 149;(with_reducible refine(Bnd.wit_any _ _ _ _ hbb).mono ?_);rintro e w4 ⟨rfl,rfl⟩))
  go_ret2;exact made2 E.out b0
 obtain⟨hs0,hs1⟩:=inR_of h2;obtain⟨b,o,rfl,hb,hcc⟩:=Smb.at (i:=s.toNat) s0.out (by omega);obtain⟨r0,r1,r2,r3⟩:=hcc s.toNat (by omega);have hbb:=(hwf.out s.toNat (by omega)).2.2.2;clear hcc;have bs:=b0.alloc b0.size (.cells (vF (sP sy s.toNat) (sQ sy s.toNat) (sW sy s.toNat) (sB sy s.toNat)) 106);have f2:(W0.alloc (.cells (vF (sP sy s.toNat) (sQ sy s.toNat) (sW sy s.toNat) (sB sy s.toNat)) 106)).cell? (α (w.heap.size+1) 3)=some (ι p):=(World.cell?_alloc_lt W0 _ (α (w.heap.size+1) 3) hsz).trans g3;have f3:(W0.alloc (.cells (vF (sP sy s.toNat) (sQ sy s.toNat) (sW sy s.toNat) (sB sy s.toNat)) 106)).cell? (α (w.heap.size+1) 4)=some (ι q):=(World.cell?_alloc_lt W0 _ (α (w.heap.size+1) 4) hsz).trans g4;by_cases h3:sQ sy s.toNat<q
 ·
  have E:=κ (lok_5 HN.out h1 h2 h3)
  go_wp2_with (first|(go_at_call 146;(with_reducible refine(hasI_any _ _ _ _ _).mono ?_);rintro e w4 ⟨rfl,rfl⟩)|(go_at_call 147;(with_reducible refine(hasS_any _ _ _ _ _).mono ?_);rintro e w4 ⟨rfl,rfl⟩)|(go_at_call 148;(with_reducible refine(Fix.not_any p q _ (by omega) (by omega) (by omega) (by omega)).mono ?_);rintro e w4 ⟨rfl,rfl⟩)|(go_at_call 149;(with_reducible refine(Bnd.wit_any _ _ _ _ hbb).mono ?_);rintro e w4 ⟨rfl,rfl⟩))
  go_ret2;exact made2 E.out bs
 cases h4:Fix.noB p q
 ·
  have E:=κ (lok_6 HN.out h1 h2 h3 h4)
  go_wp2_with (first|(go_at_call 146;(with_reducible refine(hasI_any _ _ _ _ _).mono ?_);rintro e w4 ⟨rfl,rfl⟩)|(go_at_call 147;(with_reducible refine(hasS_any _ _ _ _ _).mono ?_);rintro e w4 ⟨rfl,rfl⟩)|(go_at_call 148;(with_reducible refine(Fix.not_any p q _ (by omega) (by omega) (by omega) (by omega)).mono ?_);rintro e w4 ⟨rfl,rfl⟩)|(go_at_call 149;(with_reducible refine(Bnd.wit_any _ _ _ _ hbb).mono ?_);rintro e w4 ⟨rfl,rfl⟩))
  go_ret2;exact made2 E.out bs
 by_cases h5:sW sy s.toNat<Fix.noV p q
 ·
  have E:=κ (lok_7 HN.out h1 h2 h3 h4 h5)
  go_wp2_with (first|(go_at_call 146;(with_reducible refine(hasI_any _ _ _ _ _).mono ?_);rintro e w4 ⟨rfl,rfl⟩)|(go_at_call 147;(with_reducible refine(hasS_any _ _ _ _ _).mono ?_);rintro e w4 ⟨rfl,rfl⟩)|(go_at_call 148;(with_reducible refine(Fix.not_any p q _ (by omega) (by omega) (by omega) (by omega)).mono ?_);rintro e w4 ⟨rfl,rfl⟩)|(go_at_call 149;(with_reducible refine(Bnd.wit_any _ _ _ _ hbb).mono ?_);rintro e w4 ⟨rfl,rfl⟩))
  go_ret2;exact made2 E.out bs
 cases h6:witB (sP sy s.toNat) p (sB sy s.toNat)
 ·
  have E:=κ (lok_8 HN.out h1 h2 h3 h4 h5 h6)
  go_wp2_with (first|(go_at_call 146;(with_reducible refine(hasI_any _ _ _ _ _).mono ?_);rintro e w4 ⟨rfl,rfl⟩)|(go_at_call 147;(with_reducible refine(hasS_any _ _ _ _ _).mono ?_);rintro e w4 ⟨rfl,rfl⟩)|(go_at_call 148;(with_reducible refine(Fix.not_any p q _ (by omega) (by omega) (by omega) (by omega)).mono ?_);rintro e w4 ⟨rfl,rfl⟩)|(go_at_call 149;(with_reducible refine(Bnd.wit_any _ _ _ _ hbb).mono ?_);rintro e w4 ⟨rfl,rfl⟩))
  go_ret2;exact made2 E.out bs
 ·
  have E:=κ (lok_0 HN.out h1 h2 h3 h4 h5 h6)
  go_wp2_with (first|(go_at_call 146;(with_reducible refine(hasI_any _ _ _ _ _).mono ?_);rintro e w4 ⟨rfl,rfl⟩)|(go_at_call 147;(with_reducible refine(hasS_any _ _ _ _ _).mono ?_);rintro e w4 ⟨rfl,rfl⟩)|(go_at_call 148;(with_reducible refine(Fix.not_any p q _ (by omega) (by omega) (by omega) (by omega)).mono ?_);rintro e w4 ⟨rfl,rfl⟩)|(go_at_call 149;(with_reducible refine(Bnd.wit_any _ _ _ _ hbb).mono ?_);rintro e w4 ⟨rfl,rfl⟩))
  go_ret2;exact made2 E.out bs
theorem sha_n(h:sh<1∨inR n a=false):shaF sh n a= -1:=by unfold shaF;rw[if_pos h]
theorem sha_y(h:1≤sh)(h':inR n a=true):shaF sh n a=a%sh:=by
 unfold shaF;rw[if_neg];rw[h'];intro e;rcases e with e|e
 ·omega
 ·exact absurd e (by decide)
theorem shard_any(sh wi ra ta:Int)(A B C:Option Addr)(c d f:Nat)(nd:List (Int×Int))(ac:List Int)(sy:List (Int×Int×Int×Nat))(a:Int)(w:World)(hsh:inI sh)(hmay:(ac.length:Int)≤1000000):
  Calls Tryz.prog 106 #[.agg #[.int .i64 sh,.int .i64 wi,.int .i64 ra,.int .i64 ta,.slice A nd.length c,.slice B ac.length d,.slice C sy.length f],.int .i64 a] w (MadeX (shaF sh ac.length a) w):=by
 obtain⟨hh0,hh1⟩:=hsh;have b0:=β w (.cells (vC sh wi ra ta A nd.length c B ac.length d C sy.length f) 43);by_cases h0:sh<1
 ·have E:Hid (shaF sh ac.length a= -1):=sha_n (.inl h0)
  go_enter Tryz.func106,Tryz.ntmps106
  go_wp2_with (go_at_call 146;(with_reducible refine(hasI_any _ _ _ _ _).mono ?_);rintro e w4 ⟨rfl,rfl⟩)
  go_ret;exact madeX_mk E.out b0
 cases h1:inR ac.length a
 ·have E:Hid (shaF sh ac.length a= -1):=sha_n (.inr h1)
  go_enter Tryz.func106,Tryz.ntmps106
  go_wp2_with (go_at_call 146;(with_reducible refine(hasI_any _ _ _ _ _).mono ?_);rintro e w4 ⟨rfl,rfl⟩)
  go_ret;exact madeX_mk E.out b0
 ·obtain⟨ha0,ha1⟩:=inR_of h1;have E:Hid (shaF sh ac.length a=a%sh):=sha_y (by omega) h1;have hz: ¬sh=0:=by omega
  have hz1:=beq_eq_false_iff_ne.2 (by omega)
  go_enter Tryz.func106,Tryz.ntmps106
  go_wp2_with (go_at_call 146;(with_reducible refine(hasI_any _ _ _ _ _).mono ?_);rintro e w4 ⟨rfl,rfl⟩)
  go_ret;exact madeX_mk E.out b0
def MadeO(a s:Int)(x:Bool)(p q n t:Int)(w:World)(e:Ending)(w':World):Prop:=e= .returned (.agg #[.int .i64 a,.int .i64 s,.bool x,.int .i64 p,.int .i64 q,.int .i64 n,.int .i64 t])∧Below w.heap.size w w'
theorem order_any(a s:Int)(x:Bool)(p q n t:Int)(w:World):
  Calls Tryz.prog 22 #[.agg #[.int .i64 a,.int .i64 s,.bool x,.int .i64 p,.int .i64 q,.int .i64 n,.int .i64 t]] w (MadeO a s x p q n t w):=by
 go_enter Tryz.func22,Tryz.ntmps22
 go_wp2_with fail
 exact bodyPost_ret (v:= .agg #[ι a,ι s,.bool x,ι p,ι q,ι n,ι t]) (by simp[results,Tryz.results22,go_sem]) rfl ⟨rfl,(ψ.alloc τ _).alloc (by simp) _⟩
end Rul3
namespace Wmr
open CrdB Wpl
theorem eqP(w:World)(m n:M):(binOp .eql 53 (mvl m) (mvl n)).run Tryz.prog w= .ok (.bool (eqM m n)) w:=by
 have p1:Tryz.prog.stoodInHeld 53=false:=by kernel_rfl
 have p2:Tryz.prog.stoodInHeld 51=false:=by kernel_rfl
 have u1:Tryz.prog.underlying 53=some (.struct (Tryz.prog.fieldsOf 53)):=by kernel_rfl
 have u2:Tryz.prog.underlying 51=some (.struct (Tryz.prog.fieldsOf 51)):=by kernel_rfl
 unfold mvl;rw[run_eql_struct,run_equalIn_agg _ _ _ _ _ u1 p1];simp only[Program.fieldsOf,Tryz.underlying53];simp[Op.eqFields,go_sem,Program.fieldsOf,Tryz.underlying53,Tryz.underlying51,Tryz.underlying3,Tryz.underlying2,Tryz.underlying4,part];by_cases e0:m.k=n.k
 case neg=>rw[if_neg e0];simp[eqM,e0]
 rw[if_pos e0];by_cases e1:m.a=n.a
 case neg=>rw[if_neg e1];simp[eqM,e1]
 rw[if_pos e1];by_cases e2:m.s=n.s
 case neg=>rw[if_neg e2];simp[eqM,e2]
 rw[if_pos e2];by_cases e3:m.x=n.x
 case neg=>rw[if_neg e3];simp[eqM,e3]
 rw[if_pos e3];by_cases e4:m.p=n.p
 case neg=>rw[if_neg e4];simp[eqM,e4]
 rw[if_pos e4];by_cases e5:m.q=n.q
 case neg=>rw[if_neg e5];simp[eqM,e5]
 rw[if_pos e5];by_cases e6:m.n=n.n
 case neg=>rw[if_neg e6];simp[eqM,e6]
 rw[if_pos e6];by_cases e7:m.t=n.t
 case neg=>rw[if_neg e7];simp[eqM,e7]
 rw[if_pos e7];by_cases e8:m.i=n.i
 case neg=>rw[if_neg e8];simp[eqM,e8]
 rw[if_pos e8];by_cases e9:m.y=n.y
 case neg=>rw[if_neg e9];simp[eqM,e9]
 rw[if_pos e9];by_cases e10:m.z=n.z
 case neg=>rw[if_neg e10];simp[eqM,e10]
 rw[if_pos e10];by_cases e11:m.v=n.v
 case neg=>rw[if_neg e11];simp[eqM,e11]
 rw[if_pos e11];simp[eqM,e0,e1,e2,e3,e4,e5,e6,e7,e8,e9,e10,e11]
theorem eqP12(k1 a1 s1 p1 q1 n1 t1 i1 y1 z1 v1 k2 a2 s2 p2 q2 n2 t2 i2 y2 z2 v2:Int)(x1 x2:Bool)(w:World):(binOp .eql 53 (.agg #[.int .i64 k1,.int .i64 a1,.int .i64 s1,.bool x1,.int .i64 p1,.int .i64 q1,.int .i64 n1,.int .i64 t1,.int .i64 i1,.int .i64 y1,.int .i64 z1,.int .i64 v1]) (.agg #[.int .i64 k2,.int .i64 a2,.int .i64 s2,.bool x2,.int .i64 p2,.int .i64 q2,.int .i64 n2,.int .i64 t2,.int .i64 i2,.int .i64 y2,.int .i64 z2,.int .i64 v2])).run Tryz.prog w= .ok (.bool (eqM ⟨k1,a1,s1,x1,p1,q1,n1,t1,i1,y1,z1,v1⟩ ⟨k2,a2,s2,x2,p2,q2,n2,t2,i2,y2,z2,v2⟩)) w:=
 eqP w ⟨k1,a1,s1,x1,p1,q1,n1,t1,i1,y1,z1,v1⟩ ⟨k2,a2,s2,x2,p2,q2,n2,t2,i2,y2,z2,v2⟩
def MadeM(m:M)(w:World)(e:Ending)(w':World):Prop:=e= .returned (mvl m)∧Below w.heap.size w w'
theorem alone_any(m:M)(w:World):Calls Tryz.prog 98 #[mvl m] w (MadeM (alM m) w):=by
 obtain⟨k,a,s,x,p,q,n,t,i,y,z,v⟩:=m;show Calls Tryz.prog 98 #[.agg #[.int .i64 k,.int .i64 a,.int .i64 s,.bool x,.int .i64 p,.int .i64 q,.int .i64 n,.int .i64 t,.int .i64 i,.int .i64 y,.int .i64 z,.int .i64 v]] w (MadeM (alM ⟨k,a,s,x,p,q,n,t,i,y,z,v⟩) w);by_cases k0:k=0
 ·have q0:=beq_iff_eq.2 k0;have hal:alM ⟨k,a,s,x,p,q,n,t,i,y,z,v⟩=⟨k,a,s,x,p,q,n,t,0,0,0,0⟩:=by unfold alM;rw[if_pos k0];rfl
  rw[hal]
  go_enter Tryz.func98,Tryz.ntmps98
  go_wp2_with fail
  exact bodyPost_ret (v:= .agg #[ι k,ι a,ι s,.bool x,ι p,ι q,ι n,ι t,ι 0,ι 0,ι 0,ι 0]) (by simp[results,Tryz.results98,go_sem,k0]) rfl ⟨rfl,(ψ.alloc τ _).alloc (by simp) _⟩
 ·have q0:=beq_eq_false_iff_ne.2 k0;by_cases k1:k=1
  ·have q1:=beq_iff_eq.2 k1;have hal:alM ⟨k,a,s,x,p,q,n,t,i,y,z,v⟩=⟨k,0,0,false,0,0,0,0,i,0,0,0⟩:=by unfold alM;rw[if_neg k0,if_pos (.inl k1)];rfl
   rw[hal]
   go_enter Tryz.func98,Tryz.ntmps98
   go_wp2_with fail
   exact bodyPost_ret (v:= .agg #[ι k,ι 0,ι 0,.bool false,ι 0,ι 0,ι 0,ι 0,ι i,ι 0,ι 0,ι 0]) (by simp[results,Tryz.results98,go_sem,k1]) rfl ⟨rfl,(ψ.alloc τ _).alloc (by simp) _⟩
  ·have q1:=beq_eq_false_iff_ne.2 k1;by_cases k3:k=3
   ·have q3:=beq_iff_eq.2 k3;have hal:alM ⟨k,a,s,x,p,q,n,t,i,y,z,v⟩=⟨k,0,0,false,0,0,0,0,i,0,0,0⟩:=by unfold alM;rw[if_neg k0,if_pos (.inr k3)];rfl
    rw[hal]
    go_enter Tryz.func98,Tryz.ntmps98
    go_wp2_with fail
    exact bodyPost_ret (v:= .agg #[ι k,ι 0,ι 0,.bool false,ι 0,ι 0,ι 0,ι 0,ι i,ι 0,ι 0,ι 0]) (by simp[results,Tryz.results98,go_sem,k3]) rfl ⟨rfl,(ψ.alloc τ _).alloc (by simp) _⟩
   ·have q3:=beq_eq_false_iff_ne.2 k3;have k13: ¬(k=1∨k=3):=by omega
    by_cases k2:k=2
    ·have q2:=beq_iff_eq.2 k2;have hal:alM ⟨k,a,s,x,p,q,n,t,i,y,z,v⟩=⟨k,0,0,false,0,0,0,0,i,y,0,0⟩:=by unfold alM;rw[if_neg k0,if_neg k13,if_pos k2];rfl
     rw[hal]
     go_enter Tryz.func98,Tryz.ntmps98
     go_wp2_with fail
     exact bodyPost_ret (v:= .agg #[ι k,ι 0,ι 0,.bool false,ι 0,ι 0,ι 0,ι 0,ι i,ι y,ι 0,ι 0]) (by simp[results,Tryz.results98,go_sem,k2]) rfl ⟨rfl,(ψ.alloc τ _).alloc (by simp) _⟩
    ·have q2:=beq_eq_false_iff_ne.2 k2;by_cases k6:k=6
     ·have q6:=beq_iff_eq.2 k6;have hal:alM ⟨k,a,s,x,p,q,n,t,i,y,z,v⟩=⟨k,0,0,false,0,0,0,0,0,0,z,v⟩:=by unfold alM;rw[if_neg k0,if_neg k13,if_neg k2,if_pos k6];rfl
      rw[hal]
      go_enter Tryz.func98,Tryz.ntmps98
      go_wp2_with fail
      exact bodyPost_ret (v:= .agg #[ι k,ι 0,ι 0,.bool false,ι 0,ι 0,ι 0,ι 0,ι 0,ι 0,ι z,ι v]) (by simp[results,Tryz.results98,go_sem,k6]) rfl ⟨rfl,(ψ.alloc τ _).alloc (by simp) _⟩
     ·have q6:=beq_eq_false_iff_ne.2 k6;have hal:alM ⟨k,a,s,x,p,q,n,t,i,y,z,v⟩=⟨k,0,0,false,0,0,0,0,0,0,0,0⟩:=by unfold alM;rw[if_neg k0,if_neg k13,if_neg k2,if_neg k6];rfl
      rw[hal]
      go_enter Tryz.func98,Tryz.ntmps98
      go_wp2_with fail
      exact bodyPost_ret (v:= .agg #[ι k,ι 0,ι 0,.bool false,ι 0,ι 0,ι 0,ι 0,ι 0,ι 0,ι 0,ι 0]) (by simp[results,Tryz.results98,go_sem,k0]) rfl ⟨rfl,(ψ.alloc τ _).alloc (by simp) _⟩
end Wmr
end Go.Proofs.YtaeddnjjeholgaaGreat
