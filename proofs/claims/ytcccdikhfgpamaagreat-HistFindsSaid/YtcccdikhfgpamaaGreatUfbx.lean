/- Texts side by side. -/
import Derived.Ground.SlsfProg
import Derived.Shelf.SlSortCmp.Whole1
import Derived.Shelf.SlSortCmp.NoneTotal
import Derived.Test.YtcccdikhfgpamaaGreatProg
import Derived.Test.YtcccdikhfgpamaaGreatUfcb
set_option linter.unusedVariables false
set_option linter.unusedSimpArgs false
set_option maxRecDepth 100000
set_option maxHeartbeats 16000000
namespace Go.Proofs
open Go.Shelf
def Tryz.laysSlF6_f49_ren : Go.Shelf.Ren := ⟨fun | 6 => 49 | 15 => 84 | 14 => 83 | 28 => 124 | 29 => 125 | 20 => 116 | 21 => 117 | 22 => 118 | 23 => 119 | 24 => 120 | 25 => 121 | 26 => 122 | 27 => 123 | 46 => 148 | 47 => 149 | 48 => 150 | 49 => 151 | 50 => 152 | 57 => 167 | n => n, fun | 22 => 23 | 24 => 3 | 25 => 139 | 3 => 3 | 39 => 185 | 0 => 0 | 53 => 237 | 55 => 69 | 4 => 4 | 46 => 230 | 45 => 229 | 50 => 234 | 5 => 5 | 9 => 9 | 66 => 257 | 70 => 261 | 76 => 276 | 77 => 152 | n => n, fun | n => n⟩
theorem Tryz.laysSlF6_f49 : Go.Proofs.SlLaysF.n6 Tryz.prog Tryz.laysSlF6_f49_ren := {
  mixed := by kernel_rfl
  f6 := ⟨Tryz.f49.name, by decide, Tryz.func49.trans (congrArg some (by kernel_rfl))⟩
  f14 := ⟨Tryz.f83.name, by decide, Tryz.func83.trans (congrArg some (by kernel_rfl))⟩
  f15 := Tryz.func84.trans (congrArg some (by kernel_rfl))
  f20 := ⟨Tryz.f116.name, by decide, Tryz.func116.trans (congrArg some (by kernel_rfl))⟩
  f21 := ⟨Tryz.f117.name, by decide, Tryz.func117.trans (congrArg some (by kernel_rfl))⟩
  f22 := ⟨Tryz.f118.name, by decide, Tryz.func118.trans (congrArg some (by kernel_rfl))⟩
  f23 := ⟨Tryz.f119.name, by decide, Tryz.func119.trans (congrArg some (by kernel_rfl))⟩
  f24 := ⟨Tryz.f120.name, by decide, Tryz.func120.trans (congrArg some (by kernel_rfl))⟩
  f25 := ⟨Tryz.f121.name, by decide, Tryz.func121.trans (congrArg some (by kernel_rfl))⟩
  f26 := ⟨Tryz.f122.name, by decide, Tryz.func122.trans (congrArg some (by kernel_rfl))⟩
  f27 := ⟨Tryz.f123.name, by decide, Tryz.func123.trans (congrArg some (by kernel_rfl))⟩
  f28 := Tryz.func124.trans (congrArg some (by kernel_rfl))
  f29 := Tryz.func125.trans (congrArg some (by kernel_rfl))
  f46 := ⟨Tryz.f148.name, by decide, Tryz.func148.trans (congrArg some (by kernel_rfl))⟩
  f47 := Tryz.func149.trans (congrArg some (by kernel_rfl))
  f48 := Tryz.func150.trans (congrArg some (by kernel_rfl))
  f49 := ⟨Tryz.f151.name, by decide, Tryz.func151.trans (congrArg some (by kernel_rfl))⟩
  f50 := ⟨Tryz.f152.name, by decide, Tryz.func152.trans (congrArg some (by kernel_rfl))⟩
  f57 := ⟨Tryz.f167.name, by decide, Tryz.func167.trans (congrArg some (by kernel_rfl))⟩
  t0 := Tryz.underlying0
  a0 := Tryz.isAgg0
  z0 := Tryz.sizeOf0
  v0 := Tryz.zeroValue0
  t3 := Tryz.underlying3
  a3 := Tryz.isAgg3
  z3 := Tryz.sizeOf3
  v3 := Tryz.zeroValue3
  t4 := Tryz.underlying4
  a4 := Tryz.isAgg4
  z4 := Tryz.sizeOf4
  v4 := Tryz.zeroValue4
  t5 := Tryz.underlying5
  a5 := Tryz.isAgg5
  z5 := Tryz.sizeOf5
  v5 := Tryz.zeroValue5
  t9 := Tryz.underlying9
  a9 := Tryz.isAgg9
  z9 := Tryz.sizeOf9
  v9 := Tryz.zeroValue9
  t22 := Tryz.underlying23
  a22 := Tryz.isAgg23
  z22 := Tryz.sizeOf23
  v22 := Tryz.zeroValue23
  a24 := Tryz.isAgg3
  z24 := Tryz.sizeOf3
  t25 := Tryz.underlying139
  a25 := Tryz.isAgg139
  z25 := Tryz.sizeOf139
  v25 := Tryz.zeroValue139
  t39 := Tryz.underlying185
  a39 := Tryz.isAgg185
  z39 := Tryz.sizeOf185
  v39 := Tryz.zeroValue185
  t45 := Tryz.underlying229
  a45 := Tryz.isAgg229
  z45 := Tryz.sizeOf229
  v45 := Tryz.zeroValue229
  t46 := Tryz.underlying230
  a46 := Tryz.isAgg230
  z46 := Tryz.sizeOf230
  v46 := Tryz.zeroValue230
  t50 := Tryz.underlying234
  a50 := Tryz.isAgg234
  z50 := Tryz.sizeOf234
  v50 := Tryz.zeroValue234
  t53 := Tryz.underlying237
  a53 := Tryz.isAgg237
  z53 := Tryz.sizeOf237
  v53 := Tryz.zeroValue237
  t55 := Tryz.underlying69
  a55 := Tryz.isAgg69
  z55 := Tryz.sizeOf69
  v55 := Tryz.zeroValue69
  t66 := Tryz.underlying257
  a66 := Tryz.isAgg257
  z66 := Tryz.sizeOf257
  v66 := Tryz.zeroValue257
  t70 := Tryz.underlying261
  a70 := Tryz.isAgg261
  z70 := Tryz.sizeOf261
  v70 := Tryz.zeroValue261
  t76 := Tryz.underlying276
  a76 := Tryz.isAgg276
  z76 := Tryz.sizeOf276
  v76 := Tryz.zeroValue276
  t77 := Tryz.underlying152
  a77 := Tryz.isAgg152
  z77 := Tryz.sizeOf152
  v77 := Tryz.zeroValue152 }
def Tryz.laysSlF06_f49_ren : Go.Shelf.Ren := ⟨fun | 6 => 49 | 15 => 84 | 14 => 83 | 28 => 124 | 29 => 125 | 20 => 116 | 21 => 117 | 22 => 118 | 23 => 119 | 24 => 120 | 25 => 121 | 26 => 122 | 27 => 123 | 46 => 148 | 47 => 149 | 48 => 150 | 49 => 151 | 50 => 152 | 57 => 167 | n => n, fun | 22 => 23 | 24 => 3 | 25 => 139 | 3 => 3 | 39 => 185 | 0 => 0 | 53 => 237 | 55 => 69 | 4 => 4 | 46 => 230 | 45 => 229 | 50 => 234 | 5 => 5 | 9 => 9 | 66 => 257 | 70 => 261 | 76 => 276 | 77 => 152 | n => n, fun | n => n⟩
theorem Tryz.laysSlF06_f49 : Go.Proofs.SlLaysF0.n6 Tryz.prog Tryz.laysSlF06_f49_ren := {
  mixed := by kernel_rfl
  f6 := ⟨Tryz.f49.name, by decide, Tryz.func49.trans (congrArg some (by kernel_rfl))⟩
  f14 := ⟨Tryz.f83.name, by decide, Tryz.func83.trans (congrArg some (by kernel_rfl))⟩
  f15 := Tryz.func84.trans (congrArg some (by kernel_rfl))
  f20 := ⟨Tryz.f116.name, by decide, Tryz.func116.trans (congrArg some (by kernel_rfl))⟩
  f21 := ⟨Tryz.f117.name, by decide, Tryz.func117.trans (congrArg some (by kernel_rfl))⟩
  f22 := ⟨Tryz.f118.name, by decide, Tryz.func118.trans (congrArg some (by kernel_rfl))⟩
  f23 := ⟨Tryz.f119.name, by decide, Tryz.func119.trans (congrArg some (by kernel_rfl))⟩
  f24 := ⟨Tryz.f120.name, by decide, Tryz.func120.trans (congrArg some (by kernel_rfl))⟩
  f25 := ⟨Tryz.f121.name, by decide, Tryz.func121.trans (congrArg some (by kernel_rfl))⟩
  f26 := ⟨Tryz.f122.name, by decide, Tryz.func122.trans (congrArg some (by kernel_rfl))⟩
  f27 := ⟨Tryz.f123.name, by decide, Tryz.func123.trans (congrArg some (by kernel_rfl))⟩
  f28 := Tryz.func124.trans (congrArg some (by kernel_rfl))
  f29 := Tryz.func125.trans (congrArg some (by kernel_rfl))
  f46 := ⟨Tryz.f148.name, by decide, Tryz.func148.trans (congrArg some (by kernel_rfl))⟩
  f47 := Tryz.func149.trans (congrArg some (by kernel_rfl))
  f48 := Tryz.func150.trans (congrArg some (by kernel_rfl))
  f49 := ⟨Tryz.f151.name, by decide, Tryz.func151.trans (congrArg some (by kernel_rfl))⟩
  f50 := ⟨Tryz.f152.name, by decide, Tryz.func152.trans (congrArg some (by kernel_rfl))⟩
  f57 := ⟨Tryz.f167.name, by decide, Tryz.func167.trans (congrArg some (by kernel_rfl))⟩
  t0 := Tryz.underlying0
  a0 := Tryz.isAgg0
  z0 := Tryz.sizeOf0
  v0 := Tryz.zeroValue0
  t3 := Tryz.underlying3
  a3 := Tryz.isAgg3
  z3 := Tryz.sizeOf3
  v3 := Tryz.zeroValue3
  t4 := Tryz.underlying4
  a4 := Tryz.isAgg4
  z4 := Tryz.sizeOf4
  v4 := Tryz.zeroValue4
  t5 := Tryz.underlying5
  a5 := Tryz.isAgg5
  z5 := Tryz.sizeOf5
  v5 := Tryz.zeroValue5
  t9 := Tryz.underlying9
  a9 := Tryz.isAgg9
  z9 := Tryz.sizeOf9
  v9 := Tryz.zeroValue9
  t22 := Tryz.underlying23
  a22 := Tryz.isAgg23
  z22 := Tryz.sizeOf23
  v22 := Tryz.zeroValue23
  t25 := Tryz.underlying139
  a25 := Tryz.isAgg139
  z25 := Tryz.sizeOf139
  v25 := Tryz.zeroValue139
  t39 := Tryz.underlying185
  a39 := Tryz.isAgg185
  z39 := Tryz.sizeOf185
  v39 := Tryz.zeroValue185
  t45 := Tryz.underlying229
  a45 := Tryz.isAgg229
  z45 := Tryz.sizeOf229
  v45 := Tryz.zeroValue229
  t46 := Tryz.underlying230
  a46 := Tryz.isAgg230
  z46 := Tryz.sizeOf230
  v46 := Tryz.zeroValue230
  t50 := Tryz.underlying234
  a50 := Tryz.isAgg234
  z50 := Tryz.sizeOf234
  v50 := Tryz.zeroValue234
  t53 := Tryz.underlying237
  a53 := Tryz.isAgg237
  z53 := Tryz.sizeOf237
  v53 := Tryz.zeroValue237
  t55 := Tryz.underlying69
  a55 := Tryz.isAgg69
  z55 := Tryz.sizeOf69
  v55 := Tryz.zeroValue69
  t66 := Tryz.underlying257
  a66 := Tryz.isAgg257
  z66 := Tryz.sizeOf257
  v66 := Tryz.zeroValue257
  t70 := Tryz.underlying261
  a70 := Tryz.isAgg261
  z70 := Tryz.sizeOf261
  v70 := Tryz.zeroValue261
  t76 := Tryz.underlying276
  a76 := Tryz.isAgg276
  z76 := Tryz.sizeOf276
  v76 := Tryz.zeroValue276
  t77 := Tryz.underlying152
  a77 := Tryz.isAgg152
  z77 := Tryz.sizeOf152
  v77 := Tryz.zeroValue152 }
open Go.RowKit Go.Lib Go.Sort in
theorem Tryz.slices_SortFunc {α : Type} [Inhabited α] (enc : α → Value) (h1 : OneCell enc) (cf : α → α → Int) (hO : SWO (ltOf cf)) (g : Nat) (cb : Array Value) (blk off cap : Nat) (d : Array α) (w : World) (eg : ∀ args w, (callFunc g args).run Tryz.prog w = .ok (.enter g args) w) (hcmp : CmpLays1 Tryz.prog g cb enc cf blk off d.size w) (hH : Holds enc w blk off d) (hblk : blk < w.heap.size) (hsz : d.size < 4611686018427387904) :
    Calls Tryz.prog 49 #[.slice (some ⟨blk, off, none⟩) d.size cap, .func (.func g) #[] cb] w fun e w' =>
      e = .returned (.tuple #[]) ∧ ∃ d' n os, PermIn 0 d.size d d' ∧ SortedIn (ltOf cf) 0 d.size d' ∧ w' = sortWorld enc w blk off n d' os := Any.slices_SortFunc Tryz.laysSlF6_f49 enc h1 cf hO g cb blk off cap d w eg hcmp hH hblk hsz
open Go.RowKit Go.Lib Go.Sort in
theorem Tryz.slices_SortFunc_none {α : Type} [Inhabited α] (p : Option Addr) (cap : Nat) (fv : Value) (w : World) :
    Calls Tryz.prog 49 #[.slice p 0 cap, fv] w fun e w' => e = .returned (.tuple #[]) ∧ w' = w := AnyF.slices_SortFunc_none Tryz.laysSlF06_f49 p cap fv w
end Go.Proofs
namespace Go.Proofs.YtcccdikhfgpamaaGreat
open Kap Go.ChangeShapes Go.WideShapes Go.ChangeAt Go.RowKit Go.Lib Mem Tre Ref3 Law3 Apt Wpl Hpa Hws Hod Hmc
namespace Hmk
section
variable {enc:Nat→Value} {w w0:World} {g n:Nat} {d:Array Nat} {os:Array Obj} {B:Nat}
theorem sw_block{k:Nat}(hk:k<w.heap.size)(hne:k≠g):(sortWorld enc w g 0 n d os).heap[k]? =w.heap[k]? :=by
 unfold sortWorld;rw[Go.Sort.heap_grow_old _ _ (by simpa using hk)];show((w.heap.modify g _)[k]?)=_;rw[Array.getElem?_modify,if_neg (fun e=>hne e.symm)]
theorem sw_size:w.heap.size≤(sortWorld enc w g 0 n d os).heap.size:=by
 unfold sortWorld;rw[Go.Sort.size_grow];simp
theorem sw_below(hb:Below B w0 w)(hB:B≤g)(hw:B≤w.heap.size):Below B w0 (sortWorld enc w g 0 n d os):=
 ⟨hb.os,hb.tape,hb.output,Nat.le_trans hb.size sw_size,fun i a=>(sw_block (by omega) (by omega)).trans (hb.block i a)⟩
end
def encN(n x:Nat):Value:= .int .i64 ((x%n:Nat):Int)
theorem swo(f:Nat→Int):Go.Sort.SWO (ltOf fun x y=>cmpI (f x) (f y)):=by
 refine⟨fun x=>?_,fun x y z a b=>?_,fun x y z a b=>?_⟩
 ·unfold ltOf;rw[cmpI_lt];simp
 ·unfold ltOf at a b ⊢;rw[cmpI_lt]at a b ⊢;simp only[decide_eq_true_eq]at a b ⊢;omega
 ·unfold ltOf at a b ⊢;rw[cmpI_lt]at a b ⊢;simp only[decide_eq_false_iff_not]at a b ⊢;omega
theorem nI_get(L:List Nat)(j:Nat):(ints (nI L))[j]? =(L[j]?).map fun k:Nat=>Value.int .i64 (k:Int):=by
 simp[ints,nI,Function.comp_def]
theorem marked_any{n:Int}(E:List He)(Al:Option Addr)(cL:Nat)(w:World)(hl:Hid (Rd w w.heap.size Al (hrow E)))(hR:rightF n E=true)(hm:E.length≤1000):
  Calls Tryz.prog 27 #[.slice Al E.length cL] w (MadeOr (ordF E) w):=by
 have HR:=κ hR;clear hR;obtain⟨i0,V,I,ac,ad⟩:=info_parts int_info;have J:=κ (β w (.cells #[.slice Al E.length cL] 34));have Z:=κ (Blk.fresh w 34 #[.slice Al E.length cL])
 go_enter Tryz.func27,Tryz.ntmps27
 go_upto_region 1 with fail
 generalize w.alloc (.cells #[.slice Al E.length cL] 34)=w0 at J Z ⊢;generalize w.heap.size=W at Z ⊢;have k0:=χ (Z.o.cell 0);have H0:Hid (Rd w0 w0.heap.size Al (hrow E)):=κ (Rd.below' hl.o J.o J.o.size)
 go_wp2_with fail
 go_loopg [3,8] E.length (fun g s3 s8 w'=> ∃(i t:Nat) (Y:Option Addr) (G:Nat),i+g=E.length∧s8= ι i∧s3= .slice Y t G∧Hid (t=(plc E i).length∧t≤i)∧Hid (World.ownsRow w' w0.heap.size 3 1 (.slice Y t G) t (ints (nI (plc E i))))∧Hid (Below w0.heap.size w0 w'))
 case atStart=>exact⟨0,0,none,0,by omega,rfl,rfl,κ ⟨rfl,τ⟩,κ (World.ownsRow_nil _ _ _ _),κ ψ⟩
 case round=>
  clear k0;obtain⟨i,t,Y,G,ak,rfl,rfl,q,O,U⟩:=hrel
  rename World=>s
  by_cases A:i<E.length
  ·obtain⟨g,rfl⟩: ∃g,gk=g+1:=⟨gk-1,by omega⟩;have al:i<1000:=by omega
   have ae:decide ((i:Int)<(E.length:Int))=true:=by simp;omega
   have am:(i:Int)<(E.length:Int):=by omega
   obtain⟨b,o,rfl,hb,hc⟩:=hes_at (Rd.below' H0.o U.o U.o.size) (by omega);have f:=hc i A;have HS:=κ (plc_succ E i);have HF:Hid (fk E i=(gH E i).k):=κ rfl;clear hc hb;have ld:=ld21 f
   go_upto_region 5 with(first|(refine wpList_ld _ _ rfl rfl rfl ld ?_)|(refine wpList_st _ _ _ rfl rfl rfl rfl (st21 _ _) ?_))
   clear ld f;have K:=κ (Blk.fresh s 81 (hA (gH E i)));have ub:=β s (.cells (hA (gH E i)) 81);have U1:=κ (bst U.o ub);have O1:=own_below O ub;clear ub U O;generalize gH E i=X at K U1 O1 HF ⊢;generalize s.alloc (.cells (hA X) 81)=w1 at K U1 O1 ⊢;generalize s.heap.size=ge at K ⊢;have c2:w1.cell? ⟨ge,2,none⟩=some (.int .i64 X.k):=K.o.cell 2;by_cases h0:X.k=0
   ·have e0:(X.k != 0)=false:=by simp[h0]
    have HP:Hid (plc E (i+1)=plc E i):=κ (by rw[HS.o,HF.o,if_pos h0])
    go_wp2_with fail
    go_roundg g
    case measure=>omega
    case rel=>exact⟨i+1,t,Y,G,by omega,by go_num,rfl,κ ⟨by rw[HP.o];exact q.o.1,by have:=q.o.2;omega⟩,κ (by rw[HP.o];exact O1.o),U1⟩
   ·have e0:(X.k != 0)=true:=by simp[h0]
    have HP:Hid (plc E (i+1)=plc E i++[i]):=κ (by rw[HS.o,HF.o,if_neg h0]);have UB:=U1.o
    go_wp2_with (at_builtin;refine wpList_app1 O1 UB rfl _ _ _ rfl i0 (.int .i64 0) 8 Tryz.underlying23 V I ac ad rfl (by decide) rfl rfl rfl [.int .i64 (i:Int)] rfl rfl (by simp[Value.oneCell']) (by have:=q.o;unfold maxLen;omega) (by have:=q.o;omega) τ UB.size UB.size ?_;intro A1 c1 w2 L P an)
    go_roundg g
    case measure=>omega
    case rel=>exact⟨i+1,t+1,A1,c1,by omega,by go_num,rfl,κ ⟨by have:=q.o;rw[HP.o,List.length_append,←this.1];rfl,by have:=q.o.2;omega⟩,κ (by rw[HP.o];have h:=L.o;simpa[nI,ints] using h),κ P⟩
  ·have ae:decide ((i:Int)<(E.length:Int))=false:=by simp;omega
   obtain rfl:i=E.length:=by omega
   by_cases h0:t=0
   ·subst h0;have hp:plc E E.length=[]:=List.length_eq_zero_iff.1 q.o.1.symm;have hO:Hid (ordF E=[]):=κ (sorted_ord HR.o (l:=[]) (by rw[hp]) List.Pairwise.nil).symm
    go_wp2_with fail
    refine(Go.Proofs.Tryz.slices_SortFunc_none (α:=Nat) Y G _ s).mono ?_;rintro e w2 ⟨rfl,rfl⟩
    go_wp2_with fail
    go_ret;rw[hO.o];exact⟨Y,G,rfl,.inl rfl,bst J.o U.o,fun a ha=>by have h1:=own_new O.o a ha;have h2:=J.o.size;omega⟩
   ·rcases O.o.2 with⟨_,h2⟩|⟨g,ao,ap,hv,hg,hh,_,_,_,_⟩
    ·exact absurd h2 h0
    injection hv with hA hn9 hc9
    subst hA;subst hc9;have Q: ∀x∈plc E E.length,x<E.length:=fun x hx=>(plc_lt hx).1
    have z:0<E.length:=by have h1:=q.o.1;have h2:=plc_len E E.length;omega
    have R:Hid (g<s.heap.size):=κ (Array.getElem?_eq_some_iff.1 hh).1;have aa:Hid (w0.heap.size≤g):=κ hg;have K1:=Z.o.below' U.o;have aq:=Z.o.lt;obtain⟨b,o,rfl,hb,hc⟩:=hes_at H0.o z;obtain⟨d,hd⟩: ∃d,d=(plc E E.length).toArray:=⟨_,rfl⟩;have S:d.size=t:=by rw[hd,q.o.1];simp
    have hH:Go.Sort.Holds (encN E.length) s g 0 d:=fun j hj=>by
     have T:j<(plc E E.length).length:=by rw[hd]at hj;simpa using hj
     have c:=World.ownsRow.cellAt O.o j (by omega);have f:=World.ownsRow.frozenAt O.o j;rw[nI_get,List.getElem?_eq_getElem T]at c;refine⟨?_,by rw[Nat.zero_add];exact f⟩;rw[Nat.zero_add,c];have e:d[j]! =(plc E E.length)[j]:=by rw[hd];simp[T]
     rw[e];unfold encN;rw[Nat.mod_eq_of_lt (Q _ (List.getElem_mem T))];rfl
    have H:CmpLays1 Tryz.prog 50 #[.pointer (some (α W 0))] (encN E.length) (fun x y=>cmpI (fk E (x%E.length)) (fk E (y%E.length))) g 0 d.size s:=CmpReads.lays (fun m os dk hs x y=>by
     have hz:=U.o.size
     have q1:(sortWorld (encN E.length) s g 0 m dk os).cell? (α W 0)=some (.slice (some (α b o)) E.length cL):=(World.cell?_of_block (sw_block (by show W<_;omega) (by show W≠_;omega))).trans (K1.cell 0)
     have h:=mcmp_any E W b o cL (x%E.length) (y%E.length) (sortWorld (encN E.length) s g 0 m dk os) (Nat.mod_lt _ z) (Nat.mod_lt _ z) q1 (fun k hk=>(World.cell?_of_block (sw_block (by show b<_;omega) (by show b≠_;omega))).trans ((U.o.cell (p:=(α b (o+k*21+2))) hb).trans (hc k hk).2.2.1))
     exact h)
    have SF:=Go.Proofs.Tryz.slices_SortFunc (encN E.length) (fun _=>rfl) _ (swo fun x=>fk E (x%E.length)) 50 #[.pointer (some (α W 0))] g 0 G d s (enters_of Tryz.func50 (by kernel_rfl) rfl) H hH R.o (by have:=q.o.2;omega);rw[S]at SF;have HD:=κ hd;have ab:=κ S;have af:=κ hH;have OG:=own_new O.o (α g 0) rfl;have I:=J.o.size;clear H hH hd S hc hb hh hg K1
    go_wp2_with fail
    refine SF.mono ?_;rintro e w2 ⟨rfl,r,m,os,hP,hS,rfl⟩;have C:r.size=t:=by rw[hP.1,ab.o]
    have hq:=hP.2.2
    have hp:r.toList.Perm (plc E E.length):=by
     have e1:r.extract 0 t=r:=by rw[←C];exact Array.extract_size
     have e2:d.extract 0 t=d:=by rw[←ab.o];exact Array.extract_size
     rw[e1,e2,HD.o]at hq;simpa using hq
    have F: ∀k (hk:k<r.toList.length),r[k]! %E.length=r.toList[k]'hk:=fun k hk=>by
     have ag:k<r.size:=by simpa using hk
     have e:r[k]! =r.toList[k]:=by rw[getElem!_pos r k ag];simp
     rw[e,Nat.mod_eq_of_lt (Q _ (hp.mem_iff.1 (List.getElem_mem hk)))]
    have hL:r.toList=ordF E:=by
     refine sorted_ord HR.o hp (List.pairwise_iff_getElem.2 fun i j V hj ah=>?_);have h:=hS i j (Nat.zero_le _) ah (by rw[←C];simpa using hj);unfold ltOf at h;rw[cmpI_lt,F j hj,F i V]at h;simpa using h
    have hW:=holds_sortWorld (encN E.length) s g 0 m d r os R.o af.o hP.1;have HN:Hid (t=(ordF E).length):=κ (by rw[←hL];simpa using C.symm)
    have ai:Hid (Ris (sortWorld (encN E.length) s g 0 m r os) (sortWorld (encN E.length) s g 0 m r os).heap.size (some (α g 0)) (nI (ordF E))):=κ (.inr ⟨g,0,rfl,Nat.lt_of_lt_of_le R.o sw_size,fun i v V=>by
     rw[←hL,nI_get]at V
     obtain⟨x,hx,rfl⟩:=Option.map_eq_some_iff.1 V
     obtain⟨A,hx⟩:=List.getElem?_eq_some_iff.1 hx
     rw[(hW i (by simpa using A)).1]
     unfold encN
     rw[F i A,hx]⟩)
    have HB:Hid (Below w.heap.size w (sortWorld (encN E.length) s g 0 m r os)):=κ (bst J.o (sw_below U.o aa.o U.o.size));have aj:Hid (w.heap.size≤g):=κ (by have h1:=aa.o;omega);clear hL hW F hp hq hS hP C OG I Q
    go_wp2_with fail
    go_ret;refine⟨some ⟨g,0,none⟩,G,by rw[←HN.o];rfl,ai.o,HB.o,fun a ha=>?_⟩;injection ha with ha
    rw[←ha];exact aj.o
end Hmk
end Go.Proofs.YtcccdikhfgpamaaGreat
