/- Texts side by side. -/
import Derived.Test.YtaeddnjjeholgaaGreatUgaq
set_option linter.unusedVariables false
set_option linter.unusedSimpArgs false
set_option maxRecDepth 100000
set_option maxHeartbeats 16000000
namespace Go.Proofs.YtaeddnjjeholgaaGreat
open Kap Go.RowKit Mem
namespace Wpl
def bts(l:List UInt8):List Value:=l.map fun b=>Value.int .u8 (b.toNat:Int)
variable {x:Int} {n o s:Nat}
theorem bts_len(l:List UInt8):(bts l).length=l.length:=by simp[bts]
def By(w:World)(B:Nat)(A:Option Addr)(l:List UInt8):Prop:=Rd w B A (bts l)
theorem By.at{w:World}{B:Nat}{A:Option Addr}{l:List UInt8}(h:By w B A l){i:Nat}(hi:i<l.length):
  ∃b o,A=some ⟨b,o,none⟩∧b<B∧ ∀j (hj:j<l.length),w.cell? ⟨b,o+j,none⟩=some (.int .u8 (l[j].toNat:Int)):=by
 obtain⟨b,o,hA,hb,hc⟩:=Rd.at h (by intro e;have:=bts_len l;rw[e]at this;simp at this;omega);exact⟨b,o,hA,hb,fun j hj=>hc j _ (by simp[bts,hj])⟩
def val(l:List UInt8):Nat:=l.foldl (fun a b=>a*256+b.toNat) 0
structure M where
 k:Int
 a:Int
 s:Int
 x:Bool
 p:Int
 q:Int
 n:Int
 t:Int
 i:Int
 y:Int
 z:Int
 v:Int
def mvs(m:M):List Value:=[.int .i64 m.k,.int .i64 m.a,.int .i64 m.s,.bool m.x,.int .i64 m.p,.int .i64 m.q,.int .i64 m.n,.int .i64 m.t,.int .i64 m.i,.int .i64 m.y,.int .i64 m.z,.int .i64 m.v]
def mvl(m:M):Value:= .agg #[.int .i64 m.k,.int .i64 m.a,.int .i64 m.s,.bool m.x,.int .i64 m.p,.int .i64 m.q,.int .i64 m.n,.int .i64 m.t,.int .i64 m.i,.int .i64 m.y,.int .i64 m.z,.int .i64 m.v]
def m0:M:=⟨0,0,0,false,0,0,0,0,0,0,0,0⟩
def eqM(m n:M):Bool:=m.k==n.k&&(m.a==n.a&&(m.s==n.s&&(m.x==n.x&&(m.p==n.p&&(m.q==n.q&&(m.n==n.n&&m.t==n.t))))))&&(m.i==n.i&&(m.y==n.y&&(m.z==n.z&&m.v==n.v)))
theorem eqM_iff(m n:M):eqM m n=true↔m=n:=by
 constructor
 ·intro h;simp only[eqM,Bool.and_eq_true,beq_iff_eq]at h;obtain⟨⟨h0,h1,h2,h3,h4,h5,h6,h7⟩,h8,h9,h10,h11⟩:=h;cases m;cases n;simp only at h0 h1 h2 h3 h4 h5 h6 h7 h8 h9 h10 h11;subst h0 h1 h2 h3 h4 h5 h6 h7 h8 h9 h10 h11
  rfl
 ·rintro rfl;simp[eqM]
def alM(m:M):M:=
 if m.k=0 then {m0 with k:=m.k,a:=m.a,s:=m.s,x:=m.x,p:=m.p,q:=m.q,n:=m.n,t:=m.t}
 else if m.k=1∨m.k=3 then {m0 with k:=m.k,i:=m.i}
 else if m.k=2 then {m0 with k:=m.k,i:=m.i,y:=m.y}
 else if m.k=6 then {m0 with k:=m.k,z:=m.z,v:=m.v}
 else {m0 with k:=m.k}
def fitP(m:M):Prop:=(0≤m.a∧m.a≤65535)∧(0≤m.s∧m.s≤65535)∧(0≤m.z∧m.z≤65535)∧(0≤m.i∧m.i≤4294967295)∧0≤m.p∧0≤m.q∧0≤m.n∧0≤m.t∧0≤m.y∧0≤m.v
def fitM(m:M):Bool:=decide ((0≤m.a∧m.a≤65535)∧(0≤m.s∧m.s≤65535)∧(0≤m.z∧m.z≤65535)∧(0≤m.i∧m.i≤4294967295)∧0≤m.p∧0≤m.q∧0≤m.n∧0≤m.t∧0≤m.y∧0≤m.v)
theorem fitM_of{m:M}(h:fitM m=true):fitP m:=by
 unfold fitM at h;unfold fitP;simp only[decide_eq_true_eq]at h;exact h
def rightM(m:M):Bool:=(decide (0≤m.k)&&decide (m.k≤6))&&(eqM m (alM m)&&fitM m)
theorem rightM_of{m:M}(h:rightM m=true):0≤m.k∧m.k≤6∧m=alM m∧fitP m:=by
 unfold rightM at h;simp only[Bool.and_eq_true,decide_eq_true_eq]at h;exact⟨h.1.1,h.1.2,(eqM_iff _ _).1 h.2.1,fitM_of h.2.2⟩
def WfM(m:M):Prop:=inI m.k∧inI m.a∧inI m.s∧inI m.p∧inI m.q∧inI m.n∧inI m.t∧inI m.i∧inI m.y∧inI m.z∧inI m.v
def fld(l:List UInt8)(o s:Nat):Nat:=val ((l.drop o).take s)
theorem seg(l:List UInt8)(o s:Nat):l.take (o+s)=l.take o++(l.drop o).take s:=by rw[List.take_add]
theorem tk(l:List UInt8)(o s e:Nat)(he:o+s=e)(xs:List UInt8)(h:xs=(l.drop o).take s):l.take o++xs=l.take e:=by subst he;rw[seg,h]
theorem nn(h:0≤x):((x.toNat:Nat):Int)=x:=Int.toNat_of_nonneg h
end Wpl
end Go.Proofs.YtaeddnjjeholgaaGreat
