/- For every Config and order the law RulesLooks returns true, and changes nothing: what is wrong with the order, and what it is worth, is told as the reference says. No condition. -/
import Derived.Test.YtecjecgkioklaaaGdc
import Derived.Test.YtecjecgkioklaaaOpc
import Derived.Test.YtecjecgkioklaaaRul2
import Derived.Test.YtecjecgkioklaaaRul5
import Derived.Test.YtecjecgkioklaaaFew5
namespace Go.Proofs.Ytecjecgkioklaaa.rulesLooks
set_option maxRecDepth 100000
open Go.ChangeShapes Go.WideShapes Go.ChangeAt Go.RowKit Mem Tre Ref3 Law3 Fix3 Opn Bnd Flo Cfg CrdB CrdC Rr4 Fr4 Rul1 Rul2 Rul3 Rul4 Rul5 Rul6 St7 Fcf Rul7 Tl5 Gdc Opc Few5 Go.Joins Go.Deep
set_option linter.unusedVariables false

theorem own : ownKnob Try.prog.godebug = none := by kernel_rfl
theorem laidOut : laidOutB Try.prog = true := by kernel_rfl

theorem c14_of {W : World} {g h : Nat} {te tf : TypeId} {v0 v1 v2 v3 v4 v5 v6 r0 r1 r2 r3 r4 r5 r6 : Value} (hk : Blk W g te #[v0, v1, v2, v3, v4, v5, v6]) (hj : Blk W h tf #[r0, r1, r2, r3, r4, r5, r6]) :
    W.cell? ⟨g, 0, none⟩ = some v0 ∧ W.cell? ⟨g, 1, none⟩ = some v1 ∧ W.cell? ⟨g, 2, none⟩ = some v2 ∧ W.cell? ⟨g, 3, none⟩ = some v3 ∧ W.cell? ⟨g, 4, none⟩ = some v4 ∧ W.cell? ⟨g, 5, none⟩ = some v5 ∧ W.cell? ⟨g, 6, none⟩ = some v6 ∧ W.cell? ⟨h, 0, none⟩ = some r0 ∧ W.cell? ⟨h, 1, none⟩ = some r1 ∧ W.cell? ⟨h, 2, none⟩ = some r2 ∧ W.cell? ⟨h, 3, none⟩ = some r3 ∧ W.cell? ⟨h, 4, none⟩ = some r4 ∧ W.cell? ⟨h, 5, none⟩ = some r5 ∧ W.cell? ⟨h, 6, none⟩ = some r6 :=
  ⟨hk.cell 0, hk.cell 1, hk.cell 2, hk.cell 3, hk.cell 4, hk.cell 5, hk.cell 6, hj.cell 0, hj.cell 1, hj.cell 2, hj.cell 3, hj.cell 4, hj.cell 5, hj.cell 6⟩
theorem c15_of {W : World} {g h k : Nat} {te tf tg : TypeId} {v0 v1 v2 v3 v4 v5 v6 r0 r1 r2 r3 r4 r5 r6 x0 x1 x2 x3 x4 x5 x6 : Value} (hk : Blk W g te #[v0, v1, v2, v3, v4, v5, v6]) (hj : Blk W h tf #[r0, r1, r2, r3, r4, r5, r6]) (hi : Blk W k tg #[x0, x1, x2, x3, x4, x5, x6]) :
    W.cell? ⟨g, 0, none⟩ = some v0 ∧ W.cell? ⟨g, 1, none⟩ = some v1 ∧ W.cell? ⟨g, 2, none⟩ = some v2 ∧ W.cell? ⟨g, 3, none⟩ = some v3 ∧ W.cell? ⟨g, 4, none⟩ = some v4 ∧ W.cell? ⟨g, 5, none⟩ = some v5 ∧ W.cell? ⟨g, 6, none⟩ = some v6 ∧ W.cell? ⟨h, 0, none⟩ = some r0 ∧ W.cell? ⟨h, 1, none⟩ = some r1 ∧ W.cell? ⟨h, 2, none⟩ = some r2 ∧ W.cell? ⟨h, 3, none⟩ = some r3 ∧ W.cell? ⟨h, 4, none⟩ = some r4 ∧ W.cell? ⟨h, 5, none⟩ = some r5 ∧ W.cell? ⟨h, 6, none⟩ = some r6 ∧ W.cell? ⟨k, 0, none⟩ = some x0 :=
  ⟨hk.cell 0, hk.cell 1, hk.cell 2, hk.cell 3, hk.cell 4, hk.cell 5, hk.cell 6, hj.cell 0, hj.cell 1, hj.cell 2, hj.cell 3, hj.cell 4, hj.cell 5, hj.cell 6, hi.cell 0⟩
set_option maxHeartbeats 8000000 in
theorem inner2 (sh wi ra ta : Int) (A B C : Option Addr) (N M K c d f : Nat) (nd : List (Int × Int)) (ac : List Int) (sy : List (Int × Int × Int × Nat)) (a s : Int) (x : Bool) (p q n t : Int) (w : World)
    (hn : Hid (cut N 40 = nd.length)) (hm : Hid (cut M 40 = ac.length)) (hk : Hid (cut K 20 = sy.length)) (hN : N ≤ c) (hM : M ≤ d) (hK : K ≤ f) (hc : (c : Int) ≤ 9223372036854775807) (hd : (d : Int) ≤ 9223372036854775807) (hf : (f : Int) ≤ 9223372036854775807)
    (hl : Hid (Nds w w.heap.size A nd)) (hu : Hid (Ris w w.heap.size B ac)) (hs : Hid (Btb w w.heap.size C sy)) (hw : Hid (WfN nd)) (hwa : Hid (WfI ac)) (hws : Hid (WfS sy)) (hp : Hid (inI p)) (hq : Hid (inI q)) :
    Calls Try.prog 4 #[.agg #[.int .i64 sh, .int .i64 wi, .int .i64 ra, .int .i64 ta, .slice A N c, .slice B M d, .slice C K f], .agg #[.int .i64 a, .int .i64 s, .bool x, .int .i64 p, .int .i64 q, .int .i64 n, .int .i64 t]] w (MadeB true w) := by
  have l1 : nd.length ≤ 40 := by rw [← hn.out]; exact cut_le.2
  have l2 : ac.length ≤ 40 := by rw [← hm.out]; exact cut_le.2
  have l3 : sy.length ≤ 20 := by rw [← hk.out]; exact cut_le.2
  have b0 : Below w.heap.size w ((w.alloc (.cells #[.int .i64 sh, .int .i64 wi, .int .i64 ra, .int .i64 ta, .slice A N c, .slice B M d, .slice C K f] 26)).alloc (.cells #[.int .i64 a, .int .i64 s, .bool x, .int .i64 p, .int .i64 q, .int .i64 n, .int .i64 t] 43)) := ((Below.refl _ _).alloc (Nat.le_refl _) _).alloc (by simp) _
  have k0 : Hid (Blk ((w.alloc (.cells #[.int .i64 sh, .int .i64 wi, .int .i64 ra, .int .i64 ta, .slice A N c, .slice B M d, .slice C K f] 26)).alloc (.cells #[.int .i64 a, .int .i64 s, .bool x, .int .i64 p, .int .i64 q, .int .i64 n, .int .i64 t] 43)) (w.heap.size + 1) 43 #[.int .i64 a, .int .i64 s, .bool x, .int .i64 p, .int .i64 q, .int .i64 n, .int .i64 t]) := blk_at (by simp)
  have kC : Hid (Blk ((w.alloc (.cells #[.int .i64 sh, .int .i64 wi, .int .i64 ra, .int .i64 ta, .slice A N c, .slice B M d, .slice C K f] 26)).alloc (.cells #[.int .i64 a, .int .i64 s, .bool x, .int .i64 p, .int .i64 q, .int .i64 n, .int .i64 t] 43)) w.heap.size 26 #[.int .i64 sh, .int .i64 wi, .int .i64 ra, .int .i64 ta, .slice A N c, .slice B M d, .slice C K f]) := (Blk.fresh w _ _).alloc _
  go_enter Try.func4, Try.ntmps4
  go_upto_region 1 with fail
  generalize ((w.alloc (.cells #[.int .i64 sh, .int .i64 wi, .int .i64 ra, .int .i64 ta, .slice A N c, .slice B M d, .slice C K f] 26)).alloc (.cells #[.int .i64 a, .int .i64 s, .bool x, .int .i64 p, .int .i64 q, .int .i64 n, .int .i64 t] 43)) = wS at b0 k0 kC ⊢
  generalize w.heap.size + 1 = gO at k0 ⊢
  obtain ⟨m0, m1, m2, m3, m4, m5, m6⟩ := c7_of kC.out
  go_wp2_with fail
  refine (few_any sh wi ra ta A B C N M K c d f _ hN hM hK hc hd hf).mono ?_
  rintro e w1 ⟨rfl, hb1⟩
  have b1 : Below w.heap.size w w1 := CrdB.below_step b0 hb1
  have k1 := Lib.hid (Blk.below' k0.out hb1)
  clear b0 hb1 k0 kC m0 m1 m2 m3 m4 m5 m6
  go_wp2_with fail
  refine (ref_any sh wi ra ta A B C c d f _ _ _ nd ac sy _ hn hm hk (Rd.below' hl.out b1 b1.size) (Rd.below' hu.out b1 b1.size) (Rd.below' hs.out b1 b1.size) (by rw [hk.out]; omega)).mono ?_
  rintro e w2 ⟨A1, B1, C1, c1, d1, f1, rfl, n2, u2, s2, hb2⟩
  have b2 := CrdB.below_step b1 hb2
  have k2 := Lib.hid (Blk.below' k1.out hb2)
  clear b1 k1 hb2
  go_wp2_with fail
  refine (fixc_any sh wi ra ta A1 B1 C1 c1 d1 f1 nd ac sy _ n2 u2 s2 hw hwa hws (by omega) (by omega) (by omega)).mono ?_
  rintro e w3 ⟨sh2, wi2, ra2, ta2, NF, AF, SF, hgood, A2, B2, C2, c2, d2, f2, rfl, n3, u3, s3, hb3⟩
  have hG := Lib.hid hgood
  have g1 := hgood.n2
  have g2 := hgood.a2
  have g3 := hgood.s2
  have hsh : Hid (inI sh2) := ⟨by have := hgood.h1; omega, by have := hgood.h2; omega⟩
  have hwn := Lib.hid hgood.wn
  have hws2 := Lib.hid hgood.ws
  clear hgood
  have b3 := CrdB.below_step b2 hb3
  have V3 : Hid (CfV (w3.alloc (.cells #[.int .i64 sh2, .int .i64 wi2, .int .i64 ra2, .int .i64 ta2, .slice A2 NF.length c2, .slice B2 AF.length d2, .slice C2 SF.length f2] 29)) w3.heap.size 29 A2 B2 C2 sh2 wi2 ra2 ta2 NF.length AF.length SF.length c2 d2 f2 NF AF SF) := CfV.new n3 u3 s3
  have B3' : Hid (Below w.heap.size w (w3.alloc (.cells #[.int .i64 sh2, .int .i64 wi2, .int .i64 ra2, .int .i64 ta2, .slice A2 NF.length c2, .slice B2 AF.length d2, .slice C2 SF.length f2] 29))) := b3.alloc b3.size _
  have k3 := Lib.hid ((Blk.below' k2.out hb3).alloc (.cells #[.int .i64 sh2, .int .i64 wi2, .int .i64 ra2, .int .i64 ta2, .slice A2 NF.length c2, .slice B2 AF.length d2, .slice C2 SF.length f2] 29))
  clear b2 k2 hb3 n2 u2 s2 n3 u3 s3 b3
  go_upto_region 2 with fail
  generalize w3.alloc (.cells #[.int .i64 sh2, .int .i64 wi2, .int .i64 ra2, .int .i64 ta2, .slice A2 NF.length c2, .slice B2 AF.length d2, .slice C2 SF.length f2] 29) = w4 at V3 B3' k3 ⊢
  generalize w3.heap.size = gW at V3 ⊢
  obtain ⟨m0, m1, m2, m3, m4, m5, m6⟩ := c7_of V3.out.blk
  go_wp2_with fail
  refine (to5_any sh2 wi2 ra2 ta2 A2 B2 C2 c2 d2 f2 NF AF SF _ V3.out.nds V3.out.ris V3.out.smb hwn (by omega) (by omega) (by omega)).mono ?_
  rintro e w5 ⟨A3, B3, C3, c3, d3, f3, rfl, n5, u5, s5, hb5⟩
  have b5 := CrdB.below_step B3'.out hb5
  have X5 : Hid (CfV (w5.alloc (.cells #[.int .i64 sh2, .int .i64 wi2, .int .i64 ra2, .int .i64 ta2, .slice A3 NF.length c3, .slice B3 AF.length d3, .slice C3 SF.length f3] 38)) w5.heap.size 38 A3 B3 C3 sh2 wi2 ra2 ta2 NF.length AF.length SF.length c3 d3 f3 NF AF SF) := CfV.new n5 u5 s5
  have Y5 : Hid (CfV (w5.alloc (.cells #[.int .i64 sh2, .int .i64 wi2, .int .i64 ra2, .int .i64 ta2, .slice A3 NF.length c3, .slice B3 AF.length d3, .slice C3 SF.length f3] 38)) gW 29 A2 B2 C2 sh2 wi2 ra2 ta2 NF.length AF.length SF.length c2 d2 f2 NF AF SF) := (V3.out.below hb5).alloc _
  have B5' : Hid (Below w.heap.size w (w5.alloc (.cells #[.int .i64 sh2, .int .i64 wi2, .int .i64 ra2, .int .i64 ta2, .slice A3 NF.length c3, .slice B3 AF.length d3, .slice C3 SF.length f3] 38))) := b5.alloc b5.size _
  have k5 := Lib.hid ((Blk.below' k3.out hb5).alloc (.cells #[.int .i64 sh2, .int .i64 wi2, .int .i64 ra2, .int .i64 ta2, .slice A3 NF.length c3, .slice B3 AF.length d3, .slice C3 SF.length f3] 38))
  clear V3 B3' k3 b5 hb5 n5 u5 s5 m0 m1 m2 m3 m4 m5 m6
  go_upto_region 3 with fail
  generalize w5.alloc (.cells #[.int .i64 sh2, .int .i64 wi2, .int .i64 ra2, .int .i64 ta2, .slice A3 NF.length c3, .slice B3 AF.length d3, .slice C3 SF.length f3] 38) = w6 at X5 Y5 B5' k5 ⊢
  generalize w5.heap.size = gX at X5 ⊢
  have s0 : w6.cell? ⟨gX, 0, none⟩ = some (.int .i64 sh2) ∧ w6.cell? ⟨gX, 1, none⟩ = some (.int .i64 wi2) ∧ w6.cell? ⟨gX, 2, none⟩ = some (.int .i64 ra2) ∧ w6.cell? ⟨gX, 3, none⟩ = some (.int .i64 ta2) ∧ w6.cell? ⟨gX, 4, none⟩ = some (.slice A3 NF.length c3) ∧ w6.cell? ⟨gX, 5, none⟩ = some (.slice B3 AF.length d3) ∧ w6.cell? ⟨gX, 6, none⟩ = some (.slice C3 SF.length f3) ∧ w6.cell? ⟨gO, 0, none⟩ = some (.int .i64 a) ∧ w6.cell? ⟨gO, 1, none⟩ = some (.int .i64 s) ∧ w6.cell? ⟨gO, 2, none⟩ = some (.bool x) ∧ w6.cell? ⟨gO, 3, none⟩ = some (.int .i64 p) ∧ w6.cell? ⟨gO, 4, none⟩ = some (.int .i64 q) ∧ w6.cell? ⟨gO, 5, none⟩ = some (.int .i64 n) ∧ w6.cell? ⟨gO, 6, none⟩ = some (.int .i64 t) := c14_of X5.out.blk k5.out
  have X6 : Hid (CfV w6.drew gX 38 A3 B3 C3 sh2 wi2 ra2 ta2 NF.length AF.length SF.length c3 d3 f3 NF AF SF) := ⟨X5.out.blk, X5.out.nds, X5.out.ris, X5.out.smb⟩
  have Y6 : Hid (CfV w6.drew gW 29 A2 B2 C2 sh2 wi2 ra2 ta2 NF.length AF.length SF.length c2 d2 f2 NF AF SF) := ⟨Y5.out.blk, Y5.out.nds, Y5.out.ris, Y5.out.smb⟩
  have K6 : Hid (Blk w6.drew gO 43 #[.int .i64 a, .int .i64 s, .bool x, .int .i64 p, .int .i64 q, .int .i64 n, .int .i64 t]) := k5
  have B6 : Hid (Below w.heap.size w w6.drew) := B5'.out.drew
  go_region_held3 (fun w' => w'.cell? ⟨gX, 0, none⟩ = some (.int .i64 sh2) ∧ w'.cell? ⟨gX, 1, none⟩ = some (.int .i64 wi2) ∧ w'.cell? ⟨gX, 2, none⟩ = some (.int .i64 ra2) ∧ w'.cell? ⟨gX, 3, none⟩ = some (.int .i64 ta2) ∧ w'.cell? ⟨gX, 4, none⟩ = some (.slice A3 NF.length c3) ∧ w'.cell? ⟨gX, 5, none⟩ = some (.slice B3 AF.length d3) ∧ w'.cell? ⟨gX, 6, none⟩ = some (.slice C3 SF.length f3) ∧ w'.cell? ⟨gO, 0, none⟩ = some (.int .i64 a) ∧ w'.cell? ⟨gO, 1, none⟩ = some (.int .i64 s) ∧ w'.cell? ⟨gO, 2, none⟩ = some (.bool x) ∧ w'.cell? ⟨gO, 3, none⟩ = some (.int .i64 p) ∧ w'.cell? ⟨gO, 4, none⟩ = some (.int .i64 q) ∧ w'.cell? ⟨gO, 5, none⟩ = some (.int .i64 n) ∧ w'.cell? ⟨gO, 6, none⟩ = some (.int .i64 t))
    (first | go_keep | (with_reducible assumption) | (exact q7) | (exact q8))
    (first
      | (go_at_call 20; refine (order_any a s x p q n t _).mono ?_; rintro e w7 ⟨rfl, hb7⟩; have B7 := Lib.hid (CrdB.below_step B6.out hb7); have X7 : Hid (CfV w7 gX 38 A3 B3 C3 sh2 wi2 ra2 ta2 NF.length AF.length SF.length c3 d3 f3 NF AF SF) := X6.out.below hb7; have Y7 : Hid (CfV w7 gW 29 A2 B2 C2 sh2 wi2 ra2 ta2 NF.length AF.length SF.length c2 d2 f2 NF AF SF) := Y6.out.below hb7; have K7 : Hid (Blk w7 gO 43 #[.int .i64 a, .int .i64 s, .bool x, .int .i64 p, .int .i64 q, .int .i64 n, .int .i64 t]) := Blk.below' K6.out hb7; have q7 : w7.cell? ⟨gX, 0, none⟩ = some (.int .i64 sh2) ∧ w7.cell? ⟨gX, 1, none⟩ = some (.int .i64 wi2) ∧ w7.cell? ⟨gX, 2, none⟩ = some (.int .i64 ra2) ∧ w7.cell? ⟨gX, 3, none⟩ = some (.int .i64 ta2) ∧ w7.cell? ⟨gX, 4, none⟩ = some (.slice A3 NF.length c3) ∧ w7.cell? ⟨gX, 5, none⟩ = some (.slice B3 AF.length d3) ∧ w7.cell? ⟨gX, 6, none⟩ = some (.slice C3 SF.length f3) ∧ w7.cell? ⟨gO, 0, none⟩ = some (.int .i64 a) ∧ w7.cell? ⟨gO, 1, none⟩ = some (.int .i64 s) ∧ w7.cell? ⟨gO, 2, none⟩ = some (.bool x) ∧ w7.cell? ⟨gO, 3, none⟩ = some (.int .i64 p) ∧ w7.cell? ⟨gO, 4, none⟩ = some (.int .i64 q) ∧ w7.cell? ⟨gO, 5, none⟩ = some (.int .i64 n) ∧ w7.cell? ⟨gO, 6, none⟩ = some (.int .i64 t) := c14_of X7.out.blk K7.out)
      | (go_at_call 19; refine (look_any sh2 wi2 ra2 ta2 A3 B3 C3 c3 d3 f3 NF AF SF a s x p q n t _ X7.out.smb hws2 hp hq (by omega) (by omega)).mono ?_; rintro e w8 ⟨rfl, hb8⟩; have B8 := Lib.hid (CrdB.below_step B7.out hb8); have X8 : Hid (CfV w8 gX 38 A3 B3 C3 sh2 wi2 ra2 ta2 NF.length AF.length SF.length c3 d3 f3 NF AF SF) := X7.out.below hb8; have Y8 : Hid (CfV w8 gW 29 A2 B2 C2 sh2 wi2 ra2 ta2 NF.length AF.length SF.length c2 d2 f2 NF AF SF) := Y7.out.below hb8; have K8 : Hid (Blk w8 gO 43 #[.int .i64 a, .int .i64 s, .bool x, .int .i64 p, .int .i64 q, .int .i64 n, .int .i64 t]) := Blk.below' K7.out hb8; have q8 : w8.cell? ⟨gX, 0, none⟩ = some (.int .i64 sh2) ∧ w8.cell? ⟨gX, 1, none⟩ = some (.int .i64 wi2) ∧ w8.cell? ⟨gX, 2, none⟩ = some (.int .i64 ra2) ∧ w8.cell? ⟨gX, 3, none⟩ = some (.int .i64 ta2) ∧ w8.cell? ⟨gX, 4, none⟩ = some (.slice A3 NF.length c3) ∧ w8.cell? ⟨gX, 5, none⟩ = some (.slice B3 AF.length d3) ∧ w8.cell? ⟨gX, 6, none⟩ = some (.slice C3 SF.length f3) ∧ w8.cell? ⟨gO, 0, none⟩ = some (.int .i64 a) ∧ w8.cell? ⟨gO, 1, none⟩ = some (.int .i64 s) ∧ w8.cell? ⟨gO, 2, none⟩ = some (.bool x) ∧ w8.cell? ⟨gO, 3, none⟩ = some (.int .i64 p) ∧ w8.cell? ⟨gO, 4, none⟩ = some (.int .i64 q) ∧ w8.cell? ⟨gO, 5, none⟩ = some (.int .i64 n) ∧ w8.cell? ⟨gO, 6, none⟩ = some (.int .i64 t) := c14_of X8.out.blk K8.out))
  generalize hL : lokF AF SF a s p q n t = L at *
  obtain ⟨L1, L2⟩ := L
  clear s0 q7 q8 X6 Y6 K6 B6 X5 Y5 k5 B5' X7 Y7 K7 B7 hb7 hb8
  obtain ⟨m0, m1, m2, m3, m4, m5, m6⟩ := c7_of Y8.out.blk
  obtain ⟨o0, o1, o2, o3, o4, o5, o6⟩ := c7_of K8.out
  go_wp2_with fail
  refine (rlook_any sh2 wi2 ra2 ta2 A2 B2 C2 c2 d2 f2 NF AF SF a s x p q n t _ Y8.out.smb hws2 hp hq (by omega) (by omega)).mono ?_
  rintro e w9 ⟨rfl, hb9⟩
  rw [hL]
  have X9 := Lib.hid (X8.out.below hb9)
  have Y9 := Lib.hid (Y8.out.below hb9)
  have K9 := Lib.hid (Blk.below' K8.out hb9)
  have B9 := Lib.hid (CrdB.below_step B8.out hb9)
  clear m0 m1 m2 m3 m4 m5 m6 o0 o1 o2 o3 o4 o5 o6 X8 Y8 K8 B8 hb9
  go_upto_region 5 with fail
  have s9 : w9.cell? ⟨gX, 0, none⟩ = some (.int .i64 sh2) ∧ w9.cell? ⟨gX, 1, none⟩ = some (.int .i64 wi2) ∧ w9.cell? ⟨gX, 2, none⟩ = some (.int .i64 ra2) ∧ w9.cell? ⟨gX, 3, none⟩ = some (.int .i64 ta2) ∧ w9.cell? ⟨gX, 4, none⟩ = some (.slice A3 NF.length c3) ∧ w9.cell? ⟨gX, 5, none⟩ = some (.slice B3 AF.length d3) ∧ w9.cell? ⟨gX, 6, none⟩ = some (.slice C3 SF.length f3) ∧ w9.cell? ⟨gW, 0, none⟩ = some (.int .i64 sh2) ∧ w9.cell? ⟨gW, 1, none⟩ = some (.int .i64 wi2) ∧ w9.cell? ⟨gW, 2, none⟩ = some (.int .i64 ra2) ∧ w9.cell? ⟨gW, 3, none⟩ = some (.int .i64 ta2) ∧ w9.cell? ⟨gW, 4, none⟩ = some (.slice A2 NF.length c2) ∧ w9.cell? ⟨gW, 5, none⟩ = some (.slice B2 AF.length d2) ∧ w9.cell? ⟨gW, 6, none⟩ = some (.slice C2 SF.length f2) ∧ w9.cell? ⟨gO, 0, none⟩ = some (.int .i64 a) := c15_of X9.out.blk Y9.out.blk K9.out
  have X10 : Hid (CfV w9.drew gX 38 A3 B3 C3 sh2 wi2 ra2 ta2 NF.length AF.length SF.length c3 d3 f3 NF AF SF) := ⟨X9.out.blk, X9.out.nds, X9.out.ris, X9.out.smb⟩
  have Y10 : Hid (CfV w9.drew gW 29 A2 B2 C2 sh2 wi2 ra2 ta2 NF.length AF.length SF.length c2 d2 f2 NF AF SF) := ⟨Y9.out.blk, Y9.out.nds, Y9.out.ris, Y9.out.smb⟩
  have K10 : Hid (Blk w9.drew gO 43 #[.int .i64 a, .int .i64 s, .bool x, .int .i64 p, .int .i64 q, .int .i64 n, .int .i64 t]) := K9
  have B10 : Hid (Below w.heap.size w w9.drew) := B9.out.drew
  have hcf : cfgF sh2 wi2 ra2 ta2 NF AF SF = 0 := hG.out.cfg
  generalize hS : shaF sh2 AF.length a = SA at *
  have e1 : (L1 == L1) = true := by simp
  have e2 : (L2 == L2) = true := by simp
  have e3 : (SA == SA) = true := by simp
  go_region_held3 (fun w' => w'.cell? ⟨gX, 0, none⟩ = some (.int .i64 sh2) ∧ w'.cell? ⟨gX, 1, none⟩ = some (.int .i64 wi2) ∧ w'.cell? ⟨gX, 2, none⟩ = some (.int .i64 ra2) ∧ w'.cell? ⟨gX, 3, none⟩ = some (.int .i64 ta2) ∧ w'.cell? ⟨gX, 4, none⟩ = some (.slice A3 NF.length c3) ∧ w'.cell? ⟨gX, 5, none⟩ = some (.slice B3 AF.length d3) ∧ w'.cell? ⟨gX, 6, none⟩ = some (.slice C3 SF.length f3) ∧ w'.cell? ⟨gW, 0, none⟩ = some (.int .i64 sh2) ∧ w'.cell? ⟨gW, 1, none⟩ = some (.int .i64 wi2) ∧ w'.cell? ⟨gW, 2, none⟩ = some (.int .i64 ra2) ∧ w'.cell? ⟨gW, 3, none⟩ = some (.int .i64 ta2) ∧ w'.cell? ⟨gW, 4, none⟩ = some (.slice A2 NF.length c2) ∧ w'.cell? ⟨gW, 5, none⟩ = some (.slice B2 AF.length d2) ∧ w'.cell? ⟨gW, 6, none⟩ = some (.slice C2 SF.length f2) ∧ w'.cell? ⟨gO, 0, none⟩ = some (.int .i64 a))
    (first | go_keep | (with_reducible assumption) | (exact q11) | (exact q12) | (exact q13) | (exact q14))
    (first
      | (go_at_call 14; refine (told5_any _).mono ?_; rintro e w11 ⟨rfl, hb11⟩; have B11 := Lib.hid (CrdB.below_step (Hid.out (by assumption)) hb11); have X11 : Hid (CfV w11 gX 38 A3 B3 C3 sh2 wi2 ra2 ta2 NF.length AF.length SF.length c3 d3 f3 NF AF SF) := CfV.below (Hid.out (by assumption)) hb11; have Y11 : Hid (CfV w11 gW 29 A2 B2 C2 sh2 wi2 ra2 ta2 NF.length AF.length SF.length c2 d2 f2 NF AF SF) := CfV.below (Hid.out (by assumption)) hb11; have K11 : Hid (Blk w11 gO 43 #[.int .i64 a, .int .i64 s, .bool x, .int .i64 p, .int .i64 q, .int .i64 n, .int .i64 t]) := Blk.below' (Hid.out (by assumption)) hb11; have q11 : w11.cell? ⟨gX, 0, none⟩ = some (.int .i64 sh2) ∧ w11.cell? ⟨gX, 1, none⟩ = some (.int .i64 wi2) ∧ w11.cell? ⟨gX, 2, none⟩ = some (.int .i64 ra2) ∧ w11.cell? ⟨gX, 3, none⟩ = some (.int .i64 ta2) ∧ w11.cell? ⟨gX, 4, none⟩ = some (.slice A3 NF.length c3) ∧ w11.cell? ⟨gX, 5, none⟩ = some (.slice B3 AF.length d3) ∧ w11.cell? ⟨gX, 6, none⟩ = some (.slice C3 SF.length f3) ∧ w11.cell? ⟨gW, 0, none⟩ = some (.int .i64 sh2) ∧ w11.cell? ⟨gW, 1, none⟩ = some (.int .i64 wi2) ∧ w11.cell? ⟨gW, 2, none⟩ = some (.int .i64 ra2) ∧ w11.cell? ⟨gW, 3, none⟩ = some (.int .i64 ta2) ∧ w11.cell? ⟨gW, 4, none⟩ = some (.slice A2 NF.length c2) ∧ w11.cell? ⟨gW, 5, none⟩ = some (.slice B2 AF.length d2) ∧ w11.cell? ⟨gW, 6, none⟩ = some (.slice C2 SF.length f2) ∧ w11.cell? ⟨gO, 0, none⟩ = some (.int .i64 a) := c15_of X11.out.blk Y11.out.blk K11.out)
      | (go_at_call 15; refine (check5_any sh2 wi2 ra2 ta2 A3 B3 C3 c3 d3 f3 NF AF SF _ (CfV.nds (Hid.out (by assumption))) (CfV.ris (Hid.out (by assumption))) (CfV.smb (Hid.out (by assumption))) hwn (by omega) (by omega) (by omega)).mono ?_; rintro e w12 ⟨rfl, hb12⟩; rw [hcf]; have B12 := Lib.hid (CrdB.below_step (Hid.out (by assumption)) hb12); have X12 : Hid (CfV w12 gX 38 A3 B3 C3 sh2 wi2 ra2 ta2 NF.length AF.length SF.length c3 d3 f3 NF AF SF) := CfV.below (Hid.out (by assumption)) hb12; have Y12 : Hid (CfV w12 gW 29 A2 B2 C2 sh2 wi2 ra2 ta2 NF.length AF.length SF.length c2 d2 f2 NF AF SF) := CfV.below (Hid.out (by assumption)) hb12; have K12 : Hid (Blk w12 gO 43 #[.int .i64 a, .int .i64 s, .bool x, .int .i64 p, .int .i64 q, .int .i64 n, .int .i64 t]) := Blk.below' (Hid.out (by assumption)) hb12; have q12 : w12.cell? ⟨gX, 0, none⟩ = some (.int .i64 sh2) ∧ w12.cell? ⟨gX, 1, none⟩ = some (.int .i64 wi2) ∧ w12.cell? ⟨gX, 2, none⟩ = some (.int .i64 ra2) ∧ w12.cell? ⟨gX, 3, none⟩ = some (.int .i64 ta2) ∧ w12.cell? ⟨gX, 4, none⟩ = some (.slice A3 NF.length c3) ∧ w12.cell? ⟨gX, 5, none⟩ = some (.slice B3 AF.length d3) ∧ w12.cell? ⟨gX, 6, none⟩ = some (.slice C3 SF.length f3) ∧ w12.cell? ⟨gW, 0, none⟩ = some (.int .i64 sh2) ∧ w12.cell? ⟨gW, 1, none⟩ = some (.int .i64 wi2) ∧ w12.cell? ⟨gW, 2, none⟩ = some (.int .i64 ra2) ∧ w12.cell? ⟨gW, 3, none⟩ = some (.int .i64 ta2) ∧ w12.cell? ⟨gW, 4, none⟩ = some (.slice A2 NF.length c2) ∧ w12.cell? ⟨gW, 5, none⟩ = some (.slice B2 AF.length d2) ∧ w12.cell? ⟨gW, 6, none⟩ = some (.slice C2 SF.length f2) ∧ w12.cell? ⟨gO, 0, none⟩ = some (.int .i64 a) := c15_of X12.out.blk Y12.out.blk K12.out)
      | (go_at_call 22; refine (shard_any sh2 wi2 ra2 ta2 A3 B3 C3 c3 d3 f3 NF AF SF a _ hsh.out (by omega)).mono ?_; rintro e w13 ⟨rfl, hb13⟩; rw [hS]; have B13 := Lib.hid (CrdB.below_step (Hid.out (by assumption)) hb13); have X13 : Hid (CfV w13 gX 38 A3 B3 C3 sh2 wi2 ra2 ta2 NF.length AF.length SF.length c3 d3 f3 NF AF SF) := CfV.below (Hid.out (by assumption)) hb13; have Y13 : Hid (CfV w13 gW 29 A2 B2 C2 sh2 wi2 ra2 ta2 NF.length AF.length SF.length c2 d2 f2 NF AF SF) := CfV.below (Hid.out (by assumption)) hb13; have K13 : Hid (Blk w13 gO 43 #[.int .i64 a, .int .i64 s, .bool x, .int .i64 p, .int .i64 q, .int .i64 n, .int .i64 t]) := Blk.below' (Hid.out (by assumption)) hb13; have q13 : w13.cell? ⟨gX, 0, none⟩ = some (.int .i64 sh2) ∧ w13.cell? ⟨gX, 1, none⟩ = some (.int .i64 wi2) ∧ w13.cell? ⟨gX, 2, none⟩ = some (.int .i64 ra2) ∧ w13.cell? ⟨gX, 3, none⟩ = some (.int .i64 ta2) ∧ w13.cell? ⟨gX, 4, none⟩ = some (.slice A3 NF.length c3) ∧ w13.cell? ⟨gX, 5, none⟩ = some (.slice B3 AF.length d3) ∧ w13.cell? ⟨gX, 6, none⟩ = some (.slice C3 SF.length f3) ∧ w13.cell? ⟨gW, 0, none⟩ = some (.int .i64 sh2) ∧ w13.cell? ⟨gW, 1, none⟩ = some (.int .i64 wi2) ∧ w13.cell? ⟨gW, 2, none⟩ = some (.int .i64 ra2) ∧ w13.cell? ⟨gW, 3, none⟩ = some (.int .i64 ta2) ∧ w13.cell? ⟨gW, 4, none⟩ = some (.slice A2 NF.length c2) ∧ w13.cell? ⟨gW, 5, none⟩ = some (.slice B2 AF.length d2) ∧ w13.cell? ⟨gW, 6, none⟩ = some (.slice C2 SF.length f2) ∧ w13.cell? ⟨gO, 0, none⟩ = some (.int .i64 a) := c15_of X13.out.blk Y13.out.blk K13.out)
      | (go_at_call 23; refine (rshard_any sh2 wi2 ra2 ta2 A2 B2 C2 c2 d2 f2 NF AF SF a _ hsh.out (by omega)).mono ?_; rintro e w14 ⟨rfl, hb14⟩; rw [hS]; have B14 := Lib.hid (CrdB.below_step (Hid.out (by assumption)) hb14); have X14 : Hid (CfV w14 gX 38 A3 B3 C3 sh2 wi2 ra2 ta2 NF.length AF.length SF.length c3 d3 f3 NF AF SF) := CfV.below (Hid.out (by assumption)) hb14; have Y14 : Hid (CfV w14 gW 29 A2 B2 C2 sh2 wi2 ra2 ta2 NF.length AF.length SF.length c2 d2 f2 NF AF SF) := CfV.below (Hid.out (by assumption)) hb14; have K14 : Hid (Blk w14 gO 43 #[.int .i64 a, .int .i64 s, .bool x, .int .i64 p, .int .i64 q, .int .i64 n, .int .i64 t]) := Blk.below' (Hid.out (by assumption)) hb14; have q14 : w14.cell? ⟨gX, 0, none⟩ = some (.int .i64 sh2) ∧ w14.cell? ⟨gX, 1, none⟩ = some (.int .i64 wi2) ∧ w14.cell? ⟨gX, 2, none⟩ = some (.int .i64 ra2) ∧ w14.cell? ⟨gX, 3, none⟩ = some (.int .i64 ta2) ∧ w14.cell? ⟨gX, 4, none⟩ = some (.slice A3 NF.length c3) ∧ w14.cell? ⟨gX, 5, none⟩ = some (.slice B3 AF.length d3) ∧ w14.cell? ⟨gX, 6, none⟩ = some (.slice C3 SF.length f3) ∧ w14.cell? ⟨gW, 0, none⟩ = some (.int .i64 sh2) ∧ w14.cell? ⟨gW, 1, none⟩ = some (.int .i64 wi2) ∧ w14.cell? ⟨gW, 2, none⟩ = some (.int .i64 ra2) ∧ w14.cell? ⟨gW, 3, none⟩ = some (.int .i64 ta2) ∧ w14.cell? ⟨gW, 4, none⟩ = some (.slice A2 NF.length c2) ∧ w14.cell? ⟨gW, 5, none⟩ = some (.slice B2 AF.length d2) ∧ w14.cell? ⟨gW, 6, none⟩ = some (.slice C2 SF.length f2) ∧ w14.cell? ⟨gO, 0, none⟩ = some (.int .i64 a) := c15_of X14.out.blk Y14.out.blk K14.out))
  all_goals
    go_wp2_with fail
    go_ret
    exact madeB_mk rfl (Hid.out (by assumption))

set_option maxRecDepth 100000 in
theorem lifted (os : Os) (started : os.Started) (H : Type) (enc : TypeId × Value → H) :
    ReturnsInHanded {} Try.checked os 4 .any (Rows.rulesLooksSpec.pre6 enc Try.prog Try.f4 Rows.rulesLooksRow.domain false) (Rows.rulesLooksSpec.post enc Try.prog Try.f4 false true false false) := by
  refine returnsInHanded_of_change (C := Try.checked) own started (by kernel_rfl) Try.func4
    (ChangeSpec.witness6 (enc := enc) (C := Try.checked) false ⟨#[], #[.agg #[.int .i64 0, .int .i64 0, .int .i64 0, .int .i64 0, .slice none 0 0, .slice none 0 0, .slice none 0 0], .agg #[.int .i64 0, .int .i64 0, .bool false, .int .i64 0, .int .i64 0, .int .i64 0, .int .i64 0]], []⟩ 8 (by kernel_rfl) (by kernel_rfl) (by kernel_rfl) (by kernel_rfl)) ?_
  intro W base args ds gs before hval0 hW hcnd _
  have hval : ∀ (j : Nat) t v, Try.f4.params[j]? = some t → args[j]? = some v → Value.okWide Try.prog W .any base t v := hval0
  have hW' := hW
  obtain ⟨p, q, hA0, hV, rfl, hfz, hnd⟩ := hW
  have hA : DataW.TrodAll enc Try.prog W 0 (fun _ => true) true Try.f4.params.toList args.toList ds p := hA0
  rw [Try.params4] at hA hval
  obtain ⟨v0, v1, d0, d1, p0, p1, rfl, rfl, rfl, h0, h1⟩ := trodAll_two hA
  obtain ⟨sh, wi, ra, ta, A, B, C, c, d, f, nd, ac, sy, rfl, _, _, _, _, k1, k2, k3, k4, k5, k6, hn, hw, ha, hwa, hs, hws⟩ := open_conf (hval 0 _ v0 rfl rfl) h0
  obtain ⟨a, s, x, pp, qq, n, t, rfl, _, _, ip, iq, _, _⟩ := open_order (hval 1 _ v1 rfl rfl) h1
  refine (inner2 sh wi ra ta A B C _ _ _ c d f (nd.take 40) (ac.take 40) (sy.take 20) a s x pp qq n t W (cut_len _ _) (cut_len _ _) (cut_len _ _) k1 k3 k5 (by unfold maxLen at k2; omega) (by unfold maxLen at k4; omega) (by unfold maxLen at k6; omega) (nds_cut hn _) (ris_cut ha _) (btb_cut hs _) (wfn_cut hw _) (wfi_cut hwa _) (wfs_cut hws _) ip iq).mono fun e W' ⟨he, hb⟩ => ?_
  subst he
  exact ⟨_, rfl, law_post hW' rfl rfl rfl rfl (by kernel_rfl) Try.underlying4 (by rw [Try.params4]; simp only [List.mem_cons, List.not_mem_nil, or_false, forall_eq_or_imp, forall_eq]; exact ⟨⟨by kernel_rfl, of_decide_eq_true (by kernel_rfl)⟩, ⟨by kernel_rfl, of_decide_eq_true (by kernel_rfl)⟩⟩) laidOut hb⟩

theorem over : Rows.rulesLooksRow.holds Try.pinned (OpenSpec.ofChange Rows.rulesLooksSpec) :=
  OpenClaim.holds_of_wide 4 Try.f4 rfl rfl rfl rfl rfl rfl rfl ⟨rfl, rfl, rfl, rfl, rfl⟩ rfl rfl rfl rfl rfl (by kernel_rfl) Try.func4 (by kernel_rfl)
    (of_decide_eq_true (by kernel_rfl)) (by unfold Func.isWrapper; first | (rw [if_pos (by decide +kernel)]; kernel_rfl) | (rw [if_neg (by decide +kernel)]; exact ⟨rfl, rfl⟩))
    (fun os started H enc _ => lifted os started H enc)

theorem proved : Rows.RulesLooksSaid := over
#print axioms proved
end Go.Proofs.Ytecjecgkioklaaa.rulesLooks
