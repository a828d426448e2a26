/- A Config in a variable; the contract of the law's fixed example of layer 5. No condition. -/
import Derived.Test.YtecjecgkioklaaaRul3
import Derived.Test.YtecjecgkioklaaaRul7
namespace Go.Proofs.Ytecjecgkioklaaa.Tl5
set_option maxRecDepth 100000
open Go.ChangeShapes Go.WideShapes Go.ChangeAt Go.RowKit Mem Tre Ref3 Law3 Fix3 Opn Bnd Flo Cfg CrdB CrdC Rr4 Fr4 Rul1 Rul3 St7 Rul6 Fcf Fown Rul7
set_option linter.unusedVariables false
set_option linter.unusedSimpArgs false
attribute [local go_sem] run_store_float

/-- a variable that holds a Config -/
structure CfV (W : World) (g : Nat) (te : TypeId) (A B C : Option Addr) (sh wi ra ta : Int) (n m k c d f : Nat) (nd : List (Int × Int)) (ac : List Int) (sy : List (Int × Int × Int × Nat)) : Prop where
  blk : Blk W g te #[.int .i64 sh, .int .i64 wi, .int .i64 ra, .int .i64 ta, .slice A n c, .slice B m d, .slice C k f]
  nds : Nds W W.heap.size A nd
  ris : Ris W W.heap.size B ac
  smb : Smb W W.heap.size C sy
theorem CfV.below {W : World} {g : Nat} {te : TypeId} {A B C : Option Addr} {sh wi ra ta : Int} {n m k c d f : Nat} {nd : List (Int × Int)} {ac : List Int} {sy : List (Int × Int × Int × Nat)} {W' : World} (h : CfV W g te A B C sh wi ra ta n m k c d f nd ac sy) (hb : Below W.heap.size W W') : CfV W' g te A B C sh wi ra ta n m k c d f nd ac sy :=
  ⟨Blk.below' h.blk hb, Rd.below' h.nds hb hb.size, Rd.below' h.ris hb hb.size, Rd.below' h.smb hb hb.size⟩
theorem CfV.alloc {W : World} {g : Nat} {te : TypeId} {A B C : Option Addr} {sh wi ra ta : Int} {n m k c d f : Nat} {nd : List (Int × Int)} {ac : List Int} {sy : List (Int × Int × Int × Nat)} (h : CfV W g te A B C sh wi ra ta n m k c d f nd ac sy) (o : Obj) : CfV (W.alloc o) g te A B C sh wi ra ta n m k c d f nd ac sy :=
  h.below ((Below.refl _ _).alloc (Nat.le_refl _) _)
theorem CfV.new {W : World} {te : TypeId} {A B C : Option Addr} {sh wi ra ta : Int} {n m k c d f : Nat} {nd : List (Int × Int)} {ac : List Int} {sy : List (Int × Int × Int × Nat)} (h1 : Nds W W.heap.size A nd) (h2 : Ris W W.heap.size B ac) (h3 : Smb W W.heap.size C sy) : CfV (W.alloc (.cells #[.int .i64 sh, .int .i64 wi, .int .i64 ra, .int .i64 ta, .slice A n c, .slice B m d, .slice C k f] te)) W.heap.size te A B C sh wi ra ta n m k c d f nd ac sy :=
  ⟨Blk.fresh _ _ _, Rd.below' h1 ((Below.refl _ _).alloc (Nat.le_refl _) _) (by simp), Rd.below' h2 ((Below.refl _ _).alloc (Nat.le_refl _) _) (by simp), Rd.below' h3 ((Below.refl _ _).alloc (Nat.le_refl _) _) (by simp)⟩
def C7 (W : World) (g : Nat) (v0 v1 v2 v3 v4 v5 v6 : Value) : Prop :=
  W.cell? ⟨g, 0, none⟩ = some v0 ∧ W.cell? ⟨g, 1, none⟩ = some v1 ∧ W.cell? ⟨g, 2, none⟩ = some v2 ∧ W.cell? ⟨g, 3, none⟩ = some v3 ∧ W.cell? ⟨g, 4, none⟩ = some v4 ∧ W.cell? ⟨g, 5, none⟩ = some v5 ∧ W.cell? ⟨g, 6, none⟩ = some v6
theorem c7_of {W : World} {g : Nat} {te : TypeId} {v0 v1 v2 v3 v4 v5 v6 : Value} (hk : Blk W g te #[v0, v1, v2, v3, v4, v5, v6]) :
    W.cell? ⟨g, 0, none⟩ = some v0 ∧ W.cell? ⟨g, 1, none⟩ = some v1 ∧ W.cell? ⟨g, 2, none⟩ = some v2 ∧ W.cell? ⟨g, 3, none⟩ = some v3 ∧ W.cell? ⟨g, 4, none⟩ = some v4 ∧ W.cell? ⟨g, 5, none⟩ = some v5 ∧ W.cell? ⟨g, 6, none⟩ = some v6 :=
  ⟨hk.cell 0, hk.cell 1, hk.cell 2, hk.cell 3, hk.cell 4, hk.cell 5, hk.cell 6⟩

theorem wfn_fix (nd : List (Int × Int)) : WfN (fixF nd) := okt_wf (okt_fixF nd) (by have := fixF_len nd; omega)
theorem wfi_fix {n : Nat} {ac : List Int} (h : 1 ≤ n) (h' : n ≤ 1000) : WfI (fixA n ac) := by
  intro i hi
  have h2 := fixA_in (n := n) (ac := ac) h h'
  unfold accB at h2
  have := inR_of (of_decide_eq_true h2 i hi)
  exact ⟨by omega, by omega⟩
theorem wfs_fix {sy : List (Int × Int × Int × Nat)} (hw : WfS sy) : WfS (fixS sy) := by
  intro i hi
  unfold fixS at hi ⊢
  split at hi
  · rename_i h0
    rw [if_pos h0]
    have : i = 0 := by simp at hi; omega
    subst this
    exact ⟨⟨by decide, by decide⟩, ⟨by decide, by decide⟩, ⟨by decide, by decide⟩, by decide⟩
  · rename_i h0
    rw [if_neg h0]
    have hl : i < (sy.take 3).length := by simpa using hi
    have hl2 : i < sy.length := by rw [List.length_take] at hl; omega
    have e : ((sy.take 3).map oneS).getD i (0, 0, 0, 0) = oneS ((sy.take 3)[i]) := getD_map hl
    have e2 : (sy.take 3)[i] = sy[i] := by simp
    have e3 : sy.getD i (0, 0, 0, 0) = sy[i] := by simp [hl2]
    obtain ⟨_, _, h2, h3⟩ := hw i hl2
    unfold sW at h2
    unfold sB at h3
    rw [e3] at h2 h3
    unfold sP sQ sW sB
    rw [e, e2]
    have k1 := modF_bd (x := sy[i].1) (m := 1099511627776) (by decide) (by decide)
    have k2 := modF_bd (x := sy[i].2.1) (m := 1099511627776) (by decide) (by decide)
    unfold oneS
    refine ⟨⟨by show _ ≤ 1 + _; omega, by show 1 + _ ≤ _; omega⟩, ⟨by show _ ≤ 1 + _; omega, by show 1 + _ ≤ _; omega⟩, ?_, ?_⟩
    · show inI (if _ then _ else _)
      split
      · exact ⟨by decide, by decide⟩
      · exact h2
    · show (if _ then _ else _) < _
      split
      · exact h3
      · decide

def ex5 : List (Int × Int × Int × Nat) := [(99, 99, 1000, 4587366580439587226)]
set_option maxHeartbeats 4000000 in
theorem told5_any (w : World) : Calls Try.prog 14 #[] w (MadeB true w) := by
  have q1 : lokF (fixA (fixF []).length []) (fixS ex5) 0 0 106 1 0 0 = (8, 0) := by decide +kernel
  have q2 : lokF (fixA (fixF []).length []) (fixS ex5) 0 0 105 2 0 0 = (0, 210) := by decide +kernel
  have q3 : shaF (1 + modF 0 3) (fixA (fixF []).length []).length 0 = 0 := by decide +kernel
  have q4 : shaF (1 + modF 0 3) (fixA (fixF []).length []).length 1 = -1 := by decide +kernel
  have hsh : inI (1 + modF 0 3) := by have := modF_bd (x := 0) (m := 3) (by decide) (by decide); exact ⟨by omega, by omega⟩
  have hf := fixF_len []
  have ha := fixA_len (n := (fixF []).length) (ac := [])
  have hs := fixS_len (sy := ex5)
  have wfn := Lib.hid (wfn_fix [])
  have wfs := Lib.hid (wfs_fix (sy := ex5) (fun i hi => by
    have : i = 0 := by simp [ex5] at hi; omega
    subst this
    exact ⟨⟨by decide, by decide⟩, ⟨by decide, by decide⟩, ⟨by decide, by decide⟩, by decide⟩))
  have Q1 := Lib.hid q1
  have Q2 := Lib.hid q2
  have Q3 := Lib.hid q3
  have Q4 := Lib.hid q4
  clear q1 q2 q3 q4
  go_enter Try.func14, Try.ntmps14
  go_wp2_with fail
  have b0 : Below w.heap.size w (w.alloc (.cells #[.int .i64 99, .int .i64 99, .int .i64 1000, .float .f64 4587366580439587226] 58)) := (Below.refl _ _).alloc (Nat.le_refl _) _
  have s0 : Smb (w.alloc (.cells #[.int .i64 99, .int .i64 99, .int .i64 1000, .float .f64 4587366580439587226] 58)) (w.alloc (.cells #[.int .i64 99, .int .i64 99, .int .i64 1000, .float .f64 4587366580439587226] 58)).heap.size (some ⟨w.heap.size, 0, none⟩) ex5 := (Blk.fresh _ _ _).rd' rfl
  refine (fix5_any 0 0 0 0 none none (some ⟨w.heap.size, 0, none⟩) 0 0 1 [] [] ex5 _ Rd.nil Rd.nil s0 (fun i hi => by simp at hi) (fun i hi => by simp at hi) (fun i hi => by
    have : i = 0 := by simp [ex5] at hi; omega
    subst this
    exact ⟨⟨by decide, by decide⟩, ⟨by decide, by decide⟩, ⟨by decide, by decide⟩, by decide⟩) (by decide) (by decide) (by decide)).mono ?_
  rintro e w1 ⟨A1, B1, C1, c1, d1, f1, rfl, hn1, hu1, hs1, hb1⟩
  have b1 := Lib.hid (CrdB.below_step b0 hb1)
  clear b0 s0 hb1
  simp only [List.length_nil] at hn1 hu1 hs1 ⊢
  go_wp2_with fail
  refine (to5_any (1 + modF 0 3) (modF 0 4) (1 + modF 0 6) (1 + modF 0 8) A1 B1 C1 c1 d1 f1 (fixF []) (fixA (fixF []).length []) (fixS ex5) _ hn1 hu1 hs1 wfn (by omega) (by omega) (by omega)).mono ?_
  rintro e w2 ⟨A2, B2, C2, c2, d2, f2, rfl, hn2, hu2, hs2, hb2⟩
  have b2 : Hid (Below w.heap.size w (w2.alloc (.cells #[.int .i64 (1 + modF 0 3), .int .i64 (modF 0 4), .int .i64 (1 + modF 0 6), .int .i64 (1 + modF 0 8), .slice A2 (fixF []).length c2, .slice B2 (fixA (fixF []).length []).length d2, .slice C2 (fixS ex5).length f2] 38))) := (CrdB.below_step b1.out hb2).alloc (CrdB.below_step b1.out hb2).size _
  have v2 : Hid (CfV (w2.alloc (.cells #[.int .i64 (1 + modF 0 3), .int .i64 (modF 0 4), .int .i64 (1 + modF 0 6), .int .i64 (1 + modF 0 8), .slice A2 (fixF []).length c2, .slice B2 (fixA (fixF []).length []).length d2, .slice C2 (fixS ex5).length f2] 38)) w2.heap.size 38 A2 B2 C2 (1 + modF 0 3) (modF 0 4) (1 + modF 0 6) (1 + modF 0 8) (fixF []).length (fixA (fixF []).length []).length (fixS ex5).length c2 d2 f2 (fixF []) (fixA (fixF []).length []) (fixS ex5)) := CfV.new hn2 hu2 hs2
  clear b1 hn1 hu1 hs1 hn2 hu2 hs2 hb2
  go_upto_region 2 with fail
  generalize w2.alloc (.cells #[.int .i64 (1 + modF 0 3), .int .i64 (modF 0 4), .int .i64 (1 + modF 0 6), .int .i64 (1 + modF 0 8), .slice A2 (fixF []).length c2, .slice B2 (fixA (fixF []).length []).length d2, .slice C2 (fixS ex5).length f2] 38) = w3 at b2 v2 ⊢
  generalize w2.heap.size = gC at v2 ⊢
  obtain ⟨f0, f1, f2, f3, f4, f5, f6⟩ := c7_of v2.out.blk
  go_wp2_with fail
  refine (look_any (1 + modF 0 3) (modF 0 4) (1 + modF 0 6) (1 + modF 0 8) A2 B2 C2 c2 d2 _ (fixF []) (fixA (fixF []).length []) (fixS ex5) 0 0 false 106 1 0 0 _ v2.out.smb wfs ⟨by decide, by decide⟩ ⟨by decide, by decide⟩ (by omega) (by omega)).mono ?_
  rintro e w4 ⟨rfl, hb4⟩
  rw [Q1.out]
  have b4 := Lib.hid (CrdB.below_step b2.out hb4)
  have v4 := Lib.hid (v2.out.below hb4)
  clear b2 v2 hb4 f0 f1 f2 f3 f4 f5 f6
  obtain ⟨f0, f1, f2, f3, f4, f5, f6⟩ := c7_of v4.out.blk
  go_wp2_with fail
  refine (look_any (1 + modF 0 3) (modF 0 4) (1 + modF 0 6) (1 + modF 0 8) A2 B2 C2 c2 d2 _ (fixF []) (fixA (fixF []).length []) (fixS ex5) 0 0 false 105 2 0 0 _ v4.out.smb wfs ⟨by decide, by decide⟩ ⟨by decide, by decide⟩ (by omega) (by omega)).mono ?_
  rintro e w5 ⟨rfl, hb5⟩
  rw [Q2.out]
  have b5 := Lib.hid (CrdB.below_step b4.out hb5)
  have v5 := Lib.hid (v4.out.below hb5)
  clear b4 v4 hb5 f0 f1 f2 f3 f4 f5 f6
  obtain ⟨f0, f1, f2, f3, f4, f5, f6⟩ := c7_of v5.out.blk
  go_wp2_with fail
  refine (check5_any (1 + modF 0 3) (modF 0 4) (1 + modF 0 6) (1 + modF 0 8) A2 B2 C2 c2 d2 _ (fixF []) (fixA (fixF []).length []) (fixS ex5) _ v5.out.nds v5.out.ris v5.out.smb wfn (by omega) (by omega) (by omega)).mono ?_
  rintro e w6 ⟨rfl, hb6⟩
  rw [cfg_fix]
  have b6 := Lib.hid (CrdB.below_step b5.out hb6)
  have v6 := Lib.hid (v5.out.below hb6)
  clear b5 v5 hb6 f0 f1 f2 f3 f4 f5 f6
  obtain ⟨f0, f1, f2, f3, f4, f5, f6⟩ := c7_of v6.out.blk
  go_wp2_with fail
  refine (shard_any (1 + modF 0 3) (modF 0 4) (1 + modF 0 6) (1 + modF 0 8) A2 B2 C2 c2 d2 _ (fixF []) (fixA (fixF []).length []) (fixS ex5) 0 _ hsh (by omega)).mono ?_
  rintro e w7 ⟨rfl, hb7⟩
  rw [Q3.out]
  have b7 := Lib.hid (CrdB.below_step b6.out hb7)
  have v7 := Lib.hid (v6.out.below hb7)
  clear b6 v6 hb7 f0 f1 f2 f3 f4 f5 f6
  obtain ⟨f0, f1, f2, f3, f4, f5, f6⟩ := c7_of v7.out.blk
  go_wp2_with fail
  refine (shard_any (1 + modF 0 3) (modF 0 4) (1 + modF 0 6) (1 + modF 0 8) A2 B2 C2 c2 d2 _ (fixF []) (fixA (fixF []).length []) (fixS ex5) 1 _ hsh (by omega)).mono ?_
  rintro e w8 ⟨rfl, hb8⟩
  rw [Q4.out]
  have b8 := Lib.hid (CrdB.below_step b7.out hb8)
  clear b7 v7 hb8 f0 f1 f2 f3 f4 f5 f6
  go_wp2_with fail
  go_ret
  exact madeB_mk rfl b8.out
end Go.Proofs.Ytecjecgkioklaaa.Tl5
