/- Texts side by side. -/
import Derived.Laws.BitsAllLaws
import Derived.Maps.Range
import Derived.Laws.IdiomStrings
import Derived.Deep.AppendLies
import Derived.Test.YtmjkhejfhpgiiaaDoorSrqe
set_option linter.unusedVariables false
set_option linter.unusedSimpArgs false
set_option maxRecDepth 100000
set_option maxHeartbeats 16000000
namespace Go.Proofs.YtmjkhejfhpgiiaaDoor
open Go.RowKit Mem Wpl
namespace Wen
open Go.ChangeShapes Go.WideShapes Go.ChangeAt Tre Ref3 Law3 Fix3 CrdB Rr4 Wmr Wrt St7 Rul6
theorem u8_info : (Tryd.prog.info? 5).map (fun i => (i.zero, i.size, i.bytes)) = some (some (.int .u8 0), 1, 1) := by kernel_rfl
def Oth (w w' : World) : Prop := ∀ g te cs, te ≠ 5 → Blk w g te cs → Blk w' g te cs
theorem Oth.refl (w : World) : Oth w w := fun _ _ _ _ h => h
theorem Oth.trans {a b c : World} (h : Oth a b) (k : Oth b c) : Oth a c := fun g te cs hne hb => k g te cs hne (h g te cs hne hb)
theorem Oth.alloc (w : World) (o : Obj) : Oth w (w.alloc o) := fun _ _ _ _ h => h.alloc o
theorem Oth.grown {w w' : World} {base size n : Nat} {v : Value} {xs : List Value} (ho : w.ownsRow base 5 size v n xs) (hg : w.grownBy w' v.ownBlock) : Oth w w' :=
  fun g te cs hne hb => Blk_grown hb hg (Ne.symm (own_blk_ne ho hb (Ne.symm hne)))
theorem Oth.below {w w' : World} (h : Below w.heap.size w w') : Oth w w' := fun g te cs _ hb => Blk.below' hb h
end Wen
namespace Wtk
open Go.ChangeShapes Go.WideShapes Go.ChangeAt Tre Ref3 Law3 Fix3 CrdB CrdC Rr4 Wmr Wrt St7 Rul6 Wen
theorem by_drop {w : World} {B b o : Nat} {l : List UInt8} (h : By w B (some ⟨b, o, none⟩) l) (j : Nat) : By w B (some ⟨b, o + j, none⟩) (l.drop j) := by
  rcases h with h | ⟨b', o', hA, hb, hc⟩
  · left
    have : l = [] := by simpa [bts] using h
    subst this
    simp [bts]
  · injection hA with hA
    injection hA with h1 h2
    subst h1 h2
    refine .inr ⟨b, o + j, rfl, hb, fun i v hv => ?_⟩
    have e : bts (l.drop j) = (bts l).drop j := by simp [bts]
    rw [e, List.getElem?_drop] at hv
    rw [Nat.add_assoc]
    exact hc _ _ hv
end Wtk
namespace Wfi
open Go.ChangeShapes Go.WideShapes Go.ChangeAt Tre Ref3 Law3 Fix3 CrdB CrdC Rr4 Wmr Wrt St7 Rul6 Wen Wtk Wrd
def st12 (W : World) (g : Nat) (q0 q1 q2 q3 q4 q5 q6 q7 q8 q9 q10 q11 : Value) : World := ((((((((((((W.setCell ⟨g, 0, none⟩ (q0)).setCell ⟨g, 1, none⟩ (q1)).setCell ⟨g, 2, none⟩ (q2)).setCell ⟨g, 3, none⟩ (q3)).setCell ⟨g, 4, none⟩ (q4)).setCell ⟨g, 5, none⟩ (q5)).setCell ⟨g, 6, none⟩ (q6)).setCell ⟨g, 7, none⟩ (q7)).setCell ⟨g, 8, none⟩ (q8)).setCell ⟨g, 9, none⟩ (q9)).setCell ⟨g, 10, none⟩ (q10)).setCell ⟨g, 11, none⟩ (q11))
theorem st12_blk {W : World} {g : Nat} {te : TypeId} {e0 e1 e2 e3 e4 e5 e6 e7 e8 e9 e10 e11 q0 q1 q2 q3 q4 q5 q6 q7 q8 q9 q10 q11 : Value} (h : Blk W g te #[e0, e1, e2, e3, e4, e5, e6, e7, e8, e9, e10, e11]) : Blk (st12 W g q0 q1 q2 q3 q4 q5 q6 q7 q8 q9 q10 q11) g te #[q0, q1, q2, q3, q4, q5, q6, q7, q8, q9, q10, q11] := by
  have k0 : Blk (W.setCell ⟨g, 0, none⟩ (q0)) g te #[q0, e1, e2, e3, e4, e5, e6, e7, e8, e9, e10, e11] := blk_set h 0 q0
  have k1 : Blk ((W.setCell ⟨g, 0, none⟩ (q0)).setCell ⟨g, 1, none⟩ (q1)) g te #[q0, q1, e2, e3, e4, e5, e6, e7, e8, e9, e10, e11] := blk_set k0 1 q1
  have k2 : Blk (((W.setCell ⟨g, 0, none⟩ (q0)).setCell ⟨g, 1, none⟩ (q1)).setCell ⟨g, 2, none⟩ (q2)) g te #[q0, q1, q2, e3, e4, e5, e6, e7, e8, e9, e10, e11] := blk_set k1 2 q2
  have k3 : Blk ((((W.setCell ⟨g, 0, none⟩ (q0)).setCell ⟨g, 1, none⟩ (q1)).setCell ⟨g, 2, none⟩ (q2)).setCell ⟨g, 3, none⟩ (q3)) g te #[q0, q1, q2, q3, e4, e5, e6, e7, e8, e9, e10, e11] := blk_set k2 3 q3
  have k4 : Blk (((((W.setCell ⟨g, 0, none⟩ (q0)).setCell ⟨g, 1, none⟩ (q1)).setCell ⟨g, 2, none⟩ (q2)).setCell ⟨g, 3, none⟩ (q3)).setCell ⟨g, 4, none⟩ (q4)) g te #[q0, q1, q2, q3, q4, e5, e6, e7, e8, e9, e10, e11] := blk_set k3 4 q4
  have k5 : Blk ((((((W.setCell ⟨g, 0, none⟩ (q0)).setCell ⟨g, 1, none⟩ (q1)).setCell ⟨g, 2, none⟩ (q2)).setCell ⟨g, 3, none⟩ (q3)).setCell ⟨g, 4, none⟩ (q4)).setCell ⟨g, 5, none⟩ (q5)) g te #[q0, q1, q2, q3, q4, q5, e6, e7, e8, e9, e10, e11] := blk_set k4 5 q5
  have k6 : Blk (((((((W.setCell ⟨g, 0, none⟩ (q0)).setCell ⟨g, 1, none⟩ (q1)).setCell ⟨g, 2, none⟩ (q2)).setCell ⟨g, 3, none⟩ (q3)).setCell ⟨g, 4, none⟩ (q4)).setCell ⟨g, 5, none⟩ (q5)).setCell ⟨g, 6, none⟩ (q6)) g te #[q0, q1, q2, q3, q4, q5, q6, e7, e8, e9, e10, e11] := blk_set k5 6 q6
  have k7 : Blk ((((((((W.setCell ⟨g, 0, none⟩ (q0)).setCell ⟨g, 1, none⟩ (q1)).setCell ⟨g, 2, none⟩ (q2)).setCell ⟨g, 3, none⟩ (q3)).setCell ⟨g, 4, none⟩ (q4)).setCell ⟨g, 5, none⟩ (q5)).setCell ⟨g, 6, none⟩ (q6)).setCell ⟨g, 7, none⟩ (q7)) g te #[q0, q1, q2, q3, q4, q5, q6, q7, e8, e9, e10, e11] := blk_set k6 7 q7
  have k8 : Blk (((((((((W.setCell ⟨g, 0, none⟩ (q0)).setCell ⟨g, 1, none⟩ (q1)).setCell ⟨g, 2, none⟩ (q2)).setCell ⟨g, 3, none⟩ (q3)).setCell ⟨g, 4, none⟩ (q4)).setCell ⟨g, 5, none⟩ (q5)).setCell ⟨g, 6, none⟩ (q6)).setCell ⟨g, 7, none⟩ (q7)).setCell ⟨g, 8, none⟩ (q8)) g te #[q0, q1, q2, q3, q4, q5, q6, q7, q8, e9, e10, e11] := blk_set k7 8 q8
  have k9 : Blk ((((((((((W.setCell ⟨g, 0, none⟩ (q0)).setCell ⟨g, 1, none⟩ (q1)).setCell ⟨g, 2, none⟩ (q2)).setCell ⟨g, 3, none⟩ (q3)).setCell ⟨g, 4, none⟩ (q4)).setCell ⟨g, 5, none⟩ (q5)).setCell ⟨g, 6, none⟩ (q6)).setCell ⟨g, 7, none⟩ (q7)).setCell ⟨g, 8, none⟩ (q8)).setCell ⟨g, 9, none⟩ (q9)) g te #[q0, q1, q2, q3, q4, q5, q6, q7, q8, q9, e10, e11] := blk_set k8 9 q9
  have k10 : Blk (((((((((((W.setCell ⟨g, 0, none⟩ (q0)).setCell ⟨g, 1, none⟩ (q1)).setCell ⟨g, 2, none⟩ (q2)).setCell ⟨g, 3, none⟩ (q3)).setCell ⟨g, 4, none⟩ (q4)).setCell ⟨g, 5, none⟩ (q5)).setCell ⟨g, 6, none⟩ (q6)).setCell ⟨g, 7, none⟩ (q7)).setCell ⟨g, 8, none⟩ (q8)).setCell ⟨g, 9, none⟩ (q9)).setCell ⟨g, 10, none⟩ (q10)) g te #[q0, q1, q2, q3, q4, q5, q6, q7, q8, q9, q10, e11] := blk_set k9 10 q10
  have k11 : Blk ((((((((((((W.setCell ⟨g, 0, none⟩ (q0)).setCell ⟨g, 1, none⟩ (q1)).setCell ⟨g, 2, none⟩ (q2)).setCell ⟨g, 3, none⟩ (q3)).setCell ⟨g, 4, none⟩ (q4)).setCell ⟨g, 5, none⟩ (q5)).setCell ⟨g, 6, none⟩ (q6)).setCell ⟨g, 7, none⟩ (q7)).setCell ⟨g, 8, none⟩ (q8)).setCell ⟨g, 9, none⟩ (q9)).setCell ⟨g, 10, none⟩ (q10)).setCell ⟨g, 11, none⟩ (q11)) g te #[q0, q1, q2, q3, q4, q5, q6, q7, q8, q9, q10, q11] := blk_set k10 11 q11
  exact k11
theorem st12_below {B : Nat} {w0 W : World} {g : Nat} {q0 q1 q2 q3 q4 q5 q6 q7 q8 q9 q10 q11 : Value} (h : Below B w0 W) (hg : B ≤ g) : Below B w0 (st12 W g q0 q1 q2 q3 q4 q5 q6 q7 q8 q9 q10 q11) :=
  Below.setCell (Below.setCell (Below.setCell (Below.setCell (Below.setCell (Below.setCell (Below.setCell (Below.setCell (Below.setCell (Below.setCell (Below.setCell (Below.setCell (h) (p := ⟨g, 0, none⟩) hg q0) (p := ⟨g, 1, none⟩) hg q1) (p := ⟨g, 2, none⟩) hg q2) (p := ⟨g, 3, none⟩) hg q3) (p := ⟨g, 4, none⟩) hg q4) (p := ⟨g, 5, none⟩) hg q5) (p := ⟨g, 6, none⟩) hg q6) (p := ⟨g, 7, none⟩) hg q7) (p := ⟨g, 8, none⟩) hg q8) (p := ⟨g, 9, none⟩) hg q9) (p := ⟨g, 10, none⟩) hg q10) (p := ⟨g, 11, none⟩) hg q11
theorem z12_of {W : World} {g : Nat} {te : TypeId} {v0 v1 v2 v3 v4 v5 v6 v7 v8 v9 v10 v11 : Value} (h : Blk W g te #[v0, v1, v2, v3, v4, v5, v6, v7, v8, v9, v10, v11]) : W.cell? ⟨g, 0, none⟩ = some v0 ∧ W.cell? ⟨g, 1, none⟩ = some v1 ∧ W.cell? ⟨g, 2, none⟩ = some v2 ∧ W.cell? ⟨g, 3, none⟩ = some v3 ∧ W.cell? ⟨g, 4, none⟩ = some v4 ∧ W.cell? ⟨g, 5, none⟩ = some v5 ∧ W.cell? ⟨g, 6, none⟩ = some v6 ∧ W.cell? ⟨g, 7, none⟩ = some v7 ∧ W.cell? ⟨g, 8, none⟩ = some v8 ∧ W.cell? ⟨g, 9, none⟩ = some v9 ∧ W.cell? ⟨g, 10, none⟩ = some v10 ∧ W.cell? ⟨g, 11, none⟩ = some v11 ∧ W.frozen? ⟨g, 0, none⟩ = false ∧ W.frozen? ⟨g, 1, none⟩ = false ∧ W.frozen? ⟨g, 2, none⟩ = false ∧ W.frozen? ⟨g, 3, none⟩ = false ∧ W.frozen? ⟨g, 4, none⟩ = false ∧ W.frozen? ⟨g, 5, none⟩ = false ∧ W.frozen? ⟨g, 6, none⟩ = false ∧ W.frozen? ⟨g, 7, none⟩ = false ∧ W.frozen? ⟨g, 8, none⟩ = false ∧ W.frozen? ⟨g, 9, none⟩ = false ∧ W.frozen? ⟨g, 10, none⟩ = false ∧ W.frozen? ⟨g, 11, none⟩ = false :=
  ⟨h.cell 0, h.cell 1, h.cell 2, h.cell 3, h.cell 4, h.cell 5, h.cell 6, h.cell 7, h.cell 8, h.cell 9, h.cell 10, h.cell 11, h.thaw 0, h.thaw 1, h.thaw 2, h.thaw 3, h.thaw 4, h.thaw 5, h.thaw 6, h.thaw 7, h.thaw 8, h.thaw 9, h.thaw 10, h.thaw 11⟩
end Wfi
namespace Wto
open Go.ChangeShapes Go.WideShapes Go.ChangeAt Tre Ref3 Law3 Fix3 CrdB CrdC Rr4 Rul3 Wmr Wrt St7 Rul6 Wfi
theorem from_any (m : M) (w : World) : Calls Tryd.prog 10 #[mvl m] w (MadeM m w) := by
  obtain ⟨k, a, s, x, p, q, n, t, i, y, z, v⟩ := m
  show Calls Tryd.prog 10 #[.agg #[.int .i64 k, .int .i64 a, .int .i64 s, .bool x, .int .i64 p, .int .i64 q, .int .i64 n, .int .i64 t, .int .i64 i, .int .i64 y, .int .i64 z, .int .i64 v]] w (MadeM ⟨k, a, s, x, p, q, n, t, i, y, z, v⟩ w)
  go_enter Tryd.func10, Tryd.ntmps10
  go_wp2_with fail
  exact bodyPost_ret (v := .agg #[.int .i64 k, .int .i64 a, .int .i64 s, .bool x, .int .i64 p, .int .i64 q, .int .i64 n, .int .i64 t, .int .i64 i, .int .i64 y, .int .i64 z, .int .i64 v]) (by simp [results, Tryd.results10, go_sem]) rfl ⟨rfl, (((Below.refl _ _).alloc (Nat.le_refl _) _).alloc (by simp) _).alloc (by simp <;> omega) _⟩
end Wto
namespace Wal
open Go.ChangeShapes Go.WideShapes Go.ChangeAt Tre Ref3 Law3 Fix3 CrdB CrdC Rr4 Wmr Wrt St7 Rul6 Wen Wtk Wrd Wfi Wdp Wde
def mrow (l : List M) : List Value := l.flatMap mvs
theorem mrow_len (l : List M) : (mrow l).length = l.length * 12 := by
  induction l with
  | nil => rfl
  | cons m l ih => simp [mrow, mvs] at ih ⊢; omega
theorem mrow_snoc (l : List M) (m : M) : mrow (l ++ [m]) = mrow l ++ mvs m := by simp [mrow]
theorem msg_info : (Tryd.prog.info? 54).map (fun i => (i.zero, i.size, i.bytes)) = some (some (.agg #[.int .i64 0, .int .i64 0, .int .i64 0, .bool false, .int .i64 0, .int .i64 0, .int .i64 0, .int .i64 0, .int .i64 0, .int .i64 0, .int .i64 0, .int .i64 0]), 12, 96) := by kernel_rfl
end Wal
namespace Wpo
open Go.ChangeShapes Go.WideShapes Go.ChangeAt Tre Ref3 Law3 Fix3 CrdB CrdC Rr4 Wmr Wrt St7 Rul6 Wen Tl5
def pk (p q n t : Nat) : Nat → List UInt8
  | 0 => []
  | 1 => putB p 8
  | 2 => putB p 8 ++ putB q 8
  | 3 => putB p 8 ++ (putB q 8 ++ putB n 8)
  | _ => putB p 8 ++ (putB q 8 ++ (putB n 8 ++ putB t 8))
end Wpo
namespace Wt6
open Go.ChangeShapes Go.WideShapes Go.ChangeAt Tre Ref3 Law3 Fix3 CrdB CrdC Rr4 Wmr Wrt St7 Rul6 Wen Wpo Wec Wtk Wrd Wfi Wdp Wde Wal Wkp
theorem own_caps {w : World} {base : Nat} {e : TypeId} {size n c : Nat} {A : Option Addr} {xs : List Value} (h : w.ownsRow base e size (.slice A n c) n xs) : n ≤ c ∧ (c : Int) ≤ 9223372036854775807 := by
  rcases h.2 with ⟨h1, h2⟩ | ⟨g, cap, cur, hv, _, _, h3, h4, _⟩
  · injection h1 with e1 e2 e3; subst e3; omega
  · injection hv with e1 e2 e3; subst e3; unfold maxLen at h4; omega
def m15 : M := ⟨1, 0, 0, false, 0, 0, 0, 0, 5, 0, 0, 0⟩
theorem text_of {w : World} {B c : Nat} {A : Option Addr} {l : List UInt8} (h : By w B A l) (hl : 0 < l.length) : (convert 22 9 (.slice A l.length c)).run Tryd.prog w = .ok (.string ⟨l.toArray⟩) w := by
  obtain ⟨b, o, rfl, _, hcc⟩ := By.at (i := 0) h hl
  refine run_convert_bytes_back w _ _ 5 ⟨b, o, none⟩ c l Tryd.underlying22 Tryd.underlying5 Tryd.underlying9 (fun j hj => ?_)
  have e : ((⟨b, o, none⟩ : Addr).add j) = ⟨b, o + j, none⟩ := by cases j <;> simp [Addr.add]
  rw [e]
  exact hcc j hj
end Wt6
namespace Wtx
open Wt6
theorem text_any {w : World} {B c : Nat} {A : Option Addr} {l : List UInt8} (h : By w B A l) : (convert 22 9 (.slice A l.length c)).run Tryd.prog w = .ok (.string ⟨l.toArray⟩) w := by
  by_cases h0 : 0 < l.length
  · exact text_of h h0
  · have hl : l = [] := List.eq_nil_of_length_eq_zero (by omega)
    subst hl
    cases A with
    | some a => exact run_convert_bytes_back w _ _ 5 a c [] Tryd.underlying22 Tryd.underlying5 Tryd.underlying9 (fun j hj => by simp at hj)
    | none =>
      show (convert 22 9 (.slice none 0 c)).run Tryd.prog w = _
      rw [run_convert_bytes_string w _ _ 5 none 0 c Tryd.underlying22 Tryd.underlying5 Tryd.underlying9]
      first | rfl | simp [Conv.bytesToString, Sem.run_pure]
end Wtx
namespace Wbo
open Go.ChangeShapes Go.WideShapes Opn Wal Few5
theorem u8_of {x : Int} (h : (Lit.int .u8 x).wf = true) : ((UInt8.ofNat x.toNat).toNat : Int) = x := by
  simp [Lit.wf] at h
  have e : IntKind.u8.max = 255 := rfl
  have e0 : IntKind.u8.min = 0 := rfl
  have h2 : x ≤ IntKind.u8.max := by first | exact h.2 | exact h
  have h1 : IntKind.u8.min ≤ x := by first | exact h.1 | exact h
  rw [UInt8.toNat_ofNat']
  omega
section
variable {H : Type} {enc : TypeId × Value → H} {P : Program} {w : World}
theorem open_bytes {t e : TypeId} {v : Value} {fuel : Nat} {x : DataW H × List MemPlace} {base : Nat} {held : Bool} (ht : P.underlying t = some (.slice e)) (he : P.underlying e = some (.int .u8)) (hc : P.cellsOf e = 1)
    (h : DataW.trod enc P w base (fun _ => true) held fuel t [v] = some x) : ∃ A c l, v = .slice A l.length c ∧ l.length ≤ c ∧ c ≤ maxLen ∧ By w w.heap.size A l := by
  rcases open_ints ht he hc h with ⟨h1, _⟩ | ⟨a, len, cap, zs, h1, _, hl, hm, hz, _, hcell, hwf⟩
  · injection h1 with h1
    exact ⟨none, 0, [], h1, by simp, by unfold maxLen; omega, .inl rfl⟩
  · injection h1 with h1
    simp only [if_true] at hz
    have hlen : ((zs.take len).map fun n => UInt8.ofNat n.toNat).length = len := by rw [List.length_map, List.length_take]; omega
    refine ⟨some a, cap, (zs.take len).map fun n => UInt8.ofNat n.toNat, by rw [hlen]; exact h1, by rw [hlen]; exact hl, hm, ?_⟩
    by_cases h0 : len = 0
    · subst h0; exact .inl (by simp [bts])
    · obtain ⟨ab, ao, asp⟩ := a
      have h00 := hcell 0 (by omega)
      have hs := spot_none h00
      subst hs
      refine .inr ⟨ab, ao, rfl, ?_, ?_⟩
      · have := blk_lt h00
        simpa [Addr.add] using this
      · intro i v hv
        have hil : i < len := by
          have := (List.getElem?_eq_some_iff.1 hv).1
          rwa [bts_len, hlen] at this
        have hci := hcell i (by omega)
        rw [add_lit'] at hci
        rw [hci]
        have hz' : i < zs.length := by omega
        have hw := hwf zs[i] (List.getElem_mem hz')
        have : (bts ((zs.take len).map fun n => UInt8.ofNat n.toNat))[i]? = some (.int .u8 (zs.getD i 0)) := by
          have e8 := u8_of hw
          simp [bts, hil, hz'] at e8 ⊢
          exact e8
        rw [this] at hv
        exact hv
theorem by_cut {B : Nat} {A : Option Addr} {l : List UInt8} (h : By w B A l) (m : Nat) : By w B A (l.take m) := by
  have e : bts l = bts (l.take m) ++ bts (l.drop m) := by rw [← bts_app, List.take_append_drop]
  unfold By at h ⊢
  rw [e] at h
  exact front h
end
def gM (ms : List M) (i : Nat) : M := ms.getD i m0
theorem mrow_get (ms : List M) (i j : Nat) (hi : i < ms.length) (hj : j < 12) : (mrow ms)[i * 12 + j]? = (mvs (gM ms i))[j]? := by
  induction ms generalizing i with
  | nil => simp at hi
  | cons m ms ih =>
    cases i with
    | zero =>
      show (mvs m ++ mrow ms)[0 * 12 + j]? = (mvs m)[j]?
      rw [List.getElem?_append_left (by simp [mvs]; omega)]
      simp
    | succ i =>
      have h := ih i (by simpa using hi)
      show (mvs m ++ mrow ms)[(i + 1) * 12 + j]? = (mvs (gM ms i))[j]?
      rw [List.getElem?_append_right (by simp [mvs]; omega), ← h]
      congr 1
      simp [mvs]
      omega
theorem Ms.at {w : World} {B : Nat} {A : Option Addr} {ms : List M} (h : Rd w B A (mrow ms)) {i : Nat} (hi : i < ms.length) :
    ∃ b o, A = some ⟨b, o, none⟩ ∧ b < B ∧ ∀ j, j < ms.length → w.cell? ⟨b, o + j * 12 + 0, none⟩ = some (.int .i64 (gM ms j).k) ∧ w.cell? ⟨b, o + j * 12 + 1, none⟩ = some (.int .i64 (gM ms j).a) ∧ w.cell? ⟨b, o + j * 12 + 2, none⟩ = some (.int .i64 (gM ms j).s) ∧ w.cell? ⟨b, o + j * 12 + 3, none⟩ = some (.bool (gM ms j).x) ∧ w.cell? ⟨b, o + j * 12 + 4, none⟩ = some (.int .i64 (gM ms j).p) ∧ w.cell? ⟨b, o + j * 12 + 5, none⟩ = some (.int .i64 (gM ms j).q) ∧ w.cell? ⟨b, o + j * 12 + 6, none⟩ = some (.int .i64 (gM ms j).n) ∧ w.cell? ⟨b, o + j * 12 + 7, none⟩ = some (.int .i64 (gM ms j).t) ∧ w.cell? ⟨b, o + j * 12 + 8, none⟩ = some (.int .i64 (gM ms j).i) ∧ w.cell? ⟨b, o + j * 12 + 9, none⟩ = some (.int .i64 (gM ms j).y) ∧ w.cell? ⟨b, o + j * 12 + 10, none⟩ = some (.int .i64 (gM ms j).z) ∧ w.cell? ⟨b, o + j * 12 + 11, none⟩ = some (.int .i64 (gM ms j).v) := by
  obtain ⟨b, o, hA, hb, hc⟩ := Rd.at h (by intro e; have := mrow_len ms; rw [e] at this; simp at this; omega)
  refine ⟨b, o, hA, hb, fun j hj => ?_⟩
  have g : ∀ k, k < 12 → ∀ v, (mvs (gM ms j))[k]? = some v → w.cell? ⟨b, o + j * 12 + k, none⟩ = some v := by
    intro k hk v hv
    rw [Nat.add_assoc]
    exact hc _ _ ((mrow_get ms j k hj hk).trans hv)
  exact ⟨g 0 (by decide) _ rfl, g 1 (by decide) _ rfl, g 2 (by decide) _ rfl, g 3 (by decide) _ rfl, g 4 (by decide) _ rfl, g 5 (by decide) _ rfl, g 6 (by decide) _ rfl, g 7 (by decide) _ rfl, g 8 (by decide) _ rfl, g 9 (by decide) _ rfl, g 10 (by decide) _ rfl, g 11 (by decide) _ rfl⟩
end Wbo
end Go.Proofs.YtmjkhejfhpgiiaaDoor
