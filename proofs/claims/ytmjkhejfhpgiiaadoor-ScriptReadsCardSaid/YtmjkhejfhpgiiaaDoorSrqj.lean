/- Texts side by side. -/
import Derived.Laws.CopyOwn
import Derived.Deep.CutBlock
import Derived.Test.YtmjkhejfhpgiiaaDoorSrqb
import Derived.Test.YtmjkhejfhpgiiaaDoorSrqc
set_option linter.unusedVariables false
set_option linter.unusedSimpArgs false
set_option maxRecDepth 100000
set_option maxHeartbeats 16000000
namespace Go.Proofs.YtmjkhejfhpgiiaaDoor
open Kap Go.ChangeShapes Go.WideShapes Go.ChangeAt Go.RowKit Go.Lib Mem Tre Fix3 Cfg Stk Lat Lap Rul1 Wpl Spa Spm Shw
namespace Scf
def bt (l : List UInt8) (k : Nat) : Int := ((l.getD k 0).toNat : Int)
theorem bt_in (l : List UInt8) (k : Nat) : 0 ≤ bt l k ∧ bt l k ≤ 255 := by
  have := (l.getD k 0).toNat_lt
  unfold bt
  omega
theorem most_any (u b : Int) (hu : 0 ≤ u) (hu1 : u ≤ 100) (hb : 0 ≤ b) (hb1 : b ≤ 255) (w : World) : Calls Tryd.prog 21 #[.int .i64 u, .int .u8 b] w (fun e w' => e = .returned (.int .i64 (u * (1 + b))) ∧ w = w') := by
  have hm0 : 0 ≤ u * (1 + b) := Int.mul_nonneg hu (by omega)
  have hm1 : u * (1 + b) ≤ 25600 := Int.le_trans (Int.mul_le_mul_of_nonneg_right hu1 (by omega)) (by omega)
  go_enter Tryd.func21, Tryd.ntmps21
  go_wp2_with fail
  go_ret
  exact ⟨rfl, rfl⟩
theorem u8_size : (Tryd.prog.info? 5).map (·.size) = some 1 := by kernel_rfl
theorem cut12 (l : List UInt8) : splice [.int .u8 0, .int .u8 0, .int .u8 0, .int .u8 0, .int .u8 0, .int .u8 0, .int .u8 0, .int .u8 0, .int .u8 0, .int .u8 0, .int .u8 0, .int .u8 0] 0 (bts (l.take 12)) = (List.range 12).map fun k => Value.int .u8 (bt l k) := by
  apply List.ext_getElem?
  intro k
  unfold splice
  rw [List.take_zero, List.nil_append, Nat.zero_add, bts_len, List.length_take]
  rw [List.getElem?_map]
  by_cases hk : k < 12
  · rw [List.getElem?_range hk]
    show _ = some (Value.int .u8 (bt l k))
    by_cases hl : k < l.length
    · rw [List.getElem?_append_left (by rw [bts_len, List.length_take]; omega)]
      unfold bts bt
      rw [List.getElem?_map, List.getElem?_take, if_pos hk, List.getElem?_eq_getElem hl, List.getD_eq_getElem?_getD, List.getElem?_eq_getElem hl]
      rfl
    · rw [List.getElem?_append_right (by rw [bts_len, List.length_take]; omega), bts_len, List.length_take, List.getElem?_drop]
      unfold bt
      have e0 : l[k]? = none := List.getElem?_eq_none (by omega)
      have e : min 12 l.length + (k - min 12 l.length) = k := by omega
      rw [List.getD_eq_getElem?_getD, e0, e]
      match k, hk with
      | 0, _ => rfl
      | 1, _ => rfl
      | 2, _ => rfl
      | 3, _ => rfl
      | 4, _ => rfl
      | 5, _ => rfl
      | 6, _ => rfl
      | 7, _ => rfl
      | 8, _ => rfl
      | 9, _ => rfl
      | 10, _ => rfl
      | 11, _ => rfl
  · rw [List.getElem?_eq_none (by simp only [List.length_append, bts_len, List.length_take, List.length_drop, List.length_cons, List.length_nil]; omega), List.getElem?_eq_none (by simp only [List.length_range]; omega)]
    rfl
def SrcOk (W : World) (g : Nat) (A : Option Addr) (cs : List Value) : Prop := 0 < cs.length → some (⟨g, 0, none⟩ : Addr) = some ⟨g, 0, none⟩ ∧ ∃ ad, A = some ad ∧ ∀ j v, cs[j]? = some v → W.cell? (ad.add j) = some v
theorem srcOk {W : World} {g : Nat} {A : Option Addr} {cs : List Value} (h : Hid (SrcOk W g A cs)) : 0 < cs.length → some (⟨g, 0, none⟩ : Addr) = some ⟨g, 0, none⟩ ∧ ∃ ad, A = some ad ∧ ∀ j v, cs[j]? = some v → W.cell? (ad.add j) = some v := h.out
def cfN (l : List UInt8) : List (Int × Int) := [(-1, 100 * (1 + bt l 4)), (0, 100 * (1 + bt l 5)), (1, 50 * (1 + bt l 6)), (1, 50 * (1 + bt l 7))]
def cfA : List Int := [2, 3, 2]
def cfS : List (Int × Int × Int × Nat) := [(100, 50, 3000, 4591870180066957722), (10, 1000, 10000, 4602678819172646912)]
structure Cn (l : List UInt8) (w w' : World) (gA gB gC : Nat) : Prop where
  a : Blk w' gA 73 (nds (cfN l)).toArray
  b : Blk w' gB 3 (ints cfA).toArray
  c : Blk w' gC 74 (smbs cfS).toArray
  la : w.heap.size ≤ gA
  lb : w.heap.size ≤ gB
  lc : w.heap.size ≤ gC
def cnV (l : List UInt8) (gA gB gC : Nat) : Value := .agg #[.int .i64 (1 + bt l 0 % 3), .int .i64 (bt l 1 % 4), .int .i64 (1 + bt l 2 % 6), .int .i64 (1 + bt l 3 % 6), .slice (some ⟨gA, 0, none⟩) 4 4, .slice (some ⟨gB, 0, none⟩) 3 3, .slice (some ⟨gC, 0, none⟩) 2 2]
def MadeCn (l : List UInt8) (w : World) (e : Ending) (w' : World) : Prop := ∃ gA gB gC, e = .returned (cnV l gA gB gC) ∧ Cn l w w' gA gB gC ∧ Below w.heap.size w w'
theorem st7_far {W : World} {g g' : Nat} {te : TypeId} {cs : Array Value} {a b c d e f h : Value} (k : Blk W g te cs) (hne : g ≠ g') : Blk (st7 W g' a b c d e f h) g te cs := far_st (far_st (far_st (far_st (far_st (far_st (far_st k hne a) hne b) hne c) hne d) hne e) hne f) hne h
theorem i64_in {x : Int} (h : -9223372036854775808 ≤ x ∧ x ≤ 9223372036854775807) : IntKind.i64.wrap x = x := by
  rw [IntKind.wrap_i64]
  omega
theorem t8_alloc {w : World} {g3 : Nat} {c0 c1 c2 c3 c4 c5 c6 c7 : Int} (o : Obj) (h : Hid (w.cell? ⟨g3, 0, none⟩ = some (.int .u8 c0) ∧ w.cell? ⟨g3, 1, none⟩ = some (.int .u8 c1) ∧ w.cell? ⟨g3, 2, none⟩ = some (.int .u8 c2) ∧ w.cell? ⟨g3, 3, none⟩ = some (.int .u8 c3) ∧ w.cell? ⟨g3, 4, none⟩ = some (.int .u8 c4) ∧ w.cell? ⟨g3, 5, none⟩ = some (.int .u8 c5) ∧ w.cell? ⟨g3, 6, none⟩ = some (.int .u8 c6) ∧ w.cell? ⟨g3, 7, none⟩ = some (.int .u8 c7))) (hl : Hid (g3 < w.heap.size)) : Hid ((w.alloc o).cell? ⟨g3, 0, none⟩ = some (.int .u8 c0) ∧ (w.alloc o).cell? ⟨g3, 1, none⟩ = some (.int .u8 c1) ∧ (w.alloc o).cell? ⟨g3, 2, none⟩ = some (.int .u8 c2) ∧ (w.alloc o).cell? ⟨g3, 3, none⟩ = some (.int .u8 c3) ∧ (w.alloc o).cell? ⟨g3, 4, none⟩ = some (.int .u8 c4) ∧ (w.alloc o).cell? ⟨g3, 5, none⟩ = some (.int .u8 c5) ∧ (w.alloc o).cell? ⟨g3, 6, none⟩ = some (.int .u8 c6) ∧ (w.alloc o).cell? ⟨g3, 7, none⟩ = some (.int .u8 c7)) := by
  have e : ∀ j, (w.alloc o).cell? ⟨g3, j, none⟩ = w.cell? ⟨g3, j, none⟩ := fun j => World.cell?_alloc_old _ _ _ (Nat.ne_of_lt hl.out)
  refine κ ?_
  simp only [e]
  exact h.out
theorem cn_fin {l : List UInt8} {w W : World} {gR gA gB gC : Nat} {a b c d e f h : Value} (hA : Hid (Blk W gA 73 (nds (cfN l)).toArray)) (hB : Hid (Blk W gB 3 (ints cfA).toArray)) (hC : Hid (Blk W gC 74 (smbs cfS).toArray)) (la : Hid (w.heap.size ≤ gA)) (lb : Hid (w.heap.size ≤ gB)) (lc : Hid (w.heap.size ≤ gC)) (na : Hid (gA ≠ gR)) (nb : Hid (gB ≠ gR)) (nc : Hid (gC ≠ gR)) (hb : Hid (Below w.heap.size w W)) (hg : Hid (w.heap.size ≤ gR)) :
    Cn l w (st7 W gR a b c d e f h) gA gB gC ∧ Below w.heap.size w (st7 W gR a b c d e f h) :=
  ⟨⟨st7_far hA.out na.out, st7_far hB.out nb.out, st7_far hC.out nc.out, la.out, lb.out, lc.out⟩, st7_below hb.out hg.out⟩
theorem sconfig_any (l : List UInt8) (A : Option Addr) (c : Nat) (w : World) (hl : Hid (By w w.heap.size A l)) (hn : (l.length : Int) ≤ 100000) : Calls Tryd.prog 11 #[.slice A l.length c] w (MadeCn l w) := by
  have b0 := κ (β w (.cells #[.int .i64 0, .int .i64 0, .int .i64 0, .int .i64 0, .slice none 0 0, .slice none 0 0, .slice none 0 0] 27))
  have z0 := κ (δ w 27 #[.int .i64 0, .int .i64 0, .int .i64 0, .int .i64 0, .slice none 0 0, .slice none 0 0, .slice none 0 0] w.heap.size rfl)
  have hb1 : Hid (Below (w.heap.size + 1) (w.alloc (.cells #[.int .i64 0, .int .i64 0, .int .i64 0, .int .i64 0, .slice none 0 0, .slice none 0 0, .slice none 0 0] 27)) ((w.alloc (.cells #[.int .i64 0, .int .i64 0, .int .i64 0, .int .i64 0, .slice none 0 0, .slice none 0 0, .slice none 0 0] 27)).alloc (.cells #[.int .u8 0, .int .u8 0, .int .u8 0, .int .u8 0, .int .u8 0, .int .u8 0, .int .u8 0, .int .u8 0, .int .u8 0, .int .u8 0, .int .u8 0, .int .u8 0] 76))) := κ ((Below.refl _ _).alloc (by simp) _)
  have k1 := κ (δ (w.alloc (.cells #[.int .i64 0, .int .i64 0, .int .i64 0, .int .i64 0, .slice none 0 0, .slice none 0 0, .slice none 0 0] 27)) 76 #[.int .u8 0, .int .u8 0, .int .u8 0, .int .u8 0, .int .u8 0, .int .u8 0, .int .u8 0, .int .u8 0, .int .u8 0, .int .u8 0, .int .u8 0, .int .u8 0] (w.heap.size + 1))
  have hC : Hid ((bts (l.take 12)).length = Nat.min l.length 12) := κ (by rw [bts_len, List.length_take]; exact Nat.min_comm _ _)
  have hP : Hid (SrcOk ((w.alloc (.cells #[.int .i64 0, .int .i64 0, .int .i64 0, .int .i64 0, .slice none 0 0, .slice none 0 0, .slice none 0 0] 27)).alloc (.cells #[.int .u8 0, .int .u8 0, .int .u8 0, .int .u8 0, .int .u8 0, .int .u8 0, .int .u8 0, .int .u8 0, .int .u8 0, .int .u8 0, .int .u8 0, .int .u8 0] 76)) (w.heap.size + 1) A (bts (l.take 12))) := κ (by
    intro h
    rw [bts_len, List.length_take] at h
    obtain ⟨b, o, rfl, hb, hc⟩ := By.at hl.out (i := 0) (by omega)
    refine ⟨rfl, ⟨b, o, none⟩, rfl, fun j v hv => ?_⟩
    have hj : j < l.length ∧ j < 12 := by
      have := (List.getElem?_eq_some_iff.1 hv).1
      rw [bts_len, List.length_take] at this
      omega
    unfold bts at hv
    rw [List.getElem?_map, List.getElem?_take, if_pos hj.2, List.getElem?_eq_getElem hj.1] at hv
    injection hv with hv
    rw [← hv, add_lit', ← hc j hj.1]
    exact ((Below.refl _ _).alloc (Nat.le_refl _) _ |>.alloc (by simp) _ : Below w.heap.size w _).cell hb)
  have hF : Hid (0 + (bts (l.take 12)).length ≤ 12) := κ (by rw [bts_len, List.length_take]; omega)
  have hX := κ (cut12 l)
  obtain ⟨cs, hcs⟩ : ∃ cs, cs = bts (l.take 12) := ⟨_, rfl⟩
  have h1 : Hid (∀ v ∈ cs, v.oneCell' = true) := κ (by rw [hcs]; exact bts_one _)
  rw [← hcs] at hC hP hF hX
  clear hcs
  go_enter Tryd.func11, Tryd.ntmps11
  go_wp2_with (refine wpList_copy_splice rfl (.tmp 5) (.tmp 6) 22 22 rfl 5 Tryd.underlying22 u8_size (some ⟨w.heap.size + 1, 0, none⟩) A 12 12 l.length c rfl rfl (w.heap.size + 1) 0 [.int .u8 0, .int .u8 0, .int .u8 0, .int .u8 0, .int .u8 0, .int .u8 0, .int .u8 0, .int .u8 0, .int .u8 0, .int .u8 0, .int .u8 0, .int .u8 0] 76 k1.out cs hC.out (srcOk hP) hF.out h1.out (w.heap.size + 1) (w.alloc (.cells #[.int .i64 0, .int .i64 0, .int .i64 0, .int .i64 0, .slice none 0 0, .slice none 0 0, .slice none 0 0] 27)) hb1.out (Nat.le_refl _) ?_; intro wB hkB hbB)
  have zB : Hid (Blk wB w.heap.size 27 #[.int .i64 0, .int .i64 0, .int .i64 0, .int .i64 0, .slice none 0 0, .slice none 0 0, .slice none 0 0]) := κ (Blk.below z0.out hbB (by omega))
  have kB : Hid (Blk wB (w.heap.size + 1) 76 #[.int .u8 (bt l 0), .int .u8 (bt l 1), .int .u8 (bt l 2), .int .u8 (bt l 3), .int .u8 (bt l 4), .int .u8 (bt l 5), .int .u8 (bt l 6), .int .u8 (bt l 7), .int .u8 (bt l 8), .int .u8 (bt l 9), .int .u8 (bt l 10), .int .u8 (bt l 11)]) := κ (by have h := hkB.out; rw [hX.out] at h; exact h)
  have bB : Hid (Below w.heap.size w wB) := κ (b0.out.trans (hbB.mono (by omega)))
  clear hkB hbB z0 b0 hb1 k1 hC hP hF hX h1 hl
  generalize w.heap.size + 1 = g3 at kB ⊢
  generalize hgR : w.heap.size = gR at zB ⊢
  have hg : Hid (w.heap.size ≤ gR) := κ (by omega)
  clear hgR
  have hq : Hid ((nds (cfN l)).toArray = #[.int .i64 (-1), .int .i64 (100 * (1 + bt l 4)), .int .i64 0, .int .i64 (100 * (1 + bt l 5)), .int .i64 1, .int .i64 (50 * (1 + bt l 6)), .int .i64 1, .int .i64 (50 * (1 + bt l 7))]) := κ rfl
  have hv : Hid (∀ gA gB gC, cnV l gA gB gC = .agg #[.int .i64 (1 + bt l 0 % 3), .int .i64 (bt l 1 % 4), .int .i64 (1 + bt l 2 % 6), .int .i64 (1 + bt l 3 % 6), .slice (some ⟨gA, 0, none⟩) 4 4, .slice (some ⟨gB, 0, none⟩) 3 3, .slice (some ⟨gC, 0, none⟩) 2 2]) := κ (fun _ _ _ => rfl)
  have p0 := bt_in l 0; have p1 := bt_in l 1; have p2 := bt_in l 2; have p3 := bt_in l 3; have p4 := bt_in l 4; have p5 := bt_in l 5; have p6 := bt_in l 6; have p7 := bt_in l 7
  generalize bt l 0 = c0 at *; generalize bt l 1 = c1 at *; generalize bt l 2 = c2 at *; generalize bt l 3 = c3 at *; generalize bt l 4 = c4 at *; generalize bt l 5 = c5 at *; generalize bt l 6 = c6 at *; generalize bt l 7 = c7 at *; generalize bt l 8 = c8 at *; generalize bt l 9 = c9 at *; generalize bt l 10 = c10 at *; generalize bt l 11 = c11 at *
  go_upto_region 4 with fail
  have HT : Hid (wB.drew.cell? ⟨g3, 0, none⟩ = some (.int .u8 c0) ∧ wB.drew.cell? ⟨g3, 1, none⟩ = some (.int .u8 c1) ∧ wB.drew.cell? ⟨g3, 2, none⟩ = some (.int .u8 c2) ∧ wB.drew.cell? ⟨g3, 3, none⟩ = some (.int .u8 c3) ∧ wB.drew.cell? ⟨g3, 4, none⟩ = some (.int .u8 c4) ∧ wB.drew.cell? ⟨g3, 5, none⟩ = some (.int .u8 c5) ∧ wB.drew.cell? ⟨g3, 6, none⟩ = some (.int .u8 c6) ∧ wB.drew.cell? ⟨g3, 7, none⟩ = some (.int .u8 c7)) := κ ⟨kB.out.cell 0, kB.out.cell 1, kB.out.cell 2, kB.out.cell 3, kB.out.cell 4, kB.out.cell 5, kB.out.cell 6, kB.out.cell 7⟩
  have zD : Hid (Blk wB.drew gR 27 #[.int .i64 0, .int .i64 0, .int .i64 0, .int .i64 0, .slice none 0 0, .slice none 0 0, .slice none 0 0]) := zB.out
  have bD := κ bB.out.drew
  have lt3 : Hid (g3 < wB.drew.heap.size) := κ (Blk.lt kB.out)
  have ltR : Hid (gR < wB.drew.heap.size) := κ (Blk.lt zB.out)
  clear zB bB kB
  have e0 : c0.tmod 3 = c0 % 3 := Int.tmod_eq_emod_of_nonneg p0.1
  have f0 : IntKind.i64.wrap (c0 % 3) = c0 % 3 := i64_in (by omega)
  have h0 : IntKind.i64.wrap (1 + c0 % 3) = 1 + c0 % 3 := i64_in (by omega)
  have e1 : c1.tmod 4 = c1 % 4 := Int.tmod_eq_emod_of_nonneg p1.1
  have f1 : IntKind.i64.wrap (c1 % 4) = c1 % 4 := i64_in (by omega)
  have e2 : c2.tmod 6 = c2 % 6 := Int.tmod_eq_emod_of_nonneg p2.1
  have f2 : IntKind.i64.wrap (c2 % 6) = c2 % 6 := i64_in (by omega)
  have h2 : IntKind.i64.wrap (1 + c2 % 6) = 1 + c2 % 6 := i64_in (by omega)
  have e3 : c3.tmod 6 = c3 % 6 := Int.tmod_eq_emod_of_nonneg p3.1
  have f3 : IntKind.i64.wrap (c3 % 6) = c3 % 6 := i64_in (by omega)
  have h3 : IntKind.i64.wrap (1 + c3 % 6) = 1 + c3 % 6 := i64_in (by omega)
  refine wp_region_noPanic ?_
  refine wp_region_L (T := (fun w' => w'.cell? ⟨g3, 0, none⟩ = some (.int .u8 c0) ∧ w'.cell? ⟨g3, 1, none⟩ = some (.int .u8 c1) ∧ w'.cell? ⟨g3, 2, none⟩ = some (.int .u8 c2) ∧ w'.cell? ⟨g3, 3, none⟩ = some (.int .u8 c3) ∧ w'.cell? ⟨g3, 4, none⟩ = some (.int .u8 c4) ∧ w'.cell? ⟨g3, 5, none⟩ = some (.int .u8 c5) ∧ w'.cell? ⟨g3, 6, none⟩ = some (.int .u8 c6) ∧ w'.cell? ⟨g3, 7, none⟩ = some (.int .u8 c7))) (st := [45]) (by kernel_rfl) ?_
  generalize wB.drew = wD at HT zD bD lt3 ltR ⊢
  refine wpL_word (i := 0) (v := ?_) rfl (by kernel_rfl) (fun _ _ _ h => h) (by kernel_rfl) _ _ _ _ (by kernel_rfl) (by kernel_rfl) (Or.inl ⟨by rfl, ?_⟩) (fun _ => HT.out) ?_
  rotate_left
  · intro w' _
    go_simp
    try with_reducible rfl
  (try simp only [Act.put, List.getElem_toArray, List.getElem_cons_succ, List.getElem_cons_zero, List.setIfInBounds_toArray, List.set_cons_zero, List.set_cons_succ])
  refine wpL_load (i := 1) (v := ?_) rfl (by kernel_rfl) (fun _ _ _ h => h) (by kernel_rfl) (by kernel_rfl) _ _ _ _ (by kernel_rfl) (by kernel_rfl) (Or.inl ⟨by rfl, ?_⟩) (by kernel_rfl) HT.out ?_
  rotate_left
  · intro w' hS
    (try dsimp only at hS)
    obtain ⟨x0, x1, x2, x3, x4, x5, x6, x7⟩ := hS
    go_simp
    try with_reducible rfl
  (try simp only [Act.put, List.getElem_toArray, List.getElem_cons_succ, List.getElem_cons_zero, List.setIfInBounds_toArray, List.set_cons_zero, List.set_cons_succ])
  refine wpL_word (i := 2) (v := ?_) rfl (by kernel_rfl) (fun _ _ _ h => h) (by kernel_rfl) _ _ _ _ (by kernel_rfl) (by kernel_rfl) (Or.inl ⟨by rfl, ?_⟩) (fun _ => HT.out) ?_
  rotate_left
  · intro w' _
    go_simp
    try with_reducible rfl
  (try simp only [Act.put, List.getElem_toArray, List.getElem_cons_succ, List.getElem_cons_zero, List.setIfInBounds_toArray, List.set_cons_zero, List.set_cons_succ])
  refine wpL_word (i := 3) (v := ?_) rfl (by kernel_rfl) (fun _ _ _ h => h) (by kernel_rfl) _ _ _ _ (by kernel_rfl) (by kernel_rfl) (Or.inl ⟨by rfl, ?_⟩) (fun _ => HT.out) ?_
  rotate_left
  · intro w' _
    go_simp
    try with_reducible rfl
  (try simp only [Act.put, List.getElem_toArray, List.getElem_cons_succ, List.getElem_cons_zero, List.setIfInBounds_toArray, List.set_cons_zero, List.set_cons_succ])
  refine wpL_word (i := 4) (v := ?_) rfl (by kernel_rfl) (fun _ _ _ h => h) (by kernel_rfl) _ _ _ _ (by kernel_rfl) (by kernel_rfl) (Or.inl ⟨by rfl, ?_⟩) (fun _ => HT.out) ?_
  rotate_left
  · intro w' _
    go_simp
    try with_reducible rfl
  (try simp only [Act.put, List.getElem_toArray, List.getElem_cons_succ, List.getElem_cons_zero, List.setIfInBounds_toArray, List.set_cons_zero, List.set_cons_succ])
  refine wpL_word (i := 5) (v := ?_) rfl (by kernel_rfl) (fun _ _ _ h => h) (by kernel_rfl) _ _ _ _ (by kernel_rfl) (by kernel_rfl) (Or.inl ⟨by rfl, ?_⟩) (fun _ => HT.out) ?_
  rotate_left
  · intro w' _
    go_simp
    try with_reducible rfl
  (try simp only [Act.put, List.getElem_toArray, List.getElem_cons_succ, List.getElem_cons_zero, List.setIfInBounds_toArray, List.set_cons_zero, List.set_cons_succ])
  refine wpL_load (i := 6) (v := ?_) rfl (by kernel_rfl) (fun _ _ _ h => h) (by kernel_rfl) (by kernel_rfl) _ _ _ _ (by kernel_rfl) (by kernel_rfl) (Or.inl ⟨by rfl, ?_⟩) (by kernel_rfl) HT.out ?_
  rotate_left
  · intro w' hS
    (try dsimp only at hS)
    obtain ⟨x0, x1, x2, x3, x4, x5, x6, x7⟩ := hS
    go_simp
    try with_reducible rfl
  (try simp only [Act.put, List.getElem_toArray, List.getElem_cons_succ, List.getElem_cons_zero, List.setIfInBounds_toArray, List.set_cons_zero, List.set_cons_succ])
  refine wpL_word (i := 7) (v := ?_) rfl (by kernel_rfl) (fun _ _ _ h => h) (by kernel_rfl) _ _ _ _ (by kernel_rfl) (by kernel_rfl) (Or.inl ⟨by rfl, ?_⟩) (fun _ => HT.out) ?_
  rotate_left
  · intro w' _
    go_simp
    try with_reducible rfl
  (try simp only [Act.put, List.getElem_toArray, List.getElem_cons_succ, List.getElem_cons_zero, List.setIfInBounds_toArray, List.set_cons_zero, List.set_cons_succ])
  refine wpL_word (i := 8) (v := ?_) rfl (by kernel_rfl) (fun _ _ _ h => h) (by kernel_rfl) _ _ _ _ (by kernel_rfl) (by kernel_rfl) (Or.inl ⟨by rfl, ?_⟩) (fun _ => HT.out) ?_
  rotate_left
  · intro w' _
    go_simp
    try with_reducible rfl
  (try simp only [Act.put, List.getElem_toArray, List.getElem_cons_succ, List.getElem_cons_zero, List.setIfInBounds_toArray, List.set_cons_zero, List.set_cons_succ])
  refine wpL_word (i := 9) (v := ?_) rfl (by kernel_rfl) (fun _ _ _ h => h) (by kernel_rfl) _ _ _ _ (by kernel_rfl) (by kernel_rfl) (Or.inl ⟨by rfl, ?_⟩) (fun _ => HT.out) ?_
  rotate_left
  · intro w' _
    go_simp
    try with_reducible rfl
  (try simp only [Act.put, List.getElem_toArray, List.getElem_cons_succ, List.getElem_cons_zero, List.setIfInBounds_toArray, List.set_cons_zero, List.set_cons_succ])
  refine wpL_load (i := 10) (v := ?_) rfl (by kernel_rfl) (fun _ _ _ h => h) (by kernel_rfl) (by kernel_rfl) _ _ _ _ (by kernel_rfl) (by kernel_rfl) (Or.inl ⟨by rfl, ?_⟩) (by kernel_rfl) HT.out ?_
  rotate_left
  · intro w' hS
    (try dsimp only at hS)
    obtain ⟨x0, x1, x2, x3, x4, x5, x6, x7⟩ := hS
    go_simp
    try with_reducible rfl
  (try simp only [Act.put, List.getElem_toArray, List.getElem_cons_succ, List.getElem_cons_zero, List.setIfInBounds_toArray, List.set_cons_zero, List.set_cons_succ])
  refine wpL_word (i := 11) (v := ?_) rfl (by kernel_rfl) (fun _ _ _ h => h) (by kernel_rfl) _ _ _ _ (by kernel_rfl) (by kernel_rfl) (Or.inl ⟨by rfl, ?_⟩) (fun _ => HT.out) ?_
  rotate_left
  · intro w' _
    go_simp
    try with_reducible rfl
  (try simp only [Act.put, List.getElem_toArray, List.getElem_cons_succ, List.getElem_cons_zero, List.setIfInBounds_toArray, List.set_cons_zero, List.set_cons_succ])
  refine wpL_word (i := 12) (v := ?_) rfl (by kernel_rfl) (fun _ _ _ h => h) (by kernel_rfl) _ _ _ _ (by kernel_rfl) (by kernel_rfl) (Or.inl ⟨by rfl, ?_⟩) (fun _ => HT.out) ?_
  rotate_left
  · intro w' _
    go_simp
    try with_reducible rfl
  (try simp only [Act.put, List.getElem_toArray, List.getElem_cons_succ, List.getElem_cons_zero, List.setIfInBounds_toArray, List.set_cons_zero, List.set_cons_succ])
  refine wpL_word (i := 13) (v := ?_) rfl (by kernel_rfl) (fun _ _ _ h => h) (by kernel_rfl) _ _ _ _ (by kernel_rfl) (by kernel_rfl) (Or.inl ⟨by rfl, ?_⟩) (fun _ => HT.out) ?_
  rotate_left
  · intro w' _
    go_simp
    try with_reducible rfl
  (try simp only [Act.put, List.getElem_toArray, List.getElem_cons_succ, List.getElem_cons_zero, List.setIfInBounds_toArray, List.set_cons_zero, List.set_cons_succ])
  refine wpL_word (i := 14) (v := ?_) rfl (by kernel_rfl) (fun _ _ _ h => h) (by kernel_rfl) _ _ _ _ (by kernel_rfl) (by kernel_rfl) (Or.inl ⟨by rfl, ?_⟩) (fun _ => HT.out) ?_
  rotate_left
  · intro w' _
    go_simp
    try with_reducible rfl
  (try simp only [Act.put, List.getElem_toArray, List.getElem_cons_succ, List.getElem_cons_zero, List.setIfInBounds_toArray, List.set_cons_zero, List.set_cons_succ])
  refine wpL_load (i := 15) (v := ?_) rfl (by kernel_rfl) (fun _ _ _ h => h) (by kernel_rfl) (by kernel_rfl) _ _ _ _ (by kernel_rfl) (by kernel_rfl) (Or.inl ⟨by rfl, ?_⟩) (by kernel_rfl) HT.out ?_
  rotate_left
  · intro w' hS
    (try dsimp only at hS)
    obtain ⟨x0, x1, x2, x3, x4, x5, x6, x7⟩ := hS
    go_simp
    try with_reducible rfl
  (try simp only [Act.put, List.getElem_toArray, List.getElem_cons_succ, List.getElem_cons_zero, List.setIfInBounds_toArray, List.set_cons_zero, List.set_cons_succ])
  refine wpL_word (i := 16) (v := ?_) rfl (by kernel_rfl) (fun _ _ _ h => h) (by kernel_rfl) _ _ _ _ (by kernel_rfl) (by kernel_rfl) (Or.inl ⟨by rfl, ?_⟩) (fun _ => HT.out) ?_
  rotate_left
  · intro w' _
    go_simp
    try with_reducible rfl
  (try simp only [Act.put, List.getElem_toArray, List.getElem_cons_succ, List.getElem_cons_zero, List.setIfInBounds_toArray, List.set_cons_zero, List.set_cons_succ])
  refine wpL_word (i := 17) (v := ?_) rfl (by kernel_rfl) (fun _ _ _ h => h) (by kernel_rfl) _ _ _ _ (by kernel_rfl) (by kernel_rfl) (Or.inl ⟨by rfl, ?_⟩) (fun _ => HT.out) ?_
  rotate_left
  · intro w' _
    go_simp
    try with_reducible rfl
  (try simp only [Act.put, List.getElem_toArray, List.getElem_cons_succ, List.getElem_cons_zero, List.setIfInBounds_toArray, List.set_cons_zero, List.set_cons_succ])
  refine wpL_word (i := 18) (v := ?_) rfl (by kernel_rfl) (fun _ _ _ h => h) (by kernel_rfl) _ _ _ _ (by kernel_rfl) (by kernel_rfl) (Or.inl ⟨by rfl, ?_⟩) (fun _ => HT.out) ?_
  rotate_left
  · intro w' _
    go_simp
    try with_reducible rfl
  (try simp only [Act.put, List.getElem_toArray, List.getElem_cons_succ, List.getElem_cons_zero, List.setIfInBounds_toArray, List.set_cons_zero, List.set_cons_succ])
  refine wpL_word (i := 19) (v := ?_) rfl (by kernel_rfl) (fun _ _ _ h => h) (by kernel_rfl) _ _ _ _ (by kernel_rfl) (by kernel_rfl) (Or.inl ⟨by rfl, ?_⟩) (fun _ => HT.out) ?_
  rotate_left
  · intro w' _
    go_simp
    try with_reducible rfl
  (try simp only [Act.put, List.getElem_toArray, List.getElem_cons_succ, List.getElem_cons_zero, List.setIfInBounds_toArray, List.set_cons_zero, List.set_cons_succ])
  refine wpL_word (i := 20) (v := ?_) rfl (by kernel_rfl) (fun _ _ _ h => h) (by kernel_rfl) _ _ _ _ (by kernel_rfl) (by kernel_rfl) (Or.inl ⟨by rfl, ?_⟩) (fun _ => HT.out) ?_
  rotate_left
  · intro w' _
    go_simp
    try with_reducible rfl
  (try simp only [Act.put, List.getElem_toArray, List.getElem_cons_succ, List.getElem_cons_zero, List.setIfInBounds_toArray, List.set_cons_zero, List.set_cons_succ])
  refine wpL_load (i := 21) (v := ?_) rfl (by kernel_rfl) (fun _ _ _ h => h) (by kernel_rfl) (by kernel_rfl) _ _ _ _ (by kernel_rfl) (by kernel_rfl) (Or.inl ⟨by rfl, ?_⟩) (by kernel_rfl) HT.out ?_
  rotate_left
  · intro w' hS
    (try dsimp only at hS)
    obtain ⟨x0, x1, x2, x3, x4, x5, x6, x7⟩ := hS
    go_simp
    try with_reducible rfl
  (try simp only [Act.put, List.getElem_toArray, List.getElem_cons_succ, List.getElem_cons_zero, List.setIfInBounds_toArray, List.set_cons_zero, List.set_cons_succ])
  refine wpL_pure (i := 22) (v := .int .i64 (100 * (1 + c4))) rfl (by kernel_rfl) (fun _ _ _ h => h) (by kernel_rfl) _ _ _ _ (by kernel_rfl) (by kernel_rfl) ⟨by rfl, 21, #[.int .i64 100, .int .u8 c4], ?_, fun w' => most_any 100 c4 (by omega) (by omega) p4.1 p4.2 w'⟩ (fun _ => HT.out) ?_
  · intro w'
    go_simp
  (try simp only [Act.put, List.getElem_toArray, List.getElem_cons_succ, List.getElem_cons_zero, List.setIfInBounds_toArray, List.set_cons_zero, List.set_cons_succ])
  refine wpL_word (i := 23) (v := ?_) rfl (by kernel_rfl) (fun _ _ _ h => h) (by kernel_rfl) _ _ _ _ (by kernel_rfl) (by kernel_rfl) (Or.inl ⟨by rfl, ?_⟩) (fun _ => HT.out) ?_
  rotate_left
  · intro w' _
    go_simp
    try with_reducible rfl
  (try simp only [Act.put, List.getElem_toArray, List.getElem_cons_succ, List.getElem_cons_zero, List.setIfInBounds_toArray, List.set_cons_zero, List.set_cons_succ])
  refine wpL_word (i := 24) (v := ?_) rfl (by kernel_rfl) (fun _ _ _ h => h) (by kernel_rfl) _ _ _ _ (by kernel_rfl) (by kernel_rfl) (Or.inl ⟨by rfl, ?_⟩) (fun _ => HT.out) ?_
  rotate_left
  · intro w' _
    go_simp
    try with_reducible rfl
  (try simp only [Act.put, List.getElem_toArray, List.getElem_cons_succ, List.getElem_cons_zero, List.setIfInBounds_toArray, List.set_cons_zero, List.set_cons_succ])
  refine wpL_word (i := 25) (v := ?_) rfl (by kernel_rfl) (fun _ _ _ h => h) (by kernel_rfl) _ _ _ _ (by kernel_rfl) (by kernel_rfl) (Or.inl ⟨by rfl, ?_⟩) (fun _ => HT.out) ?_
  rotate_left
  · intro w' _
    go_simp
    try with_reducible rfl
  (try simp only [Act.put, List.getElem_toArray, List.getElem_cons_succ, List.getElem_cons_zero, List.setIfInBounds_toArray, List.set_cons_zero, List.set_cons_succ])
  refine wpL_load (i := 26) (v := ?_) rfl (by kernel_rfl) (fun _ _ _ h => h) (by kernel_rfl) (by kernel_rfl) _ _ _ _ (by kernel_rfl) (by kernel_rfl) (Or.inl ⟨by rfl, ?_⟩) (by kernel_rfl) HT.out ?_
  rotate_left
  · intro w' hS
    (try dsimp only at hS)
    obtain ⟨x0, x1, x2, x3, x4, x5, x6, x7⟩ := hS
    go_simp
    try with_reducible rfl
  (try simp only [Act.put, List.getElem_toArray, List.getElem_cons_succ, List.getElem_cons_zero, List.setIfInBounds_toArray, List.set_cons_zero, List.set_cons_succ])
  refine wpL_pure (i := 27) (v := .int .i64 (100 * (1 + c5))) rfl (by kernel_rfl) (fun _ _ _ h => h) (by kernel_rfl) _ _ _ _ (by kernel_rfl) (by kernel_rfl) ⟨by rfl, 21, #[.int .i64 100, .int .u8 c5], ?_, fun w' => most_any 100 c5 (by omega) (by omega) p5.1 p5.2 w'⟩ (fun _ => HT.out) ?_
  · intro w'
    go_simp
  (try simp only [Act.put, List.getElem_toArray, List.getElem_cons_succ, List.getElem_cons_zero, List.setIfInBounds_toArray, List.set_cons_zero, List.set_cons_succ])
  refine wpL_word (i := 28) (v := ?_) rfl (by kernel_rfl) (fun _ _ _ h => h) (by kernel_rfl) _ _ _ _ (by kernel_rfl) (by kernel_rfl) (Or.inl ⟨by rfl, ?_⟩) (fun _ => HT.out) ?_
  rotate_left
  · intro w' _
    go_simp
    try with_reducible rfl
  (try simp only [Act.put, List.getElem_toArray, List.getElem_cons_succ, List.getElem_cons_zero, List.setIfInBounds_toArray, List.set_cons_zero, List.set_cons_succ])
  refine wpL_word (i := 29) (v := ?_) rfl (by kernel_rfl) (fun _ _ _ h => h) (by kernel_rfl) _ _ _ _ (by kernel_rfl) (by kernel_rfl) (Or.inl ⟨by rfl, ?_⟩) (fun _ => HT.out) ?_
  rotate_left
  · intro w' _
    go_simp
    try with_reducible rfl
  (try simp only [Act.put, List.getElem_toArray, List.getElem_cons_succ, List.getElem_cons_zero, List.setIfInBounds_toArray, List.set_cons_zero, List.set_cons_succ])
  refine wpL_word (i := 30) (v := ?_) rfl (by kernel_rfl) (fun _ _ _ h => h) (by kernel_rfl) _ _ _ _ (by kernel_rfl) (by kernel_rfl) (Or.inl ⟨by rfl, ?_⟩) (fun _ => HT.out) ?_
  rotate_left
  · intro w' _
    go_simp
    try with_reducible rfl
  (try simp only [Act.put, List.getElem_toArray, List.getElem_cons_succ, List.getElem_cons_zero, List.setIfInBounds_toArray, List.set_cons_zero, List.set_cons_succ])
  refine wpL_load (i := 31) (v := ?_) rfl (by kernel_rfl) (fun _ _ _ h => h) (by kernel_rfl) (by kernel_rfl) _ _ _ _ (by kernel_rfl) (by kernel_rfl) (Or.inl ⟨by rfl, ?_⟩) (by kernel_rfl) HT.out ?_
  rotate_left
  · intro w' hS
    (try dsimp only at hS)
    obtain ⟨x0, x1, x2, x3, x4, x5, x6, x7⟩ := hS
    go_simp
    try with_reducible rfl
  (try simp only [Act.put, List.getElem_toArray, List.getElem_cons_succ, List.getElem_cons_zero, List.setIfInBounds_toArray, List.set_cons_zero, List.set_cons_succ])
  refine wpL_pure (i := 32) (v := .int .i64 (50 * (1 + c6))) rfl (by kernel_rfl) (fun _ _ _ h => h) (by kernel_rfl) _ _ _ _ (by kernel_rfl) (by kernel_rfl) ⟨by rfl, 21, #[.int .i64 50, .int .u8 c6], ?_, fun w' => most_any 50 c6 (by omega) (by omega) p6.1 p6.2 w'⟩ (fun _ => HT.out) ?_
  · intro w'
    go_simp
  (try simp only [Act.put, List.getElem_toArray, List.getElem_cons_succ, List.getElem_cons_zero, List.setIfInBounds_toArray, List.set_cons_zero, List.set_cons_succ])
  refine wpL_word (i := 33) (v := ?_) rfl (by kernel_rfl) (fun _ _ _ h => h) (by kernel_rfl) _ _ _ _ (by kernel_rfl) (by kernel_rfl) (Or.inl ⟨by rfl, ?_⟩) (fun _ => HT.out) ?_
  rotate_left
  · intro w' _
    go_simp
    try with_reducible rfl
  (try simp only [Act.put, List.getElem_toArray, List.getElem_cons_succ, List.getElem_cons_zero, List.setIfInBounds_toArray, List.set_cons_zero, List.set_cons_succ])
  refine wpL_word (i := 34) (v := ?_) rfl (by kernel_rfl) (fun _ _ _ h => h) (by kernel_rfl) _ _ _ _ (by kernel_rfl) (by kernel_rfl) (Or.inl ⟨by rfl, ?_⟩) (fun _ => HT.out) ?_
  rotate_left
  · intro w' _
    go_simp
    try with_reducible rfl
  (try simp only [Act.put, List.getElem_toArray, List.getElem_cons_succ, List.getElem_cons_zero, List.setIfInBounds_toArray, List.set_cons_zero, List.set_cons_succ])
  refine wpL_word (i := 35) (v := ?_) rfl (by kernel_rfl) (fun _ _ _ h => h) (by kernel_rfl) _ _ _ _ (by kernel_rfl) (by kernel_rfl) (Or.inl ⟨by rfl, ?_⟩) (fun _ => HT.out) ?_
  rotate_left
  · intro w' _
    go_simp
    try with_reducible rfl
  (try simp only [Act.put, List.getElem_toArray, List.getElem_cons_succ, List.getElem_cons_zero, List.setIfInBounds_toArray, List.set_cons_zero, List.set_cons_succ])
  refine wpL_load (i := 36) (v := ?_) rfl (by kernel_rfl) (fun _ _ _ h => h) (by kernel_rfl) (by kernel_rfl) _ _ _ _ (by kernel_rfl) (by kernel_rfl) (Or.inl ⟨by rfl, ?_⟩) (by kernel_rfl) HT.out ?_
  rotate_left
  · intro w' hS
    (try dsimp only at hS)
    obtain ⟨x0, x1, x2, x3, x4, x5, x6, x7⟩ := hS
    go_simp
    try with_reducible rfl
  (try simp only [Act.put, List.getElem_toArray, List.getElem_cons_succ, List.getElem_cons_zero, List.setIfInBounds_toArray, List.set_cons_zero, List.set_cons_succ])
  refine wpL_pure (i := 37) (v := .int .i64 (50 * (1 + c7))) rfl (by kernel_rfl) (fun _ _ _ h => h) (by kernel_rfl) _ _ _ _ (by kernel_rfl) (by kernel_rfl) ⟨by rfl, 21, #[.int .i64 50, .int .u8 c7], ?_, fun w' => most_any 50 c7 (by omega) (by omega) p7.1 p7.2 w'⟩ (fun _ => HT.out) ?_
  · intro w'
    go_simp
  (try simp only [Act.put, List.getElem_toArray, List.getElem_cons_succ, List.getElem_cons_zero, List.setIfInBounds_toArray, List.set_cons_zero, List.set_cons_succ])
  refine wpL_word (i := 38) (v := ?_) rfl (by kernel_rfl) (fun _ _ _ h => h) (by kernel_rfl) _ _ _ _ (by kernel_rfl) (by kernel_rfl) (Or.inl ⟨by rfl, ?_⟩) (fun _ => HT.out) ?_
  rotate_left
  · intro w' _
    go_simp
    try with_reducible rfl
  (try simp only [Act.put, List.getElem_toArray, List.getElem_cons_succ, List.getElem_cons_zero, List.setIfInBounds_toArray, List.set_cons_zero, List.set_cons_succ])
  refine wpL_word (i := 41) (v := ?_) rfl (by kernel_rfl) (fun _ _ _ h => h) (by kernel_rfl) _ _ _ _ (by kernel_rfl) (by kernel_rfl) (Or.inl ⟨by rfl, ?_⟩) (fun _ => HT.out) ?_
  rotate_left
  · intro w' _
    go_simp
    try with_reducible rfl
  (try simp only [Act.put, List.getElem_toArray, List.getElem_cons_succ, List.getElem_cons_zero, List.setIfInBounds_toArray, List.set_cons_zero, List.set_cons_succ])
  refine wpL_word (i := 42) (v := ?_) rfl (by kernel_rfl) (fun _ _ _ h => h) (by kernel_rfl) _ _ _ _ (by kernel_rfl) (by kernel_rfl) (Or.inl ⟨by rfl, ?_⟩) (fun _ => HT.out) ?_
  rotate_left
  · intro w' _
    go_simp
    try with_reducible rfl
  (try simp only [Act.put, List.getElem_toArray, List.getElem_cons_succ, List.getElem_cons_zero, List.setIfInBounds_toArray, List.set_cons_zero, List.set_cons_succ])
  refine wpL_three (m := 39) (n := 40) (p := 43) (by kernel_rfl) rfl rfl rfl ?_ ?_ ?_
  · intro K' hK
    go_simp
    have HT2 := t8_alloc (.cells #[.int .i64 (-1), .int .i64 (100 * (1 + c4)), .int .i64 0, .int .i64 (100 * (1 + c5)), .int .i64 1, .int .i64 (50 * (1 + c6)), .int .i64 1, .int .i64 (50 * (1 + c7))] 73) HT lt3
    have z2 := κ (zD.out.alloc (.cells #[.int .i64 (-1), .int .i64 (100 * (1 + c4)), .int .i64 0, .int .i64 (100 * (1 + c5)), .int .i64 1, .int .i64 (50 * (1 + c6)), .int .i64 1, .int .i64 (50 * (1 + c7))] 73))
    have b2 := κ (bD.out.alloc bD.out.size (.cells #[.int .i64 (-1), .int .i64 (100 * (1 + c4)), .int .i64 0, .int .i64 (100 * (1 + c5)), .int .i64 1, .int .i64 (50 * (1 + c6)), .int .i64 1, .int .i64 (50 * (1 + c7))] 73))
    have NA := κ (Blk.fresh wD 73 #[.int .i64 (-1), .int .i64 (100 * (1 + c4)), .int .i64 0, .int .i64 (100 * (1 + c5)), .int .i64 1, .int .i64 (50 * (1 + c6)), .int .i64 1, .int .i64 (50 * (1 + c7))])
    have lA : Hid (w.heap.size ≤ wD.heap.size) := κ bD.out.size
    have nA : Hid (wD.heap.size ≠ gR) := κ (Nat.ne_of_gt ltR.out)
    have t3 : Hid (g3 < (wD.alloc (.cells #[.int .i64 (-1), .int .i64 (100 * (1 + c4)), .int .i64 0, .int .i64 (100 * (1 + c5)), .int .i64 1, .int .i64 (50 * (1 + c6)), .int .i64 1, .int .i64 (50 * (1 + c7))] 73)).heap.size) := κ (Nat.lt_of_lt_of_le lt3.out (by simp))
    have tR : Hid (gR < (wD.alloc (.cells #[.int .i64 (-1), .int .i64 (100 * (1 + c4)), .int .i64 0, .int .i64 (100 * (1 + c5)), .int .i64 1, .int .i64 (50 * (1 + c6)), .int .i64 1, .int .i64 (50 * (1 + c7))] 73)).heap.size) := κ (Nat.lt_of_lt_of_le ltR.out (by simp))
    clear HT zD bD lt3 ltR
    generalize wD.alloc (.cells #[.int .i64 (-1), .int .i64 (100 * (1 + c4)), .int .i64 0, .int .i64 (100 * (1 + c5)), .int .i64 1, .int .i64 (50 * (1 + c6)), .int .i64 1, .int .i64 (50 * (1 + c7))] 73) = wE at HT2 z2 b2 NA t3 tR ⊢
    generalize wD.heap.size = gA at NA lA nA ⊢
    refine hK.out _ _ HT2.out ?_
    clear hK K'
    (try simp only [Act.put, List.getElem_toArray, List.getElem_cons_succ, List.getElem_cons_zero, List.setIfInBounds_toArray, List.set_cons_zero, List.set_cons_succ])
    have HT := HT2
    have zD := z2
    have bD := b2
    have lt3 := t3
    have ltR := tR
    clear HT2 z2 b2 t3 tR
    generalize wE = wD at *
    refine wpL_two (m := 40) (n := 43) (by kernel_rfl) rfl rfl ?_ ?_
    · intro K' hK
      go_simp
      have HT2 := t8_alloc (.cells #[.int .i64 2, .int .i64 3, .int .i64 2] 3) HT lt3
      have z2 := κ (zD.out.alloc (.cells #[.int .i64 2, .int .i64 3, .int .i64 2] 3))
      have b2 := κ (bD.out.alloc bD.out.size (.cells #[.int .i64 2, .int .i64 3, .int .i64 2] 3))
      have NB := κ (Blk.fresh wD 3 #[.int .i64 2, .int .i64 3, .int .i64 2])
      have lB : Hid (w.heap.size ≤ wD.heap.size) := κ bD.out.size
      have nB : Hid (wD.heap.size ≠ gR) := κ (Nat.ne_of_gt ltR.out)
      have t3 : Hid (g3 < (wD.alloc (.cells #[.int .i64 2, .int .i64 3, .int .i64 2] 3)).heap.size) := κ (Nat.lt_of_lt_of_le lt3.out (by simp))
      have tR : Hid (gR < (wD.alloc (.cells #[.int .i64 2, .int .i64 3, .int .i64 2] 3)).heap.size) := κ (Nat.lt_of_lt_of_le ltR.out (by simp))
      have MA := κ (NA.out.alloc (.cells #[.int .i64 2, .int .i64 3, .int .i64 2] 3))
      clear HT zD bD lt3 ltR NA
      generalize wD.alloc (.cells #[.int .i64 2, .int .i64 3, .int .i64 2] 3) = wE at HT2 z2 b2 NB t3 tR MA ⊢
      generalize wD.heap.size = gB at NB lB nB ⊢
      refine hK.out _ _ HT2.out ?_
      clear hK K'
      (try simp only [Act.put, List.getElem_toArray, List.getElem_cons_succ, List.getElem_cons_zero, List.setIfInBounds_toArray, List.set_cons_zero, List.set_cons_succ])
      have HT := HT2
      have zD := z2
      have bD := b2
      have lt3 := t3
      have ltR := tR
      clear HT2 z2 b2 t3 tR
      have NA := MA
      clear MA
      generalize wE = wD at *
      refine wpL_next (n := 43) (by kernel_rfl) rfl ?_
      · intro K' hK
        go_simp
        have HT2 := t8_alloc (.cells #[.int .i64 100, .int .i64 50, .int .i64 3000, .float .f64 4591870180066957722, .int .i64 10, .int .i64 1000, .int .i64 10000, .float .f64 4602678819172646912] 74) HT lt3
        have z2 := κ (zD.out.alloc (.cells #[.int .i64 100, .int .i64 50, .int .i64 3000, .float .f64 4591870180066957722, .int .i64 10, .int .i64 1000, .int .i64 10000, .float .f64 4602678819172646912] 74))
        have b2 := κ (bD.out.alloc bD.out.size (.cells #[.int .i64 100, .int .i64 50, .int .i64 3000, .float .f64 4591870180066957722, .int .i64 10, .int .i64 1000, .int .i64 10000, .float .f64 4602678819172646912] 74))
        have NC := κ (Blk.fresh wD 74 #[.int .i64 100, .int .i64 50, .int .i64 3000, .float .f64 4591870180066957722, .int .i64 10, .int .i64 1000, .int .i64 10000, .float .f64 4602678819172646912])
        have lC : Hid (w.heap.size ≤ wD.heap.size) := κ bD.out.size
        have nC : Hid (wD.heap.size ≠ gR) := κ (Nat.ne_of_gt ltR.out)
        have t3 : Hid (g3 < (wD.alloc (.cells #[.int .i64 100, .int .i64 50, .int .i64 3000, .float .f64 4591870180066957722, .int .i64 10, .int .i64 1000, .int .i64 10000, .float .f64 4602678819172646912] 74)).heap.size) := κ (Nat.lt_of_lt_of_le lt3.out (by simp))
        have tR : Hid (gR < (wD.alloc (.cells #[.int .i64 100, .int .i64 50, .int .i64 3000, .float .f64 4591870180066957722, .int .i64 10, .int .i64 1000, .int .i64 10000, .float .f64 4602678819172646912] 74)).heap.size) := κ (Nat.lt_of_lt_of_le ltR.out (by simp))
        have MA := κ (NA.out.alloc (.cells #[.int .i64 100, .int .i64 50, .int .i64 3000, .float .f64 4591870180066957722, .int .i64 10, .int .i64 1000, .int .i64 10000, .float .f64 4602678819172646912] 74))
        have MB := κ (NB.out.alloc (.cells #[.int .i64 100, .int .i64 50, .int .i64 3000, .float .f64 4591870180066957722, .int .i64 10, .int .i64 1000, .int .i64 10000, .float .f64 4602678819172646912] 74))
        clear HT zD bD lt3 ltR NA NB
        generalize wD.alloc (.cells #[.int .i64 100, .int .i64 50, .int .i64 3000, .float .f64 4591870180066957722, .int .i64 10, .int .i64 1000, .int .i64 10000, .float .f64 4602678819172646912] 74) = wE at HT2 z2 b2 NC t3 tR MA MB ⊢
        generalize wD.heap.size = gC at NC lC nC ⊢
        refine hK.out _ _ HT2.out ?_
        clear hK K'
        (try simp only [Act.put, List.getElem_toArray, List.getElem_cons_succ, List.getElem_cons_zero, List.setIfInBounds_toArray, List.set_cons_zero, List.set_cons_succ])
        have HT := HT2
        have zD := z2
        have bD := b2
        have lt3 := t3
        have ltR := tR
        clear HT2 z2 b2 t3 tR
        have NA := MA
        clear MA
        have NB := MB
        clear MB
        generalize wE = wD at *
        refine wpL_word (i := 44) (v := ?_) rfl (by kernel_rfl) (fun _ _ _ h => h) (by kernel_rfl) _ _ _ _ (by kernel_rfl) (by kernel_rfl) (Or.inl ⟨by rfl, ?_⟩) (fun _ => HT.out) ?_
        rotate_left
        · intro w' _
          go_simp
          try with_reducible rfl
        (try simp only [Act.put, List.getElem_toArray, List.getElem_cons_succ, List.getElem_cons_zero, List.setIfInBounds_toArray, List.set_cons_zero, List.set_cons_succ])
        obtain ⟨s0, s1, s2, s3, s4, s5, s6, y0, y1, y2, y3, y4, y5, y6⟩ := z7_of zD.out
        refine wpL_late (n := 45) (by kernel_rfl) rfl (by kernel_rfl) (fun K' hK => ?_)
        go_simp
        refine hK.out _ _ ?_
        clear hK K'
        (try simp only [Act.put, List.getElem_toArray, List.getElem_cons_succ, List.getElem_cons_zero, List.setIfInBounds_toArray, List.set_cons_zero, List.set_cons_succ])
        refine wpL_done (by kernel_rfl) ?_ _
        refine NoPanic.normal ?_
        have fk := st7_blk (v0 := .int .i64 (1 + c0 % 3)) (v1 := .int .i64 (c1 % 4)) (v2 := .int .i64 (1 + c2 % 6)) (v3 := .int .i64 (1 + c3 % 6)) (v4 := .slice (some ⟨gA, 0, none⟩) 4 4) (v5 := .slice (some ⟨gB, 0, none⟩) 3 3) (v6 := .slice (some ⟨gC, 0, none⟩) 2 2) zD.out
        have F := cn_fin (l := l) (a := .int .i64 (1 + c0 % 3)) (b := .int .i64 (c1 % 4)) (c := .int .i64 (1 + c2 % 6)) (d := .int .i64 (1 + c3 % 6)) (e := .slice (some ⟨gA, 0, none⟩) 4 4) (f := .slice (some ⟨gB, 0, none⟩) 3 3) (h := .slice (some ⟨gC, 0, none⟩) 2 2) (κ (by rw [hq.out]; exact NA.out)) NB NC lA lB lC nA nB nC bD hg
        go_wp2_with fail
        obtain ⟨d0, d1, d2, d3, d4, d5, d6⟩ := q7_of fk
        unfold st7 at d0 d1 d2 d3 d4 d5 d6 F
        exact bodyPost_ret (v := .agg #[.int .i64 (1 + c0 % 3), .int .i64 (c1 % 4), .int .i64 (1 + c2 % 6), .int .i64 (1 + c3 % 6), .slice (some ⟨gA, 0, none⟩) 4 4, .slice (some ⟨gB, 0, none⟩) 3 3, .slice (some ⟨gC, 0, none⟩) 2 2]) (by simp [results, Tryd.results11, go_sem, d0, d1, d2, d3, d4, d5, d6]) rfl ⟨gA, gB, gC, by rw [hv.out], F⟩
    · intro K' hK
      go_simp
      have HT2 := t8_alloc (.cells #[.int .i64 100, .int .i64 50, .int .i64 3000, .float .f64 4591870180066957722, .int .i64 10, .int .i64 1000, .int .i64 10000, .float .f64 4602678819172646912] 74) HT lt3
      have z2 := κ (zD.out.alloc (.cells #[.int .i64 100, .int .i64 50, .int .i64 3000, .float .f64 4591870180066957722, .int .i64 10, .int .i64 1000, .int .i64 10000, .float .f64 4602678819172646912] 74))
      have b2 := κ (bD.out.alloc bD.out.size (.cells #[.int .i64 100, .int .i64 50, .int .i64 3000, .float .f64 4591870180066957722, .int .i64 10, .int .i64 1000, .int .i64 10000, .float .f64 4602678819172646912] 74))
      have NC := κ (Blk.fresh wD 74 #[.int .i64 100, .int .i64 50, .int .i64 3000, .float .f64 4591870180066957722, .int .i64 10, .int .i64 1000, .int .i64 10000, .float .f64 4602678819172646912])
      have lC : Hid (w.heap.size ≤ wD.heap.size) := κ bD.out.size
      have nC : Hid (wD.heap.size ≠ gR) := κ (Nat.ne_of_gt ltR.out)
      have t3 : Hid (g3 < (wD.alloc (.cells #[.int .i64 100, .int .i64 50, .int .i64 3000, .float .f64 4591870180066957722, .int .i64 10, .int .i64 1000, .int .i64 10000, .float .f64 4602678819172646912] 74)).heap.size) := κ (Nat.lt_of_lt_of_le lt3.out (by simp))
      have tR : Hid (gR < (wD.alloc (.cells #[.int .i64 100, .int .i64 50, .int .i64 3000, .float .f64 4591870180066957722, .int .i64 10, .int .i64 1000, .int .i64 10000, .float .f64 4602678819172646912] 74)).heap.size) := κ (Nat.lt_of_lt_of_le ltR.out (by simp))
      have MA := κ (NA.out.alloc (.cells #[.int .i64 100, .int .i64 50, .int .i64 3000, .float .f64 4591870180066957722, .int .i64 10, .int .i64 1000, .int .i64 10000, .float .f64 4602678819172646912] 74))
      clear HT zD bD lt3 ltR NA
      generalize wD.alloc (.cells #[.int .i64 100, .int .i64 50, .int .i64 3000, .float .f64 4591870180066957722, .int .i64 10, .int .i64 1000, .int .i64 10000, .float .f64 4602678819172646912] 74) = wE at HT2 z2 b2 NC t3 tR MA ⊢
      generalize wD.heap.size = gC at NC lC nC ⊢
      refine hK.out _ _ HT2.out ?_
      clear hK K'
      (try simp only [Act.put, List.getElem_toArray, List.getElem_cons_succ, List.getElem_cons_zero, List.setIfInBounds_toArray, List.set_cons_zero, List.set_cons_succ])
      have HT := HT2
      have zD := z2
      have bD := b2
      have lt3 := t3
      have ltR := tR
      clear HT2 z2 b2 t3 tR
      have NA := MA
      clear MA
      generalize wE = wD at *
      refine wpL_next (n := 40) (by kernel_rfl) rfl ?_
      · intro K' hK
        go_simp
        have HT2 := t8_alloc (.cells #[.int .i64 2, .int .i64 3, .int .i64 2] 3) HT lt3
        have z2 := κ (zD.out.alloc (.cells #[.int .i64 2, .int .i64 3, .int .i64 2] 3))
        have b2 := κ (bD.out.alloc bD.out.size (.cells #[.int .i64 2, .int .i64 3, .int .i64 2] 3))
        have NB := κ (Blk.fresh wD 3 #[.int .i64 2, .int .i64 3, .int .i64 2])
        have lB : Hid (w.heap.size ≤ wD.heap.size) := κ bD.out.size
        have nB : Hid (wD.heap.size ≠ gR) := κ (Nat.ne_of_gt ltR.out)
        have t3 : Hid (g3 < (wD.alloc (.cells #[.int .i64 2, .int .i64 3, .int .i64 2] 3)).heap.size) := κ (Nat.lt_of_lt_of_le lt3.out (by simp))
        have tR : Hid (gR < (wD.alloc (.cells #[.int .i64 2, .int .i64 3, .int .i64 2] 3)).heap.size) := κ (Nat.lt_of_lt_of_le ltR.out (by simp))
        have MA := κ (NA.out.alloc (.cells #[.int .i64 2, .int .i64 3, .int .i64 2] 3))
        have MC := κ (NC.out.alloc (.cells #[.int .i64 2, .int .i64 3, .int .i64 2] 3))
        clear HT zD bD lt3 ltR NA NC
        generalize wD.alloc (.cells #[.int .i64 2, .int .i64 3, .int .i64 2] 3) = wE at HT2 z2 b2 NB t3 tR MA MC ⊢
        generalize wD.heap.size = gB at NB lB nB ⊢
        refine hK.out _ _ HT2.out ?_
        clear hK K'
        (try simp only [Act.put, List.getElem_toArray, List.getElem_cons_succ, List.getElem_cons_zero, List.setIfInBounds_toArray, List.set_cons_zero, List.set_cons_succ])
        have HT := HT2
        have zD := z2
        have bD := b2
        have lt3 := t3
        have ltR := tR
        clear HT2 z2 b2 t3 tR
        have NA := MA
        clear MA
        have NC := MC
        clear MC
        generalize wE = wD at *
        refine wpL_word (i := 44) (v := ?_) rfl (by kernel_rfl) (fun _ _ _ h => h) (by kernel_rfl) _ _ _ _ (by kernel_rfl) (by kernel_rfl) (Or.inl ⟨by rfl, ?_⟩) (fun _ => HT.out) ?_
        rotate_left
        · intro w' _
          go_simp
          try with_reducible rfl
        (try simp only [Act.put, List.getElem_toArray, List.getElem_cons_succ, List.getElem_cons_zero, List.setIfInBounds_toArray, List.set_cons_zero, List.set_cons_succ])
        obtain ⟨s0, s1, s2, s3, s4, s5, s6, y0, y1, y2, y3, y4, y5, y6⟩ := z7_of zD.out
        refine wpL_late (n := 45) (by kernel_rfl) rfl (by kernel_rfl) (fun K' hK => ?_)
        go_simp
        refine hK.out _ _ ?_
        clear hK K'
        (try simp only [Act.put, List.getElem_toArray, List.getElem_cons_succ, List.getElem_cons_zero, List.setIfInBounds_toArray, List.set_cons_zero, List.set_cons_succ])
        refine wpL_done (by kernel_rfl) ?_ _
        refine NoPanic.normal ?_
        have fk := st7_blk (v0 := .int .i64 (1 + c0 % 3)) (v1 := .int .i64 (c1 % 4)) (v2 := .int .i64 (1 + c2 % 6)) (v3 := .int .i64 (1 + c3 % 6)) (v4 := .slice (some ⟨gA, 0, none⟩) 4 4) (v5 := .slice (some ⟨gB, 0, none⟩) 3 3) (v6 := .slice (some ⟨gC, 0, none⟩) 2 2) zD.out
        have F := cn_fin (l := l) (a := .int .i64 (1 + c0 % 3)) (b := .int .i64 (c1 % 4)) (c := .int .i64 (1 + c2 % 6)) (d := .int .i64 (1 + c3 % 6)) (e := .slice (some ⟨gA, 0, none⟩) 4 4) (f := .slice (some ⟨gB, 0, none⟩) 3 3) (h := .slice (some ⟨gC, 0, none⟩) 2 2) (κ (by rw [hq.out]; exact NA.out)) NB NC lA lB lC nA nB nC bD hg
        go_wp2_with fail
        obtain ⟨d0, d1, d2, d3, d4, d5, d6⟩ := q7_of fk
        unfold st7 at d0 d1 d2 d3 d4 d5 d6 F
        exact bodyPost_ret (v := .agg #[.int .i64 (1 + c0 % 3), .int .i64 (c1 % 4), .int .i64 (1 + c2 % 6), .int .i64 (1 + c3 % 6), .slice (some ⟨gA, 0, none⟩) 4 4, .slice (some ⟨gB, 0, none⟩) 3 3, .slice (some ⟨gC, 0, none⟩) 2 2]) (by simp [results, Tryd.results11, go_sem, d0, d1, d2, d3, d4, d5, d6]) rfl ⟨gA, gB, gC, by rw [hv.out], F⟩
  · intro K' hK
    go_simp
    have HT2 := t8_alloc (.cells #[.int .i64 2, .int .i64 3, .int .i64 2] 3) HT lt3
    have z2 := κ (zD.out.alloc (.cells #[.int .i64 2, .int .i64 3, .int .i64 2] 3))
    have b2 := κ (bD.out.alloc bD.out.size (.cells #[.int .i64 2, .int .i64 3, .int .i64 2] 3))
    have NB := κ (Blk.fresh wD 3 #[.int .i64 2, .int .i64 3, .int .i64 2])
    have lB : Hid (w.heap.size ≤ wD.heap.size) := κ bD.out.size
    have nB : Hid (wD.heap.size ≠ gR) := κ (Nat.ne_of_gt ltR.out)
    have t3 : Hid (g3 < (wD.alloc (.cells #[.int .i64 2, .int .i64 3, .int .i64 2] 3)).heap.size) := κ (Nat.lt_of_lt_of_le lt3.out (by simp))
    have tR : Hid (gR < (wD.alloc (.cells #[.int .i64 2, .int .i64 3, .int .i64 2] 3)).heap.size) := κ (Nat.lt_of_lt_of_le ltR.out (by simp))
    clear HT zD bD lt3 ltR
    generalize wD.alloc (.cells #[.int .i64 2, .int .i64 3, .int .i64 2] 3) = wE at HT2 z2 b2 NB t3 tR ⊢
    generalize wD.heap.size = gB at NB lB nB ⊢
    refine hK.out _ _ HT2.out ?_
    clear hK K'
    (try simp only [Act.put, List.getElem_toArray, List.getElem_cons_succ, List.getElem_cons_zero, List.setIfInBounds_toArray, List.set_cons_zero, List.set_cons_succ])
    have HT := HT2
    have zD := z2
    have bD := b2
    have lt3 := t3
    have ltR := tR
    clear HT2 z2 b2 t3 tR
    generalize wE = wD at *
    refine wpL_two (m := 39) (n := 43) (by kernel_rfl) rfl rfl ?_ ?_
    · intro K' hK
      go_simp
      have HT2 := t8_alloc (.cells #[.int .i64 (-1), .int .i64 (100 * (1 + c4)), .int .i64 0, .int .i64 (100 * (1 + c5)), .int .i64 1, .int .i64 (50 * (1 + c6)), .int .i64 1, .int .i64 (50 * (1 + c7))] 73) HT lt3
      have z2 := κ (zD.out.alloc (.cells #[.int .i64 (-1), .int .i64 (100 * (1 + c4)), .int .i64 0, .int .i64 (100 * (1 + c5)), .int .i64 1, .int .i64 (50 * (1 + c6)), .int .i64 1, .int .i64 (50 * (1 + c7))] 73))
      have b2 := κ (bD.out.alloc bD.out.size (.cells #[.int .i64 (-1), .int .i64 (100 * (1 + c4)), .int .i64 0, .int .i64 (100 * (1 + c5)), .int .i64 1, .int .i64 (50 * (1 + c6)), .int .i64 1, .int .i64 (50 * (1 + c7))] 73))
      have NA := κ (Blk.fresh wD 73 #[.int .i64 (-1), .int .i64 (100 * (1 + c4)), .int .i64 0, .int .i64 (100 * (1 + c5)), .int .i64 1, .int .i64 (50 * (1 + c6)), .int .i64 1, .int .i64 (50 * (1 + c7))])
      have lA : Hid (w.heap.size ≤ wD.heap.size) := κ bD.out.size
      have nA : Hid (wD.heap.size ≠ gR) := κ (Nat.ne_of_gt ltR.out)
      have t3 : Hid (g3 < (wD.alloc (.cells #[.int .i64 (-1), .int .i64 (100 * (1 + c4)), .int .i64 0, .int .i64 (100 * (1 + c5)), .int .i64 1, .int .i64 (50 * (1 + c6)), .int .i64 1, .int .i64 (50 * (1 + c7))] 73)).heap.size) := κ (Nat.lt_of_lt_of_le lt3.out (by simp))
      have tR : Hid (gR < (wD.alloc (.cells #[.int .i64 (-1), .int .i64 (100 * (1 + c4)), .int .i64 0, .int .i64 (100 * (1 + c5)), .int .i64 1, .int .i64 (50 * (1 + c6)), .int .i64 1, .int .i64 (50 * (1 + c7))] 73)).heap.size) := κ (Nat.lt_of_lt_of_le ltR.out (by simp))
      have MB := κ (NB.out.alloc (.cells #[.int .i64 (-1), .int .i64 (100 * (1 + c4)), .int .i64 0, .int .i64 (100 * (1 + c5)), .int .i64 1, .int .i64 (50 * (1 + c6)), .int .i64 1, .int .i64 (50 * (1 + c7))] 73))
      clear HT zD bD lt3 ltR NB
      generalize wD.alloc (.cells #[.int .i64 (-1), .int .i64 (100 * (1 + c4)), .int .i64 0, .int .i64 (100 * (1 + c5)), .int .i64 1, .int .i64 (50 * (1 + c6)), .int .i64 1, .int .i64 (50 * (1 + c7))] 73) = wE at HT2 z2 b2 NA t3 tR MB ⊢
      generalize wD.heap.size = gA at NA lA nA ⊢
      refine hK.out _ _ HT2.out ?_
      clear hK K'
      (try simp only [Act.put, List.getElem_toArray, List.getElem_cons_succ, List.getElem_cons_zero, List.setIfInBounds_toArray, List.set_cons_zero, List.set_cons_succ])
      have HT := HT2
      have zD := z2
      have bD := b2
      have lt3 := t3
      have ltR := tR
      clear HT2 z2 b2 t3 tR
      have NB := MB
      clear MB
      generalize wE = wD at *
      refine wpL_next (n := 43) (by kernel_rfl) rfl ?_
      · intro K' hK
        go_simp
        have HT2 := t8_alloc (.cells #[.int .i64 100, .int .i64 50, .int .i64 3000, .float .f64 4591870180066957722, .int .i64 10, .int .i64 1000, .int .i64 10000, .float .f64 4602678819172646912] 74) HT lt3
        have z2 := κ (zD.out.alloc (.cells #[.int .i64 100, .int .i64 50, .int .i64 3000, .float .f64 4591870180066957722, .int .i64 10, .int .i64 1000, .int .i64 10000, .float .f64 4602678819172646912] 74))
        have b2 := κ (bD.out.alloc bD.out.size (.cells #[.int .i64 100, .int .i64 50, .int .i64 3000, .float .f64 4591870180066957722, .int .i64 10, .int .i64 1000, .int .i64 10000, .float .f64 4602678819172646912] 74))
        have NC := κ (Blk.fresh wD 74 #[.int .i64 100, .int .i64 50, .int .i64 3000, .float .f64 4591870180066957722, .int .i64 10, .int .i64 1000, .int .i64 10000, .float .f64 4602678819172646912])
        have lC : Hid (w.heap.size ≤ wD.heap.size) := κ bD.out.size
        have nC : Hid (wD.heap.size ≠ gR) := κ (Nat.ne_of_gt ltR.out)
        have t3 : Hid (g3 < (wD.alloc (.cells #[.int .i64 100, .int .i64 50, .int .i64 3000, .float .f64 4591870180066957722, .int .i64 10, .int .i64 1000, .int .i64 10000, .float .f64 4602678819172646912] 74)).heap.size) := κ (Nat.lt_of_lt_of_le lt3.out (by simp))
        have tR : Hid (gR < (wD.alloc (.cells #[.int .i64 100, .int .i64 50, .int .i64 3000, .float .f64 4591870180066957722, .int .i64 10, .int .i64 1000, .int .i64 10000, .float .f64 4602678819172646912] 74)).heap.size) := κ (Nat.lt_of_lt_of_le ltR.out (by simp))
        have MB := κ (NB.out.alloc (.cells #[.int .i64 100, .int .i64 50, .int .i64 3000, .float .f64 4591870180066957722, .int .i64 10, .int .i64 1000, .int .i64 10000, .float .f64 4602678819172646912] 74))
        have MA := κ (NA.out.alloc (.cells #[.int .i64 100, .int .i64 50, .int .i64 3000, .float .f64 4591870180066957722, .int .i64 10, .int .i64 1000, .int .i64 10000, .float .f64 4602678819172646912] 74))
        clear HT zD bD lt3 ltR NB NA
        generalize wD.alloc (.cells #[.int .i64 100, .int .i64 50, .int .i64 3000, .float .f64 4591870180066957722, .int .i64 10, .int .i64 1000, .int .i64 10000, .float .f64 4602678819172646912] 74) = wE at HT2 z2 b2 NC t3 tR MB MA ⊢
        generalize wD.heap.size = gC at NC lC nC ⊢
        refine hK.out _ _ HT2.out ?_
        clear hK K'
        (try simp only [Act.put, List.getElem_toArray, List.getElem_cons_succ, List.getElem_cons_zero, List.setIfInBounds_toArray, List.set_cons_zero, List.set_cons_succ])
        have HT := HT2
        have zD := z2
        have bD := b2
        have lt3 := t3
        have ltR := tR
        clear HT2 z2 b2 t3 tR
        have NB := MB
        clear MB
        have NA := MA
        clear MA
        generalize wE = wD at *
        refine wpL_word (i := 44) (v := ?_) rfl (by kernel_rfl) (fun _ _ _ h => h) (by kernel_rfl) _ _ _ _ (by kernel_rfl) (by kernel_rfl) (Or.inl ⟨by rfl, ?_⟩) (fun _ => HT.out) ?_
        rotate_left
        · intro w' _
          go_simp
          try with_reducible rfl
        (try simp only [Act.put, List.getElem_toArray, List.getElem_cons_succ, List.getElem_cons_zero, List.setIfInBounds_toArray, List.set_cons_zero, List.set_cons_succ])
        obtain ⟨s0, s1, s2, s3, s4, s5, s6, y0, y1, y2, y3, y4, y5, y6⟩ := z7_of zD.out
        refine wpL_late (n := 45) (by kernel_rfl) rfl (by kernel_rfl) (fun K' hK => ?_)
        go_simp
        refine hK.out _ _ ?_
        clear hK K'
        (try simp only [Act.put, List.getElem_toArray, List.getElem_cons_succ, List.getElem_cons_zero, List.setIfInBounds_toArray, List.set_cons_zero, List.set_cons_succ])
        refine wpL_done (by kernel_rfl) ?_ _
        refine NoPanic.normal ?_
        have fk := st7_blk (v0 := .int .i64 (1 + c0 % 3)) (v1 := .int .i64 (c1 % 4)) (v2 := .int .i64 (1 + c2 % 6)) (v3 := .int .i64 (1 + c3 % 6)) (v4 := .slice (some ⟨gA, 0, none⟩) 4 4) (v5 := .slice (some ⟨gB, 0, none⟩) 3 3) (v6 := .slice (some ⟨gC, 0, none⟩) 2 2) zD.out
        have F := cn_fin (l := l) (a := .int .i64 (1 + c0 % 3)) (b := .int .i64 (c1 % 4)) (c := .int .i64 (1 + c2 % 6)) (d := .int .i64 (1 + c3 % 6)) (e := .slice (some ⟨gA, 0, none⟩) 4 4) (f := .slice (some ⟨gB, 0, none⟩) 3 3) (h := .slice (some ⟨gC, 0, none⟩) 2 2) (κ (by rw [hq.out]; exact NA.out)) NB NC lA lB lC nA nB nC bD hg
        go_wp2_with fail
        obtain ⟨d0, d1, d2, d3, d4, d5, d6⟩ := q7_of fk
        unfold st7 at d0 d1 d2 d3 d4 d5 d6 F
        exact bodyPost_ret (v := .agg #[.int .i64 (1 + c0 % 3), .int .i64 (c1 % 4), .int .i64 (1 + c2 % 6), .int .i64 (1 + c3 % 6), .slice (some ⟨gA, 0, none⟩) 4 4, .slice (some ⟨gB, 0, none⟩) 3 3, .slice (some ⟨gC, 0, none⟩) 2 2]) (by simp [results, Tryd.results11, go_sem, d0, d1, d2, d3, d4, d5, d6]) rfl ⟨gA, gB, gC, by rw [hv.out], F⟩
    · intro K' hK
      go_simp
      have HT2 := t8_alloc (.cells #[.int .i64 100, .int .i64 50, .int .i64 3000, .float .f64 4591870180066957722, .int .i64 10, .int .i64 1000, .int .i64 10000, .float .f64 4602678819172646912] 74) HT lt3
      have z2 := κ (zD.out.alloc (.cells #[.int .i64 100, .int .i64 50, .int .i64 3000, .float .f64 4591870180066957722, .int .i64 10, .int .i64 1000, .int .i64 10000, .float .f64 4602678819172646912] 74))
      have b2 := κ (bD.out.alloc bD.out.size (.cells #[.int .i64 100, .int .i64 50, .int .i64 3000, .float .f64 4591870180066957722, .int .i64 10, .int .i64 1000, .int .i64 10000, .float .f64 4602678819172646912] 74))
      have NC := κ (Blk.fresh wD 74 #[.int .i64 100, .int .i64 50, .int .i64 3000, .float .f64 4591870180066957722, .int .i64 10, .int .i64 1000, .int .i64 10000, .float .f64 4602678819172646912])
      have lC : Hid (w.heap.size ≤ wD.heap.size) := κ bD.out.size
      have nC : Hid (wD.heap.size ≠ gR) := κ (Nat.ne_of_gt ltR.out)
      have t3 : Hid (g3 < (wD.alloc (.cells #[.int .i64 100, .int .i64 50, .int .i64 3000, .float .f64 4591870180066957722, .int .i64 10, .int .i64 1000, .int .i64 10000, .float .f64 4602678819172646912] 74)).heap.size) := κ (Nat.lt_of_lt_of_le lt3.out (by simp))
      have tR : Hid (gR < (wD.alloc (.cells #[.int .i64 100, .int .i64 50, .int .i64 3000, .float .f64 4591870180066957722, .int .i64 10, .int .i64 1000, .int .i64 10000, .float .f64 4602678819172646912] 74)).heap.size) := κ (Nat.lt_of_lt_of_le ltR.out (by simp))
      have MB := κ (NB.out.alloc (.cells #[.int .i64 100, .int .i64 50, .int .i64 3000, .float .f64 4591870180066957722, .int .i64 10, .int .i64 1000, .int .i64 10000, .float .f64 4602678819172646912] 74))
      clear HT zD bD lt3 ltR NB
      generalize wD.alloc (.cells #[.int .i64 100, .int .i64 50, .int .i64 3000, .float .f64 4591870180066957722, .int .i64 10, .int .i64 1000, .int .i64 10000, .float .f64 4602678819172646912] 74) = wE at HT2 z2 b2 NC t3 tR MB ⊢
      generalize wD.heap.size = gC at NC lC nC ⊢
      refine hK.out _ _ HT2.out ?_
      clear hK K'
      (try simp only [Act.put, List.getElem_toArray, List.getElem_cons_succ, List.getElem_cons_zero, List.setIfInBounds_toArray, List.set_cons_zero, List.set_cons_succ])
      have HT := HT2
      have zD := z2
      have bD := b2
      have lt3 := t3
      have ltR := tR
      clear HT2 z2 b2 t3 tR
      have NB := MB
      clear MB
      generalize wE = wD at *
      refine wpL_next (n := 39) (by kernel_rfl) rfl ?_
      · intro K' hK
        go_simp
        have HT2 := t8_alloc (.cells #[.int .i64 (-1), .int .i64 (100 * (1 + c4)), .int .i64 0, .int .i64 (100 * (1 + c5)), .int .i64 1, .int .i64 (50 * (1 + c6)), .int .i64 1, .int .i64 (50 * (1 + c7))] 73) HT lt3
        have z2 := κ (zD.out.alloc (.cells #[.int .i64 (-1), .int .i64 (100 * (1 + c4)), .int .i64 0, .int .i64 (100 * (1 + c5)), .int .i64 1, .int .i64 (50 * (1 + c6)), .int .i64 1, .int .i64 (50 * (1 + c7))] 73))
        have b2 := κ (bD.out.alloc bD.out.size (.cells #[.int .i64 (-1), .int .i64 (100 * (1 + c4)), .int .i64 0, .int .i64 (100 * (1 + c5)), .int .i64 1, .int .i64 (50 * (1 + c6)), .int .i64 1, .int .i64 (50 * (1 + c7))] 73))
        have NA := κ (Blk.fresh wD 73 #[.int .i64 (-1), .int .i64 (100 * (1 + c4)), .int .i64 0, .int .i64 (100 * (1 + c5)), .int .i64 1, .int .i64 (50 * (1 + c6)), .int .i64 1, .int .i64 (50 * (1 + c7))])
        have lA : Hid (w.heap.size ≤ wD.heap.size) := κ bD.out.size
        have nA : Hid (wD.heap.size ≠ gR) := κ (Nat.ne_of_gt ltR.out)
        have t3 : Hid (g3 < (wD.alloc (.cells #[.int .i64 (-1), .int .i64 (100 * (1 + c4)), .int .i64 0, .int .i64 (100 * (1 + c5)), .int .i64 1, .int .i64 (50 * (1 + c6)), .int .i64 1, .int .i64 (50 * (1 + c7))] 73)).heap.size) := κ (Nat.lt_of_lt_of_le lt3.out (by simp))
        have tR : Hid (gR < (wD.alloc (.cells #[.int .i64 (-1), .int .i64 (100 * (1 + c4)), .int .i64 0, .int .i64 (100 * (1 + c5)), .int .i64 1, .int .i64 (50 * (1 + c6)), .int .i64 1, .int .i64 (50 * (1 + c7))] 73)).heap.size) := κ (Nat.lt_of_lt_of_le ltR.out (by simp))
        have MB := κ (NB.out.alloc (.cells #[.int .i64 (-1), .int .i64 (100 * (1 + c4)), .int .i64 0, .int .i64 (100 * (1 + c5)), .int .i64 1, .int .i64 (50 * (1 + c6)), .int .i64 1, .int .i64 (50 * (1 + c7))] 73))
        have MC := κ (NC.out.alloc (.cells #[.int .i64 (-1), .int .i64 (100 * (1 + c4)), .int .i64 0, .int .i64 (100 * (1 + c5)), .int .i64 1, .int .i64 (50 * (1 + c6)), .int .i64 1, .int .i64 (50 * (1 + c7))] 73))
        clear HT zD bD lt3 ltR NB NC
        generalize wD.alloc (.cells #[.int .i64 (-1), .int .i64 (100 * (1 + c4)), .int .i64 0, .int .i64 (100 * (1 + c5)), .int .i64 1, .int .i64 (50 * (1 + c6)), .int .i64 1, .int .i64 (50 * (1 + c7))] 73) = wE at HT2 z2 b2 NA t3 tR MB MC ⊢
        generalize wD.heap.size = gA at NA lA nA ⊢
        refine hK.out _ _ HT2.out ?_
        clear hK K'
        (try simp only [Act.put, List.getElem_toArray, List.getElem_cons_succ, List.getElem_cons_zero, List.setIfInBounds_toArray, List.set_cons_zero, List.set_cons_succ])
        have HT := HT2
        have zD := z2
        have bD := b2
        have lt3 := t3
        have ltR := tR
        clear HT2 z2 b2 t3 tR
        have NB := MB
        clear MB
        have NC := MC
        clear MC
        generalize wE = wD at *
        refine wpL_word (i := 44) (v := ?_) rfl (by kernel_rfl) (fun _ _ _ h => h) (by kernel_rfl) _ _ _ _ (by kernel_rfl) (by kernel_rfl) (Or.inl ⟨by rfl, ?_⟩) (fun _ => HT.out) ?_
        rotate_left
        · intro w' _
          go_simp
          try with_reducible rfl
        (try simp only [Act.put, List.getElem_toArray, List.getElem_cons_succ, List.getElem_cons_zero, List.setIfInBounds_toArray, List.set_cons_zero, List.set_cons_succ])
        obtain ⟨s0, s1, s2, s3, s4, s5, s6, y0, y1, y2, y3, y4, y5, y6⟩ := z7_of zD.out
        refine wpL_late (n := 45) (by kernel_rfl) rfl (by kernel_rfl) (fun K' hK => ?_)
        go_simp
        refine hK.out _ _ ?_
        clear hK K'
        (try simp only [Act.put, List.getElem_toArray, List.getElem_cons_succ, List.getElem_cons_zero, List.setIfInBounds_toArray, List.set_cons_zero, List.set_cons_succ])
        refine wpL_done (by kernel_rfl) ?_ _
        refine NoPanic.normal ?_
        have fk := st7_blk (v0 := .int .i64 (1 + c0 % 3)) (v1 := .int .i64 (c1 % 4)) (v2 := .int .i64 (1 + c2 % 6)) (v3 := .int .i64 (1 + c3 % 6)) (v4 := .slice (some ⟨gA, 0, none⟩) 4 4) (v5 := .slice (some ⟨gB, 0, none⟩) 3 3) (v6 := .slice (some ⟨gC, 0, none⟩) 2 2) zD.out
        have F := cn_fin (l := l) (a := .int .i64 (1 + c0 % 3)) (b := .int .i64 (c1 % 4)) (c := .int .i64 (1 + c2 % 6)) (d := .int .i64 (1 + c3 % 6)) (e := .slice (some ⟨gA, 0, none⟩) 4 4) (f := .slice (some ⟨gB, 0, none⟩) 3 3) (h := .slice (some ⟨gC, 0, none⟩) 2 2) (κ (by rw [hq.out]; exact NA.out)) NB NC lA lB lC nA nB nC bD hg
        go_wp2_with fail
        obtain ⟨d0, d1, d2, d3, d4, d5, d6⟩ := q7_of fk
        unfold st7 at d0 d1 d2 d3 d4 d5 d6 F
        exact bodyPost_ret (v := .agg #[.int .i64 (1 + c0 % 3), .int .i64 (c1 % 4), .int .i64 (1 + c2 % 6), .int .i64 (1 + c3 % 6), .slice (some ⟨gA, 0, none⟩) 4 4, .slice (some ⟨gB, 0, none⟩) 3 3, .slice (some ⟨gC, 0, none⟩) 2 2]) (by simp [results, Tryd.results11, go_sem, d0, d1, d2, d3, d4, d5, d6]) rfl ⟨gA, gB, gC, by rw [hv.out], F⟩
  · intro K' hK
    go_simp
    have HT2 := t8_alloc (.cells #[.int .i64 100, .int .i64 50, .int .i64 3000, .float .f64 4591870180066957722, .int .i64 10, .int .i64 1000, .int .i64 10000, .float .f64 4602678819172646912] 74) HT lt3
    have z2 := κ (zD.out.alloc (.cells #[.int .i64 100, .int .i64 50, .int .i64 3000, .float .f64 4591870180066957722, .int .i64 10, .int .i64 1000, .int .i64 10000, .float .f64 4602678819172646912] 74))
    have b2 := κ (bD.out.alloc bD.out.size (.cells #[.int .i64 100, .int .i64 50, .int .i64 3000, .float .f64 4591870180066957722, .int .i64 10, .int .i64 1000, .int .i64 10000, .float .f64 4602678819172646912] 74))
    have NC := κ (Blk.fresh wD 74 #[.int .i64 100, .int .i64 50, .int .i64 3000, .float .f64 4591870180066957722, .int .i64 10, .int .i64 1000, .int .i64 10000, .float .f64 4602678819172646912])
    have lC : Hid (w.heap.size ≤ wD.heap.size) := κ bD.out.size
    have nC : Hid (wD.heap.size ≠ gR) := κ (Nat.ne_of_gt ltR.out)
    have t3 : Hid (g3 < (wD.alloc (.cells #[.int .i64 100, .int .i64 50, .int .i64 3000, .float .f64 4591870180066957722, .int .i64 10, .int .i64 1000, .int .i64 10000, .float .f64 4602678819172646912] 74)).heap.size) := κ (Nat.lt_of_lt_of_le lt3.out (by simp))
    have tR : Hid (gR < (wD.alloc (.cells #[.int .i64 100, .int .i64 50, .int .i64 3000, .float .f64 4591870180066957722, .int .i64 10, .int .i64 1000, .int .i64 10000, .float .f64 4602678819172646912] 74)).heap.size) := κ (Nat.lt_of_lt_of_le ltR.out (by simp))
    clear HT zD bD lt3 ltR
    generalize wD.alloc (.cells #[.int .i64 100, .int .i64 50, .int .i64 3000, .float .f64 4591870180066957722, .int .i64 10, .int .i64 1000, .int .i64 10000, .float .f64 4602678819172646912] 74) = wE at HT2 z2 b2 NC t3 tR ⊢
    generalize wD.heap.size = gC at NC lC nC ⊢
    refine hK.out _ _ HT2.out ?_
    clear hK K'
    (try simp only [Act.put, List.getElem_toArray, List.getElem_cons_succ, List.getElem_cons_zero, List.setIfInBounds_toArray, List.set_cons_zero, List.set_cons_succ])
    have HT := HT2
    have zD := z2
    have bD := b2
    have lt3 := t3
    have ltR := tR
    clear HT2 z2 b2 t3 tR
    generalize wE = wD at *
    refine wpL_two (m := 39) (n := 40) (by kernel_rfl) rfl rfl ?_ ?_
    · intro K' hK
      go_simp
      have HT2 := t8_alloc (.cells #[.int .i64 (-1), .int .i64 (100 * (1 + c4)), .int .i64 0, .int .i64 (100 * (1 + c5)), .int .i64 1, .int .i64 (50 * (1 + c6)), .int .i64 1, .int .i64 (50 * (1 + c7))] 73) HT lt3
      have z2 := κ (zD.out.alloc (.cells #[.int .i64 (-1), .int .i64 (100 * (1 + c4)), .int .i64 0, .int .i64 (100 * (1 + c5)), .int .i64 1, .int .i64 (50 * (1 + c6)), .int .i64 1, .int .i64 (50 * (1 + c7))] 73))
      have b2 := κ (bD.out.alloc bD.out.size (.cells #[.int .i64 (-1), .int .i64 (100 * (1 + c4)), .int .i64 0, .int .i64 (100 * (1 + c5)), .int .i64 1, .int .i64 (50 * (1 + c6)), .int .i64 1, .int .i64 (50 * (1 + c7))] 73))
      have NA := κ (Blk.fresh wD 73 #[.int .i64 (-1), .int .i64 (100 * (1 + c4)), .int .i64 0, .int .i64 (100 * (1 + c5)), .int .i64 1, .int .i64 (50 * (1 + c6)), .int .i64 1, .int .i64 (50 * (1 + c7))])
      have lA : Hid (w.heap.size ≤ wD.heap.size) := κ bD.out.size
      have nA : Hid (wD.heap.size ≠ gR) := κ (Nat.ne_of_gt ltR.out)
      have t3 : Hid (g3 < (wD.alloc (.cells #[.int .i64 (-1), .int .i64 (100 * (1 + c4)), .int .i64 0, .int .i64 (100 * (1 + c5)), .int .i64 1, .int .i64 (50 * (1 + c6)), .int .i64 1, .int .i64 (50 * (1 + c7))] 73)).heap.size) := κ (Nat.lt_of_lt_of_le lt3.out (by simp))
      have tR : Hid (gR < (wD.alloc (.cells #[.int .i64 (-1), .int .i64 (100 * (1 + c4)), .int .i64 0, .int .i64 (100 * (1 + c5)), .int .i64 1, .int .i64 (50 * (1 + c6)), .int .i64 1, .int .i64 (50 * (1 + c7))] 73)).heap.size) := κ (Nat.lt_of_lt_of_le ltR.out (by simp))
      have MC := κ (NC.out.alloc (.cells #[.int .i64 (-1), .int .i64 (100 * (1 + c4)), .int .i64 0, .int .i64 (100 * (1 + c5)), .int .i64 1, .int .i64 (50 * (1 + c6)), .int .i64 1, .int .i64 (50 * (1 + c7))] 73))
      clear HT zD bD lt3 ltR NC
      generalize wD.alloc (.cells #[.int .i64 (-1), .int .i64 (100 * (1 + c4)), .int .i64 0, .int .i64 (100 * (1 + c5)), .int .i64 1, .int .i64 (50 * (1 + c6)), .int .i64 1, .int .i64 (50 * (1 + c7))] 73) = wE at HT2 z2 b2 NA t3 tR MC ⊢
      generalize wD.heap.size = gA at NA lA nA ⊢
      refine hK.out _ _ HT2.out ?_
      clear hK K'
      (try simp only [Act.put, List.getElem_toArray, List.getElem_cons_succ, List.getElem_cons_zero, List.setIfInBounds_toArray, List.set_cons_zero, List.set_cons_succ])
      have HT := HT2
      have zD := z2
      have bD := b2
      have lt3 := t3
      have ltR := tR
      clear HT2 z2 b2 t3 tR
      have NC := MC
      clear MC
      generalize wE = wD at *
      refine wpL_next (n := 40) (by kernel_rfl) rfl ?_
      · intro K' hK
        go_simp
        have HT2 := t8_alloc (.cells #[.int .i64 2, .int .i64 3, .int .i64 2] 3) HT lt3
        have z2 := κ (zD.out.alloc (.cells #[.int .i64 2, .int .i64 3, .int .i64 2] 3))
        have b2 := κ (bD.out.alloc bD.out.size (.cells #[.int .i64 2, .int .i64 3, .int .i64 2] 3))
        have NB := κ (Blk.fresh wD 3 #[.int .i64 2, .int .i64 3, .int .i64 2])
        have lB : Hid (w.heap.size ≤ wD.heap.size) := κ bD.out.size
        have nB : Hid (wD.heap.size ≠ gR) := κ (Nat.ne_of_gt ltR.out)
        have t3 : Hid (g3 < (wD.alloc (.cells #[.int .i64 2, .int .i64 3, .int .i64 2] 3)).heap.size) := κ (Nat.lt_of_lt_of_le lt3.out (by simp))
        have tR : Hid (gR < (wD.alloc (.cells #[.int .i64 2, .int .i64 3, .int .i64 2] 3)).heap.size) := κ (Nat.lt_of_lt_of_le ltR.out (by simp))
        have MC := κ (NC.out.alloc (.cells #[.int .i64 2, .int .i64 3, .int .i64 2] 3))
        have MA := κ (NA.out.alloc (.cells #[.int .i64 2, .int .i64 3, .int .i64 2] 3))
        clear HT zD bD lt3 ltR NC NA
        generalize wD.alloc (.cells #[.int .i64 2, .int .i64 3, .int .i64 2] 3) = wE at HT2 z2 b2 NB t3 tR MC MA ⊢
        generalize wD.heap.size = gB at NB lB nB ⊢
        refine hK.out _ _ HT2.out ?_
        clear hK K'
        (try simp only [Act.put, List.getElem_toArray, List.getElem_cons_succ, List.getElem_cons_zero, List.setIfInBounds_toArray, List.set_cons_zero, List.set_cons_succ])
        have HT := HT2
        have zD := z2
        have bD := b2
        have lt3 := t3
        have ltR := tR
        clear HT2 z2 b2 t3 tR
        have NC := MC
        clear MC
        have NA := MA
        clear MA
        generalize wE = wD at *
        refine wpL_word (i := 44) (v := ?_) rfl (by kernel_rfl) (fun _ _ _ h => h) (by kernel_rfl) _ _ _ _ (by kernel_rfl) (by kernel_rfl) (Or.inl ⟨by rfl, ?_⟩) (fun _ => HT.out) ?_
        rotate_left
        · intro w' _
          go_simp
          try with_reducible rfl
        (try simp only [Act.put, List.getElem_toArray, List.getElem_cons_succ, List.getElem_cons_zero, List.setIfInBounds_toArray, List.set_cons_zero, List.set_cons_succ])
        obtain ⟨s0, s1, s2, s3, s4, s5, s6, y0, y1, y2, y3, y4, y5, y6⟩ := z7_of zD.out
        refine wpL_late (n := 45) (by kernel_rfl) rfl (by kernel_rfl) (fun K' hK => ?_)
        go_simp
        refine hK.out _ _ ?_
        clear hK K'
        (try simp only [Act.put, List.getElem_toArray, List.getElem_cons_succ, List.getElem_cons_zero, List.setIfInBounds_toArray, List.set_cons_zero, List.set_cons_succ])
        refine wpL_done (by kernel_rfl) ?_ _
        refine NoPanic.normal ?_
        have fk := st7_blk (v0 := .int .i64 (1 + c0 % 3)) (v1 := .int .i64 (c1 % 4)) (v2 := .int .i64 (1 + c2 % 6)) (v3 := .int .i64 (1 + c3 % 6)) (v4 := .slice (some ⟨gA, 0, none⟩) 4 4) (v5 := .slice (some ⟨gB, 0, none⟩) 3 3) (v6 := .slice (some ⟨gC, 0, none⟩) 2 2) zD.out
        have F := cn_fin (l := l) (a := .int .i64 (1 + c0 % 3)) (b := .int .i64 (c1 % 4)) (c := .int .i64 (1 + c2 % 6)) (d := .int .i64 (1 + c3 % 6)) (e := .slice (some ⟨gA, 0, none⟩) 4 4) (f := .slice (some ⟨gB, 0, none⟩) 3 3) (h := .slice (some ⟨gC, 0, none⟩) 2 2) (κ (by rw [hq.out]; exact NA.out)) NB NC lA lB lC nA nB nC bD hg
        go_wp2_with fail
        obtain ⟨d0, d1, d2, d3, d4, d5, d6⟩ := q7_of fk
        unfold st7 at d0 d1 d2 d3 d4 d5 d6 F
        exact bodyPost_ret (v := .agg #[.int .i64 (1 + c0 % 3), .int .i64 (c1 % 4), .int .i64 (1 + c2 % 6), .int .i64 (1 + c3 % 6), .slice (some ⟨gA, 0, none⟩) 4 4, .slice (some ⟨gB, 0, none⟩) 3 3, .slice (some ⟨gC, 0, none⟩) 2 2]) (by simp [results, Tryd.results11, go_sem, d0, d1, d2, d3, d4, d5, d6]) rfl ⟨gA, gB, gC, by rw [hv.out], F⟩
    · intro K' hK
      go_simp
      have HT2 := t8_alloc (.cells #[.int .i64 2, .int .i64 3, .int .i64 2] 3) HT lt3
      have z2 := κ (zD.out.alloc (.cells #[.int .i64 2, .int .i64 3, .int .i64 2] 3))
      have b2 := κ (bD.out.alloc bD.out.size (.cells #[.int .i64 2, .int .i64 3, .int .i64 2] 3))
      have NB := κ (Blk.fresh wD 3 #[.int .i64 2, .int .i64 3, .int .i64 2])
      have lB : Hid (w.heap.size ≤ wD.heap.size) := κ bD.out.size
      have nB : Hid (wD.heap.size ≠ gR) := κ (Nat.ne_of_gt ltR.out)
      have t3 : Hid (g3 < (wD.alloc (.cells #[.int .i64 2, .int .i64 3, .int .i64 2] 3)).heap.size) := κ (Nat.lt_of_lt_of_le lt3.out (by simp))
      have tR : Hid (gR < (wD.alloc (.cells #[.int .i64 2, .int .i64 3, .int .i64 2] 3)).heap.size) := κ (Nat.lt_of_lt_of_le ltR.out (by simp))
      have MC := κ (NC.out.alloc (.cells #[.int .i64 2, .int .i64 3, .int .i64 2] 3))
      clear HT zD bD lt3 ltR NC
      generalize wD.alloc (.cells #[.int .i64 2, .int .i64 3, .int .i64 2] 3) = wE at HT2 z2 b2 NB t3 tR MC ⊢
      generalize wD.heap.size = gB at NB lB nB ⊢
      refine hK.out _ _ HT2.out ?_
      clear hK K'
      (try simp only [Act.put, List.getElem_toArray, List.getElem_cons_succ, List.getElem_cons_zero, List.setIfInBounds_toArray, List.set_cons_zero, List.set_cons_succ])
      have HT := HT2
      have zD := z2
      have bD := b2
      have lt3 := t3
      have ltR := tR
      clear HT2 z2 b2 t3 tR
      have NC := MC
      clear MC
      generalize wE = wD at *
      refine wpL_next (n := 39) (by kernel_rfl) rfl ?_
      · intro K' hK
        go_simp
        have HT2 := t8_alloc (.cells #[.int .i64 (-1), .int .i64 (100 * (1 + c4)), .int .i64 0, .int .i64 (100 * (1 + c5)), .int .i64 1, .int .i64 (50 * (1 + c6)), .int .i64 1, .int .i64 (50 * (1 + c7))] 73) HT lt3
        have z2 := κ (zD.out.alloc (.cells #[.int .i64 (-1), .int .i64 (100 * (1 + c4)), .int .i64 0, .int .i64 (100 * (1 + c5)), .int .i64 1, .int .i64 (50 * (1 + c6)), .int .i64 1, .int .i64 (50 * (1 + c7))] 73))
        have b2 := κ (bD.out.alloc bD.out.size (.cells #[.int .i64 (-1), .int .i64 (100 * (1 + c4)), .int .i64 0, .int .i64 (100 * (1 + c5)), .int .i64 1, .int .i64 (50 * (1 + c6)), .int .i64 1, .int .i64 (50 * (1 + c7))] 73))
        have NA := κ (Blk.fresh wD 73 #[.int .i64 (-1), .int .i64 (100 * (1 + c4)), .int .i64 0, .int .i64 (100 * (1 + c5)), .int .i64 1, .int .i64 (50 * (1 + c6)), .int .i64 1, .int .i64 (50 * (1 + c7))])
        have lA : Hid (w.heap.size ≤ wD.heap.size) := κ bD.out.size
        have nA : Hid (wD.heap.size ≠ gR) := κ (Nat.ne_of_gt ltR.out)
        have t3 : Hid (g3 < (wD.alloc (.cells #[.int .i64 (-1), .int .i64 (100 * (1 + c4)), .int .i64 0, .int .i64 (100 * (1 + c5)), .int .i64 1, .int .i64 (50 * (1 + c6)), .int .i64 1, .int .i64 (50 * (1 + c7))] 73)).heap.size) := κ (Nat.lt_of_lt_of_le lt3.out (by simp))
        have tR : Hid (gR < (wD.alloc (.cells #[.int .i64 (-1), .int .i64 (100 * (1 + c4)), .int .i64 0, .int .i64 (100 * (1 + c5)), .int .i64 1, .int .i64 (50 * (1 + c6)), .int .i64 1, .int .i64 (50 * (1 + c7))] 73)).heap.size) := κ (Nat.lt_of_lt_of_le ltR.out (by simp))
        have MC := κ (NC.out.alloc (.cells #[.int .i64 (-1), .int .i64 (100 * (1 + c4)), .int .i64 0, .int .i64 (100 * (1 + c5)), .int .i64 1, .int .i64 (50 * (1 + c6)), .int .i64 1, .int .i64 (50 * (1 + c7))] 73))
        have MB := κ (NB.out.alloc (.cells #[.int .i64 (-1), .int .i64 (100 * (1 + c4)), .int .i64 0, .int .i64 (100 * (1 + c5)), .int .i64 1, .int .i64 (50 * (1 + c6)), .int .i64 1, .int .i64 (50 * (1 + c7))] 73))
        clear HT zD bD lt3 ltR NC NB
        generalize wD.alloc (.cells #[.int .i64 (-1), .int .i64 (100 * (1 + c4)), .int .i64 0, .int .i64 (100 * (1 + c5)), .int .i64 1, .int .i64 (50 * (1 + c6)), .int .i64 1, .int .i64 (50 * (1 + c7))] 73) = wE at HT2 z2 b2 NA t3 tR MC MB ⊢
        generalize wD.heap.size = gA at NA lA nA ⊢
        refine hK.out _ _ HT2.out ?_
        clear hK K'
        (try simp only [Act.put, List.getElem_toArray, List.getElem_cons_succ, List.getElem_cons_zero, List.setIfInBounds_toArray, List.set_cons_zero, List.set_cons_succ])
        have HT := HT2
        have zD := z2
        have bD := b2
        have lt3 := t3
        have ltR := tR
        clear HT2 z2 b2 t3 tR
        have NC := MC
        clear MC
        have NB := MB
        clear MB
        generalize wE = wD at *
        refine wpL_word (i := 44) (v := ?_) rfl (by kernel_rfl) (fun _ _ _ h => h) (by kernel_rfl) _ _ _ _ (by kernel_rfl) (by kernel_rfl) (Or.inl ⟨by rfl, ?_⟩) (fun _ => HT.out) ?_
        rotate_left
        · intro w' _
          go_simp
          try with_reducible rfl
        (try simp only [Act.put, List.getElem_toArray, List.getElem_cons_succ, List.getElem_cons_zero, List.setIfInBounds_toArray, List.set_cons_zero, List.set_cons_succ])
        obtain ⟨s0, s1, s2, s3, s4, s5, s6, y0, y1, y2, y3, y4, y5, y6⟩ := z7_of zD.out
        refine wpL_late (n := 45) (by kernel_rfl) rfl (by kernel_rfl) (fun K' hK => ?_)
        go_simp
        refine hK.out _ _ ?_
        clear hK K'
        (try simp only [Act.put, List.getElem_toArray, List.getElem_cons_succ, List.getElem_cons_zero, List.setIfInBounds_toArray, List.set_cons_zero, List.set_cons_succ])
        refine wpL_done (by kernel_rfl) ?_ _
        refine NoPanic.normal ?_
        have fk := st7_blk (v0 := .int .i64 (1 + c0 % 3)) (v1 := .int .i64 (c1 % 4)) (v2 := .int .i64 (1 + c2 % 6)) (v3 := .int .i64 (1 + c3 % 6)) (v4 := .slice (some ⟨gA, 0, none⟩) 4 4) (v5 := .slice (some ⟨gB, 0, none⟩) 3 3) (v6 := .slice (some ⟨gC, 0, none⟩) 2 2) zD.out
        have F := cn_fin (l := l) (a := .int .i64 (1 + c0 % 3)) (b := .int .i64 (c1 % 4)) (c := .int .i64 (1 + c2 % 6)) (d := .int .i64 (1 + c3 % 6)) (e := .slice (some ⟨gA, 0, none⟩) 4 4) (f := .slice (some ⟨gB, 0, none⟩) 3 3) (h := .slice (some ⟨gC, 0, none⟩) 2 2) (κ (by rw [hq.out]; exact NA.out)) NB NC lA lB lC nA nB nC bD hg
        go_wp2_with fail
        obtain ⟨d0, d1, d2, d3, d4, d5, d6⟩ := q7_of fk
        unfold st7 at d0 d1 d2 d3 d4 d5 d6 F
        exact bodyPost_ret (v := .agg #[.int .i64 (1 + c0 % 3), .int .i64 (c1 % 4), .int .i64 (1 + c2 % 6), .int .i64 (1 + c3 % 6), .slice (some ⟨gA, 0, none⟩) 4 4, .slice (some ⟨gB, 0, none⟩) 3 3, .slice (some ⟨gC, 0, none⟩) 2 2]) (by simp [results, Tryd.results11, go_sem, d0, d1, d2, d3, d4, d5, d6]) rfl ⟨gA, gB, gC, by rw [hv.out], F⟩
end Scf
end Go.Proofs.YtmjkhejfhpgiiaaDoor
