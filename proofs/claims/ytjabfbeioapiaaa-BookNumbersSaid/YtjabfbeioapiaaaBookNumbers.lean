/- For every Config, number and shard the law BookNumbers returns true, and changes nothing: the orders of a shard have its number, and so many times the shards more each, in order; all that is open is told by its Id, and nothing else. No condition. -/
import Derived.Test.YtjabfbeioapiaaaBki
import Derived.Test.YtjabfbeioapiaaaBkg
import Derived.Test.YtjabfbeioapiaaaBkt
import Derived.Test.YtjabfbeioapiaaaRul5
import Derived.Test.YtjabfbeioapiaaaOcs
namespace Go.Proofs.Ytjabfbeioapiaaa.bookNumbers
set_option maxRecDepth 100000
open Go.ChangeShapes Go.WideShapes Go.ChangeAt Go.RowKit Mem Tre Ref3 Law3 Fix3 Opn Bnd Flo Cfg CrdB CrdC Rr4 Rul3 Rul5 St7 Rul6 Fcf Fown Rul7 Tl5 Gdc Ocs Bkp Bks Bkf Bkg Bkh Bcl Dlk Stk Apt Bko Bku Bka Bkc Bkq Bki Bkj Bkt Go.Joins Go.Deep
set_option linter.unusedVariables false
set_option linter.unusedSimpArgs false
attribute [local go_sem] run_store_float

theorem own : ownKnob Try.prog.godebug = none := by kernel_rfl
theorem laidOut : laidOutB Try.prog = true := by kernel_rfl

theorem Bm_st4 {w : World} {base gB : Nat} {A C : Option Addr} {rl : List Rc} {b : Bk} (h : Bm w A C rl b) (hf : Fb base A C rl) (hg : gB < base) (v0 v1 v2 v3 : Value) : Bm (st4 w gB v0 v1 v2 v3) A C rl b := by
  have k : ∀ {X : Option Addr} {xs : List Value}, Rd w w.heap.size X xs → (∀ a, X = some a → base ≤ a.block) → Rd (st4 w gB v0 v1 v2 v3) (st4 w gB v0 v1 v2 v3).heap.size X xs := by
    intro X xs hx hn
    have hne : ∀ a, X = some a → a.block ≠ gB := fun a ha => by have := hn a ha; omega
    unfold st4
    exact Rd.keep' (Rd.keep' (Rd.keep' (Rd.keep' hx (Nat.lt_succ_self _) hne _) (Nat.lt_succ_self _) hne _) (Nat.lt_succ_self _) hne _) (Nat.lt_succ_self _) hne _
  exact ⟨k h.r hf.1, h.e, fun i hi => k (h.n i hi) (hf.2.2 i hi), k h.o hf.2.1⟩
theorem mod40 (x : Int) : 0 ≤ wrap64 ((IntKind.u64.wrap x).tmod 40) ∧ wrap64 ((IntKind.u64.wrap x).tmod 40) < 40 := by
  rw [wrap_u64, Int.tmod_eq_emod_of_nonneg (Int.emod_nonneg _ (by decide))]
  unfold wrap64
  omega
theorem modsh (x sk : Int) (h1 : 1 ≤ sk) (h2 : sk ≤ 3) : 0 ≤ wrap64 ((IntKind.u64.wrap x).tmod sk) ∧ wrap64 ((IntKind.u64.wrap x).tmod sk) < sk := by
  rw [wrap_u64, Int.tmod_eq_emod_of_nonneg (Int.emod_nonneg _ (by decide))]
  have a := Int.emod_nonneg (x % 18446744073709551616) (show sk ≠ 0 by omega)
  have b := Int.emod_lt_of_pos (x % 18446744073709551616) (show 0 < sk by omega)
  unfold wrap64
  omega
theorem tdiv_bd (a sk : Int) (h1 : 1 ≤ sk) (h3 : sk ≤ 3) (ha : -500 ≤ a ∧ a ≤ 500) : -1000 ≤ a.tdiv sk ∧ a.tdiv sk ≤ 1000 := by
  have e := Int.tmod_add_mul_tdiv a sk
  have u := Int.tmod_lt_of_pos a (show 0 < sk by omega)
  have l : -sk < a.tmod sk := by
    rcases Int.le_total 0 a with h | h
    · have := Int.tmod_nonneg sk h; omega
    · have := Int.lt_tmod_of_pos a (show 0 < sk by omega); omega
  generalize a.tdiv sk = y at e
  generalize a.tmod sk = x at e u l
  rcases (by omega : sk = 1 ∨ sk = 2 ∨ sk = 3) with h | h | h <;> subst h <;> omega
def odN (sn i : Nat) : Od := ⟨(sn : Int), 0, false, 10, 5, (i : Int), 0⟩
def entN (sk : Int) (sn i : Nat) : En := ⟨sn + sk * i, odN sn i, 5, 1, 3⟩
def bkI (sk : Int) (sn wn : Nat) : Nat → Bk
  | 0 => beginB 4 sn
  | i + 1 => addF sk wn (bkI sk sn wn i) (odN sn i) 3
theorem bkI_inv (sk : Int) (sn wn : Nat) (hs : sn ≤ 3) (i : Nat) : Fw i (bkI sk sn wn i) ∧ (bkI sk sn wn i).rows.length = 4 ∧ (bkI sk sn wn i).sh = sn ∧ (bkI sk sn wn i).ca = i ∧ (bkI sk sn wn i).op = (List.range i).map (entN sk sn) := by
  induction i with
  | zero => exact ⟨Fw_begin (by decide) (by omega) (by omega), by simp [bkI, beginB], rfl, rfl, rfl⟩
  | succ i ih =>
    obtain ⟨h1, h2, h3, h4, h5⟩ := ih
    refine ⟨Fw_add h1 sk _ _ 3 ⟨(show (-9223372036854775808 : Int) ≤ 0 by decide), (show (0 : Int) ≤ 9223372036854775807 by decide)⟩ ⟨(show (-9223372036854775808 : Int) ≤ 10 by decide), (show (10 : Int) ≤ 9223372036854775807 by decide)⟩ ⟨(show (-9223372036854775808 : Int) ≤ 5 by decide), (show (5 : Int) ≤ 9223372036854775807 by decide)⟩, ?_, h3, ?_, ?_⟩
    · show (List.set _ _ _).length = _
      rw [List.length_set]; exact h2
    · show (bkI sk sn wn i).ca + 1 = _
      rw [h4]; rfl
    · show (bkI sk sn wn i).op ++ [_] = _
      rw [h5, h3, h4, List.range_succ, List.map_append]
      rfl
theorem gE_N (sk : Int) (sn i j : Nat) (h : j < i) : gE ((List.range i).map (entN sk sn)) j = entN sk sn j := by simp [gE, h]
theorem find_yes {sk : Int} {sn i : Nat} {z : Int} (h1 : 1 ≤ sk) (hz : (sn : Int) ≤ z) (hm : (z - sn).tmod sk = 0) (hq : (z - sn).tdiv sk < i) :
    findB ((List.range i).map (entN sk sn)) z = true ∧ ∃ o, findE ((List.range i).map (entN sk sn)) z = ⟨z, o, 5, 1, 3⟩ := by
  have hlen : ((List.range i).map (entN sk sn)).length = i := by simp
  have hq0 : 0 ≤ (z - sn).tdiv sk := Int.tdiv_nonneg (by omega) (by omega)
  obtain ⟨p, hp⟩ : ∃ p : Nat, (z - sn).tdiv sk = p := ⟨((z - sn).tdiv sk).toNat, by omega⟩
  have hz2 : z = sn + sk * p := by
    have := Int.tmod_add_mul_tdiv (z - sn) sk
    rw [hm, hp] at this
    omega
  have hlt : posE ((List.range i).map (entN sk sn)) z < i := by
    by_cases h : posE ((List.range i).map (entN sk sn)) z < ((List.range i).map (entN sk sn)).length
    · rw [hlen] at h; exact h
    · exfalso
      have hcon : ∀ (l : List En) (id : Int), ¬ posE l id < l.length → ∀ j, j < l.length → (gE l j).id ≠ id := by
        intro l
        induction l with
        | nil => intro id _ j hj; simp at hj
        | cons e l ih =>
          intro id hn j hj
          unfold posE at hn
          split at hn
          · simp at hn
          · rename_i hne
            cases j with
            | zero => simpa [gE] using hne
            | succ j =>
              have := ih id (by simpa using hn) j (by simpa using hj)
              simpa [gE] using this
      have := hcon _ _ h p (by rw [hlen]; omega)
      rw [gE_N _ _ _ _ (by omega)] at this
      exact this hz2.symm
  have hid := posE_id ((List.range i).map (entN sk sn)) z (by rw [hlen]; exact hlt)
  refine ⟨by unfold findB; rw [hlen]; simp [hlt], odN sn (posE ((List.range i).map (entN sk sn)) z), ?_⟩
  unfold findE
  rw [hlen, if_pos hlt]
  rw [gE_N _ _ _ _ hlt] at hid ⊢
  generalize posE ((List.range i).map (entN sk sn)) z = p' at hid ⊢
  exact congrArg (fun x => (⟨x, odN sn p', 5, 1, 3⟩ : En)) hid
theorem find_no {sk : Int} {sn i : Nat} {z : Int} (h1 : 1 ≤ sk) (h : z < sn ∨ ¬ (z - sn).tmod sk = 0 ∨ ¬ (z - sn).tdiv sk < i) :
    findB ((List.range i).map (entN sk sn)) z = false := by
  have hlen : ((List.range i).map (entN sk sn)).length = i := by simp
  unfold findB
  rw [hlen]
  by_cases hp : posE ((List.range i).map (entN sk sn)) z < i
  · exfalso
    have hid := posE_id ((List.range i).map (entN sk sn)) z (by rw [hlen]; exact hp)
    rw [gE_N _ _ _ _ hp] at hid
    generalize posE ((List.range i).map (entN sk sn)) z = p at hp hid
    have hz : z - sn = sk * p := by
      have : (sn : Int) + sk * p = z := hid
      omega
    have hn : 0 ≤ sk * (p : Int) := Int.mul_nonneg (by omega) (by omega)
    rw [hz, Int.mul_tmod_right, Int.mul_tdiv_cancel_left _ (by omega)] at h
    omega
  · simp [hp]
set_option maxHeartbeats 8000000 in
theorem inner (sh0 wi0 ra0 ta0 : Int) (A B C : Option Addr) (N M K c d f : Nat) (nd : List (Int × Int)) (ac : List Int) (sy : List (Int × Int × Int × Nat)) (n shard : Int) (w : World)
    (hN : Hid (N = nd.length)) (hM : Hid (M = ac.length)) (hK : Hid (K = sy.length)) (hn9 : (nd.length : Int) ≤ 4611686018427387904) (ha9 : (ac.length : Int) ≤ 4611686018427387904) (hk9 : (sy.length : Int) ≤ 4398046511104)
    (hl : Hid (Nds w w.heap.size A nd)) (hu : Hid (Ris w w.heap.size B ac)) (hs : Hid (Btb w w.heap.size C sy)) (hw : Hid (WfN nd)) (hwa : Hid (WfI ac)) (hws : Hid (WfS sy)) :
    Calls Try.prog 4 #[.agg #[.int .i64 sh0, .int .i64 wi0, .int .i64 ra0, .int .i64 ta0, .slice A N c, .slice B M d, .slice C K f], .int .i64 n, .int .i64 shard] w (MadeB true w) := by
  have U0 : Hid (Below w.heap.size w (w.alloc (.cells #[.int .i64 sh0, .int .i64 wi0, .int .i64 ra0, .int .i64 ta0, .slice A N c, .slice B M d, .slice C K f] 52))) := (Below.refl _ _).alloc (Nat.le_refl _) _
  have K0 : Hid (Blk (w.alloc (.cells #[.int .i64 sh0, .int .i64 wi0, .int .i64 ra0, .int .i64 ta0, .slice A N c, .slice B M d, .slice C K f] 52)) w.heap.size 52 #[.int .i64 sh0, .int .i64 wi0, .int .i64 ra0, .int .i64 ta0, .slice A N c, .slice B M d, .slice C K f]) := Blk.fresh _ _ _
  go_enter Try.func4, Try.ntmps4
  go_upto_region 1 with fail
  generalize w.alloc (.cells #[.int .i64 sh0, .int .i64 wi0, .int .i64 ra0, .int .i64 ta0, .slice A N c, .slice B M d, .slice C K f] 52) = w0 at U0 K0 ⊢
  generalize w.heap.size = g0 at K0 ⊢
  obtain ⟨k0, k1, k2, k3, k4, k5, k6⟩ := c7_of K0.out
  go_wp2_with fail
  refine (ref_any sh0 wi0 ra0 ta0 A B C c d f N M K nd ac sy _ hN hM hK (Rd.below' hl.out U0.out U0.out.size) (Rd.below' hu.out U0.out U0.out.size) (Rd.below' hs.out U0.out U0.out.size) (by rw [hK.out]; exact hk9)).mono ?_
  rintro e w1 ⟨A1, B1, C1, c1, d1, f1, rfl, hn1, hu1, hs1, hb1⟩
  have U1 := Lib.hid (below_step U0.out hb1)
  have HN := Lib.hid hn1
  have HU := Lib.hid hu1
  have HS := Lib.hid hs1
  clear k0 k1 k2 k3 k4 k5 k6 K0 U0 hn1 hu1 hs1 hb1
  go_wp2_with fail
  refine (fixc_any sh0 wi0 ra0 ta0 A1 B1 C1 c1 d1 f1 nd ac sy _ HN HU HS hw hwa hws hn9 ha9 (by omega)).mono ?_
  rintro e w2 ⟨sk, wi, ra, ta, nd2, ac2, sy2, hgood, A2, B2, C2, c2, d2, f2, rfl, hn2, hu2, hs2, hb2⟩
  have U2 := Lib.hid (below_step U1.out hb2)
  have HN2 := Lib.hid hn2
  clear HN HU HS U1 hb2 hn2 hu2 hs2
  obtain ⟨nl, hnl⟩ : ∃ n, n = nd2.length := ⟨_, rfl⟩
  obtain ⟨al, hal⟩ : ∃ n, n = ac2.length := ⟨_, rfl⟩
  obtain ⟨sl, hsl⟩ : ∃ n, n = sy2.length := ⟨_, rfl⟩
  have hnl9 : nl ≤ 10 := by rw [hnl]; exact hgood.n2
  have hk1 : 1 ≤ sk := hgood.h1
  have hk3 : sk ≤ 3 := hgood.h2
  obtain ⟨wn, hwn⟩ : ∃ wn : Nat, wi = wn := ⟨wi.toNat, by have := hgood.w1; omega⟩
  have hwn9 : wn ≤ 1000 := by have := hgood.w2; omega
  have HWN := Lib.hid hgood.wn
  rw [← hnl, ← hal, ← hsl]
  have HNL := Lib.hid hnl
  subst hwn
  clear hnl hal hsl hgood
  go_upto_region 5 with fail
  have hs5 := modsh shard sk hk1 hk3
  generalize wrap64 ((IntKind.u64.wrap shard).tmod sk) = s at hs5 ⊢
  obtain ⟨sn, hsn⟩ : ∃ sn : Nat, s = sn := ⟨s.toNat, by omega⟩
  subst hsn
  have hsn9 : sn ≤ 3 := by omega
  have hsn4 : sn < 4 := by omega
  have V1 : Hid (Below w2.heap.size w2 (((w2.alloc (.cells #[.int .i64 sk, .int .i64 (wn : Int), .int .i64 1000, .int .i64 64, .slice A2 nl c2, .slice (some ⟨w2.heap.size + 1, 0, none⟩) 4 4, .slice (some ⟨w2.heap.size + 1 + 1, 0, none⟩) 1 1] 27)).alloc (.cells #[.int .i64 0, .int .i64 0, .int .i64 0, .int .i64 0] 3)).alloc (.cells #[.int .i64 10, .int .i64 100, .int .i64 1000, .float .f64 4602678819172646912] 56))) := (((Below.refl _ _).alloc (Nat.le_refl _) _).alloc (by simp) _).alloc (by simp <;> omega) _
  have KC : Hid (Blk (((w2.alloc (.cells #[.int .i64 sk, .int .i64 (wn : Int), .int .i64 1000, .int .i64 64, .slice A2 nl c2, .slice (some ⟨w2.heap.size + 1, 0, none⟩) 4 4, .slice (some ⟨w2.heap.size + 1 + 1, 0, none⟩) 1 1] 27)).alloc (.cells #[.int .i64 0, .int .i64 0, .int .i64 0, .int .i64 0] 3)).alloc (.cells #[.int .i64 10, .int .i64 100, .int .i64 1000, .float .f64 4602678819172646912] 56)) w2.heap.size 27 #[.int .i64 sk, .int .i64 (wn : Int), .int .i64 1000, .int .i64 64, .slice A2 nl c2, .slice (some ⟨w2.heap.size + 1, 0, none⟩) 4 4, .slice (some ⟨w2.heap.size + 1 + 1, 0, none⟩) 1 1]) := ((Blk.fresh _ _ _).alloc _).alloc _
  have KI : Hid (Blk (((w2.alloc (.cells #[.int .i64 sk, .int .i64 (wn : Int), .int .i64 1000, .int .i64 64, .slice A2 nl c2, .slice (some ⟨w2.heap.size + 1, 0, none⟩) 4 4, .slice (some ⟨w2.heap.size + 1 + 1, 0, none⟩) 1 1] 27)).alloc (.cells #[.int .i64 0, .int .i64 0, .int .i64 0, .int .i64 0] 3)).alloc (.cells #[.int .i64 10, .int .i64 100, .int .i64 1000, .float .f64 4602678819172646912] 56)) (w2.heap.size + 1) 3 #[.int .i64 0, .int .i64 0, .int .i64 0, .int .i64 0]) := Blk.alloc (blk_hd (by simp)) _
  have KS : Hid (Blk (((w2.alloc (.cells #[.int .i64 sk, .int .i64 (wn : Int), .int .i64 1000, .int .i64 64, .slice A2 nl c2, .slice (some ⟨w2.heap.size + 1, 0, none⟩) 4 4, .slice (some ⟨w2.heap.size + 1 + 1, 0, none⟩) 1 1] 27)).alloc (.cells #[.int .i64 0, .int .i64 0, .int .i64 0, .int .i64 0] 3)).alloc (.cells #[.int .i64 10, .int .i64 100, .int .i64 1000, .float .f64 4602678819172646912] 56)) (w2.heap.size + 1 + 1) 56 #[.int .i64 10, .int .i64 100, .int .i64 1000, .float .f64 4602678819172646912]) := blk_hd (by simp)
  have hgC0 : Hid (w.heap.size ≤ w2.heap.size) := U2.out.size
  have HN5 : Hid (Nds (((w2.alloc (.cells #[.int .i64 sk, .int .i64 (wn : Int), .int .i64 1000, .int .i64 64, .slice A2 nl c2, .slice (some ⟨w2.heap.size + 1, 0, none⟩) 4 4, .slice (some ⟨w2.heap.size + 1 + 1, 0, none⟩) 1 1] 27)).alloc (.cells #[.int .i64 0, .int .i64 0, .int .i64 0, .int .i64 0] 3)).alloc (.cells #[.int .i64 10, .int .i64 100, .int .i64 1000, .float .f64 4602678819172646912] 56)) ((((w2.alloc (.cells #[.int .i64 sk, .int .i64 (wn : Int), .int .i64 1000, .int .i64 64, .slice A2 nl c2, .slice (some ⟨w2.heap.size + 1, 0, none⟩) 4 4, .slice (some ⟨w2.heap.size + 1 + 1, 0, none⟩) 1 1] 27)).alloc (.cells #[.int .i64 0, .int .i64 0, .int .i64 0, .int .i64 0] 3)).alloc (.cells #[.int .i64 10, .int .i64 100, .int .i64 1000, .float .f64 4602678819172646912] 56))).heap.size A2 nd2) := Rd.below' HN2.out V1.out V1.out.size
  have U5 := Lib.hid (below_step U2.out V1.out)
  clear V1 U2 HN2
  generalize (((w2.alloc (.cells #[.int .i64 sk, .int .i64 (wn : Int), .int .i64 1000, .int .i64 64, .slice A2 nl c2, .slice (some ⟨w2.heap.size + 1, 0, none⟩) 4 4, .slice (some ⟨w2.heap.size + 1 + 1, 0, none⟩) 1 1] 27)).alloc (.cells #[.int .i64 0, .int .i64 0, .int .i64 0, .int .i64 0] 3)).alloc (.cells #[.int .i64 10, .int .i64 100, .int .i64 1000, .float .f64 4602678819172646912] 56)) = w5 at KC KI KS HN5 U5 ⊢
  obtain ⟨gI, hgI⟩ : ∃ g, g = w2.heap.size + 1 := ⟨_, rfl⟩
  obtain ⟨gS, hgS⟩ : ∃ g, g = w2.heap.size + 1 + 1 := ⟨_, rfl⟩
  have KC5 : Hid (Blk w5 w2.heap.size 27 #[.int .i64 sk, .int .i64 (wn : Int), .int .i64 1000, .int .i64 64, .slice A2 nl c2, .slice (some ⟨gI, 0, none⟩) 4 4, .slice (some ⟨gS, 0, none⟩) 1 1]) := by rw [hgI, hgS]; exact KC.out
  have KI5 : Hid (Ris w5 w5.heap.size (some ⟨gI, 0, none⟩) [0, 0, 0, 0]) := by rw [hgI]; exact KI.out.rd' rfl
  have KS5 : Hid (Smb w5 w5.heap.size (some ⟨gS, 0, none⟩) [((10 : Int), (100 : Int), (1000 : Int), (4602678819172646912 : Nat))]) := by rw [hgS]; exact KS.out.rd' rfl
  simp only [← hgS]
  simp only [← hgI]
  clear hgI hgS KC KI KS
  generalize w2.heap.size = gC at KC5 hgC0 ⊢
  have TX := fun W h1 => to5_any sk (wn : Int) 1000 64 A2 (some ⟨gI, 0, none⟩) (some ⟨gS, 0, none⟩) c2 4 1 nd2 [0, 0, 0, 0] [((10 : Int), (100 : Int), (1000 : Int), (4602678819172646912 : Nat))] W h1
  unfold MadeCf at TX
  rw [← HNL.out] at TX
  obtain ⟨k0, k1, k2, k3, k4, k5, k6⟩ := c7_of KC5.out
  go_wp2_with fail
  refine (TX _ HN5 KI5 KS5 HWN (by omega) (by decide) (by decide)).mono ?_
  rintro e w3 ⟨A3, B3, C3, c3, d3, f3, rfl, hn3, hu3, hs3, hb3⟩
  have U3 : Hid (Below w5.heap.size w5 (w3.alloc (.cells #[.int .i64 sk, .int .i64 (wn : Int), .int .i64 1000, .int .i64 64, .slice A3 nl c3, .slice B3 4 d3, .slice C3 1 f3] 32))) := hb3.alloc hb3.size _
  have X3 : Hid (Blk (w3.alloc (.cells #[.int .i64 sk, .int .i64 (wn : Int), .int .i64 1000, .int .i64 64, .slice A3 nl c3, .slice B3 4 d3, .slice C3 1 f3] 32)) w3.heap.size 32 #[.int .i64 sk, .int .i64 (wn : Int), .int .i64 1000, .int .i64 64, .slice A3 nl c3, .slice B3 4 d3, .slice C3 1 f3]) := Blk.fresh _ _ _
  have K3 := Lib.hid (Blk.below' KC5.out U3.out)
  have B3b := Lib.hid (below_step U5.out U3.out)
  have hneC : Hid (gC < w3.heap.size) := Nat.lt_of_lt_of_le KC5.out.lt hb3.size
  clear hn3 hu3 hs3 hb3 TX HN5 KI5 KS5 U5 k0 k1 k2 k3 k4 k5 k6 KC5 U3
  go_upto_region 6 with fail
  generalize w3.alloc (.cells #[.int .i64 sk, .int .i64 (wn : Int), .int .i64 1000, .int .i64 64, .slice A3 nl c3, .slice B3 4 d3, .slice C3 1 f3] 32) = w4 at X3 K3 B3b ⊢
  generalize w3.heap.size = gX at X3 hneC ⊢
  obtain ⟨k0, k1, k2, k3, k4, k5, k6⟩ := c7_of X3.out
  go_wp2_with fail
  refine (bbegin_any sk (wn : Int) 1000 64 A3 B3 C3 nl 4 1 c3 d3 f3 (sn : Int) _ (by decide)).mono ?_
  rintro e w6 ⟨A0, C0, c0, d0, rl0, he, hm0, hb5⟩
  rw [show bkA A0 C0 c0 d0 (beginF 4 (sn : Int)) = .agg #[.int .i64 (sn : Int), .int .i64 0, .slice A0 4 c0, .slice C0 0 d0] from rfl] at he
  subst he
  have hm0' : Bm w6 A0 C0 rl0 (bkI sk sn wn 0) := hm0
  have U5 : Hid (Below w4.heap.size w4 (w6.alloc (.cells #[.int .i64 (sn : Int), .int .i64 0, .slice A0 4 c0, .slice C0 0 d0] 37))) := hb5.alloc hb5.size _
  have Y5 : Hid (BkV (w6.alloc (.cells #[.int .i64 (sn : Int), .int .i64 0, .slice A0 4 c0, .slice C0 0 d0] 37)) w6.heap.size A0 C0 (sn : Int) 0 4 0 c0 d0 rl0 (bkI sk sn wn 0)) := BkV.new hm0'
  have X5 := Lib.hid (Blk.below' X3.out U5.out)
  have K5 := Lib.hid (Blk.below' K3.out U5.out)
  have B5b := Lib.hid (below_step B3b.out U5.out)
  have hneX : Hid (gX < w6.heap.size) := Nat.lt_of_lt_of_le X3.out.lt hb5.size
  have hB5 : Hid (w.heap.size ≤ w6.heap.size) := Nat.le_trans B3b.out.size hb5.size
  clear k0 k1 k2 k3 k4 k5 k6 hm0 hm0' hb5 U5 X3 K3 B3b
  go_upto_region 7 with fail
  generalize w6.alloc (.cells #[.int .i64 (sn : Int), .int .i64 0, .slice A0 4 c0, .slice C0 0 d0] 37) = w7 at Y5 X5 K5 B5b ⊢
  generalize w6.heap.size = gB at Y5 hneX hB5 ⊢
  have NE : Hid (gC ≠ gB ∧ gX ≠ gB) := ⟨by have := hneC.out; have := hneX.out; omega, by have := hneX.out; omega⟩
  clear hneC
  have hm40 := mod40 n
  go_upto_region 8 with fail
  generalize wrap64 ((IntKind.u64.wrap n).tmod 40) = mm at hm40 ⊢
  obtain ⟨many, hmm⟩ : ∃ k : Nat, mm = k := ⟨mm.toNat, by omega⟩
  subst hmm
  have hmany : many < 40 := by omega
  clear hm40 hs5
  go_wp2_with fail
  go_loopg [12] many (fun q s12 w' => ∃ (i : Nat) (A C : Option Addr) (c d : Nat) (rl : List Rc), i + q = many ∧ s12 = .int .i64 i ∧ Hid (BkV w' gB A C (sn : Int) (i : Int) 4 i c d rl (bkI sk sn wn i)) ∧ Hid (Blk w' gX 32 #[.int .i64 sk, .int .i64 (wn : Int), .int .i64 1000, .int .i64 64, .slice A3 nl c3, .slice B3 4 d3, .slice C3 1 f3]) ∧ Hid (Blk w' gC 27 #[.int .i64 sk, .int .i64 (wn : Int), .int .i64 1000, .int .i64 64, .slice A2 nl c2, .slice (some ⟨gI, 0, none⟩) 4 4, .slice (some ⟨gS, 0, none⟩) 1 1]) ∧ Hid (Below w.heap.size w w'))
  case atStart => exact ⟨0, A0, C0, c0, d0, rl0, by omega, rfl, Y5, X5, K5, B5b⟩
  case round =>
    clear Y5 X5 K5 B5b
    obtain ⟨i, Ab, Cb, cb, db, rl, hq, rfl, Y, X, K, BB⟩ := hrel
    obtain ⟨i1, i2, i3, i4, i5⟩ := bkI_inv sk sn wn hsn9 i
    have HSH : Hid ((sn : Int) = (bkI sk sn wn i).sh ∧ (i : Int) = (bkI sk sn wn i).ca) := ⟨i3.symm, i4.symm⟩
    have HNR : Hid (4 = (bkI sk sn wn i).rows.length) := i2.symm
    have HNO : Hid (i = (bkI sk sn wn i).op.length) := by show _ = _; rw [i5]; simp
    have HOP := Lib.hid i5
    have FW := Lib.hid i1
    clear i1 i2 i3 i4 i5
    by_cases hlt : i < many
    · obtain ⟨q, rfl⟩ : ∃ q, gk = q + 1 := ⟨gk - 1, by omega⟩
      have t0 : decide ((i : Int) < (many : Int)) = true := by simp; omega
      go_wp2_with fail
      refine (order_any (sn : Int) 0 false 10 5 (i : Int) 0 _).mono ?_
      rintro e w8 ⟨rfl, hb7⟩
      have U7 : Hid (Below wr.heap.size wr (w8.alloc (.cells #[.int .i64 (sn : Int), .int .i64 0, .bool false, .int .i64 10, .int .i64 5, .int .i64 (i : Int), .int .i64 0] 41))) := hb7.alloc hb7.size _
      have O7 : Hid (Blk (w8.alloc (.cells #[.int .i64 (sn : Int), .int .i64 0, .bool false, .int .i64 10, .int .i64 5, .int .i64 (i : Int), .int .i64 0] 41)) w8.heap.size 41 #[.int .i64 (sn : Int), .int .i64 0, .bool false, .int .i64 10, .int .i64 5, .int .i64 (i : Int), .int .i64 0]) := Blk.fresh _ _ _
      have Y7 := Lib.hid (Y.out.below U7.out)
      have X7 := Lib.hid (Blk.below' X.out U7.out)
      have K7 := Lib.hid (Blk.below' K.out U7.out)
      have B7 := Lib.hid (below_step BB.out U7.out)
      clear hb7 U7 Y X K BB
      go_upto_region 12 with fail
      generalize w8.alloc (.cells #[.int .i64 (sn : Int), .int .i64 0, .bool false, .int .i64 10, .int .i64 5, .int .i64 (i : Int), .int .i64 0] 41) = w9 at O7 Y7 X7 K7 B7 ⊢
      generalize w8.heap.size = gO at O7 ⊢
      obtain ⟨e0, e1, e2, e3, e4, e5, e6⟩ := c7_of X7.out
      obtain ⟨y0, y1, y2, y3, f0, f1', f2', f3'⟩ := z4_of Y7.out.blk
      obtain ⟨o0, o1, o2, o3, o4, o5, o6⟩ := q7_of O7.out
      have AX := add_any sk 1000 64 wn A3 B3 C3 nl 4 1 c3 d3 f3 (sn : Int) (i : Int) Ab Cb 4 i cb db rl (bkI sk sn wn i) sn 0 10 5 (i : Int) 0 false 3 w9 HSH HNR HNO Y7.out.bm (Lib.hid (FW.out.few (by omega))) hk1 (by omega) hwn9 hsn4
      rw [show addF sk (wn : Int) (bkI sk sn wn i) ⟨(sn : Int), 0, false, 10, 5, (i : Int), 0⟩ 3 = bkI sk sn wn (i + 1) from rfl, ← HSH.out.1, ← HSH.out.2] at AX
      have hbk : ∀ A5 C5 c5 d5, bkA A5 C5 c5 d5 (bkI sk sn wn (i + 1)) = .agg #[.int .i64 (sn : Int), .int .i64 ((i : Int) + 1), .slice A5 4 c5, .slice C5 (i + 1) d5] := by
        intro A5 C5 c5 d5
        obtain ⟨_, j2, j3, j4, j5⟩ := bkI_inv sk sn wn hsn9 (i + 1)
        unfold bkA
        rw [j2, j3, j4, j5]
        simp
      unfold MadeB2 at AX
      simp only [hbk] at AX
      clear hbk
      go_upto_region 14 with (go_at_call 10; refine AX.mono ?_; rintro e w10 ⟨A5, C5, c5, d5, rl5, rfl, hm10, hf10, hb10⟩; have y10 := Blk.below' Y7.out.blk hb10; obtain ⟨p0, p1, p2, p3, q0, q1, q2, q3⟩ := z4_of y10)
      have hlt9 : gB < w9.heap.size := Y7.out.blk.lt
      have B11 : Hid (Below w.heap.size w ((((w10.setCell ⟨gB, 0, none⟩ (.int .i64 (sn : Int))).setCell ⟨gB, 1, none⟩ (.int .i64 ((i : Int) + 1))).setCell ⟨gB, 2, none⟩ (.slice A5 4 c5)).setCell ⟨gB, 3, none⟩ (.slice C5 (i + 1) d5))) := st4_below (below_step B7.out hb10) hB5.out
      have Y11 : Hid (BkV ((((w10.setCell ⟨gB, 0, none⟩ (.int .i64 (sn : Int))).setCell ⟨gB, 1, none⟩ (.int .i64 ((i : Int) + 1))).setCell ⟨gB, 2, none⟩ (.slice A5 4 c5)).setCell ⟨gB, 3, none⟩ (.slice C5 (i + 1) d5)) gB A5 C5 (sn : Int) ((i : Int) + 1) 4 (i + 1) c5 d5 rl5 (bkI sk sn wn (i + 1))) := ⟨st4_blk y10, Bm_st4 hm10 hf10 hlt9 _ _ _ _⟩
      have X11 : Hid (Blk ((((w10.setCell ⟨gB, 0, none⟩ (.int .i64 (sn : Int))).setCell ⟨gB, 1, none⟩ (.int .i64 ((i : Int) + 1))).setCell ⟨gB, 2, none⟩ (.slice A5 4 c5)).setCell ⟨gB, 3, none⟩ (.slice C5 (i + 1) d5)) gX 32 #[.int .i64 sk, .int .i64 (wn : Int), .int .i64 1000, .int .i64 64, .slice A3 nl c3, .slice B3 4 d3, .slice C3 1 f3]) := st4_far (Blk.below' X7.out hb10) NE.out.2
      have K11 : Hid (Blk ((((w10.setCell ⟨gB, 0, none⟩ (.int .i64 (sn : Int))).setCell ⟨gB, 1, none⟩ (.int .i64 ((i : Int) + 1))).setCell ⟨gB, 2, none⟩ (.slice A5 4 c5)).setCell ⟨gB, 3, none⟩ (.slice C5 (i + 1) d5)) gC 27 #[.int .i64 sk, .int .i64 (wn : Int), .int .i64 1000, .int .i64 64, .slice A2 nl c2, .slice (some ⟨gI, 0, none⟩) 4 4, .slice (some ⟨gS, 0, none⟩) 1 1]) := st4_far (Blk.below' K7.out hb10) NE.out.1
      clear p0 p1 p2 p3 q0 q1 q2 q3 y10 hm10 hf10 hb10 e0 e1 e2 e3 e4 e5 e6 y0 y1 y2 y3 f0 f1' f2' f3' o0 o1 o2 o3 o4 o5 o6 AX X7 K7 O7 Y7 B7
      generalize ((((w10.setCell ⟨gB, 0, none⟩ (.int .i64 (sn : Int))).setCell ⟨gB, 1, none⟩ (.int .i64 ((i : Int) + 1))).setCell ⟨gB, 2, none⟩ (.slice A5 4 c5)).setCell ⟨gB, 3, none⟩ (.slice C5 (i + 1) d5)) = w11 at B11 Y11 X11 K11 ⊢
      obtain ⟨k0, k1, k2, k3, k4, k5, k6⟩ := c7_of K11.out
      have pr : 0 ≤ sk * (i : Int) ∧ sk * (i : Int) ≤ 3 * 40 := ⟨Int.mul_nonneg (by omega) (by omega), Int.mul_le_mul hk3 (by omega) (by omega) (by decide)⟩
      have m1 : wrap64 (sk * (i : Int)) = sk * (i : Int) := by unfold wrap64; omega
      have m2 : wrap64 ((sn : Int) + sk * (i : Int)) = (sn : Int) + sk * (i : Int) := by unfold wrap64; omega
      have m3 : ((sn : Int) + sk * (i : Int) != (sn : Int) + sk * (i : Int)) = false := by simp
      clear pr
      go_wp2_with fail
      go_roundg q
      case measure => omega
      case rel => exact ⟨i + 1, A5, C5, c5, d5, rl5, by omega, by go_num, (by rw [Int.natCast_add]; exact Y11), X11, K11, B11⟩
    · have t0 : decide ((i : Int) < (many : Int)) = false := by simp; omega
      have him : i = many := by omega
      subst him
      go_wp2_with fail
      refine (told7_any _).mono ?_
      rintro e w8 ⟨rfl, hb8⟩
      have Y8 := Lib.hid (Y.out.below hb8)
      have K8 := Lib.hid (Blk.below' K.out hb8)
      have B8 := Lib.hid (below_step BB.out hb8)
      clear hb8 Y X K BB
      obtain ⟨y0, y1, y2, y3⟩ := q4_of Y8.out.blk
      have m1 : ((i : Int) != (i : Int)) = false := by simp
      go_wp2_with fail
      clear y0 y1 y2 y3 m1
      go_loopg [15] 133 (fun q s15 w' => ∃ (k : Nat), k + q = 133 ∧ s15 = .int .i64 ((k : Int) - 3) ∧ Hid (BkV w' gB Ab Cb (sn : Int) (i : Int) 4 i cb db rl (bkI sk sn wn i)) ∧ Hid (Blk w' gC 27 #[.int .i64 sk, .int .i64 (wn : Int), .int .i64 1000, .int .i64 64, .slice A2 nl c2, .slice (some ⟨gI, 0, none⟩) 4 4, .slice (some ⟨gS, 0, none⟩) 1 1]) ∧ Hid (Below w.heap.size w w'))
      case atStart => exact ⟨0, by omega, rfl, Y8, K8, B8⟩
      case round =>
        clear Y8 K8 B8
        obtain ⟨k, hk, rfl, Y, K, BB⟩ := hrel
        obtain ⟨z, hz⟩ : ∃ z : Int, z = (k : Int) - 3 := ⟨_, rfl⟩
        rw [← hz]
        have hz1 : -3 ≤ z := by omega
        have HZ := Lib.hid hz
        clear hz
        by_cases hlt : z < 130
        · obtain ⟨q, rfl⟩ : ∃ q, gk = q + 1 := ⟨gk - 1, by have := HZ.out; omega⟩
          have t0 : decide (z < 130) = true := by simp [hlt]
          obtain ⟨y0, y1, y2, y3⟩ := q4_of Y.out.blk
          have FD := find_any (sn : Int) (i : Int) Ab Cb 4 i cb db (bkI sk sn wn i).op z wr HNO Y.out.bm.o (by omega)
          rw [HOP.out] at FD
          have ea : wrap64 (z - (sn : Int)) = z - (sn : Int) := by unfold wrap64; omega
          have ez : wrap64 (z + 1) = z + 1 := by unfold wrap64; omega
          have h0 : ¬ sk = 0 := by omega
          have hdm : -1000 ≤ (z - (sn : Int)).tmod sk ∧ (z - (sn : Int)).tmod sk ≤ 1000 := by
            have h1 := Int.tmod_lt_of_pos (z - (sn : Int)) (show 0 < sk by omega)
            have h2 : -sk < (z - (sn : Int)).tmod sk := by
              rcases Int.le_total 0 (z - (sn : Int)) with h | h
              · have := Int.tmod_nonneg sk h; omega
              · have := Int.lt_tmod_of_pos (z - (sn : Int)) (show 0 < sk by omega); omega
            omega
          obtain ⟨rm, hrm⟩ : ∃ x, x = (z - (sn : Int)).tmod sk := ⟨_, rfl⟩
          have em : (z - (sn : Int)).tmod sk = rm := hrm.symm
          have em2 : wrap64 rm = rm := by unfold wrap64; omega
          obtain ⟨qd, hqd⟩ : ∃ x, x = (z - (sn : Int)).tdiv sk := ⟨_, rfl⟩
          have hdq := tdiv_bd (z - (sn : Int)) sk hk1 hk3 (by omega)
          have eq : (z - (sn : Int)).tdiv sk = qd := hqd.symm
          have eq2 : wrap64 qd = qd := by unfold wrap64; omega
          have HRM := Lib.hid hrm
          have HQD := Lib.hid hqd
          clear hrm hqd hdm hdq
          obtain ⟨k0, k1, k2, k3, k4, k5, k6⟩ := c7_of K.out
          by_cases hg : (sn : Int) ≤ z
          · have t1 : decide ((sn : Int) ≤ z) = true := by simp [hg]
            by_cases hm : rm = 0
            · have t2 : (rm == 0) = true := by simp [hm]
              by_cases hq : qd < (i : Int)
              · have t3 : decide (qd < (i : Int)) = true := by simp [hq]
                obtain ⟨hF, o', hE⟩ := find_yes (sk := sk) (sn := sn) (i := i) (z := z) hk1 (by omega) (by rw [← HRM.out]; exact hm) (by rw [← HQD.out]; exact hq)
                rw [hF, hE] at FD
                obtain ⟨ea', es, ex, ep', eq', en, et⟩ := o'
                rw [enA_eq] at FD
                have mz : (z != z) = false := by simp
                go_upto_region 22 with (go_at_call 13; refine FD.mono ?_; rintro e w9 ⟨rfl, hb9⟩)
                have E9 : Hid (Below wr.heap.size wr (w9.alloc (.cells #[.int .i64 z, .int .i64 ea', .int .i64 es, .bool ex, .int .i64 ep', .int .i64 eq', .int .i64 en, .int .i64 et, .int .i64 5, .int .i64 1, .int .i64 3] 58))) := hb9.alloc hb9.size _
                have Q9 : Hid (Blk (w9.alloc (.cells #[.int .i64 z, .int .i64 ea', .int .i64 es, .bool ex, .int .i64 ep', .int .i64 eq', .int .i64 en, .int .i64 et, .int .i64 5, .int .i64 1, .int .i64 3] 58)) w9.heap.size 58 #[.int .i64 z, .int .i64 ea', .int .i64 es, .bool ex, .int .i64 ep', .int .i64 eq', .int .i64 en, .int .i64 et, .int .i64 5, .int .i64 1, .int .i64 3]) := Blk.fresh _ _ _
                have Y9 := Lib.hid (Y.out.below E9.out)
                have K9 := Lib.hid (Blk.below' K.out E9.out)
                have B9 := Lib.hid (below_step BB.out E9.out)
                clear FD hb9 E9 k0 k1 k2 k3 k4 k5 k6 y0 y1 y2 y3 Y K BB hF hE
                generalize w9.alloc (.cells #[.int .i64 z, .int .i64 ea', .int .i64 es, .bool ex, .int .i64 ep', .int .i64 eq', .int .i64 en, .int .i64 et, .int .i64 5, .int .i64 1, .int .i64 3] 58) = w10 at Y9 K9 B9 Q9 ⊢
                generalize w9.heap.size = gE' at Q9 ⊢
                obtain ⟨k0, k1, k2, k3, k4, k5, k6⟩ := c7_of K9.out
                obtain ⟨d0', d1', d2', d3', d4', d5', d6', d7', d8', d9', d10'⟩ := q11_of Q9.out
                go_wp2_with fail
                go_roundg q
                case measure => omega
                case rel => exact ⟨k + 1, by omega, (by have := HZ.out; rw [this, Int.natCast_add]; congr 1; omega), Y9, K9, B9⟩
              · have t3 : decide (qd < (i : Int)) = false := by simp only [decide_eq_false_iff_not]; exact hq
                have hF := find_no (sk := sk) (sn := sn) (i := i) (z := z) hk1 (Or.inr (Or.inr (by rw [← HQD.out]; exact hq)))
                rw [hF] at FD
                generalize findE ((List.range i).map (entN sk sn)) z = E at FD
                obtain ⟨id, ⟨ea', es, ex, ep', eq', en, et⟩, lf, st, ep⟩ := E
                rw [enA_eq] at FD
                go_upto_region 22 with (go_at_call 13; refine FD.mono ?_; rintro e w9 ⟨rfl, hb9⟩)
                have E9 : Hid (Below wr.heap.size wr (w9.alloc (.cells #[.int .i64 id, .int .i64 ea', .int .i64 es, .bool ex, .int .i64 ep', .int .i64 eq', .int .i64 en, .int .i64 et, .int .i64 lf, .int .i64 st, .int .i64 ep] 58))) := hb9.alloc hb9.size _
                have Y9 := Lib.hid (Y.out.below E9.out)
                have K9 := Lib.hid (Blk.below' K.out E9.out)
                have B9 := Lib.hid (below_step BB.out E9.out)
                clear FD hb9 E9 k0 k1 k2 k3 k4 k5 k6 y0 y1 y2 y3 Y K BB
                generalize w9.alloc (.cells #[.int .i64 id, .int .i64 ea', .int .i64 es, .bool ex, .int .i64 ep', .int .i64 eq', .int .i64 en, .int .i64 et, .int .i64 lf, .int .i64 st, .int .i64 ep] 58) = w10 at Y9 K9 B9 ⊢
                obtain ⟨k0, k1, k2, k3, k4, k5, k6⟩ := c7_of K9.out
                go_wp2_with fail
                go_roundg q
                case measure => omega
                case rel => exact ⟨k + 1, by omega, (by have := HZ.out; rw [this, Int.natCast_add]; congr 1; omega), Y9, K9, B9⟩
            · have t2 : (rm == 0) = false := by rw [beq_eq_false_iff_ne]; exact hm
              have hF := find_no (sk := sk) (sn := sn) (i := i) (z := z) hk1 (Or.inr (Or.inl (by rw [← HRM.out]; exact hm)))
              rw [hF] at FD
              generalize findE ((List.range i).map (entN sk sn)) z = E at FD
              obtain ⟨id, ⟨ea', es, ex, ep', eq', en, et⟩, lf, st, ep⟩ := E
              rw [enA_eq] at FD
              go_upto_region 22 with (go_at_call 13; refine FD.mono ?_; rintro e w9 ⟨rfl, hb9⟩)
              have E9 : Hid (Below wr.heap.size wr (w9.alloc (.cells #[.int .i64 id, .int .i64 ea', .int .i64 es, .bool ex, .int .i64 ep', .int .i64 eq', .int .i64 en, .int .i64 et, .int .i64 lf, .int .i64 st, .int .i64 ep] 58))) := hb9.alloc hb9.size _
              have Y9 := Lib.hid (Y.out.below E9.out)
              have K9 := Lib.hid (Blk.below' K.out E9.out)
              have B9 := Lib.hid (below_step BB.out E9.out)
              clear FD hb9 E9 k0 k1 k2 k3 k4 k5 k6 y0 y1 y2 y3 Y K BB
              generalize w9.alloc (.cells #[.int .i64 id, .int .i64 ea', .int .i64 es, .bool ex, .int .i64 ep', .int .i64 eq', .int .i64 en, .int .i64 et, .int .i64 lf, .int .i64 st, .int .i64 ep] 58) = w10 at Y9 K9 B9 ⊢
              obtain ⟨k0, k1, k2, k3, k4, k5, k6⟩ := c7_of K9.out
              go_wp2_with fail
              go_roundg q
              case measure => omega
              case rel => exact ⟨k + 1, by omega, (by have := HZ.out; rw [this, Int.natCast_add]; congr 1; omega), Y9, K9, B9⟩
          · have t1 : decide ((sn : Int) ≤ z) = false := by simp only [decide_eq_false_iff_not]; exact hg
            have hF := find_no (sk := sk) (sn := sn) (i := i) (z := z) hk1 (Or.inl (by omega))
            rw [hF] at FD
            generalize findE ((List.range i).map (entN sk sn)) z = E at FD
            obtain ⟨id, ⟨ea', es, ex, ep', eq', en, et⟩, lf, st, ep⟩ := E
            rw [enA_eq] at FD
            go_upto_region 22 with (go_at_call 13; refine FD.mono ?_; rintro e w9 ⟨rfl, hb9⟩)
            have E9 : Hid (Below wr.heap.size wr (w9.alloc (.cells #[.int .i64 id, .int .i64 ea', .int .i64 es, .bool ex, .int .i64 ep', .int .i64 eq', .int .i64 en, .int .i64 et, .int .i64 lf, .int .i64 st, .int .i64 ep] 58))) := hb9.alloc hb9.size _
            have Y9 := Lib.hid (Y.out.below E9.out)
            have K9 := Lib.hid (Blk.below' K.out E9.out)
            have B9 := Lib.hid (below_step BB.out E9.out)
            clear FD hb9 E9 k0 k1 k2 k3 k4 k5 k6 y0 y1 y2 y3 Y K BB
            generalize w9.alloc (.cells #[.int .i64 id, .int .i64 ea', .int .i64 es, .bool ex, .int .i64 ep', .int .i64 eq', .int .i64 en, .int .i64 et, .int .i64 lf, .int .i64 st, .int .i64 ep] 58) = w10 at Y9 K9 B9 ⊢
            obtain ⟨k0, k1, k2, k3, k4, k5, k6⟩ := c7_of K9.out
            go_wp2_with fail
            go_roundg q
            case measure => omega
            case rel => exact ⟨k + 1, by omega, (by have := HZ.out; rw [this, Int.natCast_add]; congr 1; omega), Y9, K9, B9⟩
        · have t0 : decide (z < 130) = false := by simp only [decide_eq_false_iff_not]; exact hlt
          go_wp2_with fail
          go_ret
          exact madeB_mk rfl BB.out

set_option maxRecDepth 100000 in
theorem lifted (os : Os) (started : os.Started) (H : Type) (enc : TypeId × Value → H) :
    ReturnsInHanded {} Try.checked os 4 .any (Rows.bookNumbersSpec.pre6 enc Try.prog Try.f4 Rows.bookNumbersRow.domain false) (Rows.bookNumbersSpec.post enc Try.prog Try.f4 false true false false) := by
  refine returnsInHanded_of_change_sized (C := Try.checked) own started (by kernel_rfl) Try.func4
    (ChangeSpec.witness6 (enc := enc) (C := Try.checked) false ⟨#[], #[.agg #[.int .i64 0, .int .i64 0, .int .i64 0, .int .i64 0, .slice none 0 0, .slice none 0 0, .slice none 0 0], .int .i64 0, .int .i64 0], []⟩ 8 (by kernel_rfl) (by kernel_rfl) (by kernel_rfl) (by kernel_rfl)) ?_
  intro W base args ds gs before hval0 hW hcnd hsz _
  have hval : ∀ (j : Nat) t v, Try.f4.params[j]? = some t → args[j]? = some v → Value.okWide Try.prog W .any base t v := hval0
  have hW' := hW
  obtain ⟨p, q, hA0, hV, rfl, hfz, hnd⟩ := hW
  have hA : DataW.TrodAll enc Try.prog W 0 (fun _ => true) true Try.f4.params.toList args.toList ds p := hA0
  rw [Try.params4] at hA hval
  obtain ⟨v0, vs0, d0, ds0, p0, q0, hargs, rfl, rfl, h0, r0⟩ := trodAll_cons hA
  obtain ⟨v1, vs1, d1, ds1, p1, q1, rfl, rfl, rfl, h1, r1⟩ := trodAll_cons r0
  obtain ⟨v2, vs2, d2, ds2, p2, q2, rfl, rfl, rfl, h2, r2⟩ := trodAll_cons r1
  obtain ⟨rfl, rfl, rfl⟩ := trodAll_nil r2
  obtain rfl : args = #[v0, v1, v2] := by cases args; simp_all
  obtain ⟨a1, rfl, _, _, w1⟩ := open_int Try.underlying3 (hval 1 3 v1 rfl rfl) h1
  obtain ⟨a2, rfl, _, _, w2⟩ := open_int Try.underlying3 (hval 2 3 v2 rfl rfl) h2
  have hz0 : ∀ k ∈ d0.weights Try.prog 52, k ≤ reachBytes := by
    intro k hk
    have := List.all_eq_true.1 hsz k (DataW.weights_mem_each (j := 0) rfl rfl k hk)
    simpa using this
  obtain ⟨sh, wi, ra, ta, A, B, C, c, d, f, nd, ac, sy, rfl, _, _, _, _, k1, k2, k3, hn, hw, ha, hwa, hs, hws⟩ := open_conf_s (hval 0 _ v0 rfl rfl) h0 hz0
  refine (inner sh wi ra ta A B C _ _ _ c d f nd ac sy a1 a2 W rfl rfl rfl k1 k2 k3 hn ha hs hw hwa hws).mono fun e W' ⟨he, hb⟩ => ?_
  subst he
  exact ⟨_, rfl, law_post hW' rfl rfl rfl rfl (by kernel_rfl) Try.underlying4 (by rw [Try.params4]; simp only [List.mem_cons, List.not_mem_nil, or_false, forall_eq_or_imp, forall_eq]; exact ⟨⟨by kernel_rfl, of_decide_eq_true (by kernel_rfl)⟩, ⟨by kernel_rfl, of_decide_eq_true (by kernel_rfl)⟩, ⟨by kernel_rfl, of_decide_eq_true (by kernel_rfl)⟩⟩) laidOut hb⟩

theorem over : Rows.bookNumbersRow.holds Try.pinned (OpenSpec.ofChange Rows.bookNumbersSpec) :=
  OpenClaim.holds_of_wide 4 Try.f4 rfl rfl rfl rfl rfl rfl rfl ⟨rfl, rfl, rfl, rfl, rfl⟩ rfl rfl rfl rfl rfl (by kernel_rfl) Try.func4 (by kernel_rfl)
    (of_decide_eq_true (by kernel_rfl)) (by unfold Func.isWrapper; first | (rw [if_pos (by decide +kernel)]; kernel_rfl) | (rw [if_neg (by decide +kernel)]; exact ⟨rfl, rfl⟩))
    (fun os started H enc _ => lifted os started H enc)

theorem proved : Rows.BookNumbersSaid := over
#print axioms proved
end Go.Proofs.Ytjabfbeioapiaaa.bookNumbers
