/- Contract of book's Add: an order comes. Condition: the book lies in memory and is not long, the order's account is there. -/
import Derived.Test.YtjabfbeioapiaaaBku
import Derived.Test.YtjabfbeioapiaaaBkh
import Derived.Test.YtjabfbeioapiaaaLat
namespace Go.Proofs.Ytjabfbeioapiaaa.Bka
set_option maxRecDepth 100000
open Go.ChangeShapes Go.WideShapes Go.ChangeAt Go.RowKit Mem Tre Ref3 Law3 Crd CrdB CrdC Rr4 Bkp Bks Bkf Bkh Bcl Dlk Stk Apt Bko Bku Lat
set_option linter.unusedVariables false
set_option linter.unusedSimpArgs false
/-- none of a book's blocks lies ahead of base -/
def Fb (base : Nat) (A C : Option Addr) (rl : List Rc) : Prop := (∀ a, A = some a → base ≤ a.block) ∧ (∀ a, C = some a → base ≤ a.block) ∧ ∀ i, i < rl.length → ∀ a, (gC rl i).A = some a → base ≤ a.block
/-- a book and a number, in new memory -/
def MadeB2 (b : Bk) (x : Int) (w : World) (e : Ending) (w' : World) : Prop :=
  ∃ A C c d rl, e = .returned (.tuple #[bkA A C c d b, .int .i64 x]) ∧ Bm w' A C rl b ∧ Fb w.heap.size A C rl ∧ Below w.heap.size w w'
theorem Bo_mono {base base' : Nat} {w : World} {A C : Option Addr} {c d : Nat} {rl : List Rc} {b : Bk} (h : Bo base w A C c d rl b) (hb : base' ≤ base) : Bo base' w A C c d rl b :=
  ⟨own_mono h.r hb, own_mono h.o hb, h.e, fun k hk => own_mono (h.own k hk) hb, h.ap⟩
theorem Bo_st {base : Nat} {w : World} {A C : Option Addr} {c d : Nat} {rl : List Rc} {b : Bk} (h : Bo base w A C c d rl b) {g : Nat} {te : TypeId} {cs : Array Value} (hk : Blk w g te cs) (h1 : 68 ≠ te) (h2 : 58 ≠ te) (h3 : 2 ≠ te) (i : Nat) (x : Value) : Bo base (w.setCell ⟨g, i, none⟩ x) A C c d rl b :=
  ⟨own_st h.r hk h1 i x, own_st h.o hk h2 i x, h.e, fun k hk' => own_st (h.own k hk') hk h3 i x, h.ap⟩
theorem Bo_st4 {base : Nat} {w : World} {A C : Option Addr} {c d : Nat} {rl : List Rc} {b : Bk} (h : Bo base w A C c d rl b) {g : Nat} {te : TypeId} {u0 u1 u2 u3 : Value} (hk : Blk w g te #[u0, u1, u2, u3]) (h1 : 68 ≠ te) (h2 : 58 ≠ te) (h3 : 2 ≠ te) (v0 v1 v2 v3 : Value) : Bo base (Stk.st4 w g v0 v1 v2 v3) A C c d rl b :=
  ⟨own_st4 h.r hk h1, own_st4 h.o hk h2, h.e, fun k hk' => own_st4 (h.own k hk') hk h3, h.ap⟩
theorem Bo_fb {base : Nat} {w : World} {A C : Option Addr} {c d : Nat} {rl : List Rc} {b : Bk} (h : Bo base w A C c d rl b) : Fb base A C rl :=
  ⟨own_fresh h.r, own_fresh h.o, fun i hi => own_fresh (h.own i hi)⟩
theorem Bo_len {base : Nat} {w : World} {A C : Option Addr} {c d : Nat} {rl : List Rc} {b : Bk} (h : Bo base w A C c d rl b) : rl.length = b.rows.length := by rw [← h.e]; simp
/-- ahead of a row's change: all rows of the call's own -/
structure A7 (w0 w : World) (rl : List Rc) (gr nr cr no1 : Nat) (A6 : Option Addr) (c6 : Nat) (rows : List Ro) (op : List En) : Prop where
  r : w.ownsRow w0.heap.size 68 3 (.slice (some ⟨gr, 0, none⟩) nr cr) nr (rcs rl)
  o : w.ownsRow w0.heap.size 58 11 (.slice A6 no1 c6) no1 (ens op)
  e : rl.map Rc.r = rows
  own : ∀ k, k < rl.length → OwR w0.heap.size w (gC rl k)
  ap : Apa rl rl.length
  b : Below w0.heap.size w0 w
/-- behind it: the numbers are read -/
structure A9 (w0 w : World) (rl : List Rc) (gr nr cr no1 : Nat) (A6 : Option Addr) (c6 : Nat) (rows : List Ro) (op : List En) (gR : Nat) : Prop where
  r : w.ownsRow w0.heap.size 68 3 (.slice (some ⟨gr, 0, none⟩) nr cr) nr (rcs rl)
  o : w.ownsRow w0.heap.size 58 11 (.slice A6 no1 c6) no1 (ens op)
  e : rl.map Rc.r = rows
  n : ∀ k, k < rl.length → Ris w w.heap.size (gC rl k).A (gC rl k).r.ns
  f : ∀ k, k < rl.length → ∀ a, (gC rl k).A = some a → w0.heap.size ≤ a.block
  ne : ∀ k, k < rl.length → ∀ a, (gC rl k).A = some a → a.block ≠ gR
  b : Below w0.heap.size w0 w
theorem own_ne_A {w w8 : World} {base n c : Nat} {A : Option Addr} {xs : List Value} (h : w.ownsRow base 2 1 (.slice A n c) n xs) {b2 s2 n2 : Nat} {e2 : TypeId} {v2 : Value} {x2 : List Value} (k : w.ownsRow b2 e2 s2 v2 n2 x2) (hne : e2 ≠ 2) (hg : w.grownBy w8 (Value.slice A 0 0).ownBlock) : w8.ownsRow b2 e2 s2 v2 n2 x2 := by
  rw [← ownBlock_len A n c] at hg
  exact own_grown k h hne hg
theorem A7.used {w0 w w8 : World} {rl : List Rc} {gr nr cr no1 : Nat} {A6 : Option Addr} {c6 : Nat} {rows : List Ro} {op : List En} (h : A7 w0 w rl gr nr cr no1 A6 c6 rows op) {i : Nat} (hi : i < rl.length) {gR : Nat} {cs : Array Value} (hR : Blk w gR 37 cs)
    (hg : w.grownBy w8 (Value.slice (gC rl i).A 0 0).ownBlock) {A8 : Option Addr} {uns : List Int} (hr : Ris w8 w8.heap.size A8 uns) (hf : ∀ a, A8 = some a → w0.heap.size ≤ a.block) (hp : ∀ a, A8 = some a → (Value.slice (gC rl i).A 0 0).ownBlock = some a.block ∨ w.heap.size ≤ a.block) (c8 : Nat) (us uc : Int) :
    A9 w0 (((w8.setCell ⟨gr, i * 3, none⟩ (.slice A8 uns.length c8)).setCell ⟨gr, i * 3 + 1, none⟩ (.int .i64 us)).setCell ⟨gr, i * 3 + 2, none⟩ (.int .i64 uc)) (rl.set i ⟨A8, c8, ⟨uns, us, uc⟩⟩) gr nr cr no1 A6 c6 (rows.set i ⟨uns, us, uc⟩) op gR := by
  have hgrl := World.ownsRow.lt h.r gr rfl
  have h8r := own_ne_A (h.own i hi) h.r (by decide) hg
  have h8o := own_ne_A (h.own i hi) h.o (by decide) hg
  obtain ⟨s1, g1⟩ := World.ownsRow.stored h8r (i * 3) (.slice A8 uns.length c8)
  obtain ⟨s2, g2⟩ := World.ownsRow.stored s1 (i * 3 + 1) (.int .i64 us)
  obtain ⟨s3, g3⟩ := World.ownsRow.stored s2 (i * 3 + 2) (.int .i64 uc)
  have hne8 : ∀ a, A8 = some a → a.block ≠ gr := by
    intro a ha e
    rcases hp a ha with h1 | h1
    · have := own_ne h.r (h.own i hi) (by decide)
      rcases this with h2 | h2
      · simp [Value.ownBlock] at h2
      · refine h2 ?_
        rw [ownBlock_len (gC rl i).A, h1, e]; rfl
    · omega
  have hk : ∀ {b2 s2 n2 : Nat} {e2 : TypeId} {v2 : Value} {x2 : List Value}, w8.ownsRow b2 e2 s2 v2 n2 x2 → e2 ≠ 68 → ((((w8.setCell ⟨gr, i * 3, none⟩ (.slice A8 uns.length c8)).setCell ⟨gr, i * 3 + 1, none⟩ (.int .i64 us)).setCell ⟨gr, i * 3 + 2, none⟩ (.int .i64 uc))).ownsRow b2 e2 s2 v2 n2 x2 := fun k hne =>
    own_grown (own_grown (own_grown k h8r hne g1) s1 hne g2) s2 hne g3
  have hlen : ∀ k, k < (rl.set i ⟨A8, c8, ⟨uns, us, uc⟩⟩).length → k < rl.length := fun k hk => by simpa using hk
  have hnR : ∀ k, k < rl.length → ∀ a, (gC rl k).A = some a → a.block ≠ gR := by
    intro k hk a ha e
    refine blk_own_ne hR (h.own k hk) (by decide) ?_
    rw [ha]
    simp [Value.ownBlock, e]
  have hfR : ∀ k, k < rl.length → ∀ a, (gC rl k).A = some a → w0.heap.size ≤ a.block := fun k hk => own_fresh (h.own k hk)
  refine ⟨?_, hk h8o (by decide), ?_, ?_, ?_, ?_, ?_⟩
  · rw [rcs_set _ _ _ hi]
    exact s3
  · rw [List.map_set, h.e]
  · intro k hk'
    have hkl := hlen k hk'
    rw [gC_set _ _ _ _ hi]
    by_cases hki : k = i
    · rw [if_pos hki]
      exact Rd.keep' (Rd.keep' (Rd.keep' hr (Nat.lt_succ_self _) hne8 _) (Nat.lt_succ_self _) hne8 _) (Nat.lt_succ_self _) hne8 _
    · rw [if_neg hki]
      have hap : (Value.slice (gC rl k).A (gC rl k).r.ns.length (gC rl k).c).ownBlock = none ∨ (Value.slice (gC rl k).A (gC rl k).r.ns.length (gC rl k).c).ownBlock ≠ (Value.slice (gC rl i).A 0 0).ownBlock := by
        rw [ownBlock_len]
        cases hA : (gC rl k).A with
        | none => exact .inl rfl
        | some a =>
          cases hB : (gC rl i).A with
          | none => exact .inr (by simp [Value.ownBlock])
          | some b =>
            refine .inr ?_
            simp only [Value.ownBlock, ne_eq, Option.some.injEq]
            rcases Nat.lt_or_gt_of_ne hki with hlt | hlt
            · exact h.ap k i hlt hi a b hA hB
            · exact fun e => h.ap i k hlt hkl b a hB hA e.symm
      exact Rd.of_own (hk (World.ownsRow.kept (h.own k hkl) hg hap) (by decide))
  · intro k hk' a ha
    have hkl := hlen k hk'
    rw [gC_set _ _ _ _ hi] at ha
    by_cases hki : k = i
    · rw [if_pos hki] at ha; exact hf a ha
    · rw [if_neg hki] at ha; exact hfR k hkl a ha
  · intro k hk' a ha
    have hkl := hlen k hk'
    rw [gC_set _ _ _ _ hi] at ha
    by_cases hki : k = i
    · rw [if_pos hki] at ha
      rcases hp a ha with h1 | h1
      · intro e
        refine blk_own_ne hR (h.own i hi) (by decide) ?_
        rw [ownBlock_len (gC rl i).A, h1, e]
      · have := hR.lt; omega
    · rw [if_neg hki] at ha; exact hnR k hkl a ha
  · have hgb : w0.heap.size ≤ gr := own_fresh h.r _ rfl
    have hb8 : Below w0.heap.size w0 w8 := h.b.grown hg h.b.size (fun q hq => by
      have h1 := own_fresh (h.own i hi)
      cases hB : (gC rl i).A with
      | none => rw [hB] at hq; simp [Value.ownBlock] at hq
      | some b =>
        rw [hB] at hq
        simp only [Value.ownBlock, Option.some.injEq] at hq
        have := h1 b hB
        omega)
    exact ((hb8.setCell (p := ⟨gr, i * 3, none⟩) hgb _).setCell (p := ⟨gr, i * 3 + 1, none⟩) hgb _).setCell (p := ⟨gr, i * 3 + 2, none⟩) hgb _
theorem A9.fin {w0 w : World} {rl : List Rc} {gr nr cr no1 : Nat} {A6 : Option Addr} {c6 : Nat} {rows : List Ro} {op : List En} {gR : Nat} (h : A9 w0 w rl gr nr cr no1 A6 c6 rows op gR) {u0 u1 u2 u3 : Value} (hk : Blk w gR 37 #[u0, u1, u2, u3]) (hgR : w0.heap.size ≤ gR) (v0 v1 v2 v3 : Value) (sh ca : Int) :
    Bm (Stk.st4 w gR v0 v1 v2 v3) (some ⟨gr, 0, none⟩) A6 rl ⟨sh, ca, rows, op⟩ ∧ Fb w0.heap.size (some ⟨gr, 0, none⟩) A6 rl ∧ Below w0.heap.size w0 (Stk.st4 w gR v0 v1 v2 v3) := by
  refine ⟨⟨Rd.of_own (own_st4 h.r hk (by decide)), h.e, ?_, Rd.of_own (own_st4 h.o hk (by decide))⟩, ⟨own_fresh h.r, own_fresh h.o, h.f⟩, st4_below h.b hgR⟩
  intro k hk'
  unfold Stk.st4
  exact Rd.keep' (Rd.keep' (Rd.keep' (Rd.keep' (h.n k hk') (Nat.lt_succ_self _) (h.ne k hk') _) (Nat.lt_succ_self _) (h.ne k hk') _) (Nat.lt_succ_self _) (h.ne k hk') _) (Nat.lt_succ_self _) (h.ne k hk') _
set_option maxHeartbeats 8000000 in
theorem add_any (sk ra ta : Int) (wn : Nat) (A1 A2 A3 : Option Addr) (n1 n2 n3 c1 c2 c3 : Nat) (sh ca : Int) (A C : Option Addr) (nr no c d : Nat) (rl : List Rc) (bk : Bk) (i : Nat) (os op oq on ot : Int) (ox : Bool) (ep : Int) (w : World) (hsh : Hid (sh = bk.sh ∧ ca = bk.ca)) (hnr : Hid (nr = bk.rows.length)) (hno : Hid (no = bk.op.length)) (hm : Hid (Bm w A C rl bk)) (hf : Hid (FewB bk)) (h1 : 1 ≤ sk) (h2 : sk ≤ 1000) (hwn : wn ≤ 1000) (hir : i < nr) :
    Calls Try.prog 10 #[.agg #[.int .i64 sk, .int .i64 (wn : Int), .int .i64 ra, .int .i64 ta, .slice A1 n1 c1, .slice A2 n2 c2, .slice A3 n3 c3], .agg #[.int .i64 sh, .int .i64 ca, .slice A nr c, .slice C no d], .agg #[.int .i64 (i : Int), .int .i64 os, .bool ox, .int .i64 op, .int .i64 oq, .int .i64 on, .int .i64 ot], .int .i64 ep] w (MadeB2 (addF sk wn bk ⟨(i : Int), os, ox, op, oq, on, ot⟩ ep) (bk.sh + sk * bk.ca) w) := by
  obtain ⟨i0, hi, hz0, hz1, hz2⟩ := info_parts infoE
  have hl1 : nr ≤ 1000 := by rw [hnr.out]; exact hf.out.rl
  have hl2 : no ≤ 1000 := by rw [hno.out]; exact hf.out.ol
  have hs0 : 0 ≤ sh ∧ sh ≤ 1000 := by rw [hsh.out.1]; exact hf.out.sh
  have hc0 : 0 ≤ ca ∧ ca ≤ 1000000000 := by rw [hsh.out.2]; exact hf.out.ca
  have q2 : 0 ≤ sk * ca := Int.mul_nonneg (by omega) hc0.1
  obtain ⟨idv, hidv⟩ : ∃ v, v = sh + sk * ca := ⟨_, rfl⟩
  have N := fun W => next_any sk (wn : Int) ra ta A1 A2 A3 n1 n2 n3 c1 c2 c3 sh ca A C nr no c d W h1 h2 hs0.1 hs0.2 hc0.1 hc0.2
  rw [← hidv] at N
  have t1 : (idv == -1) = false := by rw [beq_eq_false_iff_ne]; omega
  have e5 : wrap64 (ca + 1) = ca + 1 := by unfold wrap64; omega
  have HID := Lib.hid hidv
  clear hidv q2 h1 h2
  have hin : inQ nr (i : Int) = true := inQ_t (by omega) (by omega)
  have H := fun W => hasR_any A nr c (i : Int) W
  rw [hin] at H
  clear hin
  have b0 : Hid (Below w.heap.size w ((((w.alloc (.cells #[.int .i64 sk, .int .i64 (wn : Int), .int .i64 ra, .int .i64 ta, .slice A1 n1 c1, .slice A2 n2 c2, .slice A3 n3 c3] 32)).alloc (.cells #[.int .i64 sh, .int .i64 ca, .slice A nr c, .slice C no d] 37)).alloc (.cells #[.int .i64 (i : Int), .int .i64 os, .bool ox, .int .i64 op, .int .i64 oq, .int .i64 on, .int .i64 ot] 41)).alloc (.cells #[.int .i64 0, .int .i64 0, .slice none 0 0, .slice none 0 0] 37))) := ((((Below.refl _ _).alloc (Nat.le_refl _) _).alloc (by simp) _).alloc (by simp <;> omega) _).alloc (by simp <;> omega) _
  have K0 : Hid (Blk ((((w.alloc (.cells #[.int .i64 sk, .int .i64 (wn : Int), .int .i64 ra, .int .i64 ta, .slice A1 n1 c1, .slice A2 n2 c2, .slice A3 n3 c3] 32)).alloc (.cells #[.int .i64 sh, .int .i64 ca, .slice A nr c, .slice C no d] 37)).alloc (.cells #[.int .i64 (i : Int), .int .i64 os, .bool ox, .int .i64 op, .int .i64 oq, .int .i64 on, .int .i64 ot] 41)).alloc (.cells #[.int .i64 0, .int .i64 0, .slice none 0 0, .slice none 0 0] 37)) w.heap.size 32 #[.int .i64 sk, .int .i64 (wn : Int), .int .i64 ra, .int .i64 ta, .slice A1 n1 c1, .slice A2 n2 c2, .slice A3 n3 c3]) := (((Blk.fresh w _ _).alloc _).alloc _).alloc _
  have K1 : Hid (Blk ((((w.alloc (.cells #[.int .i64 sk, .int .i64 (wn : Int), .int .i64 ra, .int .i64 ta, .slice A1 n1 c1, .slice A2 n2 c2, .slice A3 n3 c3] 32)).alloc (.cells #[.int .i64 sh, .int .i64 ca, .slice A nr c, .slice C no d] 37)).alloc (.cells #[.int .i64 (i : Int), .int .i64 os, .bool ox, .int .i64 op, .int .i64 oq, .int .i64 on, .int .i64 ot] 41)).alloc (.cells #[.int .i64 0, .int .i64 0, .slice none 0 0, .slice none 0 0] 37)) (w.heap.size + 1) 37 #[.int .i64 sh, .int .i64 ca, .slice A nr c, .slice C no d]) := Blk.alloc (Blk.alloc (blk_hd (by simp)) _) _
  have K2 : Hid (Blk ((((w.alloc (.cells #[.int .i64 sk, .int .i64 (wn : Int), .int .i64 ra, .int .i64 ta, .slice A1 n1 c1, .slice A2 n2 c2, .slice A3 n3 c3] 32)).alloc (.cells #[.int .i64 sh, .int .i64 ca, .slice A nr c, .slice C no d] 37)).alloc (.cells #[.int .i64 (i : Int), .int .i64 os, .bool ox, .int .i64 op, .int .i64 oq, .int .i64 on, .int .i64 ot] 41)).alloc (.cells #[.int .i64 0, .int .i64 0, .slice none 0 0, .slice none 0 0] 37)) (w.heap.size + 2) 41 #[.int .i64 (i : Int), .int .i64 os, .bool ox, .int .i64 op, .int .i64 oq, .int .i64 on, .int .i64 ot]) := Blk.alloc (blk_hd (by simp)) _
  have K3 : Hid (Blk ((((w.alloc (.cells #[.int .i64 sk, .int .i64 (wn : Int), .int .i64 ra, .int .i64 ta, .slice A1 n1 c1, .slice A2 n2 c2, .slice A3 n3 c3] 32)).alloc (.cells #[.int .i64 sh, .int .i64 ca, .slice A nr c, .slice C no d] 37)).alloc (.cells #[.int .i64 (i : Int), .int .i64 os, .bool ox, .int .i64 op, .int .i64 oq, .int .i64 on, .int .i64 ot] 41)).alloc (.cells #[.int .i64 0, .int .i64 0, .slice none 0 0, .slice none 0 0] 37)) (w.heap.size + 3) 37 #[.int .i64 0, .int .i64 0, .slice none 0 0, .slice none 0 0]) := blk_hd (by simp)
  go_enter Try.func10, Try.ntmps10
  go_upto_region 1 with fail
  generalize ((((w.alloc (.cells #[.int .i64 sk, .int .i64 (wn : Int), .int .i64 ra, .int .i64 ta, .slice A1 n1 c1, .slice A2 n2 c2, .slice A3 n3 c3] 32)).alloc (.cells #[.int .i64 sh, .int .i64 ca, .slice A nr c, .slice C no d] 37)).alloc (.cells #[.int .i64 (i : Int), .int .i64 os, .bool ox, .int .i64 op, .int .i64 oq, .int .i64 on, .int .i64 ot] 41)).alloc (.cells #[.int .i64 0, .int .i64 0, .slice none 0 0, .slice none 0 0] 37)) = w0 at b0 K0 K1 K2 K3 ⊢
  obtain ⟨gK, hgK⟩ : ∃ g, g = w.heap.size := ⟨_, rfl⟩
  obtain ⟨gB, hgB⟩ : ∃ g, g = w.heap.size + 1 := ⟨_, rfl⟩
  obtain ⟨gO, hgO⟩ : ∃ g, g = w.heap.size + 2 := ⟨_, rfl⟩
  obtain ⟨gR, hgR⟩ : ∃ g, g = w.heap.size + 3 := ⟨_, rfl⟩
  have hBR : Hid (gR ≠ gB) := by show _ ≠ _; omega
  have hBC : Hid (gK ≠ gB) := by show _ ≠ _; omega
  have hBO : Hid (gO ≠ gB) := by show _ ≠ _; omega
  have hLB : Hid (w.heap.size ≤ gB) := by show _ ≤ _; omega
  have hLR : Hid (w.heap.size ≤ gR) := by show _ ≤ _; omega
  have J0 : Hid (Blk w0 gK 32 #[.int .i64 sk, .int .i64 (wn : Int), .int .i64 ra, .int .i64 ta, .slice A1 n1 c1, .slice A2 n2 c2, .slice A3 n3 c3]) := by rw [hgK]; exact K0.out
  have J1 : Hid (Blk w0 gB 37 #[.int .i64 sh, .int .i64 ca, .slice A nr c, .slice C no d]) := by rw [hgB]; exact K1.out
  have J2 : Hid (Blk w0 gO 41 #[.int .i64 (i : Int), .int .i64 os, .bool ox, .int .i64 op, .int .i64 oq, .int .i64 on, .int .i64 ot]) := by rw [hgO]; exact K2.out
  have J3 : Hid (Blk w0 gR 37 #[.int .i64 0, .int .i64 0, .slice none 0 0, .slice none 0 0]) := by rw [hgR]; exact K3.out
  simp only [← hgR]
  simp only [← hgO]
  simp only [← hgB]
  simp only [← hgK]
  clear hgK hgB hgO hgR K0 K1 K2 K3
  obtain ⟨e0, e1, e2, e3, e4, e5', e6⟩ := q7_of J0.out
  obtain ⟨k0, k1, k2, k3⟩ := q4_of J1.out
  go_upto_region 2 with (go_at_call 19; refine (N _).mono ?_; rintro e w1 ⟨rfl, hb1⟩)
  have HB1 := Lib.hid (below_step b0.out hb1)
  have M0 := Lib.hid (Blk.below' J0.out hb1)
  have M1 := Lib.hid (Blk.below' J1.out hb1)
  have M2 := Lib.hid (Blk.below' J2.out hb1)
  have M3 := Lib.hid (Blk.below' J3.out hb1)
  clear e0 e1 e2 e3 e4 e5' e6 k0 k1 k2 k3 hb1 b0 J0 J1 J2 J3 N
  have HM : Hid (Bm w1 A C rl bk) := hm.out.below HB1.out
  obtain ⟨k0, k1, k2, k3, f0, f1, f2, f3⟩ := z4_of M1.out
  obtain ⟨o0, o1, o2, o3, o4, o5, o6⟩ := q7_of M2.out
  go_upto_region 4 with (go_at_call 17; refine (H _).mono ?_; rintro e w1' ⟨rfl, rfl⟩)
  go_wp2_with fail
  refine (own_any sh ca A C nr no c d rl bk _ hsh hnr hno HM hf).mono ?_
  rintro e w2 ⟨Ar, Ao, cr, co, rl2, he, hbo, hb2⟩
  have hbk : bkA Ar Ao cr co bk = .agg #[.int .i64 sh, .int .i64 ca, .slice Ar nr cr, .slice Ao no co] := by unfold bkA; rw [hnr.out, hno.out, hsh.out.1, hsh.out.2]
  rw [hbk] at he
  subst he
  have HBO := Lib.hid (Bo_mono hbo HB1.out.size)
  have HB2 := Lib.hid (below_step HB1.out hb2)
  have L0 := Lib.hid (Blk.below' M0.out hb2)
  have L1 := Lib.hid (Blk.below' M1.out hb2)
  have L2 := Lib.hid (Blk.below' M2.out hb2)
  have L3 := Lib.hid (Blk.below' M3.out hb2)
  clear k0 k1 k2 k3 f0 f1 f2 f3 o0 o1 o2 o3 o4 o5 o6 hb2 hbk hbo M0 M1 M2 M3 HM HB1 H
  obtain ⟨k0, k1, k2, k3, f0, f1, f2, f3⟩ := z4_of L1.out
  have B3 : Hid (Bo w.heap.size ((((w2.setCell ⟨gB, 0, none⟩ (.int .i64 sh)).setCell ⟨gB, 1, none⟩ (.int .i64 ca)).setCell ⟨gB, 2, none⟩ (.slice Ar nr cr)).setCell ⟨gB, 3, none⟩ (.slice Ao no co)) Ar Ao cr co rl2 bk) := Bo_st4 HBO.out L1.out (by decide) (by decide) (by decide) _ _ _ _
  have P1 : Hid (Blk ((((w2.setCell ⟨gB, 0, none⟩ (.int .i64 sh)).setCell ⟨gB, 1, none⟩ (.int .i64 ca)).setCell ⟨gB, 2, none⟩ (.slice Ar nr cr)).setCell ⟨gB, 3, none⟩ (.slice Ao no co)) gB 37 #[.int .i64 sh, .int .i64 ca, .slice Ar nr cr, .slice Ao no co]) := st4_blk L1.out
  have P0 : Hid (Blk ((((w2.setCell ⟨gB, 0, none⟩ (.int .i64 sh)).setCell ⟨gB, 1, none⟩ (.int .i64 ca)).setCell ⟨gB, 2, none⟩ (.slice Ar nr cr)).setCell ⟨gB, 3, none⟩ (.slice Ao no co)) gK 32 #[.int .i64 sk, .int .i64 (wn : Int), .int .i64 ra, .int .i64 ta, .slice A1 n1 c1, .slice A2 n2 c2, .slice A3 n3 c3]) := st4_far L0.out hBC.out
  have P2 : Hid (Blk ((((w2.setCell ⟨gB, 0, none⟩ (.int .i64 sh)).setCell ⟨gB, 1, none⟩ (.int .i64 ca)).setCell ⟨gB, 2, none⟩ (.slice Ar nr cr)).setCell ⟨gB, 3, none⟩ (.slice Ao no co)) gO 41 #[.int .i64 (i : Int), .int .i64 os, .bool ox, .int .i64 op, .int .i64 oq, .int .i64 on, .int .i64 ot]) := st4_far L2.out hBO.out
  have P3 : Hid (Blk ((((w2.setCell ⟨gB, 0, none⟩ (.int .i64 sh)).setCell ⟨gB, 1, none⟩ (.int .i64 ca)).setCell ⟨gB, 2, none⟩ (.slice Ar nr cr)).setCell ⟨gB, 3, none⟩ (.slice Ao no co)) gR 37 #[.int .i64 0, .int .i64 0, .slice none 0 0, .slice none 0 0]) := st4_far L3.out hBR.out
  have B3b : Hid (Below w.heap.size w ((((w2.setCell ⟨gB, 0, none⟩ (.int .i64 sh)).setCell ⟨gB, 1, none⟩ (.int .i64 ca)).setCell ⟨gB, 2, none⟩ (.slice Ar nr cr)).setCell ⟨gB, 3, none⟩ (.slice Ao no co))) := st4_below HB2.out hLB.out
  go_upto_region 5 with fail
  clear k0 k1 k2 k3 f0 f1 f2 f3 L0 L1 L2 L3 HBO HB2
  generalize ((((w2.setCell ⟨gB, 0, none⟩ (.int .i64 sh)).setCell ⟨gB, 1, none⟩ (.int .i64 ca)).setCell ⟨gB, 2, none⟩ (.slice Ar nr cr)).setCell ⟨gB, 3, none⟩ (.slice Ao no co)) = w3 at B3 P0 P1 P2 P3 B3b ⊢
  obtain ⟨k0, k1, k2, k3, f0, f1, f2, f3⟩ := z4_of P1.out
  have B4 : Hid (Bo w.heap.size (w3.setCell ⟨gB, 1, none⟩ (.int .i64 (ca + 1))) Ar Ao cr co rl2 bk) := Bo_st B3.out P1.out (by decide) (by decide) (by decide) 1 _
  have Q1 : Hid (Blk (w3.setCell ⟨gB, 1, none⟩ (.int .i64 (ca + 1))) gB 37 #[.int .i64 sh, .int .i64 (ca + 1), .slice Ar nr cr, .slice Ao no co]) := blk_st P1.out 1 _
  have Q0 : Hid (Blk (w3.setCell ⟨gB, 1, none⟩ (.int .i64 (ca + 1))) gK 32 #[.int .i64 sk, .int .i64 (wn : Int), .int .i64 ra, .int .i64 ta, .slice A1 n1 c1, .slice A2 n2 c2, .slice A3 n3 c3]) := far_st P0.out hBC.out _
  have Q2 : Hid (Blk (w3.setCell ⟨gB, 1, none⟩ (.int .i64 (ca + 1))) gO 41 #[.int .i64 (i : Int), .int .i64 os, .bool ox, .int .i64 op, .int .i64 oq, .int .i64 on, .int .i64 ot]) := far_st P2.out hBO.out _
  have Q3 : Hid (Blk (w3.setCell ⟨gB, 1, none⟩ (.int .i64 (ca + 1))) gR 37 #[.int .i64 0, .int .i64 0, .slice none 0 0, .slice none 0 0]) := far_st P3.out hBR.out _
  have B4b : Hid (Below w.heap.size w (w3.setCell ⟨gB, 1, none⟩ (.int .i64 (ca + 1)))) := B3b.out.setCell (p := ⟨gB, 1, none⟩) hLB.out _
  go_upto_region 6 with fail
  clear k0 k1 k2 k3 f0 f1 f2 f3 P0 P1 P2 P3 B3 B3b
  generalize (w3.setCell ⟨gB, 1, none⟩ (.int .i64 (ca + 1))) = w4 at B4 Q0 Q1 Q2 Q3 B4b ⊢
  obtain ⟨k0, k1, k2, k3, f0, f1, f2, f3⟩ := z4_of Q1.out
  obtain ⟨o0, o1, o2, o3, o4, o5, o6⟩ := q7_of Q2.out
  obtain ⟨no1, hno1⟩ : ∃ n, n = no + 1 := ⟨_, rfl⟩
  have HNO1 := Lib.hid hno1
  clear hno1
  have V0 : Hid (Below w4.heap.size w4 (w4.alloc (.cells #[.int .i64 idv, .int .i64 (i : Int), .int .i64 os, .bool ox, .int .i64 op, .int .i64 oq, .int .i64 on, .int .i64 ot, .int .i64 oq, .int .i64 1, .int .i64 ep] 58))) := (Below.refl _ _).alloc (Nat.le_refl _) _
  have V1 : Hid (((w4.alloc (.cells #[.int .i64 idv, .int .i64 (i : Int), .int .i64 os, .bool ox, .int .i64 op, .int .i64 oq, .int .i64 on, .int .i64 ot, .int .i64 oq, .int .i64 1, .int .i64 ep] 58))).ownsRow w.heap.size 58 11 (.slice Ao no co) no (ens bk.op)) := own_below (by have := B4.out.o; rw [← hno.out] at this; exact this) V0.out
  have V2 : Hid (Rd (w4.alloc (.cells #[.int .i64 idv, .int .i64 (i : Int), .int .i64 os, .bool ox, .int .i64 op, .int .i64 oq, .int .i64 on, .int .i64 ot, .int .i64 oq, .int .i64 1, .int .i64 ep] 58)) ((w4.alloc (.cells #[.int .i64 idv, .int .i64 (i : Int), .int .i64 os, .bool ox, .int .i64 op, .int .i64 oq, .int .i64 on, .int .i64 ot, .int .i64 oq, .int .i64 1, .int .i64 ep] 58))).heap.size (some ⟨w4.heap.size, 0, none⟩) (enV ⟨idv, ⟨(i : Int), os, ox, op, oq, on, ot⟩, oq, 1, ep⟩)) := rd_new rfl
  have V3 : Hid (w.heap.size ≤ ((w4.alloc (.cells #[.int .i64 idv, .int .i64 (i : Int), .int .i64 os, .bool ox, .int .i64 op, .int .i64 oq, .int .i64 on, .int .i64 ot, .int .i64 oq, .int .i64 1, .int .i64 ep] 58))).heap.size) := Nat.le_trans B4b.out.size V0.out.size
  have V4 : Hid (Blk (w4.alloc (.cells #[.int .i64 idv, .int .i64 (i : Int), .int .i64 os, .bool ox, .int .i64 op, .int .i64 oq, .int .i64 on, .int .i64 ot, .int .i64 oq, .int .i64 1, .int .i64 ep] 58)) gB 37 #[.int .i64 sh, .int .i64 (ca + 1), .slice Ar nr cr, .slice Ao no co]) := Blk.below' Q1.out V0.out
  go_upto_region 7 with (at_builtin; go_loud (refine wpList_appRG (nm := no1) V1 V2 HNO1.out rfl _ _ _ rfl i0 (.agg #[.int .i64 0, .int .i64 0, .int .i64 0, .bool false, .int .i64 0, .int .i64 0, .int .i64 0, .int .i64 0, .int .i64 0, .int .i64 0, .int .i64 0]) 88 Try.underlying35 hi hz0 hz1 hz2 rfl (by decide) rfl rfl (by simp [enV]) (by simp [enV, Value.oneCell']) (by unfold maxLen; omega) (by omega) V3.out ?_); intro A6 c6 w6 hown1 hgr1; have k9 := Blk_grown V4.out hgr1 (blk_own_ne V4.out V1.out (by decide)); obtain ⟨p0, p1, p2, p3, q0, q1, q2, q3⟩ := z4_of k9)
  have hnrp : 0 < nr := by omega
  obtain ⟨gr, hgr⟩ := own_at B4.out.r (by rw [← hnr.out]; exact hnrp)
  subst hgr
  have X7 : Hid (A7 w (w6.setCell ⟨gB, 3, none⟩ (.slice A6 no1 c6)) rl2 gr nr cr no1 A6 c6 bk.rows (bk.op ++ [⟨idv, ⟨(i : Int), os, ox, op, oq, on, ot⟩, oq, 1, ep⟩])) := by
    refine ⟨?_, ?_, B4.out.e, ?_, B4.out.ap, ?_⟩
    · have h := B4.out.r
      rw [← hnr.out] at h
      exact own_st (own_grown (own_below h V0.out) V1.out (by decide) hgr1) k9 (by decide) 3 _
    · rw [ens_snoc]
      exact own_st hown1.out k9 (by decide) 3 _
    · intro k hk
      exact own_st (own_grown (own_below (B4.out.own k hk) V0.out) V1.out (by decide) hgr1) k9 (by decide) 3 _
    · exact (grown_below (below_step B4b.out V0.out) V1.out hgr1 (Nat.le_refl _) V3.out).setCell (p := ⟨gB, 3, none⟩) hLB.out _
  have KB : Hid (Blk (w6.setCell ⟨gB, 3, none⟩ (.slice A6 no1 c6)) gB 37 #[.int .i64 sh, .int .i64 (ca + 1), .slice (some ⟨gr, 0, none⟩) nr cr, .slice A6 no1 c6]) := blk_st k9 3 _
  have KC : Hid (Blk (w6.setCell ⟨gB, 3, none⟩ (.slice A6 no1 c6)) gK 32 #[.int .i64 sk, .int .i64 (wn : Int), .int .i64 ra, .int .i64 ta, .slice A1 n1 c1, .slice A2 n2 c2, .slice A3 n3 c3]) := far_st (Blk_grown (Blk.below' Q0.out V0.out) hgr1 (blk_own_ne (Blk.below' Q0.out V0.out) V1.out (by decide))) hBC.out _
  have KO : Hid (Blk (w6.setCell ⟨gB, 3, none⟩ (.slice A6 no1 c6)) gO 41 #[.int .i64 (i : Int), .int .i64 os, .bool ox, .int .i64 op, .int .i64 oq, .int .i64 on, .int .i64 ot]) := far_st (Blk_grown (Blk.below' Q2.out V0.out) hgr1 (blk_own_ne (Blk.below' Q2.out V0.out) V1.out (by decide))) hBO.out _
  have KR : Hid (Blk (w6.setCell ⟨gB, 3, none⟩ (.slice A6 no1 c6)) gR 37 #[.int .i64 0, .int .i64 0, .slice none 0 0, .slice none 0 0]) := far_st (Blk_grown (Blk.below' Q3.out V0.out) hgr1 (blk_own_ne (Blk.below' Q3.out V0.out) V1.out (by decide))) hBR.out _
  have hil : Hid (i < rl2.length) := by show _ < _; rw [Bo_len B4.out, ← hnr.out]; exact hir
  clear k0 k1 k2 k3 f0 f1 f2 f3 o0 o1 o2 o3 o4 o5 o6 p0 p1 p2 p3 q0 q1 q2 q3 k9 hgr1 hown1 V0 V1 V2 V3 V4 Q0 Q1 Q2 Q3 B4 B4b
  generalize (w6.setCell ⟨gB, 3, none⟩ (.slice A6 no1 c6)) = w7 at X7 KB KC KO KR ⊢
  have HRW := Lib.hid (gC_row X7.out.e hil.out)
  have HL := Lib.hid (hf.out.nl i (by rw [← hnr.out]; exact hir))
  have HC := Lib.hid (hf.out.cnt i (by rw [← hnr.out]; exact hir))
  obtain ⟨_, _, _, _, hroom, hcell⟩ := own_room X7.out.r
  have c0 := hcell (i * 3) _ (by have := rcs_get rl2 i 0 hil.out (by decide); exact this)
  have c1 := hcell (i * 3 + 1) _ (by have := rcs_get rl2 i 1 hil.out (by decide); exact this)
  have c2 := hcell (i * 3 + 2) _ (by have := rcs_get rl2 i 2 hil.out (by decide); exact this)
  have HOW := Lib.hid (X7.out.own i hil.out)
  obtain ⟨R, hR⟩ : ∃ R, R = gC rl2 i := ⟨_, rfl⟩
  rw [← hR] at c0 c1 c2 HRW HOW
  rw [← HRW.out] at HL HC
  have HR := Lib.hid hR
  clear hR hroom hcell
  obtain ⟨An, cn, ns, sec, cnt⟩ := R
  simp only [] at HL HC
  obtain ⟨nn, hnn⟩ : ∃ nn, nn = ns.length := ⟨_, rfl⟩
  have HNN := Lib.hid hnn
  have hnl : nn ≤ 1000 := by rw [hnn]; exact HL.out
  have HOW2 : Hid (w7.drew.ownsRow w.heap.size 2 1 (.slice An nn cn) nn (ints ns)) := by rw [hnn]; exact HOW.out
  have C0 : w7.drew.cell? ⟨gr, i * 3, none⟩ = some (.slice An nn cn) := by rw [hnn]; exact c0
  have C1 : w7.drew.cell? ⟨gr, i * 3 + 1, none⟩ = some (.int .i64 sec) := c1
  have C2 : w7.drew.cell? ⟨gr, i * 3 + 2, none⟩ = some (.int .i64 cnt) := c2
  clear c0 c1 c2 hnn
  have HBS : Hid (w.heap.size ≤ w7.drew.heap.size) := X7.out.b.size
  have US := used_any w.heap.size An nn cn ns sec cnt (i : Int) os op oq on ot ox wn w7.drew HNN HOW2 HBS hnl HC hwn
  obtain ⟨U, hU⟩ : ∃ U, U = usedF ⟨ns, sec, cnt⟩ on ot wn := ⟨_, rfl⟩
  rw [← hU] at US
  have HU := Lib.hid hU
  clear hU
  obtain ⟨uns, us, uc⟩ := U
  have KBd : Hid (Blk w7.drew gB 37 #[.int .i64 sh, .int .i64 (ca + 1), .slice (some ⟨gr, 0, none⟩) nr cr, .slice A6 no1 c6]) := KB.out
  have KCd : Hid (Blk w7.drew gK 32 #[.int .i64 sk, .int .i64 (wn : Int), .int .i64 ra, .int .i64 ta, .slice A1 n1 c1, .slice A2 n2 c2, .slice A3 n3 c3]) := KC.out
  have KOd : Hid (Blk w7.drew gO 41 #[.int .i64 (i : Int), .int .i64 os, .bool ox, .int .i64 op, .int .i64 oq, .int .i64 on, .int .i64 ot]) := KO.out
  have HT : Hid (w7.drew.cell? ⟨gB, 2, none⟩ = some (.slice (some ⟨gr, 0, none⟩) nr cr) ∧ w7.drew.cell? ⟨gO, 0, none⟩ = some (.int .i64 (i : Int)) ∧ w7.drew.cell? ⟨gO, 1, none⟩ = some (.int .i64 os) ∧ w7.drew.cell? ⟨gO, 2, none⟩ = some (.bool ox) ∧ w7.drew.cell? ⟨gO, 3, none⟩ = some (.int .i64 op) ∧ w7.drew.cell? ⟨gO, 4, none⟩ = some (.int .i64 oq) ∧ w7.drew.cell? ⟨gO, 5, none⟩ = some (.int .i64 on) ∧ w7.drew.cell? ⟨gO, 6, none⟩ = some (.int .i64 ot) ∧ w7.drew.cell? ⟨gK, 1, none⟩ = some (.int .i64 (wn : Int)) ∧ w7.drew.cell? ⟨gr, i * 3, none⟩ = some (.slice An nn cn) ∧ w7.drew.cell? ⟨gr, i * 3 + 1, none⟩ = some (.int .i64 sec) ∧ w7.drew.cell? ⟨gr, i * 3 + 2, none⟩ = some (.int .i64 cnt)) := ⟨KBd.out.cell 2, KOd.out.cell 0, KOd.out.cell 1, KOd.out.cell 2, KOd.out.cell 3, KOd.out.cell 4, KOd.out.cell 5, KOd.out.cell 6, KCd.out.cell 1, C0, C1, C2⟩
  clear C0 C1 C2
  refine wp_region_noPanic ?_
  refine wp_region_L (T := (fun w' => w'.cell? ⟨gB, 2, none⟩ = some (.slice (some ⟨gr, 0, none⟩) nr cr) ∧ w'.cell? ⟨gO, 0, none⟩ = some (.int .i64 (i : Int)) ∧ w'.cell? ⟨gO, 1, none⟩ = some (.int .i64 os) ∧ w'.cell? ⟨gO, 2, none⟩ = some (.bool ox) ∧ w'.cell? ⟨gO, 3, none⟩ = some (.int .i64 op) ∧ w'.cell? ⟨gO, 4, none⟩ = some (.int .i64 oq) ∧ w'.cell? ⟨gO, 5, none⟩ = some (.int .i64 on) ∧ w'.cell? ⟨gO, 6, none⟩ = some (.int .i64 ot) ∧ w'.cell? ⟨gK, 1, none⟩ = some (.int .i64 (wn : Int)) ∧ w'.cell? ⟨gr, i * 3, none⟩ = some (.slice An nn cn) ∧ w'.cell? ⟨gr, i * 3 + 1, none⟩ = some (.int .i64 sec) ∧ w'.cell? ⟨gr, i * 3 + 2, none⟩ = some (.int .i64 cnt))) (st := [15]) (by kernel_rfl) ?_
  refine wpL_word (i := 0) (v := ?_) rfl (by kernel_rfl) (fun _ _ _ h => h) (by kernel_rfl) _ _ _ _ (by kernel_rfl) (by kernel_rfl) (Or.inl ⟨by rfl, ?_⟩) (fun _ => HT.out) ?_
  rotate_left
  · intro w' _
    go_simp
    try with_reducible rfl
  (try simp only [Act.put, List.getElem_toArray, List.getElem_cons_succ, List.getElem_cons_zero, List.setIfInBounds_toArray, List.set_cons_zero, List.set_cons_succ])
  refine wpL_load (i := 1) (v := ?_) rfl (by kernel_rfl) (fun _ _ _ h => h) (by kernel_rfl) (by kernel_rfl) _ _ _ _ (by kernel_rfl) (by kernel_rfl) (Or.inl ⟨by rfl, ?_⟩) (by kernel_rfl) HT.out ?_
  rotate_left
  · intro w' hS
    (try dsimp only at hS)
    obtain ⟨x1, x2, x3, x4, x5, x6, x7, x8, x9, x10, x11, x12⟩ := hS
    go_simp
    try with_reducible rfl
  (try simp only [Act.put, List.getElem_toArray, List.getElem_cons_succ, List.getElem_cons_zero, List.setIfInBounds_toArray, List.set_cons_zero, List.set_cons_succ])
  refine wpL_word (i := 2) (v := ?_) rfl (by kernel_rfl) (fun _ _ _ h => h) (by kernel_rfl) _ _ _ _ (by kernel_rfl) (by kernel_rfl) (Or.inl ⟨by rfl, ?_⟩) (fun _ => HT.out) ?_
  rotate_left
  · intro w' _
    go_simp
    try with_reducible rfl
  (try simp only [Act.put, List.getElem_toArray, List.getElem_cons_succ, List.getElem_cons_zero, List.setIfInBounds_toArray, List.set_cons_zero, List.set_cons_succ])
  refine wpL_load (i := 3) (v := ?_) rfl (by kernel_rfl) (fun _ _ _ h => h) (by kernel_rfl) (by kernel_rfl) _ _ _ _ (by kernel_rfl) (by kernel_rfl) (Or.inl ⟨by rfl, ?_⟩) (by kernel_rfl) HT.out ?_
  rotate_left
  · intro w' hS
    (try dsimp only at hS)
    obtain ⟨x1, x2, x3, x4, x5, x6, x7, x8, x9, x10, x11, x12⟩ := hS
    go_simp
    try with_reducible rfl
  (try simp only [Act.put, List.getElem_toArray, List.getElem_cons_succ, List.getElem_cons_zero, List.setIfInBounds_toArray, List.set_cons_zero, List.set_cons_succ])
  refine wpL_word (i := 4) (v := ?_) rfl (by kernel_rfl) (fun _ _ _ h => h) (by kernel_rfl) _ _ _ _ (by kernel_rfl) (by kernel_rfl) (Or.inl ⟨by rfl, ?_⟩) (fun _ => HT.out) ?_
  rotate_left
  · intro w' _
    go_simp
    try with_reducible rfl
  (try simp only [Act.put, List.getElem_toArray, List.getElem_cons_succ, List.getElem_cons_zero, List.setIfInBounds_toArray, List.set_cons_zero, List.set_cons_succ])
  refine wpL_load (i := 5) (v := ?_) rfl (by kernel_rfl) (fun _ _ _ h => h) (by kernel_rfl) (by kernel_rfl) _ _ _ _ (by kernel_rfl) (by kernel_rfl) (Or.inl ⟨by rfl, ?_⟩) (by kernel_rfl) HT.out ?_
  rotate_left
  · intro w' hS
    (try dsimp only at hS)
    obtain ⟨x1, x2, x3, x4, x5, x6, x7, x8, x9, x10, x11, x12⟩ := hS
    go_simp
    try with_reducible rfl
  (try simp only [Act.put, List.getElem_toArray, List.getElem_cons_succ, List.getElem_cons_zero, List.setIfInBounds_toArray, List.set_cons_zero, List.set_cons_succ])
  refine wpL_word (i := 6) (v := ?_) rfl (by kernel_rfl) (fun _ _ _ h => h) (by kernel_rfl) _ _ _ _ (by kernel_rfl) (by kernel_rfl) (Or.inl ⟨by rfl, ?_⟩) (fun _ => HT.out) ?_
  rotate_left
  · intro w' _
    go_simp
    try with_reducible rfl
  (try simp only [Act.put, List.getElem_toArray, List.getElem_cons_succ, List.getElem_cons_zero, List.setIfInBounds_toArray, List.set_cons_zero, List.set_cons_succ])
  refine wpL_load (i := 7) (v := ?_) rfl (by kernel_rfl) (fun _ _ _ h => h) (by kernel_rfl) (by kernel_rfl) _ _ _ _ (by kernel_rfl) (by kernel_rfl) (Or.inl ⟨by rfl, ?_⟩) (by kernel_rfl) HT.out ?_
  rotate_left
  · intro w' hS
    (try dsimp only at hS)
    obtain ⟨x1, x2, x3, x4, x5, x6, x7, x8, x9, x10, x11, x12⟩ := hS
    go_simp
    try with_reducible rfl
  (try simp only [Act.put, List.getElem_toArray, List.getElem_cons_succ, List.getElem_cons_zero, List.setIfInBounds_toArray, List.set_cons_zero, List.set_cons_succ])
  refine wpL_word (i := 8) (v := ?_) rfl (by kernel_rfl) (fun _ _ _ h => h) (by kernel_rfl) _ _ _ _ (by kernel_rfl) (by kernel_rfl) (Or.inl ⟨by rfl, ?_⟩) (fun _ => HT.out) ?_
  rotate_left
  · intro w' _
    go_simp
    try with_reducible rfl
  (try simp only [Act.put, List.getElem_toArray, List.getElem_cons_succ, List.getElem_cons_zero, List.setIfInBounds_toArray, List.set_cons_zero, List.set_cons_succ])
  refine wpL_load (i := 9) (v := ?_) rfl (by kernel_rfl) (fun _ _ _ h => h) (by kernel_rfl) (by kernel_rfl) _ _ _ _ (by kernel_rfl) (by kernel_rfl) (Or.inl ⟨by rfl, ?_⟩) (by kernel_rfl) HT.out ?_
  rotate_left
  · intro w' hS
    (try dsimp only at hS)
    obtain ⟨x1, x2, x3, x4, x5, x6, x7, x8, x9, x10, x11, x12⟩ := hS
    go_simp
    try with_reducible rfl
  (try simp only [Act.put, List.getElem_toArray, List.getElem_cons_succ, List.getElem_cons_zero, List.setIfInBounds_toArray, List.set_cons_zero, List.set_cons_succ])
  refine wpL_load (i := 10) (v := ?_) rfl (by kernel_rfl) (fun _ _ _ h => h) (by kernel_rfl) (by kernel_rfl) _ _ _ _ (by kernel_rfl) (by kernel_rfl) (Or.inl ⟨by rfl, ?_⟩) (by kernel_rfl) HT.out ?_
  rotate_left
  · intro w' hS
    (try dsimp only at hS)
    obtain ⟨x1, x2, x3, x4, x5, x6, x7, x8, x9, x10, x11, x12⟩ := hS
    go_simp
    try with_reducible rfl
  (try simp only [Act.put, List.getElem_toArray, List.getElem_cons_succ, List.getElem_cons_zero, List.setIfInBounds_toArray, List.set_cons_zero, List.set_cons_succ])
  refine wpL_word (i := 11) (v := ?_) rfl (by kernel_rfl) (fun _ _ _ h => h) (by kernel_rfl) _ _ _ _ (by kernel_rfl) (by kernel_rfl) (Or.inl ⟨by rfl, ?_⟩) (fun _ => HT.out) ?_
  rotate_left
  · intro w' _
    go_simp
    try with_reducible rfl
  (try simp only [Act.put, List.getElem_toArray, List.getElem_cons_succ, List.getElem_cons_zero, List.setIfInBounds_toArray, List.set_cons_zero, List.set_cons_succ])
  refine wpL_load (i := 12) (v := ?_) rfl (by kernel_rfl) (fun _ _ _ h => h) (by kernel_rfl) (by kernel_rfl) _ _ _ _ (by kernel_rfl) (by kernel_rfl) (Or.inl ⟨by rfl, ?_⟩) (by kernel_rfl) HT.out ?_
  rotate_left
  · intro w' hS
    (try dsimp only at hS)
    obtain ⟨x1, x2, x3, x4, x5, x6, x7, x8, x9, x10, x11, x12⟩ := hS
    go_simp
    try with_reducible rfl
  (try simp only [Act.put, List.getElem_toArray, List.getElem_cons_succ, List.getElem_cons_zero, List.setIfInBounds_toArray, List.set_cons_zero, List.set_cons_succ])
  refine wpL_next (n := 13) (by kernel_rfl) rfl (fun K' hK => ?_)
  go_simp
  refine US.mono ?_
  rintro e w8 ⟨A8, c8, he, hri8, hf8, hp8, hg8⟩
  dsimp only at he
  subst he
  have hnB := own_ne_A (w8 := w8) HOW2.out X7.out.r (by decide) hg8
  have hgA : w7.drew.grownBy w8 (Value.slice An nn cn).ownBlock := by rw [ownBlock_len]; exact hg8
  have KB8 := Lib.hid (Blk_grown KBd.out hgA (blk_own_ne KBd.out HOW2.out (by decide)))
  have KC8 := Lib.hid (Blk_grown KCd.out hgA (blk_own_ne KCd.out HOW2.out (by decide)))
  have KO8 := Lib.hid (Blk_grown KOd.out hgA (blk_own_ne KOd.out HOW2.out (by decide)))
  have KR8 := Lib.hid (Blk_grown (show Blk w7.drew gR 37 #[.int .i64 0, .int .i64 0, .slice none 0 0, .slice none 0 0] from KR.out) hgA (blk_own_ne (show Blk w7.drew gR 37 #[.int .i64 0, .int .i64 0, .slice none 0 0, .slice none 0 0] from KR.out) HOW2.out (by decide)))
  have hBr : Hid (gB ≠ gr) := fun e => blk_own_ne KB8.out hnB (by decide) (by rw [e]; rfl)
  have hRr : Hid (gR ≠ gr) := fun e => blk_own_ne KR8.out hnB (by decide) (by rw [e]; rfl)
  obtain ⟨_, _, _, _, hroom, hcell⟩ := own_room hnB
  have d0 := hcell (i * 3) _ (by have := rcs_get rl2 i 0 hil.out (by decide); rw [← HR.out] at this; exact this)
  have d1 := hcell (i * 3 + 1) _ (by have := rcs_get rl2 i 1 hil.out (by decide); rw [← HR.out] at this; exact this)
  have d2 := hcell (i * 3 + 2) _ (by have := rcs_get rl2 i 2 hil.out (by decide); rw [← HR.out] at this; exact this)
  have hnc := (own_room hnB).2.2.1
  have g0 := (hroom (i * 3) (by omega)).2
  have g1 := (hroom (i * 3 + 1) (by omega)).2
  have g2 := (hroom (i * 3 + 2) (by omega)).2
  have HT2 : Hid (w8.cell? ⟨gB, 2, none⟩ = some (.slice (some ⟨gr, 0, none⟩) nr cr) ∧ w8.cell? ⟨gO, 0, none⟩ = some (.int .i64 (i : Int)) ∧ w8.cell? ⟨gO, 1, none⟩ = some (.int .i64 os) ∧ w8.cell? ⟨gO, 2, none⟩ = some (.bool ox) ∧ w8.cell? ⟨gO, 3, none⟩ = some (.int .i64 op) ∧ w8.cell? ⟨gO, 4, none⟩ = some (.int .i64 oq) ∧ w8.cell? ⟨gO, 5, none⟩ = some (.int .i64 on) ∧ w8.cell? ⟨gO, 6, none⟩ = some (.int .i64 ot) ∧ w8.cell? ⟨gK, 1, none⟩ = some (.int .i64 (wn : Int)) ∧ w8.cell? ⟨gr, i * 3, none⟩ = some (.slice An nn cn) ∧ w8.cell? ⟨gr, i * 3 + 1, none⟩ = some (.int .i64 sec) ∧ w8.cell? ⟨gr, i * 3 + 2, none⟩ = some (.int .i64 cnt)) := ⟨KB8.out.cell 2, KO8.out.cell 0, KO8.out.cell 1, KO8.out.cell 2, KO8.out.cell 3, KO8.out.cell 4, KO8.out.cell 5, KO8.out.cell 6, KC8.out.cell 1, (by rw [HNN.out]; exact d0), d1, d2⟩
  have X9 := Lib.hid (A7.used (w8 := w8) (show A7 w w7.drew rl2 gr nr cr no1 A6 c6 bk.rows (bk.op ++ [⟨idv, ⟨(i : Int), os, ox, op, oq, on, ot⟩, oq, 1, ep⟩]) from ⟨X7.out.r, X7.out.o, X7.out.e, X7.out.own, X7.out.ap, X7.out.b.drew⟩) hil.out (show Blk w7.drew gR 37 #[.int .i64 0, .int .i64 0, .slice none 0 0, .slice none 0 0] from KR.out) (by rw [← HR.out]; exact hg8) hri8 hf8 (by rw [← HR.out]; exact hp8) c8 us uc)
  clear hnB hgA hroom hcell hri8 hf8 hp8 hg8 KBd KCd KOd KC8 KO8
  go_wp2_with fail
  refine hK.out _ _ HT2.out ?_
  clear hK K'
  (try simp only [Act.put, List.getElem_toArray, List.getElem_cons_succ, List.getElem_cons_zero, List.setIfInBounds_toArray, List.set_cons_zero, List.set_cons_succ])
  refine wpL_word (i := 14) (v := ?_) rfl (by kernel_rfl) (fun _ _ _ h => h) (by kernel_rfl) _ _ _ _ (by kernel_rfl) (by kernel_rfl) (Or.inl ⟨by rfl, ?_⟩) (fun _ => HT2.out) ?_
  rotate_left
  · intro w' _
    go_simp
    try with_reducible rfl
  (try simp only [Act.put, List.getElem_toArray, List.getElem_cons_succ, List.getElem_cons_zero, List.setIfInBounds_toArray, List.set_cons_zero, List.set_cons_succ])
  have D0 : (w8.setCell ⟨gr, i * 3, none⟩ (.slice A8 uns.length c8)).cell? ⟨gr, i * 3 + 1, none⟩ = some (.int .i64 sec) := (World.cell?_setCell_other _ _ _ _ (by intro e; injection e with e1 e2; omega)).trans d1
  have D1 : ((w8.setCell ⟨gr, i * 3, none⟩ (.slice A8 uns.length c8)).setCell ⟨gr, i * 3 + 1, none⟩ (.int .i64 us)).cell? ⟨gr, i * 3 + 2, none⟩ = some (.int .i64 cnt) := (World.cell?_setCell_other _ _ _ _ (by intro e; injection e with e1 e2; omega)).trans ((World.cell?_setCell_other _ _ _ _ (by intro e; injection e with e1 e2; omega)).trans d2)
  have G0 : (w8.setCell ⟨gr, i * 3, none⟩ (.slice A8 uns.length c8)).frozen? ⟨gr, i * 3 + 1, none⟩ = false := by rw [World.frozen?_setCell]; exact g1
  have G1 : ((w8.setCell ⟨gr, i * 3, none⟩ (.slice A8 uns.length c8)).setCell ⟨gr, i * 3 + 1, none⟩ (.int .i64 us)).frozen? ⟨gr, i * 3 + 2, none⟩ = false := by rw [World.frozen?_setCell, World.frozen?_setCell]; exact g2
  refine wpL_late (n := 15) (by kernel_rfl) rfl (by kernel_rfl) (fun K' hK => ?_)
  go_simp
  refine hK.out _ _ ?_
  clear hK K'
  (try simp only [Act.put, List.getElem_toArray, List.getElem_cons_succ, List.getElem_cons_zero, List.setIfInBounds_toArray, List.set_cons_zero, List.set_cons_succ])
  refine wpL_done (by kernel_rfl) ?_ _
  refine NoPanic.normal ?_
  have KB9 : Hid (Blk (((w8.setCell ⟨gr, i * 3, none⟩ (.slice A8 uns.length c8)).setCell ⟨gr, i * 3 + 1, none⟩ (.int .i64 us)).setCell ⟨gr, i * 3 + 2, none⟩ (.int .i64 uc)) gB 37 #[.int .i64 sh, .int .i64 (ca + 1), .slice (some ⟨gr, 0, none⟩) nr cr, .slice A6 no1 c6]) := far_st (far_st (far_st KB8.out hBr.out _) hBr.out _) hBr.out _
  have KR9 : Hid (Blk (((w8.setCell ⟨gr, i * 3, none⟩ (.slice A8 uns.length c8)).setCell ⟨gr, i * 3 + 1, none⟩ (.int .i64 us)).setCell ⟨gr, i * 3 + 2, none⟩ (.int .i64 uc)) gR 37 #[.int .i64 0, .int .i64 0, .slice none 0 0, .slice none 0 0]) := far_st (far_st (far_st KR8.out hRr.out _) hRr.out _) hRr.out _
  clear D0 D1 G0 G1 d0 d1 d2 g0 g1 g2 HT HT2 KB8 KR8 X7 KB KC KO KR
  generalize (((w8.setCell ⟨gr, i * 3, none⟩ (.slice A8 uns.length c8)).setCell ⟨gr, i * 3 + 1, none⟩ (.int .i64 us)).setCell ⟨gr, i * 3 + 2, none⟩ (.int .i64 uc)) = w9 at X9 KB9 KR9 ⊢
  have F3 : Blk (st4 w9 gR (.int .i64 sh) (.int .i64 (ca + 1)) (.slice (some ⟨gr, 0, none⟩) nr cr) (.slice A6 no1 c6)) gR 37 #[.int .i64 sh, .int .i64 (ca + 1), .slice (some ⟨gr, 0, none⟩) nr cr, .slice A6 no1 c6] := st4_blk KR9.out
  have hfin : MadeB2 (addF sk wn bk ⟨(i : Int), os, ox, op, oq, on, ot⟩ ep) (bk.sh + sk * bk.ca) w (.returned (.tuple #[.agg #[.int .i64 sh, .int .i64 (ca + 1), .slice (some ⟨gr, 0, none⟩) nr cr, .slice A6 no1 c6], .int .i64 idv])) (st4 w9 gR (.int .i64 sh) (.int .i64 (ca + 1)) (.slice (some ⟨gr, 0, none⟩) nr cr) (.slice A6 no1 c6)) := by
    obtain ⟨y1, y2, y3⟩ := A9.fin X9.out KR9.out hLR.out (.int .i64 sh) (.int .i64 (ca + 1)) (.slice (some ⟨gr, 0, none⟩) nr cr) (.slice A6 no1 c6) sh (ca + 1)
    have hADD : addF sk wn bk ⟨(i : Int), os, ox, op, oq, on, ot⟩ ep = ⟨sh, ca + 1, bk.rows.set i ⟨uns, us, uc⟩, bk.op ++ [⟨idv, ⟨(i : Int), os, ox, op, oq, on, ot⟩, oq, 1, ep⟩]⟩ := by
      unfold addF
      have h1 : Bkp.gR bk.rows i = ⟨ns, sec, cnt⟩ := HRW.out.symm
      simp only [Int.toNat_natCast, h1]
      rw [← HU.out, HID.out, hsh.out.1, hsh.out.2]
    rw [hADD]
    refine ⟨some ⟨gr, 0, none⟩, A6, cr, c6, _, ?_, y1, y2, y3⟩
    rw [HID.out, hsh.out.1, hsh.out.2]
    unfold bkA
    simp [HNO1.out, hno.out, hnr.out]
  have HF := Lib.hid hfin
  clear hfin X9
  obtain ⟨k0, k1, k2, k3⟩ := q4_of KB9.out
  obtain ⟨z0, z1, z2, z3, f0, f1, f2, f3⟩ := z4_of KR9.out
  go_wp2_with fail
  obtain ⟨d0, d1, d2, d3⟩ := q4_of F3
  clear F3
  unfold st4 at d0 d1 d2 d3 HF
  exact bodyPost_ret (v := .tuple #[.agg #[.int .i64 sh, .int .i64 (ca + 1), .slice (some ⟨gr, 0, none⟩) nr cr, .slice A6 no1 c6], .int .i64 idv]) (by simp [results, Try.results10, go_sem, d0, d1, d2, d3]) rfl HF.out
end Go.Proofs.Ytjabfbeioapiaaa.Bka
