/- For every list of nodes the law TreeChecks returns true, and changes nothing: of its first 40 it is told what is wrong first, and where, as the reference says. No condition. -/
import Derived.Test.YtjldfcoakbdfpaaTold3
namespace Go.Proofs.Ytjldfcoakbdfpaa.treeChecks
open Go.ChangeShapes Go.WideShapes Go.ChangeAt Go.RowKit Mem Tre Ref3 Law3 Told3
set_option linter.unusedVariables false

theorem own : ownKnob Try.prog.godebug = none := by kernel_rfl
theorem laidOut : laidOutB Try.prog = true := by kernel_rfl

theorem rd_take {w : World} {B : Nat} {A : Option Addr} {l : List (Int × Int)} (h : Nds w B A l) (m : Nat) : Nds w B A (l.take m) := by
  by_cases h0 : (l.take m).length = 0
  · exact .inl (by rw [List.eq_nil_of_length_eq_zero h0]; rfl)
  · have hl : 0 < l.length := by rw [List.length_take] at h0; omega
    rcases h with h | ⟨b, o, hA, hb, hc⟩
    · have := nds_len l; rw [h] at this; simp at this; omega
    · refine .inr ⟨b, o, hA, hb, fun i v hv => hc i v ?_⟩
      have e : nds l = nds (l.take m) ++ nds (l.drop m) := by rw [nds, nds, nds, ← List.flatMap_append, List.take_append_drop]
      rw [e, List.getElem?_append_left (List.getElem?_eq_some_iff.1 hv).1]
      exact hv
theorem wf_take {l : List (Int × Int)} (h : WfN l) (m : Nat) : WfN (l.take m) := by
  intro i hi
  have hi' : i < m ∧ i < l.length := by simp at hi; omega
  have := h i hi'.2
  have e : (l.take m).getD i (0, 0) = l.getD i (0, 0) := by simp [hi'.1, hi'.2]
  unfold nP nC at *
  rw [e]
  exact this

theorem to_n (n : Nat) (A : Option Addr) (c : Nat) (l : List (Int × Int)) (w : World) (hn : n = l.length) (hl : Hid (Nds w w.heap.size A l)) (hw : Hid (WfN l)) (hmax : (l.length : Int) ≤ 1000000) :
    Calls Try.prog 10 #[.slice A n c] w (MadeNds l w) := by subst hn; exact to_any A c l w hl hw hmax
theorem rcheck_n (n : Nat) (A : Option Addr) (c : Nat) (l : List (Int × Int)) (w : World) (hn : n = l.length) (hl : Hid (Nds w w.heap.size A l)) (hw : Hid (WfN l)) (hmax : (l.length : Int) ≤ 9223372036854775807) :
    Calls Try.prog 11 #[.slice A n c] w (Made2 (chk l) w) := by subst hn; exact rcheck_any A c l w hl hw hmax

set_option maxHeartbeats 1000000 in
theorem inner1 (A : Option Addr) (c n : Nat) (l : List (Int × Int)) (w : World) (HN : Hid (n = l.length)) (h4 : (l.length : Int) ≤ 40) (hl : Hid (Nds w w.heap.size A l)) (hw : Hid (WfN l)) (hnc : n ≤ c) (hcm : c ≤ 9223372036854775807) (h40 : n ≤ 40) :
    Calls Try.prog 3 #[.slice A n c] w (MadeB true w) := by
  have h' : decide (40 < (n : Int)) = false := by simp; omega
  have e1 : ((chk l).1 == (chk l).1) = true := by simp
  have e2 : ((chk l).2 == (chk l).2) = true := by simp
  go_enter Try.func3, Try.ntmps3
  go_wp2_with fail
  refine (to_n _ A c l w HN.out hl hw (by omega)).mono ?_
  rintro e w1 ⟨A1, c1, rfl, hr1, hb1⟩
  have HR1 := Lib.hid hr1
  have hl2 : Hid (Nds w1 w1.heap.size A l) := Rd.below' hl.out hb1 hb1.size
  clear hr1
  go_wp2_with fail
  refine (check_any A1 c1 l _ HR1.out hw (by omega)).mono ?_
  rintro e w2 ⟨rfl, hb2⟩
  have hl3 : Hid (Nds w2 w2.heap.size A l) := Rd.below' hl2.out hb2 hb2.size
  have hs2 : Below w.heap.size w w2 := hb1.trans (hb2.mono hb1.size)
  clear hb2
  go_wp2_with fail
  refine (rcheck_n _ A c l _ HN.out hl3 hw (by omega)).mono ?_
  rintro e w3 ⟨rfl, hb3⟩
  have hs3 : Below w.heap.size w w3 := hs2.trans (hb3.mono hs2.size)
  clear hb3 hs2
  go_wp2_with (go_at_call 12; refine (told3_any _).mono ?_; rintro e w4 ⟨rfl, hb4⟩)
  go_ret
  exact madeB_mk rfl (hs3.trans (hb4.mono hs3.size))

set_option maxHeartbeats 1000000 in
theorem inner2 (A : Option Addr) (c n : Nat) (l : List (Int × Int)) (w : World) (HN : Hid (40 = l.length)) (h4 : (l.length : Int) ≤ 40) (hl : Hid (Nds w w.heap.size A l)) (hw : Hid (WfN l)) (hnc : n ≤ c) (hcm : c ≤ 9223372036854775807) (h40 : 40 < n) :
    Calls Try.prog 3 #[.slice A n c] w (MadeB true w) := by
  have h5 : decide ((n : Int) ≤ 40) = false := by simp; omega
  have g3 : 40 ≤ c := by omega
  have e1 : ((chk l).1 == (chk l).1) = true := by simp
  have e2 : ((chk l).2 == (chk l).2) = true := by simp
  go_enter Try.func3, Try.ntmps3
  go_wp2_with fail
  refine (to_n _ A c l w HN.out hl hw (by omega)).mono ?_
  rintro e w1 ⟨A1, c1, rfl, hr1, hb1⟩
  have HR1 := Lib.hid hr1
  have hl2 : Hid (Nds w1 w1.heap.size A l) := Rd.below' hl.out hb1 hb1.size
  clear hr1
  go_wp2_with fail
  refine (check_any A1 c1 l _ HR1.out hw (by omega)).mono ?_
  rintro e w2 ⟨rfl, hb2⟩
  have hl3 : Hid (Nds w2 w2.heap.size A l) := Rd.below' hl2.out hb2 hb2.size
  have hs2 : Below w.heap.size w w2 := hb1.trans (hb2.mono hb1.size)
  clear hb2
  go_wp2_with fail
  refine (rcheck_n _ A c l _ HN.out hl3 hw (by omega)).mono ?_
  rintro e w3 ⟨rfl, hb3⟩
  have hs3 : Below w.heap.size w w3 := hs2.trans (hb3.mono hs2.size)
  clear hb3 hs2
  go_wp2_with (go_at_call 12; refine (told3_any _).mono ?_; rintro e w4 ⟨rfl, hb4⟩)
  go_ret
  exact madeB_mk rfl (hs3.trans (hb4.mono hs3.size))

theorem inner (A : Option Addr) (c : Nat) (l : List (Int × Int)) (w : World) (hl : Nds w w.heap.size A l) (hw : WfN l) (hc : l.length ≤ c) (hcm : c ≤ maxLen) :
    Calls Try.prog 3 #[.slice A l.length c] w (MadeB true w) := by
  unfold maxLen at hcm
  have hk : (l.take 40).length = min 40 l.length := List.length_take
  rcases Nat.lt_or_ge 40 l.length with h | h
  · exact inner2 A c _ (l.take 40) w (by show _ = _; omega) (by omega) (rd_take hl 40) (wf_take hw 40) hc (by omega) h
  · exact inner1 A c _ (l.take 40) w (by show _ = _; omega) (by omega) (rd_take hl 40) (wf_take hw 40) hc (by omega) h

set_option maxRecDepth 100000 in
theorem lifted (os : Os) (started : os.Started) (H : Type) (enc : TypeId × Value → H) :
    ReturnsInHanded {} Try.checked os 3 .any (Rows.treeChecksSpec.pre6 enc Try.prog Try.f3 Rows.treeChecksRow.domain false) (Rows.treeChecksSpec.post enc Try.prog Try.f3 false true false false) := by
  refine returnsInHanded_of_change (C := Try.checked) own started (by kernel_rfl) Try.func3
    (ChangeSpec.witness6 (enc := enc) (C := Try.checked) false ⟨#[], #[.slice none 0 0], []⟩ 8 (by kernel_rfl) (by kernel_rfl) (by kernel_rfl) (by kernel_rfl)) ?_
  intro W base args ds gs before hval0 hW hcnd _
  have hval : ∀ (j : Nat) t v, Try.f3.params[j]? = some t → args[j]? = some v → Value.okWide Try.prog W .any base t v := hval0
  have hW' := hW
  obtain ⟨p, q, hA0, hV, rfl, hfz, hnd⟩ := hW
  have hA : DataW.TrodAll enc Try.prog W 0 (fun _ => true) true Try.f3.params.toList args.toList ds p := hA0
  rw [Try.params3] at hA hval
  obtain ⟨v0, d0, rfl, rfl, h0⟩ := trodAll_one hA
  obtain ⟨A, c, l, rfl, hlc, hcm, hl, hw⟩ := open_nodes Try.underlying22 Try.underlying69 (by kernel_rfl) rfl rfl (by kernel_rfl) (by kernel_rfl) Try.underlying3 Try.underlying2 (hval 0 _ v0 rfl rfl) h0
  refine (inner A c l W hl hw hlc hcm).mono fun e W' ⟨he, hb⟩ => ?_
  subst he
  exact ⟨_, rfl, law_post hW' rfl rfl rfl rfl (by kernel_rfl) Try.underlying4 (by rw [Try.params3]; simp only [List.mem_cons, List.not_mem_nil, or_false, forall_eq]; exact ⟨by kernel_rfl, of_decide_eq_true (by kernel_rfl)⟩) laidOut hb⟩

theorem over : Rows.treeChecksRow.holds Try.pinned (OpenSpec.ofChange Rows.treeChecksSpec) :=
  OpenClaim.holds_of_wide 3 Try.f3 rfl rfl rfl rfl rfl rfl rfl ⟨rfl, rfl, rfl, rfl, rfl⟩ rfl rfl rfl rfl rfl (by kernel_rfl) Try.func3 (by kernel_rfl)
    (of_decide_eq_true (by kernel_rfl)) (by unfold Func.isWrapper; first | (rw [if_pos (by decide +kernel)]; kernel_rfl) | (rw [if_neg (by decide +kernel)]; exact ⟨rfl, rfl⟩))
    (fun os started H enc _ => lifted os started H enc)

theorem proved : Rows.TreeChecksSaid := over
#print axioms proved
end Go.Proofs.Ytjldfcoakbdfpaa.treeChecks
