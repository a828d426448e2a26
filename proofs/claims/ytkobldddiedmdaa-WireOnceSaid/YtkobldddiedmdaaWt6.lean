/- The contract of the law's fixed example of layer 6. No condition. -/
import Derived.Test.YtkobldddiedmdaaWec
import Derived.Test.YtkobldddiedmdaaWal
import Derived.Test.YtkobldddiedmdaaWkp
import Derived.Laws.IdiomStrings
import Derived.Deep.AppendLies
namespace Go.Proofs.Ytkobldddiedmdaa.Wt6
set_option maxRecDepth 100000
open Go.ChangeShapes Go.WideShapes Go.ChangeAt Go.RowKit Mem Tre Ref3 Law3 Fix3 CrdB CrdC Rr4 Wpl Wmr Wrt St7 Rul6 Wen Wpo Wec Wtk Wrd Wfi Wdp Wde Wal Wkp
set_option linter.unusedVariables false
set_option linter.unusedSimpArgs false

theorem okB_of {l : List UInt8} (h : okB l = true) : okD l := by unfold okB at h; simp only [decide_eq_true_eq] at h; exact h
theorem own_caps {w : World} {base : Nat} {e : TypeId} {size n c : Nat} {A : Option Addr} {xs : List Value} (h : w.ownsRow base e size (.slice A n c) n xs) : n ≤ c ∧ (c : Int) ≤ 9223372036854775807 := by
  rcases h.2 with ⟨h1, h2⟩ | ⟨g, cap, cur, hv, _, _, h3, h4, _⟩
  · injection h1 with e1 e2 e3; subst e3; omega
  · injection hv with e1 e2 e3; subst e3; unfold maxLen at h4; omega
def m15 : M := ⟨1, 0, 0, false, 0, 0, 0, 0, 5, 0, 0, 0⟩
/-- the text of bytes that lie in memory -/
theorem text_of {w : World} {B c : Nat} {A : Option Addr} {l : List UInt8} (h : By w B A l) (hl : 0 < l.length) : (convert 23 9 (.slice A l.length c)).run Try.prog w = .ok (.string ⟨l.toArray⟩) w := by
  obtain ⟨b, o, rfl, _, hcc⟩ := By.at (i := 0) h hl
  refine run_convert_bytes_back w _ _ 5 ⟨b, o, none⟩ c l Try.underlying23 Try.underlying5 Try.underlying9 (fun j hj => ?_)
  have e : ((⟨b, o, none⟩ : Addr).add j) = ⟨b, o + j, none⟩ := by cases j <;> simp [Addr.add]
  rw [e]
  exact hcc j hj
set_option maxHeartbeats 8000000 in
theorem told6_any (w : World) : Calls Try.prog 8 #[] w (MadeB true w) := by
  obtain ⟨i0, hi, hz0, hz1, hz2⟩ := info_parts u8_info
  have hE : Hid (encB m15 = [1, 0, 0, 0, 5]) := by show _ = _; decide +kernel
  have hok6 : Hid (okD [1, 0, 0, 0, 5, 9]) := okB_of (by decide +kernel)
  have hno : Hid (¬ okD [7]) := fun h => by have := okB_t h; revert this; decide +kernel
  have hm6 : Hid (msgD [1, 0, 0, 0, 5, 9] = m15) := (eqM_iff _ _).1 (by decide +kernel)
  have hr6 : Hid ([1, 0, 0, 0, 5, 9].drop (lenK (fld [1, 0, 0, 0, 5, 9] 0 1)) = [(9 : UInt8)]) := by show _ = _; decide +kernel
  go_enter Try.func8, Try.ntmps8
  go_wp2_with fail
  refine (encode_any m15 _ ⟨⟨by decide, by decide⟩, ⟨by decide, by decide⟩, ⟨by decide, by decide⟩, ⟨by decide, by decide⟩, ⟨by decide, by decide⟩, ⟨by decide, by decide⟩, ⟨by decide, by decide⟩, ⟨by decide, by decide⟩, ⟨by decide, by decide⟩, ⟨by decide, by decide⟩, ⟨by decide, by decide⟩⟩).mono ?_
  rintro e w1 ⟨A1, c1, rfl, r1, b1, o1⟩
  rw [hE.out] at r1 ⊢
  have r1 : Hid (w1.ownsRow w.heap.size 5 1 (.slice A1 5 c1) 5 (bts [1, 0, 0, 0, 5])) := r1
  simp only [List.length_cons, List.length_nil, Nat.zero_add, Nat.reduceAdd]
  obtain ⟨g1, cap, hv, hg1, hlt1⟩ := World.ownsRow.form r1.out (by decide)
  injection hv with e1 e2 e3
  subst e1
  subst e3
  have hbw := Lib.hid b1
  have hs1 : w.heap.size ≤ w1.heap.size := b1.size
  clear o1 b1
  go_wp2_with (at_builtin; refine wpList_app1K r1.out rfl _ _ _ rfl i0 (.int .u8 0) 1 Try.underlying23 hi hz0 hz1 hz2 rfl (by decide) rfl rfl rfl [.int .u8 9] rfl rfl (by simp [Value.oneCell']) (by decide) (by decide) hs1 ?_; intro A2 c2 w2 hown2 hgr2 hkp2)
  have hcap := own_caps hown2
  have y2 : Hid (By w2 w2.heap.size A2 [1, 0, 0, 0, 5, 9]) := Rd.of_own hown2
  have hsz2 : w1.heap.size + 1 ≤ w2.heap.size := by have := hgr2.size; simpa using this
  have k2 : Hid (By w2 w2.heap.size (some ⟨g1, 0, none⟩) [1, 0, 0, 0, 5]) := .inr ⟨g1, 0, rfl, by omega, fun j u hu => by rw [Nat.zero_add]; exact hkp2 j u hu⟩
  have b2 : Hid (Below w.heap.size w w2) := (hbw.out.alloc hs1 _).grown hgr2 (by simp; omega) (fun q hq => by have := Option.some.inj hq; omega)
  have hcap1 : [1, 0, 0, 0, 5, 9].length ≤ c2 := hcap.1
  have hcap2 := hcap.2
  clear hown2 hgr2 hkp2 hcap r1 hbw hlt1 hg1 hs1 hsz2 hE
  refine (decode_any A2 c2 [1, 0, 0, 0, 5, 9] w2 (by simp) hcap1 hcap2 y2).mono ?_
  rintro e w3 (⟨_, A3, c3, rfl, y3, b3⟩ | ⟨hno', _⟩)
  case inr => exact absurd hok6.out hno'
  rw [hm6.out, show mvl m15 = .agg #[.int .i64 1, .int .i64 0, .int .i64 0, .bool false, .int .i64 0, .int .i64 0, .int .i64 0, .int .i64 0, .int .i64 5, .int .i64 0, .int .i64 0, .int .i64 0] from rfl]
  rw [hr6.out] at y3 ⊢
  have b3' : Hid (Below w.heap.size w w3) := below_step b2.out b3
  have k3 : Hid (By w3 w3.heap.size (some ⟨g1, 0, none⟩) [1, 0, 0, 0, 5]) := Rd.below' k2.out b3 b3.size
  have U3 : Hid (Below w3.heap.size w3 (w3.alloc (.cells #[.int .i64 1, .int .i64 0, .int .i64 0, .bool false, .int .i64 0, .int .i64 0, .int .i64 0, .int .i64 0, .int .i64 5, .int .i64 0, .int .i64 0, .int .i64 0] 28))) := (Below.refl _ _).alloc (Nat.le_refl _) _
  have m4 : Hid (Blk (w3.alloc (.cells #[.int .i64 1, .int .i64 0, .int .i64 0, .bool false, .int .i64 0, .int .i64 0, .int .i64 0, .int .i64 0, .int .i64 5, .int .i64 0, .int .i64 0, .int .i64 0] 28)) w3.heap.size 28 #[.int .i64 1, .int .i64 0, .int .i64 0, .bool false, .int .i64 0, .int .i64 0, .int .i64 0, .int .i64 0, .int .i64 5, .int .i64 0, .int .i64 0, .int .i64 0]) := Blk.fresh _ _ _
  have k4 : Hid (By (w3.alloc (.cells #[.int .i64 1, .int .i64 0, .int .i64 0, .bool false, .int .i64 0, .int .i64 0, .int .i64 0, .int .i64 0, .int .i64 5, .int .i64 0, .int .i64 0, .int .i64 0] 28)) (w3.alloc (.cells #[.int .i64 1, .int .i64 0, .int .i64 0, .bool false, .int .i64 0, .int .i64 0, .int .i64 0, .int .i64 0, .int .i64 5, .int .i64 0, .int .i64 0, .int .i64 0] 28)).heap.size (some ⟨g1, 0, none⟩) [1, 0, 0, 0, 5]) := Rd.below' k3.out U3.out U3.out.size
  have y4 : Hid (By (w3.alloc (.cells #[.int .i64 1, .int .i64 0, .int .i64 0, .bool false, .int .i64 0, .int .i64 0, .int .i64 0, .int .i64 0, .int .i64 5, .int .i64 0, .int .i64 0, .int .i64 0] 28)) (w3.alloc (.cells #[.int .i64 1, .int .i64 0, .int .i64 0, .bool false, .int .i64 0, .int .i64 0, .int .i64 0, .int .i64 0, .int .i64 5, .int .i64 0, .int .i64 0, .int .i64 0] 28)).heap.size A3 [9]) := Rd.below' y3 U3.out U3.out.size
  have b4 : Hid (Below w.heap.size w (w3.alloc (.cells #[.int .i64 1, .int .i64 0, .int .i64 0, .bool false, .int .i64 0, .int .i64 0, .int .i64 0, .int .i64 0, .int .i64 5, .int .i64 0, .int .i64 0, .int .i64 0] 28))) := below_step b3'.out U3.out
  clear y2 k2 b2 hcap1 hcap2 y3 b3 b3' k3 U3 hok6 hm6 hr6
  go_upto_region 3 with fail
  generalize w3.alloc (.cells #[.int .i64 1, .int .i64 0, .int .i64 0, .bool false, .int .i64 0, .int .i64 0, .int .i64 0, .int .i64 0, .int .i64 5, .int .i64 0, .int .i64 0, .int .i64 0] 28) = w4 at m4 k4 y4 b4 ⊢
  generalize w3.heap.size = gM at m4 ⊢
  go_wp2_with fail
  have U5 : Hid (Below w4.heap.size w4 (w4.alloc (.cells #[.int .u8 7] 5))) := (Below.refl _ _).alloc (Nat.le_refl _) _
  have y5 : Hid (By (w4.alloc (.cells #[.int .u8 7] 5)) (w4.alloc (.cells #[.int .u8 7] 5)).heap.size (some ⟨w4.heap.size, 0, none⟩) [7]) := (Blk.fresh _ _ _).rd' rfl
  refine (decode_any (some ⟨w4.heap.size, 0, none⟩) 1 [7] _ (by simp) (by simp) (by decide) y5).mono ?_
  rintro e w5 (⟨hok', _⟩ | ⟨_, rfl, b5⟩)
  case inl => exact absurd hok' hno.out
  rw [show mvl m0 = .agg #[.int .i64 0, .int .i64 0, .int .i64 0, .bool false, .int .i64 0, .int .i64 0, .int .i64 0, .int .i64 0, .int .i64 0, .int .i64 0, .int .i64 0, .int .i64 0] from rfl]
  have b45 : Below w4.heap.size w4 w5 := below_step U5.out b5
  have U6 : Below w5.heap.size w5 (w5.alloc (.cells #[.int .i64 0, .int .i64 0, .int .i64 0, .bool false, .int .i64 0, .int .i64 0, .int .i64 0, .int .i64 0, .int .i64 0, .int .i64 0, .int .i64 0, .int .i64 0] 28)) := (Below.refl _ _).alloc (Nat.le_refl _) _
  have b46 : Hid (Below w4.heap.size w4 (w5.alloc (.cells #[.int .i64 0, .int .i64 0, .int .i64 0, .bool false, .int .i64 0, .int .i64 0, .int .i64 0, .int .i64 0, .int .i64 0, .int .i64 0, .int .i64 0, .int .i64 0] 28))) := below_step b45 U6
  have m6 : Hid (Blk (w5.alloc (.cells #[.int .i64 0, .int .i64 0, .int .i64 0, .bool false, .int .i64 0, .int .i64 0, .int .i64 0, .int .i64 0, .int .i64 0, .int .i64 0, .int .i64 0, .int .i64 0] 28)) gM 28 #[.int .i64 1, .int .i64 0, .int .i64 0, .bool false, .int .i64 0, .int .i64 0, .int .i64 0, .int .i64 0, .int .i64 5, .int .i64 0, .int .i64 0, .int .i64 0]) := Blk.below' m4.out b46.out
  have k6 : Hid (By (w5.alloc (.cells #[.int .i64 0, .int .i64 0, .int .i64 0, .bool false, .int .i64 0, .int .i64 0, .int .i64 0, .int .i64 0, .int .i64 0, .int .i64 0, .int .i64 0, .int .i64 0] 28)) (w5.alloc (.cells #[.int .i64 0, .int .i64 0, .int .i64 0, .bool false, .int .i64 0, .int .i64 0, .int .i64 0, .int .i64 0, .int .i64 0, .int .i64 0, .int .i64 0, .int .i64 0] 28)).heap.size (some ⟨g1, 0, none⟩) [1, 0, 0, 0, 5]) := Rd.below' k4.out b46.out b46.out.size
  have y6 : Hid (By (w5.alloc (.cells #[.int .i64 0, .int .i64 0, .int .i64 0, .bool false, .int .i64 0, .int .i64 0, .int .i64 0, .int .i64 0, .int .i64 0, .int .i64 0, .int .i64 0, .int .i64 0] 28)) (w5.alloc (.cells #[.int .i64 0, .int .i64 0, .int .i64 0, .bool false, .int .i64 0, .int .i64 0, .int .i64 0, .int .i64 0, .int .i64 0, .int .i64 0, .int .i64 0, .int .i64 0] 28)).heap.size A3 [9]) := Rd.below' y4.out b46.out b46.out.size
  have b6 : Hid (Below w.heap.size w (w5.alloc (.cells #[.int .i64 0, .int .i64 0, .int .i64 0, .bool false, .int .i64 0, .int .i64 0, .int .i64 0, .int .i64 0, .int .i64 0, .int .i64 0, .int .i64 0, .int .i64 0] 28))) := below_step b4.out b46.out
  clear U5 y5 b5 b45 U6 b46 m4 k4 y4 b4 hno
  go_upto_region 4 with fail
  generalize w5.alloc (.cells #[.int .i64 0, .int .i64 0, .int .i64 0, .bool false, .int .i64 0, .int .i64 0, .int .i64 0, .int .i64 0, .int .i64 0, .int .i64 0, .int .i64 0, .int .i64 0] 28) = w6 at m6 k6 y6 b6 ⊢
  have htx : (convert 23 9 (.slice (some ⟨g1, 0, none⟩) 5 c1)).run Try.prog w6 = .ok (.string ⟨#[1, 0, 0, 0, 5]⟩) w6 := text_of k6.out (by decide)
  have i8 : w6.cell? ⟨gM, 8, none⟩ = some (.int .i64 5) := m6.out.cell 8
  obtain ⟨p, o, rfl, _, hcc⟩ := By.at (i := 0) y6.out (by decide)
  have i9 : w6.cell? ⟨p, o, none⟩ = some (.int .u8 9) := hcc 0 (by decide)
  clear hcc
  go_wp2_with fail
  go_ret
  exact madeB_mk rfl b6.out
end Go.Proofs.Ytkobldddiedmdaa.Wt6
