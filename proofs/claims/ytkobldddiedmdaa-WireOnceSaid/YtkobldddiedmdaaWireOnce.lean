/- For every slice of messages the law WireOnce returns true, and changes nothing: messages that may be, one behind the other, are all told as they were. No condition. -/
import Derived.Test.YtkobldddiedmdaaWos
import Derived.Test.YtkobldddiedmdaaWfx
import Derived.Test.YtkobldddiedmdaaWal
import Derived.Test.YtkobldddiedmdaaWbo
import Derived.Test.YtkobldddiedmdaaWt6
import Derived.Test.YtkobldddiedmdaaWto
import Derived.Test.YtkobldddiedmdaaWec
import Derived.Test.YtkobldddiedmdaaApt
namespace Go.Proofs.Ytkobldddiedmdaa.wireOnce
set_option maxRecDepth 100000
open Go.ChangeShapes Go.WideShapes Go.ChangeAt Go.RowKit Mem Tre Ref3 Law3 Fix3 CrdB CrdC Rr4 Fr4 Wpl Wmr Wrt Wal Wt6 Wto Wec Wen Rul4 Rul6 Few5 Wbo Opn Wos Wfx Apt St7 Go.Joins Go.Deep
set_option linter.unusedVariables false
set_option linter.unusedSimpArgs false

theorem own : ownKnob Try.prog.godebug = none := by kernel_rfl
theorem laidOut : laidOutB Try.prog = true := by kernel_rfl

theorem s24 {w w1 : World} {pa oa pb ob j : Nat} {v0 v1 v2 v3 v4 v5 v6 v7 v8 v9 v10 v11 : Value} (hb : Below w.heap.size w w1) (h : w.cell? ⟨pa, oa + j * 12, none⟩ = some v0 ∧ w.cell? ⟨pa, oa + j * 12 + 1, none⟩ = some v1 ∧ w.cell? ⟨pa, oa + j * 12 + 2, none⟩ = some v2 ∧ w.cell? ⟨pa, oa + j * 12 + 3, none⟩ = some v3 ∧ w.cell? ⟨pa, oa + j * 12 + 4, none⟩ = some v4 ∧ w.cell? ⟨pa, oa + j * 12 + 5, none⟩ = some v5 ∧ w.cell? ⟨pa, oa + j * 12 + 6, none⟩ = some v6 ∧ w.cell? ⟨pa, oa + j * 12 + 7, none⟩ = some v7 ∧ w.cell? ⟨pa, oa + j * 12 + 8, none⟩ = some v8 ∧ w.cell? ⟨pa, oa + j * 12 + 9, none⟩ = some v9 ∧ w.cell? ⟨pa, oa + j * 12 + 10, none⟩ = some v10 ∧ w.cell? ⟨pa, oa + j * 12 + 11, none⟩ = some v11 ∧ w.cell? ⟨pb, ob + j * 12, none⟩ = some v0 ∧ w.cell? ⟨pb, ob + j * 12 + 1, none⟩ = some v1 ∧ w.cell? ⟨pb, ob + j * 12 + 2, none⟩ = some v2 ∧ w.cell? ⟨pb, ob + j * 12 + 3, none⟩ = some v3 ∧ w.cell? ⟨pb, ob + j * 12 + 4, none⟩ = some v4 ∧ w.cell? ⟨pb, ob + j * 12 + 5, none⟩ = some v5 ∧ w.cell? ⟨pb, ob + j * 12 + 6, none⟩ = some v6 ∧ w.cell? ⟨pb, ob + j * 12 + 7, none⟩ = some v7 ∧ w.cell? ⟨pb, ob + j * 12 + 8, none⟩ = some v8 ∧ w.cell? ⟨pb, ob + j * 12 + 9, none⟩ = some v9 ∧ w.cell? ⟨pb, ob + j * 12 + 10, none⟩ = some v10 ∧ w.cell? ⟨pb, ob + j * 12 + 11, none⟩ = some v11) : w1.cell? ⟨pa, oa + j * 12, none⟩ = some v0 ∧ w1.cell? ⟨pa, oa + j * 12 + 1, none⟩ = some v1 ∧ w1.cell? ⟨pa, oa + j * 12 + 2, none⟩ = some v2 ∧ w1.cell? ⟨pa, oa + j * 12 + 3, none⟩ = some v3 ∧ w1.cell? ⟨pa, oa + j * 12 + 4, none⟩ = some v4 ∧ w1.cell? ⟨pa, oa + j * 12 + 5, none⟩ = some v5 ∧ w1.cell? ⟨pa, oa + j * 12 + 6, none⟩ = some v6 ∧ w1.cell? ⟨pa, oa + j * 12 + 7, none⟩ = some v7 ∧ w1.cell? ⟨pa, oa + j * 12 + 8, none⟩ = some v8 ∧ w1.cell? ⟨pa, oa + j * 12 + 9, none⟩ = some v9 ∧ w1.cell? ⟨pa, oa + j * 12 + 10, none⟩ = some v10 ∧ w1.cell? ⟨pa, oa + j * 12 + 11, none⟩ = some v11 ∧ w1.cell? ⟨pb, ob + j * 12, none⟩ = some v0 ∧ w1.cell? ⟨pb, ob + j * 12 + 1, none⟩ = some v1 ∧ w1.cell? ⟨pb, ob + j * 12 + 2, none⟩ = some v2 ∧ w1.cell? ⟨pb, ob + j * 12 + 3, none⟩ = some v3 ∧ w1.cell? ⟨pb, ob + j * 12 + 4, none⟩ = some v4 ∧ w1.cell? ⟨pb, ob + j * 12 + 5, none⟩ = some v5 ∧ w1.cell? ⟨pb, ob + j * 12 + 6, none⟩ = some v6 ∧ w1.cell? ⟨pb, ob + j * 12 + 7, none⟩ = some v7 ∧ w1.cell? ⟨pb, ob + j * 12 + 8, none⟩ = some v8 ∧ w1.cell? ⟨pb, ob + j * 12 + 9, none⟩ = some v9 ∧ w1.cell? ⟨pb, ob + j * 12 + 10, none⟩ = some v10 ∧ w1.cell? ⟨pb, ob + j * 12 + 11, none⟩ = some v11 := by
  obtain ⟨h0, h1, h2, h3, h4, h5, h6, h7, h8, h9, h10, h11, h12, h13, h14, h15, h16, h17, h18, h19, h20, h21, h22, h23⟩ := h
  exact ⟨cell_later hb h0, cell_later hb h1, cell_later hb h2, cell_later hb h3, cell_later hb h4, cell_later hb h5, cell_later hb h6, cell_later hb h7, cell_later hb h8, cell_later hb h9, cell_later hb h10, cell_later hb h11, cell_later hb h12, cell_later hb h13, cell_later hb h14, cell_later hb h15, cell_later hb h16, cell_later hb h17, cell_later hb h18, cell_later hb h19, cell_later hb h20, cell_later hb h21, cell_later hb h22, cell_later hb h23⟩
def flat (ms : List M) : List UInt8 := ms.flatMap encP
theorem flat_snoc (ms : List M) (m : M) : flat (ms ++ [m]) = flat ms ++ encP m := by simp [flat]
def Good (ms : List M) : Prop := ∀ m ∈ ms, rightM m = true ∧ WfM m
theorem encP_len {m : M} (h : rightM m = true ∧ WfM m) : 1 ≤ (encP m).length ∧ (encP m).length ≤ 38 := by
  have d := dec_enc (m := m) [] h.2 h.1
  rw [List.append_nil] at d
  obtain ⟨h1, h2, h3⟩ := d
  refine ⟨h1.1, ?_⟩
  rw [← h3]
  unfold lenK
  split <;> (try split) <;> (try split) <;> (try split) <;> omega
theorem flat_len (ms : List M) (h : Good ms) : (flat ms).length ≤ 38 * ms.length := by
  induction ms with
  | nil => simp [flat]
  | cons m ms ih =>
    have h1 := (encP_len (h m (List.mem_cons_self ..))).2
    have h2 := ih (fun x hx => h x (List.mem_cons_of_mem _ hx))
    have e : flat (m :: ms) = encP m ++ flat ms := rfl
    rw [e, List.length_append, List.length_cons]
    omega
theorem all_flat (ms : List M) (h : Good ms) (f : Nat) (hf : (flat ms).length ≤ f) : allF f (flat ms) = (ms, true) := by
  induction ms generalizing f with
  | nil => exact allF_nil f rfl
  | cons m ms ih =>
    have hm := h m (List.mem_cons_self ..)
    have hl := encP_len hm
    have e : flat (m :: ms) = encP m ++ flat ms := rfl
    rw [e] at hf ⊢
    rw [List.length_append] at hf
    obtain ⟨f, rfl⟩ : ∃ g, f = g + 1 := ⟨f - 1, by omega⟩
    obtain ⟨h1, h2, h3⟩ := dec_enc (m := m) (flat ms) hm.2 hm.1
    show (if _ then _ else _) = _
    rw [if_neg (by rw [List.length_append]; omega), if_pos (okB_t h1), h2, h3, List.drop_left, ih (fun x hx => h x (List.mem_cons_of_mem _ hx)) f (by omega)]
theorem good_snoc {ms : List M} {m : M} (h : Good ms) (hm : rightM m = true ∧ WfM m) : Good (ms ++ [m]) := by
  intro x hx
  rcases List.mem_append.1 hx with hx | hx
  · exact h x hx
  · rw [List.mem_singleton.1 hx]; exact hm
theorem good_at {ms : List M} (h : Good ms) {i : Nat} (hi : i < ms.length) : rightM (gM ms i) = true := by
  have e : gM ms i = ms[i] := by simp [gM, hi]
  rw [e]
  exact (h _ (List.getElem_mem hi)).1
theorem bts_len1 (l : List UInt8) : (bts l).length = l.length * 1 := by rw [bts_len]; omega
theorem ej_of {j g rk : Nat} (h : j + (g + 1) = rk) : j + 1 + g = rk := by omega
theorem ew_of {j g rk : Nat} (h : j + (g + 1) = rk) (h' : rk ≤ 20) : wrap64 ((j : Int) + 1) = ((j + 1 : Nat) : Int) := by unfold wrap64; omega
attribute [local go_sem high] neP12 neQ12
set_option maxHeartbeats 16000000 in
theorem inner2 (A : Option Addr) (N c : Nat) (w : World) (hlc : N ≤ c) (hc : (c : Int) ≤ 9223372036854775807) (hr : Hid (Fms w w.heap.size A N)) :
    Calls Try.prog 3 #[.slice A N c] w (MadeB true w) := by
  obtain ⟨i0, hi, hz0, hz1, hz2⟩ := info_parts msg_info
  obtain ⟨i8, hi8, hy0, hy1, hy2⟩ := info_parts u8_info
  go_enter Try.func3, Try.ntmps3
  go_wp2_with fail
  go_loopg [3, 4, 5] 20 (fun g s3 s4 s5 w' => ∃ (k : Nat) (ms : List M) (Ab Ao : Option Addr) (cb co nb : Nat), k + g = 20 ∧ s3 = .slice Ab nb cb ∧ s4 = .slice Ao k co ∧ s5 = .int .i64 k ∧ Hid (ms.length = k ∧ nb = (flat ms).length) ∧ Hid (Good ms) ∧ Hid (w'.ownsRow w.heap.size 5 1 (.slice Ab nb cb) nb (bts (flat ms))) ∧ Hid (w'.ownsRow w.heap.size 28 12 (.slice Ao k co) k (mrow ms)) ∧ Hid (Below w.heap.size w w'))
  case atStart => exact ⟨0, [], none, none, 0, 0, 0, by omega, rfl, rfl, rfl, ⟨rfl, rfl⟩, (fun m hm => by cases hm), World.ownsRow_nil _ _ _ _, World.ownsRow_nil _ _ _ _, Below.refl _ _⟩
  case round =>
    obtain ⟨rk, ms, Ab, Ao, cb, co, nb, hk, rfl, rfl, rfl, hlen, hgood, hob, hoo, hbel⟩ := hrel
    by_cases hlt : rk < N ∧ rk < 20
    · obtain ⟨g, rfl⟩ : ∃ g, gk = g + 1 := ⟨gk - 1, by omega⟩
      have t0 : decide ((rk : Int) < (N : Int)) = true := by simp; omega
      have t1 : decide ((rk : Int) < 20) = true := by simp; omega
      have HK := Lib.hid hk
      have HLT := Lib.hid hlt
      obtain ⟨b, o, m, hA, hb, hwf, hcells⟩ := hr.out rk hlt.1
      have HWF := Lib.hid hwf
      clear hk hlt hwf
      subst hA
      have hlt0 : rk < N := HLT.out.1
      obtain ⟨k, a, s, x, p, q, n, t, i, y, z, v⟩ := m
      obtain ⟨v0, v1, v2, v3, v4, v5, v6, v7, v8, v9, v10, v11⟩ := hcells
      have j0 : wr.cell? ⟨b, o + rk * 12, none⟩ = some (.int .i64 k) := (hbel.out.cell (p := ⟨b, o + rk * 12, none⟩) hb).trans v0
      have j1 : wr.cell? ⟨b, o + rk * 12 + 1, none⟩ = some (.int .i64 a) := (hbel.out.cell (p := ⟨b, o + rk * 12 + 1, none⟩) hb).trans v1
      have j2 : wr.cell? ⟨b, o + rk * 12 + 2, none⟩ = some (.int .i64 s) := (hbel.out.cell (p := ⟨b, o + rk * 12 + 2, none⟩) hb).trans v2
      have j3 : wr.cell? ⟨b, o + rk * 12 + 3, none⟩ = some (.bool x) := (hbel.out.cell (p := ⟨b, o + rk * 12 + 3, none⟩) hb).trans v3
      have j4 : wr.cell? ⟨b, o + rk * 12 + 4, none⟩ = some (.int .i64 p) := (hbel.out.cell (p := ⟨b, o + rk * 12 + 4, none⟩) hb).trans v4
      have j5 : wr.cell? ⟨b, o + rk * 12 + 5, none⟩ = some (.int .i64 q) := (hbel.out.cell (p := ⟨b, o + rk * 12 + 5, none⟩) hb).trans v5
      have j6 : wr.cell? ⟨b, o + rk * 12 + 6, none⟩ = some (.int .i64 n) := (hbel.out.cell (p := ⟨b, o + rk * 12 + 6, none⟩) hb).trans v6
      have j7 : wr.cell? ⟨b, o + rk * 12 + 7, none⟩ = some (.int .i64 t) := (hbel.out.cell (p := ⟨b, o + rk * 12 + 7, none⟩) hb).trans v7
      have j8 : wr.cell? ⟨b, o + rk * 12 + 8, none⟩ = some (.int .i64 i) := (hbel.out.cell (p := ⟨b, o + rk * 12 + 8, none⟩) hb).trans v8
      have j9 : wr.cell? ⟨b, o + rk * 12 + 9, none⟩ = some (.int .i64 y) := (hbel.out.cell (p := ⟨b, o + rk * 12 + 9, none⟩) hb).trans v9
      have j10 : wr.cell? ⟨b, o + rk * 12 + 10, none⟩ = some (.int .i64 z) := (hbel.out.cell (p := ⟨b, o + rk * 12 + 10, none⟩) hb).trans v10
      have j11 : wr.cell? ⟨b, o + rk * 12 + 11, none⟩ = some (.int .i64 v) := (hbel.out.cell (p := ⟨b, o + rk * 12 + 11, none⟩) hb).trans v11
      clear v0 v1 v2 v3 v4 v5 v6 v7 v8 v9 v10 v11
      go_wp2_with fail
      refine (fix6_any ⟨k, a, s, x, p, q, n, t, i, y, z, v⟩ _ HWF.out).mono ?_
      obtain ⟨f, hf⟩ : ∃ f, f = fixM ⟨k, a, s, x, p, q, n, t, i, y, z, v⟩ := ⟨_, rfl⟩
      have HFG := Lib.hid (fix_good HWF.out)
      rw [← hf] at HFG ⊢
      clear hf HWF j0 j1 j2 j3 j4 j5 j6 j7 j8 j9 j10 j11
      rintro e w1 ⟨rfl, hb1⟩
      have b1 : Hid (Below w.heap.size w w1) := below_step hbel.out hb1
      have ob1 := own_below hob hb1
      have oo1 := own_below hoo hb1
      clear hbel hob hoo hb1
      obtain ⟨k, a, s, x, p, q, n, t, i, y, z, v⟩ := f
      rw [show mvl ⟨k, a, s, x, p, q, n, t, i, y, z, v⟩ = .agg #[.int .i64 k, .int .i64 a, .int .i64 s, .bool x, .int .i64 p, .int .i64 q, .int .i64 n, .int .i64 t, .int .i64 i, .int .i64 y, .int .i64 z, .int .i64 v] from rfl]
      go_wp2_with fail
      refine (to_any ⟨k, a, s, x, p, q, n, t, i, y, z, v⟩ _).mono ?_
      rintro e w2 ⟨rfl, hb2⟩
      have b2 : Hid (Below w.heap.size w w2) := below_step b1.out hb2
      have ob2 := own_below ob1 hb2
      have oo2 := own_below oo1 hb2
      clear b1 ob1 oo1 hb2
      rw [show mvl ⟨k, a, s, x, p, q, n, t, i, y, z, v⟩ = .agg #[.int .i64 k, .int .i64 a, .int .i64 s, .bool x, .int .i64 p, .int .i64 q, .int .i64 n, .int .i64 t, .int .i64 i, .int .i64 y, .int .i64 z, .int .i64 v] from rfl]
      have hs2 : Hid (w.heap.size ≤ w2.heap.size) := b2.out.size
      have K3 : Hid (Blk (w2.alloc (.cells #[.int .i64 k, .int .i64 a, .int .i64 s, .bool x, .int .i64 p, .int .i64 q, .int .i64 n, .int .i64 t, .int .i64 i, .int .i64 y, .int .i64 z, .int .i64 v] 28)) w2.heap.size 28 #[.int .i64 k, .int .i64 a, .int .i64 s, .bool x, .int .i64 p, .int .i64 q, .int .i64 n, .int .i64 t, .int .i64 i, .int .i64 y, .int .i64 z, .int .i64 v]) := Blk.fresh _ _ _
      have b3 : Hid (Below w.heap.size w (w2.alloc (.cells #[.int .i64 k, .int .i64 a, .int .i64 s, .bool x, .int .i64 p, .int .i64 q, .int .i64 n, .int .i64 t, .int .i64 i, .int .i64 y, .int .i64 z, .int .i64 v] 28))) := b2.out.alloc hs2.out _
      have ob3 : Hid ((w2.alloc (.cells #[.int .i64 k, .int .i64 a, .int .i64 s, .bool x, .int .i64 p, .int .i64 q, .int .i64 n, .int .i64 t, .int .i64 i, .int .i64 y, .int .i64 z, .int .i64 v] 28)).ownsRow w.heap.size 5 1 (.slice Ab nb cb) nb (bts (flat ms))) := World.ownsRow.alloc ob2.out _
      have oo3 : Hid ((w2.alloc (.cells #[.int .i64 k, .int .i64 a, .int .i64 s, .bool x, .int .i64 p, .int .i64 q, .int .i64 n, .int .i64 t, .int .i64 i, .int .i64 y, .int .i64 z, .int .i64 v] 28)).ownsRow w.heap.size 28 12 (.slice Ao rk co) rk (mrow ms)) := World.ownsRow.alloc oo2.out _
      have hnb : Hid (∀ q, (Value.slice Ao rk co).ownBlock = some q → q < w2.heap.size) := fun q hq => (World.ownsRow.lt oo2.out q hq).2
      clear b2 ob2 oo2 hs2
      go_upto_region 7 with fail
      generalize w2.alloc (.cells #[.int .i64 k, .int .i64 a, .int .i64 s, .bool x, .int .i64 p, .int .i64 q, .int .i64 n, .int .i64 t, .int .i64 i, .int .i64 y, .int .i64 z, .int .i64 v] 28) = w3 at K3 b3 ob3 oo3 ⊢
      generalize w2.heap.size = gM at K3 hnb ⊢
      obtain ⟨j0, j1, j2, j3, j4, j5, j6, j7, j8, j9, j10, j11⟩ := c12_of K3.out
      have h63 : rk + 1 ≤ maxLen := by have := HLT.out.2; unfold maxLen; omega
      have hby' : (rk + 1) * 96 ≤ 140737488355328 := by have := HLT.out.2; omega
      have hba : w.heap.size ≤ w3.heap.size := b3.out.size
      go_upto_region 8 with (at_builtin; refine wpList_app1G oo3 rfl _ _ _ rfl i0 (.agg #[.int .i64 0, .int .i64 0, .int .i64 0, .bool false, .int .i64 0, .int .i64 0, .int .i64 0, .int .i64 0, .int .i64 0, .int .i64 0, .int .i64 0, .int .i64 0]) 96 Try.underlying24 hi hz0 hz1 hz2 rfl (by decide) rfl rfl rfl [.int .i64 k, .int .i64 a, .int .i64 s, .bool x, .int .i64 p, .int .i64 q, .int .i64 n, .int .i64 t, .int .i64 i, .int .i64 y, .int .i64 z, .int .i64 v] rfl rfl (by simp [Value.oneCell']) h63 hby' hba ?_; intro A4 c4 w4 hown4 hgr4)
      have ho4 : (w3.alloc (.cells #[.int .i64 k, .int .i64 a, .int .i64 s, .bool x, .int .i64 p, .int .i64 q, .int .i64 n, .int .i64 t, .int .i64 i, .int .i64 y, .int .i64 z, .int .i64 v] 28)).ownsRow w.heap.size 28 12 (.slice Ao rk co) rk (mrow ms) := World.ownsRow.alloc oo3.out _
      have hb4 : (w3.alloc (.cells #[.int .i64 k, .int .i64 a, .int .i64 s, .bool x, .int .i64 p, .int .i64 q, .int .i64 n, .int .i64 t, .int .i64 i, .int .i64 y, .int .i64 z, .int .i64 v] 28)).ownsRow w.heap.size 5 1 (.slice Ab nb cb) nb (bts (flat ms)) := World.ownsRow.alloc ob3.out _
      have K4 : Hid (Blk w4 gM 28 #[.int .i64 k, .int .i64 a, .int .i64 s, .bool x, .int .i64 p, .int .i64 q, .int .i64 n, .int .i64 t, .int .i64 i, .int .i64 y, .int .i64 z, .int .i64 v]) := Blk_grown (K3.out.alloc _) hgr4 (fun e => by have := hnb.out gM e.symm; omega)
      have b4 : Hid (Below w.heap.size w w4) := grown_below (b3.out.alloc hba _) ho4 hgr4 (Nat.le_refl _) (by simp; omega)
      have ob4 : Hid (w4.ownsRow w.heap.size 5 1 (.slice Ab nb cb) nb (bts (flat ms))) := own_grown hb4 ho4 (by decide) hgr4
      clear K3 b3 ob3 oo3 hgr4 ho4 hb4 hnb h63 hby' hba j0 j1 j2 j3 j4 j5 j6 j7 j8 j9 j10 j11
      obtain ⟨j0, j1, j2, j3, j4, j5, j6, j7, j8, j9, j10, j11⟩ := c12_of K4.out
      go_wp2_with fail
      refine (encode_any ⟨k, a, s, x, p, q, n, t, i, y, z, v⟩ w4 HFG.out.2).mono ?_
      have hE : Hid (encB ⟨k, a, s, x, p, q, n, t, i, y, z, v⟩ = encP ⟨k, a, s, x, p, q, n, t, i, y, z, v⟩) := by show _ = _; unfold encB; rw [if_pos HFG.out.1]
      have hEl := Lib.hid (encP_len HFG.out)
      rw [hE.out]
      obtain ⟨LB, hLB⟩ : ∃ L, L = encP ⟨k, a, s, x, p, q, n, t, i, y, z, v⟩ := ⟨_, rfl⟩
      rw [← hLB] at hEl ⊢
      have HLB := Lib.hid hLB
      clear hLB hE
      rintro e w5 ⟨AB, cB, rfl, ro, hb5, _⟩
      have b5 : Hid (Below w.heap.size w w5) := below_step b4.out hb5
      have ob5 := own_below ob4 hb5
      have oo5 := own_below hown4 hb5
      have hr5 : Hid (Rd w5 w5.heap.size AB (bts LB)) := Rd.of_own ro.out
      clear b4 ob4 hown4 hb5 ro K4 j0 j1 j2 j3 j4 j5 j6 j7 j8 j9 j10 j11
      have hnbl : Hid (nb ≤ 1000) := by
        have h1 := flat_len ms hgood.out
        have h2 := hlen.out
        have h3 := HLT.out.2
        show _ ≤ _
        omega
      have hLl : Hid (LB.length ≤ 38) := hEl.out.2
      have hba5 : w.heap.size ≤ w5.heap.size := b5.out.size
      go_wp2_with (at_builtin; refine wpList_appRG (nm := nb + LB.length) ob5 hr5 rfl rfl _ _ _ rfl i8 (.int .u8 0) 1 Try.underlying23 hi8 hy0 hy1 hy2 rfl (by decide) rfl rfl (bts_len1 LB) (bts_one LB) (by have := hnbl.out; have := hLl.out; unfold maxLen; omega) (by have := hnbl.out; have := hLl.out; omega) hba5 ?_; intro A6 c6 w6 hown6 hgr6)
      go_roundg g
      case measure => omega
      case rel =>
        have b6 : Below w.heap.size w w6 := grown_below b5.out ob5.out hgr6 (Nat.le_refl _) hba5
        have o6 : w6.ownsRow w.heap.size 28 12 (.slice A4 (rk + 1) c4) (rk + 1) (mrow ms ++ [.int .i64 k, .int .i64 a, .int .i64 s, .bool x, .int .i64 p, .int .i64 q, .int .i64 n, .int .i64 t, .int .i64 i, .int .i64 y, .int .i64 z, .int .i64 v]) := own_grown oo5.out ob5.out (by decide) hgr6
        have hl := hlen.out
        have HFL : flat (ms ++ [⟨k, a, s, x, p, q, n, t, i, y, z, v⟩]) = flat ms ++ LB := by rw [flat_snoc, HLB.out]
        refine ⟨rk + 1, ms ++ [⟨k, a, s, x, p, q, n, t, i, y, z, v⟩], A6, A4, c6, c4, nb + LB.length, by have := HK.out; omega, rfl, rfl, by rw [Int.natCast_add]; rfl, ⟨by rw [List.length_append, hl.1]; rfl, by rw [HFL, List.length_append, hl.2]⟩, good_snoc hgood.out HFG.out, ?_, ?_, b6⟩
        · rw [HFL, bts_app]; exact hown6.out
        · rw [mrow_snoc]; exact o6
    · have hfin : (¬ rk < N) ∨ (rk < N ∧ ¬ rk < 20) := by omega
      have hb' : Hid (Below w.heap.size w wr) := hbel.out
      obtain ⟨hl1, hl2⟩ := hlen.out
      have h20 : Hid (rk ≤ 20) := by show _ ≤ _; omega
      have hms : Hid (ms.length = rk) := hl1
      obtain ⟨LF, hLF⟩ : ∃ L, L = flat ms := ⟨_, rfl⟩
      rw [← hLF] at hob hl2
      have hall : Hid (allF LF.length LF = (ms, true)) := by show _ = _; rw [hLF]; exact all_flat ms hgood.out _ (Nat.le_refl _)
      have hLl : Hid (LF.length ≤ 1000) := by
        have h1 := flat_len ms hgood.out
        have h3 := h20.out
        have h4 := hms.out
        rw [← hLF] at h1
        show _ ≤ _
        omega
      subst hl2
      have hcap := Lib.hid (own_caps hob.out)
      have YB : Hid (By wr wr.heap.size Ab LF) := Rd.of_own hob.out
      have YO : Hid (Rd wr wr.heap.size Ao (mrow ms)) := Rd.of_own hoo.out
      clear hlt hbel hlen hLF hob hoo hk hr hlc hc hl1
      rcases hfin with n0 | ⟨n0, n1⟩
      all_goals
        have t0 : (decide ((rk : Int) < (N : Int)) && decide ((rk : Int) < 20)) = false := by simp; omega
        go_wp2_with fail
        refine (all_any Ab cb LF _ (by have := hLl.out; omega) hcap.out.1 hcap.out.2 YB).mono ?_
        rintro e w1 ⟨A1, c1, rfl, y1, b1⟩
        have e9 : Hid ((allF LF.length LF).1.length = rk ∧ (allF LF.length LF).1 = ms) := ⟨by rw [hall.out]; exact hms.out, by rw [hall.out]⟩
        have e8 : (if (allF LF.length LF).2 = true then (0 : Int) else 1) = 0 := by rw [hall.out]; rfl
        rw [e9.out.2] at y1
        rw [e9.out.1, e8]
        clear e8
        have Y1 : Hid (Rd w1 w1.heap.size A1 (mrow ms)) := y1
        have Y2 : Hid (Rd w1 w1.heap.size Ao (mrow ms)) := Rd.below' YO.out b1 b1.size
        have B1 : Hid (Below w.heap.size w w1) := below_step hb'.out b1
        clear y1 b1
        go_wp2_with fail
        refine (told6_any _).mono ?_
        rintro e w3 ⟨rfl, hb3⟩
        have Z1 : Hid (Rd w3 w3.heap.size A1 (mrow ms)) := Rd.below' Y1.out hb3 hb3.size
        have Z2 : Hid (Rd w3 w3.heap.size Ao (mrow ms)) := Rd.below' Y2.out hb3 hb3.size
        have B3 : Hid (Below w.heap.size w w3) := below_step B1.out hb3
        clear Y1 Y2 B1 hb3
        go_wp2_with fail
        go_loopg [9] rk (fun g s9 w' => ∃ j : Nat, j + g = rk ∧ s9 = .int .i64 j ∧ Below w3.heap.size w3 w')
        case atStart => exact ⟨0, by omega, rfl, Below.refl _ _⟩
        case round =>
          obtain ⟨j, hj, rfl, hbl⟩ := hrel
          have HBL := Lib.hid hbl
          have HJ := Lib.hid hj
          clear hbl hj
          by_cases h0 : j < rk
          · obtain ⟨g, rfl⟩ : ∃ g, gk = g + 1 := ⟨gk - 1, by have := HJ.out; omega⟩
            have t5 : decide ((j : Int) < (rk : Int)) = true := by simp; omega
            obtain ⟨pa, oa, hA1, hp, hcc1⟩ := Ms.at (i := j) (Rd.below' Z1.out HBL.out HBL.out.size) (by rw [hms.out]; exact h0)
            obtain ⟨pb, ob, hA2, hp2, hcc2⟩ := Ms.at (i := j) (Rd.below' Z2.out HBL.out HBL.out.size) (by rw [hms.out]; exact h0)
            have k1 := hcc1 j (by rw [hms.out]; exact h0)
            have k2 := hcc2 j (by rw [hms.out]; exact h0)
            have hRt := Lib.hid (good_at hgood.out (i := j) (by rw [hms.out]; exact h0))
            clear hcc1 hcc2
            generalize gM ms j = m at k1 k2 hRt
            obtain ⟨k, a, s, x, p, q, n, t, i, y, z, v⟩ := m
            subst hA1
            subst hA2
            have s0 : wr.cell? ⟨pa, oa + j * 12, none⟩ = some (.int .i64 k) ∧ wr.cell? ⟨pa, oa + j * 12 + 1, none⟩ = some (.int .i64 a) ∧ wr.cell? ⟨pa, oa + j * 12 + 2, none⟩ = some (.int .i64 s) ∧ wr.cell? ⟨pa, oa + j * 12 + 3, none⟩ = some (.bool x) ∧ wr.cell? ⟨pa, oa + j * 12 + 4, none⟩ = some (.int .i64 p) ∧ wr.cell? ⟨pa, oa + j * 12 + 5, none⟩ = some (.int .i64 q) ∧ wr.cell? ⟨pa, oa + j * 12 + 6, none⟩ = some (.int .i64 n) ∧ wr.cell? ⟨pa, oa + j * 12 + 7, none⟩ = some (.int .i64 t) ∧ wr.cell? ⟨pa, oa + j * 12 + 8, none⟩ = some (.int .i64 i) ∧ wr.cell? ⟨pa, oa + j * 12 + 9, none⟩ = some (.int .i64 y) ∧ wr.cell? ⟨pa, oa + j * 12 + 10, none⟩ = some (.int .i64 z) ∧ wr.cell? ⟨pa, oa + j * 12 + 11, none⟩ = some (.int .i64 v) ∧ wr.cell? ⟨pb, ob + j * 12, none⟩ = some (.int .i64 k) ∧ wr.cell? ⟨pb, ob + j * 12 + 1, none⟩ = some (.int .i64 a) ∧ wr.cell? ⟨pb, ob + j * 12 + 2, none⟩ = some (.int .i64 s) ∧ wr.cell? ⟨pb, ob + j * 12 + 3, none⟩ = some (.bool x) ∧ wr.cell? ⟨pb, ob + j * 12 + 4, none⟩ = some (.int .i64 p) ∧ wr.cell? ⟨pb, ob + j * 12 + 5, none⟩ = some (.int .i64 q) ∧ wr.cell? ⟨pb, ob + j * 12 + 6, none⟩ = some (.int .i64 n) ∧ wr.cell? ⟨pb, ob + j * 12 + 7, none⟩ = some (.int .i64 t) ∧ wr.cell? ⟨pb, ob + j * 12 + 8, none⟩ = some (.int .i64 i) ∧ wr.cell? ⟨pb, ob + j * 12 + 9, none⟩ = some (.int .i64 y) ∧ wr.cell? ⟨pb, ob + j * 12 + 10, none⟩ = some (.int .i64 z) ∧ wr.cell? ⟨pb, ob + j * 12 + 11, none⟩ = some (.int .i64 v) := ⟨k1.1, k1.2.1, k1.2.2.1, k1.2.2.2.1, k1.2.2.2.2.1, k1.2.2.2.2.2.1, k1.2.2.2.2.2.2.1, k1.2.2.2.2.2.2.2.1, k1.2.2.2.2.2.2.2.2.1, k1.2.2.2.2.2.2.2.2.2.1, k1.2.2.2.2.2.2.2.2.2.2.1, k1.2.2.2.2.2.2.2.2.2.2.2, k2⟩
            have eM : eqM ⟨k, a, s, x, p, q, n, t, i, y, z, v⟩ ⟨k, a, s, x, p, q, n, t, i, y, z, v⟩ = true := eqM_self _
            clear k1 k2
            go_upto_region 15 with fail
            go_region_held3 (fun w' => w'.cell? ⟨pa, oa + j * 12, none⟩ = some (.int .i64 k) ∧ w'.cell? ⟨pa, oa + j * 12 + 1, none⟩ = some (.int .i64 a) ∧ w'.cell? ⟨pa, oa + j * 12 + 2, none⟩ = some (.int .i64 s) ∧ w'.cell? ⟨pa, oa + j * 12 + 3, none⟩ = some (.bool x) ∧ w'.cell? ⟨pa, oa + j * 12 + 4, none⟩ = some (.int .i64 p) ∧ w'.cell? ⟨pa, oa + j * 12 + 5, none⟩ = some (.int .i64 q) ∧ w'.cell? ⟨pa, oa + j * 12 + 6, none⟩ = some (.int .i64 n) ∧ w'.cell? ⟨pa, oa + j * 12 + 7, none⟩ = some (.int .i64 t) ∧ w'.cell? ⟨pa, oa + j * 12 + 8, none⟩ = some (.int .i64 i) ∧ w'.cell? ⟨pa, oa + j * 12 + 9, none⟩ = some (.int .i64 y) ∧ w'.cell? ⟨pa, oa + j * 12 + 10, none⟩ = some (.int .i64 z) ∧ w'.cell? ⟨pa, oa + j * 12 + 11, none⟩ = some (.int .i64 v) ∧ w'.cell? ⟨pb, ob + j * 12, none⟩ = some (.int .i64 k) ∧ w'.cell? ⟨pb, ob + j * 12 + 1, none⟩ = some (.int .i64 a) ∧ w'.cell? ⟨pb, ob + j * 12 + 2, none⟩ = some (.int .i64 s) ∧ w'.cell? ⟨pb, ob + j * 12 + 3, none⟩ = some (.bool x) ∧ w'.cell? ⟨pb, ob + j * 12 + 4, none⟩ = some (.int .i64 p) ∧ w'.cell? ⟨pb, ob + j * 12 + 5, none⟩ = some (.int .i64 q) ∧ w'.cell? ⟨pb, ob + j * 12 + 6, none⟩ = some (.int .i64 n) ∧ w'.cell? ⟨pb, ob + j * 12 + 7, none⟩ = some (.int .i64 t) ∧ w'.cell? ⟨pb, ob + j * 12 + 8, none⟩ = some (.int .i64 i) ∧ w'.cell? ⟨pb, ob + j * 12 + 9, none⟩ = some (.int .i64 y) ∧ w'.cell? ⟨pb, ob + j * 12 + 10, none⟩ = some (.int .i64 z) ∧ w'.cell? ⟨pb, ob + j * 12 + 11, none⟩ = some (.int .i64 v))
              (first | go_keep | (with_reducible assumption) | (exact q5))
              (first | (go_at_call 9; refine (right_any ⟨k, a, s, x, p, q, n, t, i, y, z, v⟩ _).mono ?_; rw [hRt.out]; rintro e w5 ⟨rfl, hb5⟩; have B5 : Hid (Below w3.heap.size w3 w5) := Below.trans HBL.out.drew (hb5.mono HBL.out.size); have q5 : w5.cell? ⟨pa, oa + j * 12, none⟩ = some (.int .i64 k) ∧ w5.cell? ⟨pa, oa + j * 12 + 1, none⟩ = some (.int .i64 a) ∧ w5.cell? ⟨pa, oa + j * 12 + 2, none⟩ = some (.int .i64 s) ∧ w5.cell? ⟨pa, oa + j * 12 + 3, none⟩ = some (.bool x) ∧ w5.cell? ⟨pa, oa + j * 12 + 4, none⟩ = some (.int .i64 p) ∧ w5.cell? ⟨pa, oa + j * 12 + 5, none⟩ = some (.int .i64 q) ∧ w5.cell? ⟨pa, oa + j * 12 + 6, none⟩ = some (.int .i64 n) ∧ w5.cell? ⟨pa, oa + j * 12 + 7, none⟩ = some (.int .i64 t) ∧ w5.cell? ⟨pa, oa + j * 12 + 8, none⟩ = some (.int .i64 i) ∧ w5.cell? ⟨pa, oa + j * 12 + 9, none⟩ = some (.int .i64 y) ∧ w5.cell? ⟨pa, oa + j * 12 + 10, none⟩ = some (.int .i64 z) ∧ w5.cell? ⟨pa, oa + j * 12 + 11, none⟩ = some (.int .i64 v) ∧ w5.cell? ⟨pb, ob + j * 12, none⟩ = some (.int .i64 k) ∧ w5.cell? ⟨pb, ob + j * 12 + 1, none⟩ = some (.int .i64 a) ∧ w5.cell? ⟨pb, ob + j * 12 + 2, none⟩ = some (.int .i64 s) ∧ w5.cell? ⟨pb, ob + j * 12 + 3, none⟩ = some (.bool x) ∧ w5.cell? ⟨pb, ob + j * 12 + 4, none⟩ = some (.int .i64 p) ∧ w5.cell? ⟨pb, ob + j * 12 + 5, none⟩ = some (.int .i64 q) ∧ w5.cell? ⟨pb, ob + j * 12 + 6, none⟩ = some (.int .i64 n) ∧ w5.cell? ⟨pb, ob + j * 12 + 7, none⟩ = some (.int .i64 t) ∧ w5.cell? ⟨pb, ob + j * 12 + 8, none⟩ = some (.int .i64 i) ∧ w5.cell? ⟨pb, ob + j * 12 + 9, none⟩ = some (.int .i64 y) ∧ w5.cell? ⟨pb, ob + j * 12 + 10, none⟩ = some (.int .i64 z) ∧ w5.cell? ⟨pb, ob + j * 12 + 11, none⟩ = some (.int .i64 v) := s24 (w := wr.drew) hb5 s0))
            go_wp2_with fail
            go_roundg g
            case measure => omega
            case rel =>
              exact ⟨j + 1, ej_of HJ.out, by rw [ew_of HJ.out h20.out], B5.out⟩
          · have t5 : decide ((j : Int) < (rk : Int)) = false := by simp; omega
            have B6 : Below w.heap.size w wr := below_step B3.out HBL.out
            go_wp2_with fail
            go_ret
            exact madeB_mk rfl B6

set_option maxRecDepth 100000 in
theorem lifted (os : Os) (started : os.Started) (H : Type) (enc : TypeId × Value → H) :
    ReturnsInHanded {} Try.checked os 3 .any (Rows.wireOnceSpec.pre6 enc Try.prog Try.f3 Rows.wireOnceRow.domain false) (Rows.wireOnceSpec.post enc Try.prog Try.f3 false true false false) := by
  refine returnsInHanded_of_change (C := Try.checked) own started (by kernel_rfl) Try.func3
    (ChangeSpec.witness6 (enc := enc) (C := Try.checked) false ⟨#[], #[.slice none 0 0], []⟩ 8 (by kernel_rfl) (by kernel_rfl) (by kernel_rfl) (by kernel_rfl)) ?_
  intro W base args ds gs before hval0 hW hcnd _
  have hval : ∀ (j : Nat) t v, Try.f3.params[j]? = some t → args[j]? = some v → Value.okWide Try.prog W .any base t v := hval0
  have hW' := hW
  obtain ⟨p, q, hA0, hV, rfl, hfz, hnd⟩ := hW
  have hA : DataW.TrodAll enc Try.prog W 0 (fun _ => true) true Try.f3.params.toList args.toList ds p := hA0
  rw [Try.params3] at hA hval
  obtain ⟨v0, d0, rfl, rfl, h0⟩ := trodAll_one hA
  obtain ⟨A0, n0, c0, rfl⟩ := okWide_slice Try.underlying22 (hval 0 _ v0 rfl rfl)
  obtain ⟨fu, h0'⟩ := h0
  obtain ⟨A, n, c, hv, hlc, hcm, hl⟩ := open_msgs (v := .slice A0 n0 c0) h0'
  cases hv
  refine (inner2 A0 n0 c0 W hlc (by unfold maxLen at hcm; omega) hl).mono fun e W' ⟨he, hb⟩ => ?_
  subst he
  exact ⟨_, rfl, law_post hW' rfl rfl rfl rfl (by kernel_rfl) Try.underlying4 (by rw [Try.params3]; simp only [List.mem_cons, List.not_mem_nil, or_false, forall_eq]; exact ⟨by kernel_rfl, of_decide_eq_true (by kernel_rfl)⟩) laidOut hb⟩

theorem over : Rows.wireOnceRow.holds Try.pinned (OpenSpec.ofChange Rows.wireOnceSpec) :=
  OpenClaim.holds_of_wide 3 Try.f3 rfl rfl rfl rfl rfl rfl rfl ⟨rfl, rfl, rfl, rfl, rfl⟩ rfl rfl rfl rfl rfl (by kernel_rfl) Try.func3 (by kernel_rfl)
    (of_decide_eq_true (by kernel_rfl)) (by unfold Func.isWrapper; first | (rw [if_pos (by decide +kernel)]; kernel_rfl) | (rw [if_neg (by decide +kernel)]; exact ⟨rfl, rfl⟩))
    (fun os started H enc _ => lifted os started H enc)

theorem proved : Rows.WireOnceSaid := over
#print axioms proved
end Go.Proofs.Ytkobldddiedmdaa.wireOnce
