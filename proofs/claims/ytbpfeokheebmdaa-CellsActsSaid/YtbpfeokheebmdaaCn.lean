/- The contracts of the methods of package cells. Condition: the Cells lie in memory, in three blocks of their own; or there are none (nil). -/
import Derived.Test.YtbpfeokheebmdaaCm
namespace Go.Proofs.Ytbpfeokheebmdaa.Cn
set_option maxRecDepth 100000
open Go.ChangeShapes Go.WideShapes Go.ChangeAt Go.RowKit Mem Cel Cm
set_option linter.unusedVariables false
def MadeC (te : TypeId) (g gw gh : Nat) (v : Value) (s' : S) (w : World) (e : Ending) (w' : World) : Prop := e = .returned v ∧ Cs w' te g gw gh s' ∧ Kept g gw gh w w'
def ToldV (v : Value) (w : World) (e : Ending) (w' : World) : Prop := e = .returned v ∧ w = w'
theorem toldV_mk {v v' : Value} {w : World} (h : v = v') : ToldV v w (.returned v') w := by subst h; exact ⟨rfl, rfl⟩
theorem kept_t {g gw gh : Nat} {w w' : World} (h : Kept g gw gh w w') (i : Nat) (u : Value) : Kept g gw gh w (w'.setCell ⟨g, i, none⟩ u) := h.setCell (p := ⟨g, i, none⟩) (.inl rfl) u
theorem kept_w {g gw gh : Nat} {w w' : World} (h : Kept g gw gh w w') (i : Nat) (u : Value) : Kept g gw gh w (w'.setCell ⟨gw, i, none⟩ u) := h.setCell (p := ⟨gw, i, none⟩) (.inr (.inl rfl)) u
theorem kept_h {g gw gh : Nat} {w w' : World} (h : Kept g gw gh w w') (i : Nat) (u : Value) : Kept g gw gh w (w'.setCell ⟨gh, i, none⟩ u) := h.setCell (p := ⟨gh, i, none⟩) (.inr (.inr rfl)) u
section
variable {w : World} {te : TypeId} {g gw gh : Nat} {s : S}
theorem cs_swW (h : Cs w te g gw gh s) (a old v : Int) : Cs (swW g gw s.ws s.t a old v w) te g gw gh (swapF s a old v).2 ∧ Kept g gw gh w (swW g gw s.ws s.t a old v w) := by
  unfold swW swapF swF
  split
  · split
    · exact ⟨(h.setT _).setW _ _, kept_w (kept_t (Kept.refl _ _ _ _) _ _) _ _⟩
    · exact ⟨h.setT _, kept_t (Kept.refl _ _ _ _) _ _⟩
  · exact ⟨h, Kept.refl _ _ _ _⟩
theorem cs_swH (h : Cs w te g gw gh s) (a old v : Int) : Cs (swW g gh s.hs s.t a old v w) te g gw gh ⟨s.ws, (swF s.hs s.t a old v).2.1, (swF s.hs s.t a old v).2.2⟩ ∧ Kept g gw gh w (swW g gh s.hs s.t a old v w) := by
  unfold swW swF
  split
  · split
    · exact ⟨(h.setT _).setH _ _, kept_h (kept_t (Kept.refl _ _ _ _) _ _) _ _⟩
    · exact ⟨h.setT _, kept_t (Kept.refl _ _ _ _) _ _⟩
  · exact ⟨h, Kept.refl _ _ _ _⟩
theorem madeC_mk {v v' : Value} {s' s'' : S} {w' : World} (hv : v = v') (hs : s' = s'') (h : Cs w' te g gw gh s'') (hk : Kept g gw gh w w') : MadeC te g gw gh v s' w (.returned v') w' := by
  subst hv; subst hs; exact ⟨rfl, h, hk⟩
end

theorem time_any (g gw gh : Nat) (s : S) (w : World) (h : Hid (Cs w 51 g gw gh s)) (m1 : (s.ws.length : Int) ≤ 9223372036854775807) (m2 : (s.hs.length : Int) ≤ 9223372036854775807) :
    Calls Try.prog 11 #[.pointer (some ⟨g, 0, none⟩)] w (ToldV (.int .i64 s.t) w) := by
  have c0 : w.cell? ⟨g, 0, none⟩ = some (.slice (some ⟨gw, 0, none⟩) s.ws.length s.ws.length) := h.out.c.cell 0
  have c1 : w.cell? ⟨g, 1, none⟩ = some (.slice (some ⟨gh, 0, none⟩) s.hs.length s.hs.length) := h.out.c.cell 1
  have c2 : w.cell? ⟨g, 2, none⟩ = some (.int .i64 s.t) := h.out.c.cell 2
  have z2 : w.frozen? ⟨g, 2, none⟩ = false := h.out.c.thaw 2
  go_enter Try.func11, Try.ntmps11
  go_wp2
  go_ret
  exact toldV_mk rfl

set_option maxHeartbeats 1000000 in
theorem peek_any (g gw gh : Nat) (s : S) (a : Int) (w : World) (h : Hid (Cs w 51 g gw gh s)) (m1 : (s.ws.length : Int) ≤ 9223372036854775807) (m2 : (s.hs.length : Int) ≤ 9223372036854775807) :
    Calls Try.prog 12 #[.pointer (some ⟨g, 0, none⟩), .int .i64 a] w (ToldV (.int .i64 (peekF s a)) w) := by
  have c0 : w.cell? ⟨g, 0, none⟩ = some (.slice (some ⟨gw, 0, none⟩) s.ws.length s.ws.length) := h.out.c.cell 0
  have c1 : w.cell? ⟨g, 1, none⟩ = some (.slice (some ⟨gh, 0, none⟩) s.hs.length s.hs.length) := h.out.c.cell 1
  have c2 : w.cell? ⟨g, 2, none⟩ = some (.int .i64 s.t) := h.out.c.cell 2
  have z2 : w.frozen? ⟨g, 2, none⟩ = false := h.out.c.thaw 2
  cases hr : inR s.ws.length a with
  | false =>
    have e1 : Hid (peekF s a = 0) := by show _ = _; unfold peekF; simp [hr]
    go_enter Try.func12, Try.ntmps12
    go_wp2_with (go_at_call 21; refine (hasW_any _ _ _ _ _).mono ?_; rintro e w9 ⟨rfl, rfl⟩)
    go_ret
    exact toldV_mk (congrArg (Value.int .i64) e1.out)
  | true =>
    obtain ⟨r0, r1⟩ := inR_of hr
    obtain ⟨i, rfl⟩ : ∃ i : Nat, a = i := ⟨a.toNat, by omega⟩
    have hi : i < s.ws.length := by omega
    have d0 : w.cell? ⟨gw, i, none⟩ = some (.int .i64 (gI s.ws i)) := blk_ints_cell h.out.cw hi
    have e1 : Hid (peekF s i = gI s.ws i) := by show _ = _; unfold peekF; simp [hr]
    clear r0
    go_enter Try.func12, Try.ntmps12
    go_wp2_with (go_at_call 21; refine (hasW_any _ _ _ _ _).mono ?_; rintro e w9 ⟨rfl, rfl⟩)
    go_ret
    exact toldV_mk (congrArg (Value.int .i64) e1.out)

set_option maxHeartbeats 1000000 in
theorem holder_any (g gw gh : Nat) (s : S) (a : Int) (w : World) (h : Hid (Cs w 51 g gw gh s)) (m1 : (s.ws.length : Int) ≤ 9223372036854775807) (m2 : (s.hs.length : Int) ≤ 9223372036854775807) :
    Calls Try.prog 13 #[.pointer (some ⟨g, 0, none⟩), .int .i64 a] w (ToldV (.int .i64 (holdF s a)) w) := by
  have c0 : w.cell? ⟨g, 0, none⟩ = some (.slice (some ⟨gw, 0, none⟩) s.ws.length s.ws.length) := h.out.c.cell 0
  have c1 : w.cell? ⟨g, 1, none⟩ = some (.slice (some ⟨gh, 0, none⟩) s.hs.length s.hs.length) := h.out.c.cell 1
  have c2 : w.cell? ⟨g, 2, none⟩ = some (.int .i64 s.t) := h.out.c.cell 2
  have z2 : w.frozen? ⟨g, 2, none⟩ = false := h.out.c.thaw 2
  cases hr : inR s.hs.length a with
  | false =>
    have e1 : Hid (holdF s a = (-1)) := by show _ = _; unfold holdF; simp [hr]
    go_enter Try.func13, Try.ntmps13
    go_wp2_with (go_at_call 22; refine (hasH_any _ _ _ _ _).mono ?_; rintro e w9 ⟨rfl, rfl⟩)
    go_ret
    exact toldV_mk (congrArg (Value.int .i64) e1.out)
  | true =>
    obtain ⟨r0, r1⟩ := inR_of hr
    obtain ⟨i, rfl⟩ : ∃ i : Nat, a = i := ⟨a.toNat, by omega⟩
    have hi : i < s.hs.length := by omega
    have d0 : w.cell? ⟨gh, i, none⟩ = some (.int .i64 (gI s.hs i)) := blk_ints_cell h.out.ch hi
    have e1 : Hid (holdF s i = gI s.hs i) := by show _ = _; unfold holdF; simp [hr]
    clear r0
    go_enter Try.func13, Try.ntmps13
    go_wp2_with (go_at_call 22; refine (hasH_any _ _ _ _ _).mono ?_; rintro e w9 ⟨rfl, rfl⟩)
    go_ret
    exact toldV_mk (congrArg (Value.int .i64) e1.out)

set_option maxHeartbeats 1000000 in
theorem load_any (g gw gh : Nat) (s : S) (a : Int) (w : World) (h : Hid (Cs w 51 g gw gh s)) (m1 : (s.ws.length : Int) ≤ 9223372036854775807) (m2 : (s.hs.length : Int) ≤ 9223372036854775807) :
    Calls Try.prog 15 #[.pointer (some ⟨g, 0, none⟩), .int .i64 a] w (MadeC 51 g gw gh (.int .i64 (loadF s a).1) (loadF s a).2 w) := by
  have c0 : w.cell? ⟨g, 0, none⟩ = some (.slice (some ⟨gw, 0, none⟩) s.ws.length s.ws.length) := h.out.c.cell 0
  have c1 : w.cell? ⟨g, 1, none⟩ = some (.slice (some ⟨gh, 0, none⟩) s.hs.length s.hs.length) := h.out.c.cell 1
  have c2 : w.cell? ⟨g, 2, none⟩ = some (.int .i64 s.t) := h.out.c.cell 2
  have z2 : w.frozen? ⟨g, 2, none⟩ = false := h.out.c.thaw 2
  cases hr : inR s.ws.length a with
  | false =>
    have e1 : Hid (loadF s a = (0, s)) := by show _ = _; unfold loadF; simp [hr]
    go_enter Try.func15, Try.ntmps15
    go_wp2_with (go_at_call 21; refine (hasW_any _ _ _ _ _).mono ?_; rintro e w9 ⟨rfl, rfl⟩)
    go_ret
    exact madeC_mk (congrArg (fun p => Value.int .i64 p.1) e1.out) (congrArg (fun p => p.2) e1.out) h.out (Kept.refl _ _ _ _)
  | true =>
    obtain ⟨r0, r1⟩ := inR_of hr
    obtain ⟨i, rfl⟩ : ∃ i : Nat, a = i := ⟨a.toNat, by omega⟩
    have hi : i < s.ws.length := by omega
    have h2 := Lib.hid (h.out.setT (wrap64 (s.t + 1)))
    have d0 : (w.setCell ⟨g, 2, none⟩ (.int .i64 (wrap64 (s.t + 1)))).cell? ⟨gw, i, none⟩ = some (.int .i64 (gI s.ws i)) := blk_ints_cell h2.out.cw hi
    have d1 : (w.setCell ⟨g, 2, none⟩ (.int .i64 (wrap64 (s.t + 1)))).cell? ⟨g, 0, none⟩ = some (.slice (some ⟨gw, 0, none⟩) s.ws.length s.ws.length) := h2.out.c.cell 0
    have e1 : Hid (loadF s i = (gI s.ws i, ⟨s.ws, s.hs, wrap64 (s.t + 1)⟩)) := by show _ = _; unfold loadF; simp [hr]
    clear r0
    go_enter Try.func15, Try.ntmps15
    go_wp2_with (go_at_call 21; refine (hasW_any _ _ _ _ _).mono ?_; rintro e w9 ⟨rfl, rfl⟩)
    go_ret
    exact madeC_mk (congrArg (fun p => Value.int .i64 p.1) e1.out) (congrArg (fun p => p.2) e1.out) h2.out (kept_t (Kept.refl _ _ _ _) _ _)

set_option maxHeartbeats 1000000 in
theorem store_any (g gw gh : Nat) (s : S) (a v : Int) (w : World) (h : Hid (Cs w 51 g gw gh s)) (m1 : (s.ws.length : Int) ≤ 9223372036854775807) (m2 : (s.hs.length : Int) ≤ 9223372036854775807) :
    Calls Try.prog 14 #[.pointer (some ⟨g, 0, none⟩), .int .i64 a, .int .i64 v] w (MadeC 51 g gw gh (.tuple #[]) (storeF s a v) w) := by
  have c0 : w.cell? ⟨g, 0, none⟩ = some (.slice (some ⟨gw, 0, none⟩) s.ws.length s.ws.length) := h.out.c.cell 0
  have c1 : w.cell? ⟨g, 1, none⟩ = some (.slice (some ⟨gh, 0, none⟩) s.hs.length s.hs.length) := h.out.c.cell 1
  have c2 : w.cell? ⟨g, 2, none⟩ = some (.int .i64 s.t) := h.out.c.cell 2
  have z2 : w.frozen? ⟨g, 2, none⟩ = false := h.out.c.thaw 2
  cases hr : inR s.ws.length a with
  | false =>
    have e1 : Hid (storeF s a v = s) := by show _ = _; unfold storeF; simp [hr]
    go_enter Try.func14, Try.ntmps14
    go_wp2_with (go_at_call 21; refine (hasW_any _ _ _ _ _).mono ?_; rintro e w9 ⟨rfl, rfl⟩)
    exact bodyPost_ret (v := .tuple #[]) (by simp [results, Try.results14, go_sem]) rfl (madeC_mk rfl e1.out h.out (Kept.refl _ _ _ _))
  | true =>
    obtain ⟨r0, r1⟩ := inR_of hr
    obtain ⟨i, rfl⟩ : ∃ i : Nat, a = i := ⟨a.toNat, by omega⟩
    have hi : i < s.ws.length := by omega
    have h2 := Lib.hid (h.out.setT (wrap64 (s.t + 1)))
    have d0 : (w.setCell ⟨g, 2, none⟩ (.int .i64 (wrap64 (s.t + 1)))).cell? ⟨gw, i, none⟩ = some (.int .i64 (gI s.ws i)) := blk_ints_cell h2.out.cw hi
    have d1 : (w.setCell ⟨g, 2, none⟩ (.int .i64 (wrap64 (s.t + 1)))).cell? ⟨g, 0, none⟩ = some (.slice (some ⟨gw, 0, none⟩) s.ws.length s.ws.length) := h2.out.c.cell 0
    have d2 : (w.setCell ⟨g, 2, none⟩ (.int .i64 (wrap64 (s.t + 1)))).frozen? ⟨gw, i, none⟩ = false := h2.out.cw.thaw i
    have e1 : Hid (storeF s i v = ⟨s.ws.set i v, s.hs, wrap64 (s.t + 1)⟩) := by show _ = _; unfold storeF; simp [hr]
    clear r0
    go_enter Try.func14, Try.ntmps14
    go_wp2_with (go_at_call 21; refine (hasW_any _ _ _ _ _).mono ?_; rintro e w9 ⟨rfl, rfl⟩)
    exact bodyPost_ret (v := .tuple #[]) (by simp [results, Try.results14, go_sem]) rfl (madeC_mk rfl e1.out (h2.out.setW i v) (kept_w (kept_t (Kept.refl _ _ _ _) _ _) _ _))

set_option maxHeartbeats 1000000 in
theorem swap_any (g gw gh : Nat) (s : S) (a old v : Int) (w : World) (h : Hid (Cs w 51 g gw gh s)) (m1 : (s.ws.length : Int) ≤ 9223372036854775807) (m2 : (s.hs.length : Int) ≤ 9223372036854775807) :
    Calls Try.prog 16 #[.pointer (some ⟨g, 0, none⟩), .int .i64 a, .int .i64 old, .int .i64 v] w (MadeC 51 g gw gh (.bool (swapF s a old v).1) (swapF s a old v).2 w) := by
  have c0 : w.cell? ⟨g, 0, none⟩ = some (.slice (some ⟨gw, 0, none⟩) s.ws.length s.ws.length) := h.out.c.cell 0
  have c1 : w.cell? ⟨g, 1, none⟩ = some (.slice (some ⟨gh, 0, none⟩) s.hs.length s.hs.length) := h.out.c.cell 1
  have c2 : w.cell? ⟨g, 2, none⟩ = some (.int .i64 s.t) := h.out.c.cell 2
  have z2 : w.frozen? ⟨g, 2, none⟩ = false := h.out.c.thaw 2
  have k1 : Hid (Blk w g 51 #[.slice (some ⟨gw, 0, none⟩) s.ws.length s.ws.length, .slice (some ⟨gh, 0, none⟩) s.hs.length s.hs.length, .int .i64 s.t]) := h.out.c
  have k2 : Hid (Blk w gw 2 (ints s.ws).toArray) := h.out.cw
  have n1 : Hid (g ≠ gw) := h.out.n1
  go_enter Try.func16, Try.ntmps16
  go_wp2_with (go_at_call 23; refine (swapW_any _ _ _ _ _ _ _ _ _ _ k1 k2 n1.out m1).mono ?_; rintro e w9 ⟨rfl, rfl⟩)
  go_ret
  exact madeC_mk rfl rfl (cs_swW h.out a old v).1 (cs_swW h.out a old v).2

set_option maxHeartbeats 1000000 in
theorem take_any (g gw gh : Nat) (s : S) (who a : Int) (w : World) (h : Hid (Cs w 51 g gw gh s)) (m1 : (s.ws.length : Int) ≤ 9223372036854775807) (m2 : (s.hs.length : Int) ≤ 9223372036854775807) :
    Calls Try.prog 17 #[.pointer (some ⟨g, 0, none⟩), .int .i64 who, .int .i64 a] w (MadeC 51 g gw gh (.bool (takeF s who a).1) (takeF s who a).2 w) := by
  have c0 : w.cell? ⟨g, 0, none⟩ = some (.slice (some ⟨gw, 0, none⟩) s.ws.length s.ws.length) := h.out.c.cell 0
  have c1 : w.cell? ⟨g, 1, none⟩ = some (.slice (some ⟨gh, 0, none⟩) s.hs.length s.hs.length) := h.out.c.cell 1
  have c2 : w.cell? ⟨g, 2, none⟩ = some (.int .i64 s.t) := h.out.c.cell 2
  have z2 : w.frozen? ⟨g, 2, none⟩ = false := h.out.c.thaw 2
  have k1 : Hid (Blk w g 51 #[.slice (some ⟨gw, 0, none⟩) s.ws.length s.ws.length, .slice (some ⟨gh, 0, none⟩) s.hs.length s.hs.length, .int .i64 s.t]) := h.out.c
  have k2 : Hid (Blk w gh 3 (ints s.hs).toArray) := h.out.ch
  have n1 : Hid (g ≠ gh) := h.out.n2
  by_cases h0 : 0 ≤ who
  · have e1 : Hid (takeF s who a = ((swF s.hs s.t a (-1) who).1, ⟨s.ws, (swF s.hs s.t a (-1) who).2.1, (swF s.hs s.t a (-1) who).2.2⟩)) := by show _ = _; unfold takeF latF; simp [h0]
    go_enter Try.func17, Try.ntmps17
    go_wp2_with (go_at_call 24; refine (swapH_any _ _ _ _ _ _ _ _ _ _ k1 k2 n1.out m2).mono ?_; rintro e w9 ⟨rfl, rfl⟩)
    go_ret
    exact madeC_mk (congrArg (fun p => Value.bool p.1) e1.out) (congrArg (fun p => p.2) e1.out) (cs_swH h.out a (-1) who).1 (cs_swH h.out a (-1) who).2
  · have e1 : Hid (takeF s who a = (false, s)) := by show _ = _; unfold takeF latF; simp [h0]
    go_enter Try.func17, Try.ntmps17
    go_wp2_with fail
    go_ret
    exact madeC_mk (congrArg (fun p => Value.bool p.1) e1.out) (congrArg (fun p => p.2) e1.out) h.out (Kept.refl _ _ _ _)

set_option maxHeartbeats 1000000 in
theorem free_any (g gw gh : Nat) (s : S) (who a : Int) (w : World) (h : Hid (Cs w 51 g gw gh s)) (m1 : (s.ws.length : Int) ≤ 9223372036854775807) (m2 : (s.hs.length : Int) ≤ 9223372036854775807) :
    Calls Try.prog 18 #[.pointer (some ⟨g, 0, none⟩), .int .i64 who, .int .i64 a] w (MadeC 51 g gw gh (.bool (freeF s who a).1) (freeF s who a).2 w) := by
  have c0 : w.cell? ⟨g, 0, none⟩ = some (.slice (some ⟨gw, 0, none⟩) s.ws.length s.ws.length) := h.out.c.cell 0
  have c1 : w.cell? ⟨g, 1, none⟩ = some (.slice (some ⟨gh, 0, none⟩) s.hs.length s.hs.length) := h.out.c.cell 1
  have c2 : w.cell? ⟨g, 2, none⟩ = some (.int .i64 s.t) := h.out.c.cell 2
  have z2 : w.frozen? ⟨g, 2, none⟩ = false := h.out.c.thaw 2
  have k1 : Hid (Blk w g 51 #[.slice (some ⟨gw, 0, none⟩) s.ws.length s.ws.length, .slice (some ⟨gh, 0, none⟩) s.hs.length s.hs.length, .int .i64 s.t]) := h.out.c
  have k2 : Hid (Blk w gh 3 (ints s.hs).toArray) := h.out.ch
  have n1 : Hid (g ≠ gh) := h.out.n2
  by_cases h0 : 0 ≤ who
  · have e1 : Hid (freeF s who a = ((swF s.hs s.t a who (-1)).1, ⟨s.ws, (swF s.hs s.t a who (-1)).2.1, (swF s.hs s.t a who (-1)).2.2⟩)) := by show _ = _; unfold freeF latF; simp [h0]
    go_enter Try.func18, Try.ntmps18
    go_wp2_with (go_at_call 24; refine (swapH_any _ _ _ _ _ _ _ _ _ _ k1 k2 n1.out m2).mono ?_; rintro e w9 ⟨rfl, rfl⟩)
    go_ret
    exact madeC_mk (congrArg (fun p => Value.bool p.1) e1.out) (congrArg (fun p => p.2) e1.out) (cs_swH h.out a who (-1)).1 (cs_swH h.out a who (-1)).2
  · have e1 : Hid (freeF s who a = (false, s)) := by show _ = _; unfold freeF latF; simp [h0]
    go_enter Try.func18, Try.ntmps18
    go_wp2_with fail
    go_ret
    exact madeC_mk (congrArg (fun p => Value.bool p.1) e1.out) (congrArg (fun p => p.2) e1.out) h.out (Kept.refl _ _ _ _)

theorem time_nil (a b c : Int) (w : World) : Calls Try.prog 11 #[.pointer none] w (ToldV (.int .i64 0) w) := by
  go_enter Try.func11, Try.ntmps11
  go_wp2
  go_ret; exact toldV_mk rfl

theorem load_nil (a b c : Int) (w : World) : Calls Try.prog 15 #[.pointer none, .int .i64 a] w (ToldV (.int .i64 0) w) := by
  go_enter Try.func15, Try.ntmps15
  go_wp2
  go_ret; exact toldV_mk rfl

theorem store_nil (a b c : Int) (w : World) : Calls Try.prog 14 #[.pointer none, .int .i64 a, .int .i64 b] w (ToldV (.tuple #[]) w) := by
  go_enter Try.func14, Try.ntmps14
  go_wp2
  exact bodyPost_ret (v := .tuple #[]) (by simp [results, Try.results14, go_sem]) rfl (toldV_mk rfl)

theorem swap_nil (a b c : Int) (w : World) : Calls Try.prog 16 #[.pointer none, .int .i64 a, .int .i64 b, .int .i64 c] w (ToldV (.bool false) w) := by
  go_enter Try.func16, Try.ntmps16
  go_wp2
  go_ret; exact toldV_mk rfl

theorem take_nil (a b c : Int) (w : World) : Calls Try.prog 17 #[.pointer none, .int .i64 a, .int .i64 b] w (ToldV (.bool false) w) := by
  go_enter Try.func17, Try.ntmps17
  go_wp2
  go_ret; exact toldV_mk rfl

theorem free_nil (a b c : Int) (w : World) : Calls Try.prog 18 #[.pointer none, .int .i64 a, .int .i64 b] w (ToldV (.bool false) w) := by
  go_enter Try.func18, Try.ntmps18
  go_wp2
  go_ret; exact toldV_mk rfl

theorem peek_nil (a b c : Int) (w : World) : Calls Try.prog 12 #[.pointer none, .int .i64 a] w (ToldV (.int .i64 0) w) := by
  go_enter Try.func12, Try.ntmps12
  go_wp2
  go_ret; exact toldV_mk rfl

theorem holder_nil (a b c : Int) (w : World) : Calls Try.prog 13 #[.pointer none, .int .i64 a] w (ToldV (.int .i64 (-1)) w) := by
  go_enter Try.func13, Try.ntmps13
  go_wp2
  go_ret; exact toldV_mk rfl
end Go.Proofs.Ytbpfeokheebmdaa.Cn
