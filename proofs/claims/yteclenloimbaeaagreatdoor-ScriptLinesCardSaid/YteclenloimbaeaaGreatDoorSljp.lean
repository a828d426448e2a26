/- The law, walked in each of its turns: it returns true, and its arguments read as they did. No condition of ours. Texts side by side. -/
import Derived.SevenTiedAt
import Derived.LaidMore
import Derived.LaidHandle
import Derived.LaidLaws
import Derived.MakeChecks
import Derived.Stop.LaidErr
import Derived.Lib.LaidTab
import Derived.ChangeMaps5
import Derived.Shelf.Vars
import Derived.Stop.Joined
import Derived.Test.YteclenloimbaeaaGreatDoorTie
import Derived.Test.YteclenloimbaeaaGreatDoorCards
import Derived.Test.YteclenloimbaeaaGreatDoorSljo
set_option linter.unusedVariables false
set_option linter.unusedSimpArgs false
set_option maxRecDepth 100000
set_option maxHeartbeats 16000000
namespace Go.Proofs.YteclenloimbaeaaGreatDoor
open Go.ChangeShapes Go.WideShapes Go.RowKit Mem Opn Opc Wpl Wmr
namespace Wom
open Go.Joins Go.Deep
theorem open_msg {H : Type} {enc : TypeId × Value → H} {w : World} {r : Reach} {b0 base : Nat} {spare : Nat → Bool} {held : Bool} {v : Value} {d : DataW H} {p : List MemPlace}
    (hv : Value.okWide Tryz.prog w r b0 25 v) (h : DataW.Trod enc Tryz.prog w base spare held 25 v d p) : ∃ m : M, v = mvl m ∧ WfM m := by
  have cM : Tryz.prog.cellsOf 25 = 12 := by kernel_rfl
  have cO : Tryz.prog.cellsOf 23 = 7 := by kernel_rfl
  have ci : Tryz.prog.cellsOf 3 = 1 := by kernel_rfl
  have cl : Tryz.prog.cellsOf 2 = 1 := by kernel_rfl
  have cb : Tryz.prog.cellsOf 4 = 1 := by kernel_rfl
  obtain ⟨cs, rfl, hsz⟩ := okWide_struct Tryz.underlying25 hv
  obtain ⟨l⟩ := cs
  match l, hsz.trans cM with
  | [e0, e1, e2, e3, e4, e5, e6, e7, e8, e9, e10, e11], _ =>
    obtain ⟨fuel, hf⟩ := h
    obtain ⟨xs, n, _, _, _, hlen, hg⟩ := DataW.trod_struct Tryz.underlying25 hf
    match xs, hlen with
    | [y0, y1, y2, y3, y4, y5], _ =>
      have g0 := hg 0 _ rfl
      have g1 := hg 1 _ rfl
      have g2 := hg 2 _ rfl
      have g3 := hg 3 _ rfl
      have g4 := hg 4 _ rfl
      have g5 := hg 5 _ rfl
      simp [Value.cells, ci, cO, cl] at g0 g1 g2 g3 g4 g5
      obtain ⟨xs1, n1, _, _, _, hlen1, hg1⟩ := DataW.trod_struct Tryz.underlying23 g1
      match xs1, hlen1 with
      | [u0, u1, u2, u3, u4, u5, u6], _ =>
        have q0 := hg1 0 _ rfl
        have q1 := hg1 1 _ rfl
        have q2 := hg1 2 _ rfl
        have q3 := hg1 3 _ rfl
        have q4 := hg1 4 _ rfl
        have q5 := hg1 5 _ rfl
        have q6 := hg1 6 _ rfl
        simp [ci, cl, cb] at q0 q1 q2 q3 q4 q5 q6
        obtain ⟨k, rfl, w0⟩ := one_int Tryz.underlying3 g0
        obtain ⟨a, rfl, w1⟩ := one_int Tryz.underlying3 q0
        obtain ⟨s, rfl, w2⟩ := one_int Tryz.underlying3 q1
        obtain ⟨x, rfl⟩ := one_bool Tryz.underlying4 q2
        obtain ⟨p, rfl, w3⟩ := one_int Tryz.underlying2 q3
        obtain ⟨q, rfl, w4⟩ := one_int Tryz.underlying2 q4
        obtain ⟨m, rfl, w5⟩ := one_int Tryz.underlying2 q5
        obtain ⟨t, rfl, w6⟩ := one_int Tryz.underlying2 q6
        obtain ⟨i, rfl, w7⟩ := one_int Tryz.underlying3 g2
        obtain ⟨y, rfl, w8⟩ := one_int Tryz.underlying2 g3
        obtain ⟨z, rfl, w9⟩ := one_int Tryz.underlying3 g4
        obtain ⟨o, rfl, w10⟩ := one_int Tryz.underlying2 g5
        exact ⟨⟨k, a, s, x, p, q, m, t, i, y, z, o⟩, rfl, w0, w1, w2, w3, w4, w5, w6, w7, w8, w9, w10⟩
end Wom
namespace scriptLines
open Go Go.ChangeAt Go.Lib Spa Spm Shw Slw
open Go.ChangeMaps (open_string shut_string)
theorem own : ownKnob Tryz.prog.godebug = none := by kernel_rfl
theorem laidOut : laidOutB Tryz.prog = true := by kernel_rfl
theorem tS : (Tryz.prog.globals[2]?).map (·.type) = some 95 := by kernel_rfl
theorem tR : (Tryz.prog.globals[3]?).map (·.type) = some 95 := by kernel_rfl
theorem tT : (Tryz.prog.globals[0]?).map (·.type) = some 135 := by kernel_rfl
theorem star : "*" ++ "errors.errorString" = "*errors.errorString" := by decide
theorem rowE (u : TypeId) (h : Tryz.prog.typeName? 3 u = some "*errors.errorString") : u = 152 :=
  typeName_ptr_named (nm := "errors.errorString") (by rw [star]; kernel_rfl) (by kernel_rfl) (by decide) u (by rw [star]; exact h)
theorem cE : Tryz.prog.cellsOf 154 = 1 := by kernel_rfl
theorem cS : Tryz.prog.cellsOf 9 = 1 := by kernel_rfl
theorem cU : Tryz.prog.cellsOf 98 = 1 := by kernel_rfl
theorem cT : Tryz.prog.cellsOf 135 = 20 := by kernel_rfl
theorem of_laid {W : World} (hs : W.ShapedOpen Tryz.prog) (h : laidMetH Tryz.prog Rows.scriptLinesRow.laid W) : Lw W := by
  rw [MakeChecks.laidMetH_plain _ _ _ (by kernel_rfl)] at h
  have h2 := h.tail.tail
  have h3 := h2.tail.tail
  obtain ⟨a0, s0, hv0, _, _, _⟩ := laid_sentinel h3 Shw.gr tR Tryz.underlying95 rowE Tryz.underlying152 Tryz.underlying154 rfl rfl Tryz.underlying9 cE cS
  obtain ⟨a1, s1, hv1, _, _, _⟩ := laid_sentinel h3.tail Shw.gs tS Tryz.underlying95 rowE Tryz.underlying152 Tryz.underlying154 rfl rfl Tryz.underlying9 cE cS
  have ht : TabIs Tryz.prog W "internal/strconv.uint64pow10" .u64 pow10Tab := tabIs_of_head Shw.gt tT Tryz.underlying135 Tryz.underlying98 cU cT h2
  exact ⟨cell_of_shapedOpen_int (t := 3) (zero := #[.int .i64 0]) hs (of_decide_eq_true (by kernel_rfl)) (by kernel_rfl) rfl (by kernel_rfl) (by kernel_rfl) Tryz.underlying3, ⟨_, _, hv1⟩, ⟨_, _, hv0⟩, ht⟩
noncomputable def wit (os : Os) : World := (World.doorLaid Tryz.prog 72 os).setRow 4 (Go.Pinned.utf8FirstZ.map fun (z : Nat) => Value.int .u8 (z : Int)).toArray
set_option maxRecDepth 100000 in
theorem wit_met (os : Os) (args : Array Value) : laidMetH Tryz.prog Rows.scriptLinesRow.laid ((wit os).forCall (fun _ _ => 0) ⟨#[], args, []⟩).memory := by
  rw [MakeChecks.laidMetH_plain _ _ _ (by kernel_rfl)]
  exact laidMet_of_run' 8 (by kernel_rfl) (by kernel_rfl)
set_option maxRecDepth 100000 in
theorem lifted (os : Os) (started : os.Started) (H : Type) (enc : TypeId × Value → H) :
    ReturnsInHanded {} Tryz.checked os 3 .any (fun w args => (Rows.scriptLinesSpec.pre enc Tryz.prog Tryz.f3 [] false w args ∧ laidMetH Tryz.prog Rows.scriptLinesRow.laid w) ∧ sizedMet enc Tryz.prog Tryz.f3 (OpenSpec.ofChange Rows.scriptLinesSpec) false w args)
      (Rows.scriptLinesSpec.post enc Tryz.prog Tryz.f3 false true false false) := by
  refine returnsInHanded_of_calls own started (by kernel_rfl)
    (ChangeSpec.witness_shaped (enc := enc) (C := Tryz.checked) (os := os) (X := fun w _ => laidMetH Tryz.prog Rows.scriptLinesRow.laid w) false (wit os) #[.agg #[.int .i64 0, .int .i64 0, .int .i64 0, .bool false, .int .i64 0, .int .i64 0, .int .i64 0, .int .i64 0, .int .i64 0, .int .i64 0, .int .i64 0, .int .i64 0], .string ⟨#[]⟩] 8 rfl (World.shaped_of_RefB (by kernel_rfl) (by kernel_rfl)) (by kernel_rfl) (by kernel_rfl) (by kernel_rfl) (wit_met os _)) ?_
  intro w tape i _ hsh _ hok hpre _
  obtain ⟨_, _, _, fn', hfn', _, _, _, _, hval0⟩ := hok
  have e : fn' = Tryz.f3 := Option.some.inj (hfn'.symm.trans Tryz.func3)
  subst e
  obtain ⟨⟨⟨ds, gs, before, hw, _⟩, hx⟩, _⟩ := hpre
  have hW := DataW.Whole.of_heap (w' := w.forCall tape i) (by rfl) hw
  have hX : laidMetH Tryz.prog Rows.scriptLinesRow.laid (w.forCall tape i) := laidMetH.of_heap (by rfl) hx
  have L := of_laid hsh hX
  clear hw hx hfn'
  generalize w.forCall tape i = W at hW L hval0 ⊢
  generalize i.args = args at hW hval0 ⊢
  have hval : ∀ (j : Nat) t v, Tryz.f3.params[j]? = some t → args[j]? = some v → Value.okWide Tryz.prog W .any w.heap.size t v := hval0
  have hW' := hW
  obtain ⟨p, q, hA0, hV, rfl, hfz, hnd⟩ := hW
  have hA : DataW.TrodAll enc Tryz.prog W 0 (fun _ => true) true Tryz.f3.params.toList args.toList ds p := hA0
  rw [Tryz.params3] at hA hval
  obtain ⟨v0, v1, d0, d1, p0, p1, rfl, rfl, rfl, h0, h1⟩ := trodAll_two hA
  obtain ⟨m, rfl, hwf⟩ := Wom.open_msg (hval 0 _ v0 rfl rfl) h0
  obtain ⟨s, rfl, _, _, _⟩ := open_string Tryz.underlying9 (hval 1 _ v1 rfl rfl) h1
  obtain ⟨mk, ma, ms, mx, mp, mq, mn, mt, mi, my, mz, mv⟩ := m
  refine (inner s.data.toList mk ma ms mp mq mn mt mi my mz mv mx W (Lib.hid L) hwf).mono fun e W' ⟨he, hb⟩ => ?_
  subst he
  exact ChangeSpec.post_blind (law_post hW' rfl rfl rfl rfl (by kernel_rfl) Tryz.underlying4 (by rw [Tryz.params3]; simp only [List.mem_cons, List.not_mem_nil, or_false, forall_eq_or_imp, forall_eq]; exact ⟨⟨by kernel_rfl, of_decide_eq_true (by kernel_rfl)⟩, ⟨by kernel_rfl, of_decide_eq_true (by kernel_rfl)⟩⟩) laidOut hb)
theorem over : Rows.ScriptLinesSaid :=
  OpenClaim.holds_of_wide 3 Tryz.f3 rfl rfl rfl rfl rfl rfl rfl ⟨rfl, rfl, rfl, rfl, rfl⟩ rfl rfl rfl rfl rfl (by kernel_rfl) Tryz.func3 (by kernel_rfl)
    (of_decide_eq_true (by kernel_rfl)) (by unfold Func.isWrapper; first | (rw [if_pos (by decide +kernel)]; kernel_rfl) | (rw [if_neg (by decide +kernel)]; exact ⟨rfl, rfl⟩))
    (fun os started H enc _ => lifted os started H enc)
theorem proved : Rows.ScriptLinesCardSaid :=
  Claim7.holds_tied_plain_at .later [] Rows.scriptLinesCard.laidKinds true Rows.scriptLinesCard.stood.harness Rows.scriptLinesCard.stood.looks
    over (fun _ h => by cases h) (by kernel_rfl) (fun _ h => by cases h) scriptLines_row_tie rfl ⟨rfl, rfl⟩ (by kernel_rfl) rfl
    (fun f fn hf hfn => by
      obtain rfl : f = 3 := Option.some.inj ((show Tryz.prog.funcNamed "stopgate/stopgatelaw13.ScriptLines" = some 3 by kernel_rfl).symm.trans hf) |>.symm
      obtain rfl : fn = Tryz.f3 := (Option.some.inj (Tryz.func3.symm.trans hfn)).symm
      exact ⟨by kernel_rfl, fun j t ht => by
        rw [Tryz.params3] at ht
        have hm := Array.mem_of_getElem? ht
        have hall : ((Tryz.f3.params.toList).all fun u => !Tryz.prog.wantsStandIn u) = true := by kernel_rfl
        rw [Tryz.params3] at hall
        have h1 := List.all_eq_true.1 hall t (by simpa using hm)
        have h2 : Tryz.prog.wantsStandIn t = false := by simpa using h1
        exact h2⟩)
    (by kernel_rfl)
#print axioms proved
end scriptLines
end Go.Proofs.YteclenloimbaeaaGreatDoor
