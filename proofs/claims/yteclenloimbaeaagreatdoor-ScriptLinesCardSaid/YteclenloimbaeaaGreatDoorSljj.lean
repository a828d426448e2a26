/- Texts side by side. -/
import Derived.Deep.CutBlock
import Derived.Test.YteclenloimbaeaaGreatDoorSljq
import Derived.Test.YteclenloimbaeaaGreatDoorSlji
set_option linter.unusedVariables false
set_option linter.unusedSimpArgs false
set_option maxRecDepth 100000
set_option maxHeartbeats 16000000
namespace Go.Proofs.YteclenloimbaeaaGreatDoor
open Kap Go.ChangeShapes Go.WideShapes Go.ChangeAt Go.RowKit Go.Lib Mem Wpl Wmr Wrt Wfi Spa Spm Shw Rsa Rsn Rsw Rsl Stk Lat Lap
namespace Rsp
def nmL : List (List UInt8) := [wOrder, wCancel, wFill, wAck, wKill, wRearm, wLimit]
def kindF (x : List UInt8) : Int := if x = wOrder then 0 else if x = wCancel then 1 else if x = wFill then 2 else if x = wAck then 3 else if x = wKill then 4 else if x = wRearm then 5 else if x = wLimit then 6 else -1
def kk (x : List UInt8) (k : Nat) : Int := if kindF x < k then kindF x else -1
theorem kk_0 (x : List UInt8) : kk x 0 = -1 := by
  unfold kk kindF
  repeat' split
  all_goals first | rfl | omega
theorem kk_7 (x : List UInt8) : kk x 7 = kindF x := by
  unfold kk kindF
  repeat' split
  all_goals first | rfl | omega
theorem kk_yes {x : List UInt8} {k : Nat} (hk : k < 7) (h : at0 nmL k = x) : kk x (k + 1) = k := by
  subst h
  match k, hk with
  | 0, _ => rfl
  | 1, _ => rfl
  | 2, _ => rfl
  | 3, _ => rfl
  | 4, _ => rfl
  | 5, _ => rfl
  | 6, _ => rfl
theorem kk_no {x : List UInt8} {k : Nat} (hk : k < 7) (h : ¬ at0 nmL k = x) : kk x (k + 1) = kk x k := by
  have hne : ¬ kindF x = k := by
    intro e
    apply h
    unfold kindF at e
    match k, hk with
    | 0, _ => (repeat' split at e) <;> first | (symm; assumption) | omega
    | 1, _ => (repeat' split at e) <;> first | (symm; assumption) | omega
    | 2, _ => (repeat' split at e) <;> first | (symm; assumption) | omega
    | 3, _ => (repeat' split at e) <;> first | (symm; assumption) | omega
    | 4, _ => (repeat' split at e) <;> first | (symm; assumption) | omega
    | 5, _ => (repeat' split at e) <;> first | (symm; assumption) | omega
    | 6, _ => (repeat' split at e) <;> first | (symm; assumption) | omega
  unfold kk
  repeat' split
  all_goals first | rfl | omega
def pad (ws : List (List UInt8)) : List (List UInt8) := ws ++ List.replicate 7 []
theorem pad_at (ws : List (List UInt8)) (k : Nat) : at0 (pad ws) k = at0 ws k := by
  unfold at0 pad
  rw [List.getD_eq_getElem?_getD, List.getD_eq_getElem?_getD, List.getElem?_append]
  split
  · rfl
  · rename_i h
    rw [List.getElem?_eq_none (l := ws) (by omega), List.getElem?_replicate]
    split <;> rfl
theorem pad_len (ws : List (List UInt8)) : (pad ws).length = ws.length + 7 := by simp [pad]
theorem pad_stx (ws : List (List UInt8)) : stx (pad ws) = stx ws ++ [.string ⟨#[]⟩, .string ⟨#[]⟩, .string ⟨#[]⟩, .string ⟨#[]⟩, .string ⟨#[]⟩, .string ⟨#[]⟩, .string ⟨#[]⟩] := by simp [pad, stx]
theorem each_le (l : List UInt8) (k : Nat) : (at0 (wordsR [] l) k).length ≤ l.length := by
  unfold at0
  rw [List.getD_eq_getElem?_getD]
  cases h : (wordsR [] l)[k]? with
  | none => simp
  | some x => have := words_each l [] x (List.mem_of_getElem? h); simpa using this
theorem beq_dec (a b : List UInt8) : (a == b) = decide (a = b) := by
  by_cases h : a = b
  · rw [decide_eq_true h]; exact beq_iff_eq.2 h
  · rw [decide_eq_false h]; exact beq_eq_false_iff_ne.2 h
def MadeMB (r : M × Bool) (w : World) (e : Ending) (w' : World) : Prop := e = .returned (.tuple #[mvl r.1, .bool r.2]) ∧ Below w.heap.size w w'
theorem rparse_any (l : List UInt8) (w : World) (hl : (l.length : Int) ≤ 400) : Calls Tryz.prog 6 #[sv l] w (MadeMB (parseR l) w) := by
  obtain ⟨i0, hi, hz0, hz1, hz2⟩ := info_parts str_info
  have hwl := words_len l []
  have hel := each_le l
  have hG : Hid (guessR l = guessW numR (wordsR [] l) { m0 with k := -1 }) := κ rfl
  have WW := κ (fun W => rwords_any l W hl)
  obtain ⟨ws, hws⟩ : ∃ ws, ws = wordsR [] l := ⟨_, rfl⟩
  rw [← hws] at hwl hel hG WW
  have hR : Hid (parseR l = if l = [] ∨ ¬ lineL (guessR l) = l then (m0, false) else (guessR l, true)) := κ rfl
  have hwf := guessR_wf l
  generalize guessR l = m at hG hR hwf
  have b0 := κ (β w (.cells #[.int .i64 0, .int .i64 0, .int .i64 0, .bool false, .int .i64 0, .int .i64 0, .int .i64 0, .int .i64 0, .int .i64 0, .int .i64 0, .int .i64 0, .int .i64 0] 25))
  have z0 := κ (δ w 25 #[.int .i64 0, .int .i64 0, .int .i64 0, .bool false, .int .i64 0, .int .i64 0, .int .i64 0, .int .i64 0, .int .i64 0, .int .i64 0, .int .i64 0, .int .i64 0] w.heap.size rfl)
  clear hws
  go_enter Tryz.func6, Tryz.ntmps6
  go_upto_region 1 with fail
  generalize w.alloc (.cells #[.int .i64 0, .int .i64 0, .int .i64 0, .bool false, .int .i64 0, .int .i64 0, .int .i64 0, .int .i64 0, .int .i64 0, .int .i64 0, .int .i64 0, .int .i64 0] 25) = w0 at b0 z0 ⊢
  generalize hgR : w.heap.size = gR at z0 ⊢
  have hg : Hid (w.heap.size ≤ gR) := κ (by omega)
  clear hgR
  have b1 := κ (b0.out.alloc b0.out.size (.cells #[.string ⟨#[111, 114, 100, 101, 114]⟩, .string ⟨#[99, 97, 110, 99, 101, 108]⟩, .string ⟨#[102, 105, 108, 108]⟩, .string ⟨#[97, 99, 107]⟩, .string ⟨#[107, 105, 108, 108]⟩, .string ⟨#[114, 101, 97, 114, 109]⟩, .string ⟨#[108, 105, 109, 105, 116]⟩] 9))
  have z1 := κ (z0.out.alloc (.cells #[.string ⟨#[111, 114, 100, 101, 114]⟩, .string ⟨#[99, 97, 110, 99, 101, 108]⟩, .string ⟨#[102, 105, 108, 108]⟩, .string ⟨#[97, 99, 107]⟩, .string ⟨#[107, 105, 108, 108]⟩, .string ⟨#[114, 101, 97, 114, 109]⟩, .string ⟨#[108, 105, 109, 105, 116]⟩] 9))
  have n1 := κ (δ w0 9 #[.string ⟨#[111, 114, 100, 101, 114]⟩, .string ⟨#[99, 97, 110, 99, 101, 108]⟩, .string ⟨#[102, 105, 108, 108]⟩, .string ⟨#[97, 99, 107]⟩, .string ⟨#[107, 105, 108, 108]⟩, .string ⟨#[114, 101, 97, 114, 109]⟩, .string ⟨#[108, 105, 109, 105, 116]⟩] w0.heap.size rfl)
  go_upto_region 2 with fail
  generalize w0.alloc (.cells #[.string ⟨#[111, 114, 100, 101, 114]⟩, .string ⟨#[99, 97, 110, 99, 101, 108]⟩, .string ⟨#[102, 105, 108, 108]⟩, .string ⟨#[97, 99, 107]⟩, .string ⟨#[107, 105, 108, 108]⟩, .string ⟨#[114, 101, 97, 114, 109]⟩, .string ⟨#[108, 105, 109, 105, 116]⟩] 9) = w1 at b1 z1 n1 ⊢
  generalize w0.heap.size = gN at n1 ⊢
  go_wp2_with fail
  refine (WW.out w1).mono ?_
  rintro e w2 ⟨A, c, rfl, ho, hb2⟩
  have o2 := κ (ho.alloc (.cells #[.string ⟨#[]⟩, .string ⟨#[]⟩, .string ⟨#[]⟩, .string ⟨#[]⟩, .string ⟨#[]⟩, .string ⟨#[]⟩, .string ⟨#[]⟩] 9))
  have u3 := κ (hb2.alloc hb2.size (.cells #[.string ⟨#[]⟩, .string ⟨#[]⟩, .string ⟨#[]⟩, .string ⟨#[]⟩, .string ⟨#[]⟩, .string ⟨#[]⟩, .string ⟨#[]⟩] 9))
  have e3 : Hid (Rd (w2.alloc (.cells #[.string ⟨#[]⟩, .string ⟨#[]⟩, .string ⟨#[]⟩, .string ⟨#[]⟩, .string ⟨#[]⟩, .string ⟨#[]⟩, .string ⟨#[]⟩] 9)) (w2.alloc (.cells #[.string ⟨#[]⟩, .string ⟨#[]⟩, .string ⟨#[]⟩, .string ⟨#[]⟩, .string ⟨#[]⟩, .string ⟨#[]⟩, .string ⟨#[]⟩] 9)).heap.size (some ⟨w2.heap.size, 0, none⟩) [.string ⟨#[]⟩, .string ⟨#[]⟩, .string ⟨#[]⟩, .string ⟨#[]⟩, .string ⟨#[]⟩, .string ⟨#[]⟩, .string ⟨#[]⟩]) := κ (rd_new rfl)
  clear ho hb2 WW
  obtain ⟨nw, hnw⟩ : ∃ nw, nw = ws.length := ⟨_, rfl⟩
  rw [← hnw] at o2 hwl ⊢
  have HNW := κ hnw
  clear hnw
  go_wp2_with (first | (at_builtin; refine wpList_appR (nm := nw + 7) o2 u3.out e3 rfl rfl _ _ _ rfl i0 (.string ByteArray.empty) 16 Tryz.underlying52 hi hz0 hz1 hz2 rfl (by decide) rfl rfl rfl (by simp [Value.oneCell']) (by unfold maxLen; omega) (by omega) (Nat.le_refl _) u3.out.size u3.out.size ?_; intro A4 c4 w4 ho4 hb4 hs4))
  have b4 := κ (CrdB.below_step b1.out hb4)
  have z4 := κ (z1.out.below' hb4)
  have n4 := κ (n1.out.below' hb4)
  have t4 : Hid (Txs w4 w4.heap.size A4 (pad ws)) := κ (by have h := Rd.of_own ho4.out; rw [← pad_stx] at h; exact h)
  clear hb4 ho4 o2 u3 e3 b1 z1 n1 hs4
  have b5 := κ (b4.out.alloc b4.out.size (.cells #[.int .i64 (-1), .int .i64 0, .int .i64 0, .bool false, .int .i64 0, .int .i64 0, .int .i64 0, .int .i64 0, .int .i64 0, .int .i64 0, .int .i64 0, .int .i64 0] 25))
  have z5 := κ (z4.out.alloc (.cells #[.int .i64 (-1), .int .i64 0, .int .i64 0, .bool false, .int .i64 0, .int .i64 0, .int .i64 0, .int .i64 0, .int .i64 0, .int .i64 0, .int .i64 0, .int .i64 0] 25))
  have n5 := κ (n4.out.alloc (.cells #[.int .i64 (-1), .int .i64 0, .int .i64 0, .bool false, .int .i64 0, .int .i64 0, .int .i64 0, .int .i64 0, .int .i64 0, .int .i64 0, .int .i64 0, .int .i64 0] 25))
  have k5 := κ (δ w4 25 #[.int .i64 (-1), .int .i64 0, .int .i64 0, .bool false, .int .i64 0, .int .i64 0, .int .i64 0, .int .i64 0, .int .i64 0, .int .i64 0, .int .i64 0, .int .i64 0] w4.heap.size rfl)
  have t5 : Hid (Txs (w4.alloc (.cells #[.int .i64 (-1), .int .i64 0, .int .i64 0, .bool false, .int .i64 0, .int .i64 0, .int .i64 0, .int .i64 0, .int .i64 0, .int .i64 0, .int .i64 0, .int .i64 0] 25)) w4.heap.size A4 (pad ws)) := κ (t4.out.below ((Below.refl _ _).alloc (Nat.le_refl _) _))
  have gRM : Hid (gR < w4.heap.size) := κ z4.out.lt
  have gNM : Hid (gN < w4.heap.size) := κ n4.out.lt
  have hgM : Hid (w.heap.size ≤ w4.heap.size) := κ b4.out.size
  clear b4 z4 n4 t4
  generalize w4.alloc (.cells #[.int .i64 (-1), .int .i64 0, .int .i64 0, .bool false, .int .i64 0, .int .i64 0, .int .i64 0, .int .i64 0, .int .i64 0, .int .i64 0, .int .i64 0, .int .i64 0] 25) = w5 at b5 z5 n5 k5 t5 ⊢
  generalize w4.heap.size = gM at k5 t5 gRM gNM hgM ⊢
  obtain ⟨x, hx⟩ : ∃ x, x = at0 ws 0 := ⟨_, rfl⟩
  obtain ⟨gb, ob, rfl, hgb, hcc⟩ := Txs.at t5.out (i := 0) (by rw [pad_len]; omega)
  have HGB := κ hgb
  have HC : Hid (∀ j, j < nw + 7 → w5.cell? ⟨gb, ob + j, none⟩ = some (sv (at0 ws j))) := κ (by intro j hj; have h := hcc j (by rw [pad_len, ← HNW.out]; exact hj); rw [pad_at] at h; exact h)
  clear hgb hcc t5
  have Hx := κ hx
  clear hx
  have k5 : Hid (Blk w5 gM 25 #[.int .i64 (kk x 0), .int .i64 0, .int .i64 0, .bool false, .int .i64 0, .int .i64 0, .int .i64 0, .int .i64 0, .int .i64 0, .int .i64 0, .int .i64 0, .int .i64 0]) := κ (by rw [kk_0]; exact k5.out)
  go_loopg [7] 7 (fun g s7 w' => ∃ k : Nat, k + g = 7 ∧ s7 = .int .i64 k ∧ Hid (Blk w' gM 25 #[.int .i64 (kk x k), .int .i64 0, .int .i64 0, .bool false, .int .i64 0, .int .i64 0, .int .i64 0, .int .i64 0, .int .i64 0, .int .i64 0, .int .i64 0, .int .i64 0]) ∧ Hid (Below gM w5 w'))
  case atStart => exact ⟨0, rfl, rfl, k5, κ (Below.refl _ _)⟩
  case round =>
    clear k5
    obtain ⟨k, hkg, rfl, K, B⟩ := hrel
    have hk0 : (0 : Int) ≤ (k : Int) := Int.natCast_nonneg _
    by_cases hlt : k < 7
    · have hki : (k : Int) < 7 := by omega
      obtain ⟨yn, hyn⟩ : ∃ y, y = at0 nmL k := ⟨_, rfl⟩
      have c1 : wr.cell? ⟨gN, k, none⟩ = some (sv yn) := (B.out.cell gNM.out).trans (by
        rw [n5.out.cell k, hyn]
        match k, hlt with
        | 0, _ => rfl
        | 1, _ => rfl
        | 2, _ => rfl
        | 3, _ => rfl
        | 4, _ => rfl
        | 5, _ => rfl
        | 6, _ => rfl)
      have c2 : wr.cell? ⟨gb, ob, none⟩ = some (sv x) := (B.out.cell (p := ⟨gb, ob, none⟩) HGB.out).trans (by rw [Hx.out]; exact HC.out 0 (by omega))
      have i1 : (0 : Int) < (nw : Int) + 7 := by omega
      by_cases hq : yn = x
      · have q : (yn == x) = true := beq_iff_eq.2 hq
        have H2 : Hid (kk x (k + 1) = k) := κ (kk_yes hlt (hyn.symm.trans hq))
        clear hyn hq
        go_wp2_with fail
        go_quiet (fail)
        have KD : Hid (Blk (wr.drewN nq) gM 25 #[.int .i64 (kk x k), .int .i64 0, .int .i64 0, .bool false, .int .i64 0, .int .i64 0, .int .i64 0, .int .i64 0, .int .i64 0, .int .i64 0, .int .i64 0, .int .i64 0]) := K
        have BD : Hid (Below gM w5 (wr.drewN nq)) := κ (Below.drewN' B.out nq)
        clear K B
        go_upto_region 8 with fail
        generalize wr.drewN nq = wq at KD BD ⊢
        obtain ⟨s0, s1, s2, s3, s4, s5, s6, s7, s8, s9, s10, s11, y0, y1, y2, y3, y4, y5, y6, y7, y8, y9, y10, y11⟩ := z12_of KD.out
        go_wp2_with fail
        have K2 : Hid (Blk (wq.setCell ⟨gM, 0, none⟩ (.int .i64 k)) gM 25 #[.int .i64 (kk x (k + 1)), .int .i64 0, .int .i64 0, .bool false, .int .i64 0, .int .i64 0, .int .i64 0, .int .i64 0, .int .i64 0, .int .i64 0, .int .i64 0, .int .i64 0]) := κ (by rw [H2.out]; exact blk_st KD.out 0 (.int .i64 k))
        have B2 : Hid (Below gM w5 (wq.setCell ⟨gM, 0, none⟩ (.int .i64 k))) := κ (BD.out.setCell (Nat.le_refl _) _)
        go_roundg (gk - 1)
        case measure => omega
        case rel => exact ⟨k + 1, by omega, by go_num, K2, B2⟩
      · have q : (yn == x) = false := beq_eq_false_iff_ne.2 hq
        have H2 : Hid (kk x (k + 1) = kk x k) := κ (kk_no hlt (fun e => hq (hyn.trans e)))
        clear hyn hq
        go_wp2_with fail
        go_quiet (fail)
        have KD : Hid (Blk (wr.drewN nq) gM 25 #[.int .i64 (kk x (k + 1)), .int .i64 0, .int .i64 0, .bool false, .int .i64 0, .int .i64 0, .int .i64 0, .int .i64 0, .int .i64 0, .int .i64 0, .int .i64 0, .int .i64 0]) := κ (by rw [H2.out]; exact K.out)
        have BD : Hid (Below gM w5 (wr.drewN nq)) := κ (Below.drewN' B.out nq)
        clear K B
        go_wp2_with fail
        go_roundg (gk - 1)
        case measure => omega
        case rel => exact ⟨k + 1, by omega, by go_num, KD, BD⟩
    · have hki : ¬ (k : Int) < 7 := by omega
      have hk7 : k = 7 := by omega
      have K7 : Hid (Blk wr gM 25 #[.int .i64 (kindF x), .int .i64 0, .int .i64 0, .bool false, .int .i64 0, .int .i64 0, .int .i64 0, .int .i64 0, .int .i64 0, .int .i64 0, .int .i64 0, .int .i64 0]) := κ (by have h := K.out; rw [hk7, kk_7] at h; exact h)
      clear K hk7
      obtain ⟨kd, hkd⟩ : ∃ kd, kd = kindF x := ⟨_, rfl⟩
      rw [← hkd] at K7
      have HKD := κ hkd
      clear hkd
      obtain ⟨j0, j1, j2, j3, j4, j5, j6, j7, j8, j9, j10, j11⟩ := c12_of K7.out
      go_upto_block 2 with fail
      clear j0 j1 j2 j3 j4 j5 j6 j7 j8 j9 j10 j11
      go_cut [3] (fun s3 wx => s3 = .bool false ∧ Hid (Blk wx gM 25 #[.int .i64 m.k, .int .i64 m.a, .int .i64 m.s, .bool m.x, .int .i64 m.p, .int .i64 m.q, .int .i64 m.n, .int .i64 m.t, .int .i64 m.i, .int .i64 m.y, .int .i64 m.z, .int .i64 m.v]) ∧ Hid (Below gM w5 wx))
      case first =>
        have D : Hid (∀ j, j < nw + 7 → wr.cell? ⟨gb, ob + j, none⟩ = some (sv (at0 ws j))) := κ (fun j hj => (B.out.cell (p := ⟨gb, ob + j, none⟩) HGB.out).trans (HC.out j hj))
        have d1 := D.out 1 (by omega); have d2 := D.out 2 (by omega); have d3 := D.out 3 (by omega); have d4 := D.out 4 (by omega); have d5 := D.out 5 (by omega); have d6 := D.out 6 (by omega); have d7 := D.out 7 (by omega)
        have h1 := κ (hel 1); have h2 := κ (hel 2); have h3 := κ (hel 3); have h4 := κ (hel 4); have h5 := κ (hel 5); have h6 := κ (hel 6); have h7 := κ (hel 7)
        have i1 : (1 : Int) < (nw : Int) + 7 := (by omega); have i2 : (2 : Int) < (nw : Int) + 7 := (by omega); have i3 : (3 : Int) < (nw : Int) + 7 := (by omega); have i4 : (4 : Int) < (nw : Int) + 7 := (by omega); have i5 : (5 : Int) < (nw : Int) + 7 := (by omega); have i6 : (6 : Int) < (nw : Int) + 7 := (by omega); have i7 : (7 : Int) < (nw : Int) + 7 := (by omega)
        have hsell := beq_dec (at0 ws 3) [115, 101, 108, 108]
        have hG2 : Hid (m = guessW numR ws { m0 with k := -1 }) := hG
        have hx0 := κ Hx.out
        have gw : Hid (guessW numR ws { m0 with k := -1 } = if x = wOrder then { m0 with k := 0, a := numR (at0 ws 1), s := numR (at0 ws 2), x := decide (at0 ws 3 = wSell), p := numR (at0 ws 4), q := numR (at0 ws 5), n := numR (at0 ws 6), t := numR (at0 ws 7) }
          else if x = wCancel then { m0 with k := 1, i := numR (at0 ws 1) } else if x = wFill then { m0 with k := 2, i := numR (at0 ws 1), y := numR (at0 ws 2) } else if x = wAck then { m0 with k := 3, i := numR (at0 ws 1) }
          else if x = wKill then { m0 with k := 4 } else if x = wRearm then { m0 with k := 5 } else if x = wLimit then { m0 with k := 6, z := numR (at0 ws 1), v := numR (at0 ws 2) } else { m0 with k := -1 }) := κ (by unfold guessW; rw [← Hx.out])
        generalize at0 ws 1 = x1 at *; generalize at0 ws 2 = x2 at *; generalize at0 ws 3 = x3 at *; generalize at0 ws 4 = x4 at *; generalize at0 ws 5 = x5 at *; generalize at0 ws 6 = x6 at *; generalize at0 ws 7 = x7 at *
        clear D HC hel hwl hwf hR hG Hx b5 n5 z5 hx0
        by_cases n0 : x = wOrder
        · have hm : Hid (m = { m0 with k := 0, a := numR x1, s := numR x2, x := decide (x3 = wSell), p := numR x4, q := numR x5, n := numR x6, t := numR x7 }) := κ (by rw [hG2.out, gw.out];  rw [if_pos n0])
          obtain rfl : kd = 0 := by rw [HKD.out]; unfold kindF;  rw [if_pos n0]
          clear hG2 gw HKD n0
          go_upto_region 11 with fail
          have HT : Hid (wr.drew.cell? ⟨gb, ob + 1, none⟩ = some (sv x1) ∧ wr.drew.cell? ⟨gb, ob + 2, none⟩ = some (sv x2) ∧ wr.drew.cell? ⟨gb, ob + 3, none⟩ = some (sv x3) ∧ wr.drew.cell? ⟨gb, ob + 4, none⟩ = some (sv x4) ∧ wr.drew.cell? ⟨gb, ob + 5, none⟩ = some (sv x5) ∧ wr.drew.cell? ⟨gb, ob + 6, none⟩ = some (sv x6) ∧ wr.drew.cell? ⟨gb, ob + 7, none⟩ = some (sv x7)) := κ ⟨d1, d2, d3, d4, d5, d6, d7⟩
          have KD : Hid (Blk wr.drew gM 25 #[.int .i64 0, .int .i64 0, .int .i64 0, .bool false, .int .i64 0, .int .i64 0, .int .i64 0, .int .i64 0, .int .i64 0, .int .i64 0, .int .i64 0, .int .i64 0]) := K7
          have BD := κ B.out.drew
          clear d1 d2 d3 d4 d5 d6 d7
          refine wp_region_noPanic ?_
          refine wp_region_L (T := (fun w' => w'.cell? ⟨gb, ob + 1, none⟩ = some (sv x1) ∧ w'.cell? ⟨gb, ob + 2, none⟩ = some (sv x2) ∧ w'.cell? ⟨gb, ob + 3, none⟩ = some (sv x3) ∧ w'.cell? ⟨gb, ob + 4, none⟩ = some (sv x4) ∧ w'.cell? ⟨gb, ob + 5, none⟩ = some (sv x5) ∧ w'.cell? ⟨gb, ob + 6, none⟩ = some (sv x6) ∧ w'.cell? ⟨gb, ob + 7, none⟩ = some (sv x7))) (st := [30]) (by kernel_rfl) ?_
          generalize wr.drew = wq at HT KD BD ⊢
          refine wpL_word (i := 0) (v := ?_) rfl (by kernel_rfl) (fun _ _ _ h => h) (by kernel_rfl) _ _ _ _ (by kernel_rfl) (by kernel_rfl) (Or.inl ⟨by rfl, ?_⟩) (fun _ => HT.out) ?_
          rotate_left
          · intro w' _
            go_simp
            try with_reducible rfl
          (try simp only [Act.put, List.getElem_toArray, List.getElem_cons_succ, List.getElem_cons_zero, List.setIfInBounds_toArray, List.set_cons_zero, List.set_cons_succ])
          refine wpL_word (i := 1) (v := ?_) rfl (by kernel_rfl) (fun _ _ _ h => h) (by kernel_rfl) _ _ _ _ (by kernel_rfl) (by kernel_rfl) (Or.inl ⟨by rfl, ?_⟩) (fun _ => HT.out) ?_
          rotate_left
          · intro w' _
            go_simp
            try with_reducible rfl
          (try simp only [Act.put, List.getElem_toArray, List.getElem_cons_succ, List.getElem_cons_zero, List.setIfInBounds_toArray, List.set_cons_zero, List.set_cons_succ])
          refine wpL_load (i := 2) (v := ?_) rfl (by kernel_rfl) (fun _ _ _ h => h) (by kernel_rfl) (by kernel_rfl) _ _ _ _ (by kernel_rfl) (by kernel_rfl) (Or.inl ⟨by rfl, ?_⟩) (by kernel_rfl) HT.out ?_
          rotate_left
          · intro w' hS
            (try dsimp only at hS)
            obtain ⟨c1, c2, c3, c4, c5, c6, c7⟩ := hS
            go_simp
            try with_reducible rfl
          (try simp only [Act.put, List.getElem_toArray, List.getElem_cons_succ, List.getElem_cons_zero, List.setIfInBounds_toArray, List.set_cons_zero, List.set_cons_succ])
          refine wpL_pure (i := 3) (v := .int .i64 (numR x1)) rfl (by kernel_rfl) (fun _ _ _ h => h) (by kernel_rfl) _ _ _ _ (by kernel_rfl) (by kernel_rfl) ⟨by rfl, 16, #[sv x1], ?_, fun w' => rword_any x1 w' (by have := h1.out; omega)⟩ (fun _ => HT.out) ?_
          · intro w'
            go_simp
          (try simp only [Act.put, List.getElem_toArray, List.getElem_cons_succ, List.getElem_cons_zero, List.setIfInBounds_toArray, List.set_cons_zero, List.set_cons_succ])
          refine wpL_word (i := 4) (v := ?_) rfl (by kernel_rfl) (fun _ _ _ h => h) (by kernel_rfl) _ _ _ _ (by kernel_rfl) (by kernel_rfl) (Or.inl ⟨by rfl, ?_⟩) (fun _ => HT.out) ?_
          rotate_left
          · intro w' _
            go_simp
            try with_reducible rfl
          (try simp only [Act.put, List.getElem_toArray, List.getElem_cons_succ, List.getElem_cons_zero, List.setIfInBounds_toArray, List.set_cons_zero, List.set_cons_succ])
          refine wpL_word (i := 5) (v := ?_) rfl (by kernel_rfl) (fun _ _ _ h => h) (by kernel_rfl) _ _ _ _ (by kernel_rfl) (by kernel_rfl) (Or.inl ⟨by rfl, ?_⟩) (fun _ => HT.out) ?_
          rotate_left
          · intro w' _
            go_simp
            try with_reducible rfl
          (try simp only [Act.put, List.getElem_toArray, List.getElem_cons_succ, List.getElem_cons_zero, List.setIfInBounds_toArray, List.set_cons_zero, List.set_cons_succ])
          refine wpL_load (i := 6) (v := ?_) rfl (by kernel_rfl) (fun _ _ _ h => h) (by kernel_rfl) (by kernel_rfl) _ _ _ _ (by kernel_rfl) (by kernel_rfl) (Or.inl ⟨by rfl, ?_⟩) (by kernel_rfl) HT.out ?_
          rotate_left
          · intro w' hS
            (try dsimp only at hS)
            obtain ⟨c1, c2, c3, c4, c5, c6, c7⟩ := hS
            go_simp
            try with_reducible rfl
          (try simp only [Act.put, List.getElem_toArray, List.getElem_cons_succ, List.getElem_cons_zero, List.setIfInBounds_toArray, List.set_cons_zero, List.set_cons_succ])
          refine wpL_pure (i := 7) (v := .int .i64 (numR x2)) rfl (by kernel_rfl) (fun _ _ _ h => h) (by kernel_rfl) _ _ _ _ (by kernel_rfl) (by kernel_rfl) ⟨by rfl, 16, #[sv x2], ?_, fun w' => rword_any x2 w' (by have := h2.out; omega)⟩ (fun _ => HT.out) ?_
          · intro w'
            go_simp
          (try simp only [Act.put, List.getElem_toArray, List.getElem_cons_succ, List.getElem_cons_zero, List.setIfInBounds_toArray, List.set_cons_zero, List.set_cons_succ])
          refine wpL_word (i := 8) (v := ?_) rfl (by kernel_rfl) (fun _ _ _ h => h) (by kernel_rfl) _ _ _ _ (by kernel_rfl) (by kernel_rfl) (Or.inl ⟨by rfl, ?_⟩) (fun _ => HT.out) ?_
          rotate_left
          · intro w' _
            go_simp
            try with_reducible rfl
          (try simp only [Act.put, List.getElem_toArray, List.getElem_cons_succ, List.getElem_cons_zero, List.setIfInBounds_toArray, List.set_cons_zero, List.set_cons_succ])
          refine wpL_word (i := 9) (v := ?_) rfl (by kernel_rfl) (fun _ _ _ h => h) (by kernel_rfl) _ _ _ _ (by kernel_rfl) (by kernel_rfl) (Or.inl ⟨by rfl, ?_⟩) (fun _ => HT.out) ?_
          rotate_left
          · intro w' _
            go_simp
            try with_reducible rfl
          (try simp only [Act.put, List.getElem_toArray, List.getElem_cons_succ, List.getElem_cons_zero, List.setIfInBounds_toArray, List.set_cons_zero, List.set_cons_succ])
          refine wpL_load (i := 10) (v := ?_) rfl (by kernel_rfl) (fun _ _ _ h => h) (by kernel_rfl) (by kernel_rfl) _ _ _ _ (by kernel_rfl) (by kernel_rfl) (Or.inl ⟨by rfl, ?_⟩) (by kernel_rfl) HT.out ?_
          rotate_left
          · intro w' hS
            (try dsimp only at hS)
            obtain ⟨c1, c2, c3, c4, c5, c6, c7⟩ := hS
            go_simp
            try with_reducible rfl
          (try simp only [Act.put, List.getElem_toArray, List.getElem_cons_succ, List.getElem_cons_zero, List.setIfInBounds_toArray, List.set_cons_zero, List.set_cons_succ])
          refine wpL_word (i := 11) (v := ?_) rfl (by kernel_rfl) (fun _ _ _ h => h) (by kernel_rfl) _ _ _ _ (by kernel_rfl) (by kernel_rfl) (Or.inl ⟨by rfl, ?_⟩) (fun _ => HT.out) ?_
          rotate_left
          · intro w' _
            go_simp
            try with_reducible rfl
          (try simp only [Act.put, List.getElem_toArray, List.getElem_cons_succ, List.getElem_cons_zero, List.setIfInBounds_toArray, List.set_cons_zero, List.set_cons_succ])
          refine wpL_word (i := 12) (v := ?_) rfl (by kernel_rfl) (fun _ _ _ h => h) (by kernel_rfl) _ _ _ _ (by kernel_rfl) (by kernel_rfl) (Or.inl ⟨by rfl, ?_⟩) (fun _ => HT.out) ?_
          rotate_left
          · intro w' _
            go_simp
            try with_reducible rfl
          (try simp only [Act.put, List.getElem_toArray, List.getElem_cons_succ, List.getElem_cons_zero, List.setIfInBounds_toArray, List.set_cons_zero, List.set_cons_succ])
          refine wpL_word (i := 13) (v := ?_) rfl (by kernel_rfl) (fun _ _ _ h => h) (by kernel_rfl) _ _ _ _ (by kernel_rfl) (by kernel_rfl) (Or.inl ⟨by rfl, ?_⟩) (fun _ => HT.out) ?_
          rotate_left
          · intro w' _
            go_simp
            try with_reducible rfl
          (try simp only [Act.put, List.getElem_toArray, List.getElem_cons_succ, List.getElem_cons_zero, List.setIfInBounds_toArray, List.set_cons_zero, List.set_cons_succ])
          refine wpL_load (i := 14) (v := ?_) rfl (by kernel_rfl) (fun _ _ _ h => h) (by kernel_rfl) (by kernel_rfl) _ _ _ _ (by kernel_rfl) (by kernel_rfl) (Or.inl ⟨by rfl, ?_⟩) (by kernel_rfl) HT.out ?_
          rotate_left
          · intro w' hS
            (try dsimp only at hS)
            obtain ⟨c1, c2, c3, c4, c5, c6, c7⟩ := hS
            go_simp
            try with_reducible rfl
          (try simp only [Act.put, List.getElem_toArray, List.getElem_cons_succ, List.getElem_cons_zero, List.setIfInBounds_toArray, List.set_cons_zero, List.set_cons_succ])
          refine wpL_pure (i := 15) (v := .int .i64 (numR x4)) rfl (by kernel_rfl) (fun _ _ _ h => h) (by kernel_rfl) _ _ _ _ (by kernel_rfl) (by kernel_rfl) ⟨by rfl, 16, #[sv x4], ?_, fun w' => rword_any x4 w' (by have := h4.out; omega)⟩ (fun _ => HT.out) ?_
          · intro w'
            go_simp
          (try simp only [Act.put, List.getElem_toArray, List.getElem_cons_succ, List.getElem_cons_zero, List.setIfInBounds_toArray, List.set_cons_zero, List.set_cons_succ])
          refine wpL_word (i := 16) (v := ?_) rfl (by kernel_rfl) (fun _ _ _ h => h) (by kernel_rfl) _ _ _ _ (by kernel_rfl) (by kernel_rfl) (Or.inl ⟨by rfl, ?_⟩) (fun _ => HT.out) ?_
          rotate_left
          · intro w' _
            go_simp
            try with_reducible rfl
          (try simp only [Act.put, List.getElem_toArray, List.getElem_cons_succ, List.getElem_cons_zero, List.setIfInBounds_toArray, List.set_cons_zero, List.set_cons_succ])
          refine wpL_word (i := 17) (v := ?_) rfl (by kernel_rfl) (fun _ _ _ h => h) (by kernel_rfl) _ _ _ _ (by kernel_rfl) (by kernel_rfl) (Or.inl ⟨by rfl, ?_⟩) (fun _ => HT.out) ?_
          rotate_left
          · intro w' _
            go_simp
            try with_reducible rfl
          (try simp only [Act.put, List.getElem_toArray, List.getElem_cons_succ, List.getElem_cons_zero, List.setIfInBounds_toArray, List.set_cons_zero, List.set_cons_succ])
          refine wpL_load (i := 18) (v := ?_) rfl (by kernel_rfl) (fun _ _ _ h => h) (by kernel_rfl) (by kernel_rfl) _ _ _ _ (by kernel_rfl) (by kernel_rfl) (Or.inl ⟨by rfl, ?_⟩) (by kernel_rfl) HT.out ?_
          rotate_left
          · intro w' hS
            (try dsimp only at hS)
            obtain ⟨c1, c2, c3, c4, c5, c6, c7⟩ := hS
            go_simp
            try with_reducible rfl
          (try simp only [Act.put, List.getElem_toArray, List.getElem_cons_succ, List.getElem_cons_zero, List.setIfInBounds_toArray, List.set_cons_zero, List.set_cons_succ])
          refine wpL_pure (i := 19) (v := .int .i64 (numR x5)) rfl (by kernel_rfl) (fun _ _ _ h => h) (by kernel_rfl) _ _ _ _ (by kernel_rfl) (by kernel_rfl) ⟨by rfl, 16, #[sv x5], ?_, fun w' => rword_any x5 w' (by have := h5.out; omega)⟩ (fun _ => HT.out) ?_
          · intro w'
            go_simp
          (try simp only [Act.put, List.getElem_toArray, List.getElem_cons_succ, List.getElem_cons_zero, List.setIfInBounds_toArray, List.set_cons_zero, List.set_cons_succ])
          refine wpL_word (i := 20) (v := ?_) rfl (by kernel_rfl) (fun _ _ _ h => h) (by kernel_rfl) _ _ _ _ (by kernel_rfl) (by kernel_rfl) (Or.inl ⟨by rfl, ?_⟩) (fun _ => HT.out) ?_
          rotate_left
          · intro w' _
            go_simp
            try with_reducible rfl
          (try simp only [Act.put, List.getElem_toArray, List.getElem_cons_succ, List.getElem_cons_zero, List.setIfInBounds_toArray, List.set_cons_zero, List.set_cons_succ])
          refine wpL_word (i := 21) (v := ?_) rfl (by kernel_rfl) (fun _ _ _ h => h) (by kernel_rfl) _ _ _ _ (by kernel_rfl) (by kernel_rfl) (Or.inl ⟨by rfl, ?_⟩) (fun _ => HT.out) ?_
          rotate_left
          · intro w' _
            go_simp
            try with_reducible rfl
          (try simp only [Act.put, List.getElem_toArray, List.getElem_cons_succ, List.getElem_cons_zero, List.setIfInBounds_toArray, List.set_cons_zero, List.set_cons_succ])
          refine wpL_load (i := 22) (v := ?_) rfl (by kernel_rfl) (fun _ _ _ h => h) (by kernel_rfl) (by kernel_rfl) _ _ _ _ (by kernel_rfl) (by kernel_rfl) (Or.inl ⟨by rfl, ?_⟩) (by kernel_rfl) HT.out ?_
          rotate_left
          · intro w' hS
            (try dsimp only at hS)
            obtain ⟨c1, c2, c3, c4, c5, c6, c7⟩ := hS
            go_simp
            try with_reducible rfl
          (try simp only [Act.put, List.getElem_toArray, List.getElem_cons_succ, List.getElem_cons_zero, List.setIfInBounds_toArray, List.set_cons_zero, List.set_cons_succ])
          refine wpL_pure (i := 23) (v := .int .i64 (numR x6)) rfl (by kernel_rfl) (fun _ _ _ h => h) (by kernel_rfl) _ _ _ _ (by kernel_rfl) (by kernel_rfl) ⟨by rfl, 16, #[sv x6], ?_, fun w' => rword_any x6 w' (by have := h6.out; omega)⟩ (fun _ => HT.out) ?_
          · intro w'
            go_simp
          (try simp only [Act.put, List.getElem_toArray, List.getElem_cons_succ, List.getElem_cons_zero, List.setIfInBounds_toArray, List.set_cons_zero, List.set_cons_succ])
          refine wpL_word (i := 24) (v := ?_) rfl (by kernel_rfl) (fun _ _ _ h => h) (by kernel_rfl) _ _ _ _ (by kernel_rfl) (by kernel_rfl) (Or.inl ⟨by rfl, ?_⟩) (fun _ => HT.out) ?_
          rotate_left
          · intro w' _
            go_simp
            try with_reducible rfl
          (try simp only [Act.put, List.getElem_toArray, List.getElem_cons_succ, List.getElem_cons_zero, List.setIfInBounds_toArray, List.set_cons_zero, List.set_cons_succ])
          refine wpL_word (i := 25) (v := ?_) rfl (by kernel_rfl) (fun _ _ _ h => h) (by kernel_rfl) _ _ _ _ (by kernel_rfl) (by kernel_rfl) (Or.inl ⟨by rfl, ?_⟩) (fun _ => HT.out) ?_
          rotate_left
          · intro w' _
            go_simp
            try with_reducible rfl
          (try simp only [Act.put, List.getElem_toArray, List.getElem_cons_succ, List.getElem_cons_zero, List.setIfInBounds_toArray, List.set_cons_zero, List.set_cons_succ])
          refine wpL_load (i := 26) (v := ?_) rfl (by kernel_rfl) (fun _ _ _ h => h) (by kernel_rfl) (by kernel_rfl) _ _ _ _ (by kernel_rfl) (by kernel_rfl) (Or.inl ⟨by rfl, ?_⟩) (by kernel_rfl) HT.out ?_
          rotate_left
          · intro w' hS
            (try dsimp only at hS)
            obtain ⟨c1, c2, c3, c4, c5, c6, c7⟩ := hS
            go_simp
            try with_reducible rfl
          (try simp only [Act.put, List.getElem_toArray, List.getElem_cons_succ, List.getElem_cons_zero, List.setIfInBounds_toArray, List.set_cons_zero, List.set_cons_succ])
          refine wpL_pure (i := 27) (v := .int .i64 (numR x7)) rfl (by kernel_rfl) (fun _ _ _ h => h) (by kernel_rfl) _ _ _ _ (by kernel_rfl) (by kernel_rfl) ⟨by rfl, 16, #[sv x7], ?_, fun w' => rword_any x7 w' (by have := h7.out; omega)⟩ (fun _ => HT.out) ?_
          · intro w'
            go_simp
          (try simp only [Act.put, List.getElem_toArray, List.getElem_cons_succ, List.getElem_cons_zero, List.setIfInBounds_toArray, List.set_cons_zero, List.set_cons_succ])
          refine wpL_word (i := 28) (v := ?_) rfl (by kernel_rfl) (fun _ _ _ h => h) (by kernel_rfl) _ _ _ _ (by kernel_rfl) (by kernel_rfl) (Or.inl ⟨by rfl, ?_⟩) (fun _ => HT.out) ?_
          rotate_left
          · intro w' _
            go_simp
            try with_reducible rfl
          (try simp only [Act.put, List.getElem_toArray, List.getElem_cons_succ, List.getElem_cons_zero, List.setIfInBounds_toArray, List.set_cons_zero, List.set_cons_succ])
          refine wpL_word (i := 29) (v := ?_) rfl (by kernel_rfl) (fun _ _ _ h => h) (by kernel_rfl) _ _ _ _ (by kernel_rfl) (by kernel_rfl) (Or.inl ⟨by rfl, ?_⟩) (fun _ => HT.out) ?_
          rotate_left
          · intro w' _
            go_simp
            try with_reducible rfl
          (try simp only [Act.put, List.getElem_toArray, List.getElem_cons_succ, List.getElem_cons_zero, List.setIfInBounds_toArray, List.set_cons_zero, List.set_cons_succ])
          obtain ⟨s0, s1, s2, s3, s4, s5, s6, s7, s8, s9, s10, s11, y0, y1, y2, y3, y4, y5, y6, y7, y8, y9, y10, y11⟩ := z12_of KD.out
          refine wpL_late (n := 30) (by kernel_rfl) rfl (by kernel_rfl) (fun K' hK => ?_)
          go_simp
          refine hK.out _ _ ?_
          clear hK K'
          (try simp only [Act.put, List.getElem_toArray, List.getElem_cons_succ, List.getElem_cons_zero, List.setIfInBounds_toArray, List.set_cons_zero, List.set_cons_succ])
          refine wpL_done (by kernel_rfl) ?_ _
          refine NoPanic.normal ?_
          go_wp2_with fail
          go_meet
          have F0 : Blk (wq.setCell ⟨gM, 1, none⟩ (.int .i64 (numR x1))) gM 25 #[.int .i64 0, .int .i64 (numR x1), .int .i64 0, .bool false, .int .i64 0, .int .i64 0, .int .i64 0, .int .i64 0, .int .i64 0, .int .i64 0, .int .i64 0, .int .i64 0] := blk_st (KD.out) 1 (.int .i64 (numR x1))
          have F1 : Blk ((wq.setCell ⟨gM, 1, none⟩ (.int .i64 (numR x1))).setCell ⟨gM, 2, none⟩ (.int .i64 (numR x2))) gM 25 #[.int .i64 0, .int .i64 (numR x1), .int .i64 (numR x2), .bool false, .int .i64 0, .int .i64 0, .int .i64 0, .int .i64 0, .int .i64 0, .int .i64 0, .int .i64 0, .int .i64 0] := blk_st (F0) 2 (.int .i64 (numR x2))
          have F2 : Blk (((wq.setCell ⟨gM, 1, none⟩ (.int .i64 (numR x1))).setCell ⟨gM, 2, none⟩ (.int .i64 (numR x2))).setCell ⟨gM, 3, none⟩ (.bool (decide (x3 = wSell)))) gM 25 #[.int .i64 0, .int .i64 (numR x1), .int .i64 (numR x2), .bool (decide (x3 = wSell)), .int .i64 0, .int .i64 0, .int .i64 0, .int .i64 0, .int .i64 0, .int .i64 0, .int .i64 0, .int .i64 0] := blk_st (F1) 3 (.bool (decide (x3 = wSell)))
          have F3 : Blk ((((wq.setCell ⟨gM, 1, none⟩ (.int .i64 (numR x1))).setCell ⟨gM, 2, none⟩ (.int .i64 (numR x2))).setCell ⟨gM, 3, none⟩ (.bool (decide (x3 = wSell)))).setCell ⟨gM, 4, none⟩ (.int .i64 (numR x4))) gM 25 #[.int .i64 0, .int .i64 (numR x1), .int .i64 (numR x2), .bool (decide (x3 = wSell)), .int .i64 (numR x4), .int .i64 0, .int .i64 0, .int .i64 0, .int .i64 0, .int .i64 0, .int .i64 0, .int .i64 0] := blk_st (F2) 4 (.int .i64 (numR x4))
          have F4 : Blk (((((wq.setCell ⟨gM, 1, none⟩ (.int .i64 (numR x1))).setCell ⟨gM, 2, none⟩ (.int .i64 (numR x2))).setCell ⟨gM, 3, none⟩ (.bool (decide (x3 = wSell)))).setCell ⟨gM, 4, none⟩ (.int .i64 (numR x4))).setCell ⟨gM, 5, none⟩ (.int .i64 (numR x5))) gM 25 #[.int .i64 0, .int .i64 (numR x1), .int .i64 (numR x2), .bool (decide (x3 = wSell)), .int .i64 (numR x4), .int .i64 (numR x5), .int .i64 0, .int .i64 0, .int .i64 0, .int .i64 0, .int .i64 0, .int .i64 0] := blk_st (F3) 5 (.int .i64 (numR x5))
          have F5 : Blk ((((((wq.setCell ⟨gM, 1, none⟩ (.int .i64 (numR x1))).setCell ⟨gM, 2, none⟩ (.int .i64 (numR x2))).setCell ⟨gM, 3, none⟩ (.bool (decide (x3 = wSell)))).setCell ⟨gM, 4, none⟩ (.int .i64 (numR x4))).setCell ⟨gM, 5, none⟩ (.int .i64 (numR x5))).setCell ⟨gM, 6, none⟩ (.int .i64 (numR x6))) gM 25 #[.int .i64 0, .int .i64 (numR x1), .int .i64 (numR x2), .bool (decide (x3 = wSell)), .int .i64 (numR x4), .int .i64 (numR x5), .int .i64 (numR x6), .int .i64 0, .int .i64 0, .int .i64 0, .int .i64 0, .int .i64 0] := blk_st (F4) 6 (.int .i64 (numR x6))
          have F6 : Blk (((((((wq.setCell ⟨gM, 1, none⟩ (.int .i64 (numR x1))).setCell ⟨gM, 2, none⟩ (.int .i64 (numR x2))).setCell ⟨gM, 3, none⟩ (.bool (decide (x3 = wSell)))).setCell ⟨gM, 4, none⟩ (.int .i64 (numR x4))).setCell ⟨gM, 5, none⟩ (.int .i64 (numR x5))).setCell ⟨gM, 6, none⟩ (.int .i64 (numR x6))).setCell ⟨gM, 7, none⟩ (.int .i64 (numR x7))) gM 25 #[.int .i64 0, .int .i64 (numR x1), .int .i64 (numR x2), .bool (decide (x3 = wSell)), .int .i64 (numR x4), .int .i64 (numR x5), .int .i64 (numR x6), .int .i64 (numR x7), .int .i64 0, .int .i64 0, .int .i64 0, .int .i64 0] := blk_st (F5) 7 (.int .i64 (numR x7))
          have FB : Below gM w5 (((((((wq.setCell ⟨gM, 1, none⟩ (.int .i64 (numR x1))).setCell ⟨gM, 2, none⟩ (.int .i64 (numR x2))).setCell ⟨gM, 3, none⟩ (.bool (decide (x3 = wSell)))).setCell ⟨gM, 4, none⟩ (.int .i64 (numR x4))).setCell ⟨gM, 5, none⟩ (.int .i64 (numR x5))).setCell ⟨gM, 6, none⟩ (.int .i64 (numR x6))).setCell ⟨gM, 7, none⟩ (.int .i64 (numR x7))) := (((((((BD.out.setCell (p := ⟨gM, 1, none⟩) (Nat.le_refl _) (.int .i64 (numR x1))).setCell (p := ⟨gM, 2, none⟩) (Nat.le_refl _) (.int .i64 (numR x2))).setCell (p := ⟨gM, 3, none⟩) (Nat.le_refl _) (.bool (decide (x3 = wSell)))).setCell (p := ⟨gM, 4, none⟩) (Nat.le_refl _) (.int .i64 (numR x4))).setCell (p := ⟨gM, 5, none⟩) (Nat.le_refl _) (.int .i64 (numR x5))).setCell (p := ⟨gM, 6, none⟩) (Nat.le_refl _) (.int .i64 (numR x6))).setCell (p := ⟨gM, 7, none⟩) (Nat.le_refl _) (.int .i64 (numR x7)))
          have FM : Blk (((((((wq.setCell ⟨gM, 1, none⟩ (.int .i64 (numR x1))).setCell ⟨gM, 2, none⟩ (.int .i64 (numR x2))).setCell ⟨gM, 3, none⟩ (.bool (decide (x3 = wSell)))).setCell ⟨gM, 4, none⟩ (.int .i64 (numR x4))).setCell ⟨gM, 5, none⟩ (.int .i64 (numR x5))).setCell ⟨gM, 6, none⟩ (.int .i64 (numR x6))).setCell ⟨gM, 7, none⟩ (.int .i64 (numR x7))) gM 25 #[.int .i64 m.k, .int .i64 m.a, .int .i64 m.s, .bool m.x, .int .i64 m.p, .int .i64 m.q, .int .i64 m.n, .int .i64 m.t, .int .i64 m.i, .int .i64 m.y, .int .i64 m.z, .int .i64 m.v] := by
            rw [hm.out]
            exact F6
          clear F0 F1 F2 F3 F4 F5 F6
          exact ⟨rfl, κ FM, κ FB⟩
        by_cases n1 : x = wCancel
        · have hm : Hid (m = { m0 with k := 1, i := numR x1 }) := κ (by rw [hG2.out, gw.out]; rw [if_neg n0]; rw [if_pos n1])
          obtain rfl : kd = 1 := by rw [HKD.out]; unfold kindF; rw [if_neg n0]; rw [if_pos n1]
          clear hG2 gw HKD n0 n1
          obtain ⟨s0, s1, s2, s3, s4, s5, s6, s7, s8, s9, s10, s11, y0, y1, y2, y3, y4, y5, y6, y7, y8, y9, y10, y11⟩ := z12_of K7.out
          go_wp2_with fail
          refine (rword_any x1 _ (by have := h1.out; omega)).mono ?_
          rintro e w8 ⟨rfl, rfl⟩
          go_wp2_with fail
          go_meet
          have F0 : Blk (wr.setCell ⟨gM, 8, none⟩ (.int .i64 (numR x1))) gM 25 #[.int .i64 1, .int .i64 0, .int .i64 0, .bool false, .int .i64 0, .int .i64 0, .int .i64 0, .int .i64 0, .int .i64 (numR x1), .int .i64 0, .int .i64 0, .int .i64 0] := blk_st (K7.out) 8 (.int .i64 (numR x1))
          have FB : Below gM w5 (wr.setCell ⟨gM, 8, none⟩ (.int .i64 (numR x1))) := (B.out.setCell (p := ⟨gM, 8, none⟩) (Nat.le_refl _) (.int .i64 (numR x1)))
          have FM : Blk (wr.setCell ⟨gM, 8, none⟩ (.int .i64 (numR x1))) gM 25 #[.int .i64 m.k, .int .i64 m.a, .int .i64 m.s, .bool m.x, .int .i64 m.p, .int .i64 m.q, .int .i64 m.n, .int .i64 m.t, .int .i64 m.i, .int .i64 m.y, .int .i64 m.z, .int .i64 m.v] := by
            rw [hm.out]
            exact F0
          clear F0
          exact ⟨rfl, κ FM, κ FB⟩
        by_cases n2 : x = wFill
        · have hm : Hid (m = { m0 with k := 2, i := numR x1, y := numR x2 }) := κ (by rw [hG2.out, gw.out]; rw [if_neg n0]; rw [if_neg n1]; rw [if_pos n2])
          obtain rfl : kd = 2 := by rw [HKD.out]; unfold kindF; rw [if_neg n0]; rw [if_neg n1]; rw [if_pos n2]
          clear hG2 gw HKD n0 n1 n2
          go_upto_region 16 with fail
          have HT : Hid (wr.drew.cell? ⟨gb, ob + 1, none⟩ = some (sv x1) ∧ wr.drew.cell? ⟨gb, ob + 2, none⟩ = some (sv x2)) := κ ⟨d1, d2⟩
          have KD : Hid (Blk wr.drew gM 25 #[.int .i64 2, .int .i64 0, .int .i64 0, .bool false, .int .i64 0, .int .i64 0, .int .i64 0, .int .i64 0, .int .i64 0, .int .i64 0, .int .i64 0, .int .i64 0]) := K7
          have BD := κ B.out.drew
          clear d1 d2 d3 d4 d5 d6 d7
          refine wp_region_noPanic ?_
          refine wp_region_L (T := (fun w' => w'.cell? ⟨gb, ob + 1, none⟩ = some (sv x1) ∧ w'.cell? ⟨gb, ob + 2, none⟩ = some (sv x2))) (st := []) (by kernel_rfl) ?_
          generalize wr.drew = wq at HT KD BD ⊢
          refine wpL_word (i := 0) (v := ?_) rfl (by kernel_rfl) (fun _ _ _ h => h) (by kernel_rfl) _ _ _ _ (by kernel_rfl) (by kernel_rfl) (Or.inl ⟨by rfl, ?_⟩) (fun _ => HT.out) ?_
          rotate_left
          · intro w' _
            go_simp
            try with_reducible rfl
          (try simp only [Act.put, List.getElem_toArray, List.getElem_cons_succ, List.getElem_cons_zero, List.setIfInBounds_toArray, List.set_cons_zero, List.set_cons_succ])
          refine wpL_word (i := 1) (v := ?_) rfl (by kernel_rfl) (fun _ _ _ h => h) (by kernel_rfl) _ _ _ _ (by kernel_rfl) (by kernel_rfl) (Or.inl ⟨by rfl, ?_⟩) (fun _ => HT.out) ?_
          rotate_left
          · intro w' _
            go_simp
            try with_reducible rfl
          (try simp only [Act.put, List.getElem_toArray, List.getElem_cons_succ, List.getElem_cons_zero, List.setIfInBounds_toArray, List.set_cons_zero, List.set_cons_succ])
          refine wpL_load (i := 2) (v := ?_) rfl (by kernel_rfl) (fun _ _ _ h => h) (by kernel_rfl) (by kernel_rfl) _ _ _ _ (by kernel_rfl) (by kernel_rfl) (Or.inl ⟨by rfl, ?_⟩) (by kernel_rfl) HT.out ?_
          rotate_left
          · intro w' hS
            (try dsimp only at hS)
            obtain ⟨c1, c2⟩ := hS
            go_simp
            try with_reducible rfl
          (try simp only [Act.put, List.getElem_toArray, List.getElem_cons_succ, List.getElem_cons_zero, List.setIfInBounds_toArray, List.set_cons_zero, List.set_cons_succ])
          refine wpL_pure (i := 3) (v := .int .i64 (numR x1)) rfl (by kernel_rfl) (fun _ _ _ h => h) (by kernel_rfl) _ _ _ _ (by kernel_rfl) (by kernel_rfl) ⟨by rfl, 16, #[sv x1], ?_, fun w' => rword_any x1 w' (by have := h1.out; omega)⟩ (fun _ => HT.out) ?_
          · intro w'
            go_simp
          (try simp only [Act.put, List.getElem_toArray, List.getElem_cons_succ, List.getElem_cons_zero, List.setIfInBounds_toArray, List.set_cons_zero, List.set_cons_succ])
          refine wpL_word (i := 4) (v := ?_) rfl (by kernel_rfl) (fun _ _ _ h => h) (by kernel_rfl) _ _ _ _ (by kernel_rfl) (by kernel_rfl) (Or.inl ⟨by rfl, ?_⟩) (fun _ => HT.out) ?_
          rotate_left
          · intro w' _
            go_simp
            try with_reducible rfl
          (try simp only [Act.put, List.getElem_toArray, List.getElem_cons_succ, List.getElem_cons_zero, List.setIfInBounds_toArray, List.set_cons_zero, List.set_cons_succ])
          refine wpL_word (i := 5) (v := ?_) rfl (by kernel_rfl) (fun _ _ _ h => h) (by kernel_rfl) _ _ _ _ (by kernel_rfl) (by kernel_rfl) (Or.inl ⟨by rfl, ?_⟩) (fun _ => HT.out) ?_
          rotate_left
          · intro w' _
            go_simp
            try with_reducible rfl
          (try simp only [Act.put, List.getElem_toArray, List.getElem_cons_succ, List.getElem_cons_zero, List.setIfInBounds_toArray, List.set_cons_zero, List.set_cons_succ])
          refine wpL_load (i := 6) (v := ?_) rfl (by kernel_rfl) (fun _ _ _ h => h) (by kernel_rfl) (by kernel_rfl) _ _ _ _ (by kernel_rfl) (by kernel_rfl) (Or.inl ⟨by rfl, ?_⟩) (by kernel_rfl) HT.out ?_
          rotate_left
          · intro w' hS
            (try dsimp only at hS)
            obtain ⟨c1, c2⟩ := hS
            go_simp
            try with_reducible rfl
          (try simp only [Act.put, List.getElem_toArray, List.getElem_cons_succ, List.getElem_cons_zero, List.setIfInBounds_toArray, List.set_cons_zero, List.set_cons_succ])
          refine wpL_pure (i := 7) (v := .int .i64 (numR x2)) rfl (by kernel_rfl) (fun _ _ _ h => h) (by kernel_rfl) _ _ _ _ (by kernel_rfl) (by kernel_rfl) ⟨by rfl, 16, #[sv x2], ?_, fun w' => rword_any x2 w' (by have := h2.out; omega)⟩ (fun _ => HT.out) ?_
          · intro w'
            go_simp
          (try simp only [Act.put, List.getElem_toArray, List.getElem_cons_succ, List.getElem_cons_zero, List.setIfInBounds_toArray, List.set_cons_zero, List.set_cons_succ])
          refine wpL_word (i := 8) (v := ?_) rfl (by kernel_rfl) (fun _ _ _ h => h) (by kernel_rfl) _ _ _ _ (by kernel_rfl) (by kernel_rfl) (Or.inl ⟨by rfl, ?_⟩) (fun _ => HT.out) ?_
          rotate_left
          · intro w' _
            go_simp
            try with_reducible rfl
          (try simp only [Act.put, List.getElem_toArray, List.getElem_cons_succ, List.getElem_cons_zero, List.setIfInBounds_toArray, List.set_cons_zero, List.set_cons_succ])
          obtain ⟨s0, s1, s2, s3, s4, s5, s6, s7, s8, s9, s10, s11, y0, y1, y2, y3, y4, y5, y6, y7, y8, y9, y10, y11⟩ := z12_of KD.out
          have pc : (wq.setCell ⟨gM, 8, none⟩ (.int .i64 (numR x1))).cell? ⟨gM, 9, none⟩ = some (.int .i64 0) := (blk_st KD.out 8 (.int .i64 (numR x1))).cell 9
          have pf : (wq.setCell ⟨gM, 8, none⟩ (.int .i64 (numR x1))).frozen? ⟨gM, 9, none⟩ = false := (blk_st KD.out 8 (.int .i64 (numR x1))).thaw 9
          have hne := HGB.out
          have HT2 : Hid ((wq.setCell ⟨gM, 8, none⟩ (.int .i64 (numR x1))).cell? ⟨gb, ob + 1, none⟩ = some (sv x1) ∧ (wq.setCell ⟨gM, 8, none⟩ (.int .i64 (numR x1))).cell? ⟨gb, ob + 2, none⟩ = some (sv x2)) := κ ⟨(World.cell?_setCell_other _ _ _ _ (by intro e; injection e with e1 e2; omega)).trans HT.out.1, (World.cell?_setCell_other _ _ _ _ (by intro e; injection e with e1 e2; omega)).trans HT.out.2⟩
          have HT3 : Hid (((wq.setCell ⟨gM, 8, none⟩ (.int .i64 (numR x1))).setCell ⟨gM, 9, none⟩ (.int .i64 (numR x2))).cell? ⟨gb, ob + 1, none⟩ = some (sv x1) ∧ ((wq.setCell ⟨gM, 8, none⟩ (.int .i64 (numR x1))).setCell ⟨gM, 9, none⟩ (.int .i64 (numR x2))).cell? ⟨gb, ob + 2, none⟩ = some (sv x2)) := κ ⟨(World.cell?_setCell_other _ _ _ _ (by intro e; injection e with e1 e2; omega)).trans HT2.out.1, (World.cell?_setCell_other _ _ _ _ (by intro e; injection e with e1 e2; omega)).trans HT2.out.2⟩
          refine wpL_next (n := 9) (by kernel_rfl) rfl (fun K' hK => ?_)
          go_simp
          refine hK.out _ _ HT2.out ?_
          clear hK K'
          (try simp only [Act.put, List.getElem_toArray, List.getElem_cons_succ, List.getElem_cons_zero, List.setIfInBounds_toArray, List.set_cons_zero, List.set_cons_succ])
          refine wpL_word (i := 10) (v := ?_) rfl (by kernel_rfl) (fun _ _ _ h => h) (by kernel_rfl) _ _ _ _ (by kernel_rfl) (by kernel_rfl) (Or.inl ⟨by rfl, ?_⟩) (fun _ => HT2.out) ?_
          rotate_left
          · intro w' _
            go_simp
            try with_reducible rfl
          (try simp only [Act.put, List.getElem_toArray, List.getElem_cons_succ, List.getElem_cons_zero, List.setIfInBounds_toArray, List.set_cons_zero, List.set_cons_succ])
          refine wpL_next (n := 11) (by kernel_rfl) rfl (fun K' hK => ?_)
          go_simp
          refine hK.out _ _ HT3.out ?_
          clear hK K'
          (try simp only [Act.put, List.getElem_toArray, List.getElem_cons_succ, List.getElem_cons_zero, List.setIfInBounds_toArray, List.set_cons_zero, List.set_cons_succ])
          refine wpL_done (by kernel_rfl) ?_ _
          refine NoPanic.normal ?_
          go_wp2_with fail
          go_meet
          have F0 : Blk (wq.setCell ⟨gM, 8, none⟩ (.int .i64 (numR x1))) gM 25 #[.int .i64 2, .int .i64 0, .int .i64 0, .bool false, .int .i64 0, .int .i64 0, .int .i64 0, .int .i64 0, .int .i64 (numR x1), .int .i64 0, .int .i64 0, .int .i64 0] := blk_st (KD.out) 8 (.int .i64 (numR x1))
          have F1 : Blk ((wq.setCell ⟨gM, 8, none⟩ (.int .i64 (numR x1))).setCell ⟨gM, 9, none⟩ (.int .i64 (numR x2))) gM 25 #[.int .i64 2, .int .i64 0, .int .i64 0, .bool false, .int .i64 0, .int .i64 0, .int .i64 0, .int .i64 0, .int .i64 (numR x1), .int .i64 (numR x2), .int .i64 0, .int .i64 0] := blk_st (F0) 9 (.int .i64 (numR x2))
          have FB : Below gM w5 ((wq.setCell ⟨gM, 8, none⟩ (.int .i64 (numR x1))).setCell ⟨gM, 9, none⟩ (.int .i64 (numR x2))) := ((BD.out.setCell (p := ⟨gM, 8, none⟩) (Nat.le_refl _) (.int .i64 (numR x1))).setCell (p := ⟨gM, 9, none⟩) (Nat.le_refl _) (.int .i64 (numR x2)))
          have FM : Blk ((wq.setCell ⟨gM, 8, none⟩ (.int .i64 (numR x1))).setCell ⟨gM, 9, none⟩ (.int .i64 (numR x2))) gM 25 #[.int .i64 m.k, .int .i64 m.a, .int .i64 m.s, .bool m.x, .int .i64 m.p, .int .i64 m.q, .int .i64 m.n, .int .i64 m.t, .int .i64 m.i, .int .i64 m.y, .int .i64 m.z, .int .i64 m.v] := by
            rw [hm.out]
            exact F1
          clear F0 F1
          exact ⟨rfl, κ FM, κ FB⟩
        by_cases n3 : x = wAck
        · have hm : Hid (m = { m0 with k := 3, i := numR x1 }) := κ (by rw [hG2.out, gw.out]; rw [if_neg n0]; rw [if_neg n1]; rw [if_neg n2]; rw [if_pos n3])
          obtain rfl : kd = 3 := by rw [HKD.out]; unfold kindF; rw [if_neg n0]; rw [if_neg n1]; rw [if_neg n2]; rw [if_pos n3]
          clear hG2 gw HKD n0 n1 n2 n3
          obtain ⟨s0, s1, s2, s3, s4, s5, s6, s7, s8, s9, s10, s11, y0, y1, y2, y3, y4, y5, y6, y7, y8, y9, y10, y11⟩ := z12_of K7.out
          go_wp2_with fail
          refine (rword_any x1 _ (by have := h1.out; omega)).mono ?_
          rintro e w8 ⟨rfl, rfl⟩
          go_wp2_with fail
          go_meet
          have F0 : Blk (wr.setCell ⟨gM, 8, none⟩ (.int .i64 (numR x1))) gM 25 #[.int .i64 3, .int .i64 0, .int .i64 0, .bool false, .int .i64 0, .int .i64 0, .int .i64 0, .int .i64 0, .int .i64 (numR x1), .int .i64 0, .int .i64 0, .int .i64 0] := blk_st (K7.out) 8 (.int .i64 (numR x1))
          have FB : Below gM w5 (wr.setCell ⟨gM, 8, none⟩ (.int .i64 (numR x1))) := (B.out.setCell (p := ⟨gM, 8, none⟩) (Nat.le_refl _) (.int .i64 (numR x1)))
          have FM : Blk (wr.setCell ⟨gM, 8, none⟩ (.int .i64 (numR x1))) gM 25 #[.int .i64 m.k, .int .i64 m.a, .int .i64 m.s, .bool m.x, .int .i64 m.p, .int .i64 m.q, .int .i64 m.n, .int .i64 m.t, .int .i64 m.i, .int .i64 m.y, .int .i64 m.z, .int .i64 m.v] := by
            rw [hm.out]
            exact F0
          clear F0
          exact ⟨rfl, κ FM, κ FB⟩
        by_cases n4 : x = wKill
        · have hm : Hid (m = { m0 with k := 4 }) := κ (by rw [hG2.out, gw.out]; rw [if_neg n0]; rw [if_neg n1]; rw [if_neg n2]; rw [if_neg n3]; rw [if_pos n4])
          obtain rfl : kd = 4 := by rw [HKD.out]; unfold kindF; rw [if_neg n0]; rw [if_neg n1]; rw [if_neg n2]; rw [if_neg n3]; rw [if_pos n4]
          clear hG2 gw HKD n0 n1 n2 n3 n4
          go_wp2_with fail
          go_meet
          have FB : Below gM w5 wr := B.out
          have FM : Blk wr gM 25 #[.int .i64 m.k, .int .i64 m.a, .int .i64 m.s, .bool m.x, .int .i64 m.p, .int .i64 m.q, .int .i64 m.n, .int .i64 m.t, .int .i64 m.i, .int .i64 m.y, .int .i64 m.z, .int .i64 m.v] := by
            rw [hm.out]
            exact K7.out
          exact ⟨rfl, κ FM, κ FB⟩
        by_cases n5 : x = wRearm
        · have hm : Hid (m = { m0 with k := 5 }) := κ (by rw [hG2.out, gw.out]; rw [if_neg n0]; rw [if_neg n1]; rw [if_neg n2]; rw [if_neg n3]; rw [if_neg n4]; rw [if_pos n5])
          obtain rfl : kd = 5 := by rw [HKD.out]; unfold kindF; rw [if_neg n0]; rw [if_neg n1]; rw [if_neg n2]; rw [if_neg n3]; rw [if_neg n4]; rw [if_pos n5]
          clear hG2 gw HKD n0 n1 n2 n3 n4 n5
          go_wp2_with fail
          go_meet
          have FB : Below gM w5 wr := B.out
          have FM : Blk wr gM 25 #[.int .i64 m.k, .int .i64 m.a, .int .i64 m.s, .bool m.x, .int .i64 m.p, .int .i64 m.q, .int .i64 m.n, .int .i64 m.t, .int .i64 m.i, .int .i64 m.y, .int .i64 m.z, .int .i64 m.v] := by
            rw [hm.out]
            exact K7.out
          exact ⟨rfl, κ FM, κ FB⟩
        by_cases n6 : x = wLimit
        · have hm : Hid (m = { m0 with k := 6, z := numR x1, v := numR x2 }) := κ (by rw [hG2.out, gw.out]; rw [if_neg n0]; rw [if_neg n1]; rw [if_neg n2]; rw [if_neg n3]; rw [if_neg n4]; rw [if_neg n5]; rw [if_pos n6])
          obtain rfl : kd = 6 := by rw [HKD.out]; unfold kindF; rw [if_neg n0]; rw [if_neg n1]; rw [if_neg n2]; rw [if_neg n3]; rw [if_neg n4]; rw [if_neg n5]; rw [if_pos n6]
          clear hG2 gw HKD n0 n1 n2 n3 n4 n5 n6
          go_upto_region 18 with fail
          have HT : Hid (wr.drew.cell? ⟨gb, ob + 1, none⟩ = some (sv x1) ∧ wr.drew.cell? ⟨gb, ob + 2, none⟩ = some (sv x2)) := κ ⟨d1, d2⟩
          have KD : Hid (Blk wr.drew gM 25 #[.int .i64 6, .int .i64 0, .int .i64 0, .bool false, .int .i64 0, .int .i64 0, .int .i64 0, .int .i64 0, .int .i64 0, .int .i64 0, .int .i64 0, .int .i64 0]) := K7
          have BD := κ B.out.drew
          clear d1 d2 d3 d4 d5 d6 d7
          refine wp_region_noPanic ?_
          refine wp_region_L (T := (fun w' => w'.cell? ⟨gb, ob + 1, none⟩ = some (sv x1) ∧ w'.cell? ⟨gb, ob + 2, none⟩ = some (sv x2))) (st := []) (by kernel_rfl) ?_
          generalize wr.drew = wq at HT KD BD ⊢
          refine wpL_word (i := 0) (v := ?_) rfl (by kernel_rfl) (fun _ _ _ h => h) (by kernel_rfl) _ _ _ _ (by kernel_rfl) (by kernel_rfl) (Or.inl ⟨by rfl, ?_⟩) (fun _ => HT.out) ?_
          rotate_left
          · intro w' _
            go_simp
            try with_reducible rfl
          (try simp only [Act.put, List.getElem_toArray, List.getElem_cons_succ, List.getElem_cons_zero, List.setIfInBounds_toArray, List.set_cons_zero, List.set_cons_succ])
          refine wpL_word (i := 1) (v := ?_) rfl (by kernel_rfl) (fun _ _ _ h => h) (by kernel_rfl) _ _ _ _ (by kernel_rfl) (by kernel_rfl) (Or.inl ⟨by rfl, ?_⟩) (fun _ => HT.out) ?_
          rotate_left
          · intro w' _
            go_simp
            try with_reducible rfl
          (try simp only [Act.put, List.getElem_toArray, List.getElem_cons_succ, List.getElem_cons_zero, List.setIfInBounds_toArray, List.set_cons_zero, List.set_cons_succ])
          refine wpL_load (i := 2) (v := ?_) rfl (by kernel_rfl) (fun _ _ _ h => h) (by kernel_rfl) (by kernel_rfl) _ _ _ _ (by kernel_rfl) (by kernel_rfl) (Or.inl ⟨by rfl, ?_⟩) (by kernel_rfl) HT.out ?_
          rotate_left
          · intro w' hS
            (try dsimp only at hS)
            obtain ⟨c1, c2⟩ := hS
            go_simp
            try with_reducible rfl
          (try simp only [Act.put, List.getElem_toArray, List.getElem_cons_succ, List.getElem_cons_zero, List.setIfInBounds_toArray, List.set_cons_zero, List.set_cons_succ])
          refine wpL_pure (i := 3) (v := .int .i64 (numR x1)) rfl (by kernel_rfl) (fun _ _ _ h => h) (by kernel_rfl) _ _ _ _ (by kernel_rfl) (by kernel_rfl) ⟨by rfl, 16, #[sv x1], ?_, fun w' => rword_any x1 w' (by have := h1.out; omega)⟩ (fun _ => HT.out) ?_
          · intro w'
            go_simp
          (try simp only [Act.put, List.getElem_toArray, List.getElem_cons_succ, List.getElem_cons_zero, List.setIfInBounds_toArray, List.set_cons_zero, List.set_cons_succ])
          refine wpL_word (i := 4) (v := ?_) rfl (by kernel_rfl) (fun _ _ _ h => h) (by kernel_rfl) _ _ _ _ (by kernel_rfl) (by kernel_rfl) (Or.inl ⟨by rfl, ?_⟩) (fun _ => HT.out) ?_
          rotate_left
          · intro w' _
            go_simp
            try with_reducible rfl
          (try simp only [Act.put, List.getElem_toArray, List.getElem_cons_succ, List.getElem_cons_zero, List.setIfInBounds_toArray, List.set_cons_zero, List.set_cons_succ])
          refine wpL_word (i := 5) (v := ?_) rfl (by kernel_rfl) (fun _ _ _ h => h) (by kernel_rfl) _ _ _ _ (by kernel_rfl) (by kernel_rfl) (Or.inl ⟨by rfl, ?_⟩) (fun _ => HT.out) ?_
          rotate_left
          · intro w' _
            go_simp
            try with_reducible rfl
          (try simp only [Act.put, List.getElem_toArray, List.getElem_cons_succ, List.getElem_cons_zero, List.setIfInBounds_toArray, List.set_cons_zero, List.set_cons_succ])
          refine wpL_load (i := 6) (v := ?_) rfl (by kernel_rfl) (fun _ _ _ h => h) (by kernel_rfl) (by kernel_rfl) _ _ _ _ (by kernel_rfl) (by kernel_rfl) (Or.inl ⟨by rfl, ?_⟩) (by kernel_rfl) HT.out ?_
          rotate_left
          · intro w' hS
            (try dsimp only at hS)
            obtain ⟨c1, c2⟩ := hS
            go_simp
            try with_reducible rfl
          (try simp only [Act.put, List.getElem_toArray, List.getElem_cons_succ, List.getElem_cons_zero, List.setIfInBounds_toArray, List.set_cons_zero, List.set_cons_succ])
          refine wpL_pure (i := 7) (v := .int .i64 (numR x2)) rfl (by kernel_rfl) (fun _ _ _ h => h) (by kernel_rfl) _ _ _ _ (by kernel_rfl) (by kernel_rfl) ⟨by rfl, 16, #[sv x2], ?_, fun w' => rword_any x2 w' (by have := h2.out; omega)⟩ (fun _ => HT.out) ?_
          · intro w'
            go_simp
          (try simp only [Act.put, List.getElem_toArray, List.getElem_cons_succ, List.getElem_cons_zero, List.setIfInBounds_toArray, List.set_cons_zero, List.set_cons_succ])
          refine wpL_word (i := 8) (v := ?_) rfl (by kernel_rfl) (fun _ _ _ h => h) (by kernel_rfl) _ _ _ _ (by kernel_rfl) (by kernel_rfl) (Or.inl ⟨by rfl, ?_⟩) (fun _ => HT.out) ?_
          rotate_left
          · intro w' _
            go_simp
            try with_reducible rfl
          (try simp only [Act.put, List.getElem_toArray, List.getElem_cons_succ, List.getElem_cons_zero, List.setIfInBounds_toArray, List.set_cons_zero, List.set_cons_succ])
          obtain ⟨s0, s1, s2, s3, s4, s5, s6, s7, s8, s9, s10, s11, y0, y1, y2, y3, y4, y5, y6, y7, y8, y9, y10, y11⟩ := z12_of KD.out
          have pc : (wq.setCell ⟨gM, 10, none⟩ (.int .i64 (numR x1))).cell? ⟨gM, 11, none⟩ = some (.int .i64 0) := (blk_st KD.out 10 (.int .i64 (numR x1))).cell 11
          have pf : (wq.setCell ⟨gM, 10, none⟩ (.int .i64 (numR x1))).frozen? ⟨gM, 11, none⟩ = false := (blk_st KD.out 10 (.int .i64 (numR x1))).thaw 11
          have hne := HGB.out
          have HT2 : Hid ((wq.setCell ⟨gM, 10, none⟩ (.int .i64 (numR x1))).cell? ⟨gb, ob + 1, none⟩ = some (sv x1) ∧ (wq.setCell ⟨gM, 10, none⟩ (.int .i64 (numR x1))).cell? ⟨gb, ob + 2, none⟩ = some (sv x2)) := κ ⟨(World.cell?_setCell_other _ _ _ _ (by intro e; injection e with e1 e2; omega)).trans HT.out.1, (World.cell?_setCell_other _ _ _ _ (by intro e; injection e with e1 e2; omega)).trans HT.out.2⟩
          have HT3 : Hid (((wq.setCell ⟨gM, 10, none⟩ (.int .i64 (numR x1))).setCell ⟨gM, 11, none⟩ (.int .i64 (numR x2))).cell? ⟨gb, ob + 1, none⟩ = some (sv x1) ∧ ((wq.setCell ⟨gM, 10, none⟩ (.int .i64 (numR x1))).setCell ⟨gM, 11, none⟩ (.int .i64 (numR x2))).cell? ⟨gb, ob + 2, none⟩ = some (sv x2)) := κ ⟨(World.cell?_setCell_other _ _ _ _ (by intro e; injection e with e1 e2; omega)).trans HT2.out.1, (World.cell?_setCell_other _ _ _ _ (by intro e; injection e with e1 e2; omega)).trans HT2.out.2⟩
          refine wpL_next (n := 9) (by kernel_rfl) rfl (fun K' hK => ?_)
          go_simp
          refine hK.out _ _ HT2.out ?_
          clear hK K'
          (try simp only [Act.put, List.getElem_toArray, List.getElem_cons_succ, List.getElem_cons_zero, List.setIfInBounds_toArray, List.set_cons_zero, List.set_cons_succ])
          refine wpL_word (i := 10) (v := ?_) rfl (by kernel_rfl) (fun _ _ _ h => h) (by kernel_rfl) _ _ _ _ (by kernel_rfl) (by kernel_rfl) (Or.inl ⟨by rfl, ?_⟩) (fun _ => HT2.out) ?_
          rotate_left
          · intro w' _
            go_simp
            try with_reducible rfl
          (try simp only [Act.put, List.getElem_toArray, List.getElem_cons_succ, List.getElem_cons_zero, List.setIfInBounds_toArray, List.set_cons_zero, List.set_cons_succ])
          refine wpL_next (n := 11) (by kernel_rfl) rfl (fun K' hK => ?_)
          go_simp
          refine hK.out _ _ HT3.out ?_
          clear hK K'
          (try simp only [Act.put, List.getElem_toArray, List.getElem_cons_succ, List.getElem_cons_zero, List.setIfInBounds_toArray, List.set_cons_zero, List.set_cons_succ])
          refine wpL_done (by kernel_rfl) ?_ _
          refine NoPanic.normal ?_
          go_wp2_with fail
          go_meet
          have F0 : Blk (wq.setCell ⟨gM, 10, none⟩ (.int .i64 (numR x1))) gM 25 #[.int .i64 6, .int .i64 0, .int .i64 0, .bool false, .int .i64 0, .int .i64 0, .int .i64 0, .int .i64 0, .int .i64 0, .int .i64 0, .int .i64 (numR x1), .int .i64 0] := blk_st (KD.out) 10 (.int .i64 (numR x1))
          have F1 : Blk ((wq.setCell ⟨gM, 10, none⟩ (.int .i64 (numR x1))).setCell ⟨gM, 11, none⟩ (.int .i64 (numR x2))) gM 25 #[.int .i64 6, .int .i64 0, .int .i64 0, .bool false, .int .i64 0, .int .i64 0, .int .i64 0, .int .i64 0, .int .i64 0, .int .i64 0, .int .i64 (numR x1), .int .i64 (numR x2)] := blk_st (F0) 11 (.int .i64 (numR x2))
          have FB : Below gM w5 ((wq.setCell ⟨gM, 10, none⟩ (.int .i64 (numR x1))).setCell ⟨gM, 11, none⟩ (.int .i64 (numR x2))) := ((BD.out.setCell (p := ⟨gM, 10, none⟩) (Nat.le_refl _) (.int .i64 (numR x1))).setCell (p := ⟨gM, 11, none⟩) (Nat.le_refl _) (.int .i64 (numR x2)))
          have FM : Blk ((wq.setCell ⟨gM, 10, none⟩ (.int .i64 (numR x1))).setCell ⟨gM, 11, none⟩ (.int .i64 (numR x2))) gM 25 #[.int .i64 m.k, .int .i64 m.a, .int .i64 m.s, .bool m.x, .int .i64 m.p, .int .i64 m.q, .int .i64 m.n, .int .i64 m.t, .int .i64 m.i, .int .i64 m.y, .int .i64 m.z, .int .i64 m.v] := by
            rw [hm.out]
            exact F1
          clear F0 F1
          exact ⟨rfl, κ FM, κ FB⟩
        have hm : Hid (m = { m0 with k := -1 }) := κ (by rw [hG2.out, gw.out]; rw [if_neg n0]; rw [if_neg n1]; rw [if_neg n2]; rw [if_neg n3]; rw [if_neg n4]; rw [if_neg n5]; rw [if_neg n6])
        obtain rfl : kd = (-1) := by rw [HKD.out]; unfold kindF; rw [if_neg n0]; rw [if_neg n1]; rw [if_neg n2]; rw [if_neg n3]; rw [if_neg n4]; rw [if_neg n5]; rw [if_neg n6]
        clear hG2 gw HKD n0 n1 n2 n3 n4 n5 n6
        go_wp2_with fail
        go_meet
        have FB : Below gM w5 wr := B.out
        have FM : Blk wr gM 25 #[.int .i64 m.k, .int .i64 m.a, .int .i64 m.s, .bool m.x, .int .i64 m.p, .int .i64 m.q, .int .i64 m.n, .int .i64 m.t, .int .i64 m.i, .int .i64 m.y, .int .i64 m.z, .int .i64 m.v] := by
          rw [hm.out]
          exact K7.out
        exact ⟨rfl, κ FM, κ FB⟩
      case rest =>
        obtain ⟨rfl, KX, BX⟩ := hcut
        rename World => w9
        have b9 := κ (b5.out.trans (BX.out.mono hgM.out))
        have z9 := κ (Blk.below z5.out BX.out gRM.out)
        have RL := κ (fun W => rline_any m W hwf)
        have hmv : Hid (mvl m = .agg #[.int .i64 m.k, .int .i64 m.a, .int .i64 m.s, .bool m.x, .int .i64 m.p, .int .i64 m.q, .int .i64 m.n, .int .i64 m.t, .int .i64 m.i, .int .i64 m.y, .int .i64 m.z, .int .i64 m.v]) := κ rfl
        clear b0 z0 b5 z5 n5 BX B K7 HC Hx HKD hG hwl hel i0 hi hz0 hz1 hz2
        by_cases hl0 : l = []
        · have hP : Hid (parseR l = (m0, false)) := κ (by rw [hR.out, if_pos (Or.inl hl0)])
          have q : (l == []) = true := beq_iff_eq.2 hl0
          subst hl0
          clear hR
          obtain ⟨s0, s1, s2, s3, s4, s5, s6, s7, s8, s9, s10, s11, y0, y1, y2, y3, y4, y5, y6, y7, y8, y9, y10, y11⟩ := z12_of z9.out
          go_wp2_with fail
          have f3 : Blk (st12 w9 gR (.int .i64 0) (.int .i64 0) (.int .i64 0) (.bool false) (.int .i64 0) (.int .i64 0) (.int .i64 0) (.int .i64 0) (.int .i64 0) (.int .i64 0) (.int .i64 0) (.int .i64 0)) gR 25 #[.int .i64 0, .int .i64 0, .int .i64 0, .bool false, .int .i64 0, .int .i64 0, .int .i64 0, .int .i64 0, .int .i64 0, .int .i64 0, .int .i64 0, .int .i64 0] := st12_blk z9.out
          have hB : Below w.heap.size w (st12 w9 gR (.int .i64 0) (.int .i64 0) (.int .i64 0) (.bool false) (.int .i64 0) (.int .i64 0) (.int .i64 0) (.int .i64 0) (.int .i64 0) (.int .i64 0) (.int .i64 0) (.int .i64 0)) := st12_below b9.out hg.out
          obtain ⟨e0, e1, e2, e3, e4, e5, e6, e7, e8, e9, e10, e11⟩ := c12_of f3
          unfold st12 at e0 e1 e2 e3 e4 e5 e6 e7 e8 e9 e10 e11 hB
          exact bodyPost_ret (v := .tuple #[.agg #[.int .i64 0, .int .i64 0, .int .i64 0, .bool false, .int .i64 0, .int .i64 0, .int .i64 0, .int .i64 0, .int .i64 0, .int .i64 0, .int .i64 0, .int .i64 0], .bool false]) (by simp [results, Tryz.results6, go_sem, e0, e1, e2, e3, e4, e5, e6, e7, e8, e9, e10, e11]) rfl ⟨by rw [hP.out]; first | rfl | (rw [hmv.out]), hB⟩
        have q : (l == []) = false := beq_eq_false_iff_ne.2 hl0
        rw [hmv.out] at RL
        obtain ⟨lm, hlm⟩ : ∃ lm, lm = lineL m := ⟨_, rfl⟩
        rw [← hlm] at RL hR
        have HLM := κ hlm
        clear hlm
        obtain ⟨j0, j1, j2, j3, j4, j5, j6, j7, j8, j9, j10, j11⟩ := c12_of KX.out
        by_cases hq : lm = l
        · have hP : Hid (parseR l = (m, true)) := κ (by rw [hR.out, if_neg (by rintro (e | e); exact hl0 e; exact e hq)])
          have q2 : (lm == l) = true := beq_iff_eq.2 hq
          clear hR hq hl0
          go_wp2_with fail
          refine (RL.out _).mono ?_
          rintro e w10 ⟨rfl, hb10⟩
          have b10 := κ (CrdB.below_step b9.out hb10)
          have z10 := κ (z9.out.below' hb10)
          have k10 := κ (KX.out.below' hb10)
          clear hb10 b9 z9 KX RL j0 j1 j2 j3 j4 j5 j6 j7 j8 j9 j10 j11
          obtain ⟨j0, j1, j2, j3, j4, j5, j6, j7, j8, j9, j10, j11⟩ := c12_of k10.out
          obtain ⟨s0, s1, s2, s3, s4, s5, s6, s7, s8, s9, s10, s11, y0, y1, y2, y3, y4, y5, y6, y7, y8, y9, y10, y11⟩ := z12_of z10.out
          go_wp2_with fail
          have f3 : Blk (st12 w10 gR (.int .i64 m.k) (.int .i64 m.a) (.int .i64 m.s) (.bool m.x) (.int .i64 m.p) (.int .i64 m.q) (.int .i64 m.n) (.int .i64 m.t) (.int .i64 m.i) (.int .i64 m.y) (.int .i64 m.z) (.int .i64 m.v)) gR 25 #[.int .i64 m.k, .int .i64 m.a, .int .i64 m.s, .bool m.x, .int .i64 m.p, .int .i64 m.q, .int .i64 m.n, .int .i64 m.t, .int .i64 m.i, .int .i64 m.y, .int .i64 m.z, .int .i64 m.v] := st12_blk z10.out
          have hB : Below w.heap.size w (st12 w10 gR (.int .i64 m.k) (.int .i64 m.a) (.int .i64 m.s) (.bool m.x) (.int .i64 m.p) (.int .i64 m.q) (.int .i64 m.n) (.int .i64 m.t) (.int .i64 m.i) (.int .i64 m.y) (.int .i64 m.z) (.int .i64 m.v)) := st12_below b10.out hg.out
          obtain ⟨e0, e1, e2, e3, e4, e5, e6, e7, e8, e9, e10, e11⟩ := c12_of f3
          unfold st12 at e0 e1 e2 e3 e4 e5 e6 e7 e8 e9 e10 e11 hB
          exact bodyPost_ret (v := .tuple #[.agg #[.int .i64 m.k, .int .i64 m.a, .int .i64 m.s, .bool m.x, .int .i64 m.p, .int .i64 m.q, .int .i64 m.n, .int .i64 m.t, .int .i64 m.i, .int .i64 m.y, .int .i64 m.z, .int .i64 m.v], .bool true]) (by simp [results, Tryz.results6, go_sem, e0, e1, e2, e3, e4, e5, e6, e7, e8, e9, e10, e11]) rfl ⟨by rw [hP.out]; first | rfl | (rw [hmv.out]), hB⟩
        · have hP : Hid (parseR l = (m0, false)) := κ (by rw [hR.out, if_pos (Or.inr hq)])
          have q2 : (lm == l) = false := beq_eq_false_iff_ne.2 hq
          clear hR hq hl0
          go_wp2_with fail
          refine (RL.out _).mono ?_
          rintro e w10 ⟨rfl, hb10⟩
          have b10 := κ (CrdB.below_step b9.out hb10)
          have z10 := κ (z9.out.below' hb10)
          have k10 := κ (KX.out.below' hb10)
          clear hb10 b9 z9 KX RL j0 j1 j2 j3 j4 j5 j6 j7 j8 j9 j10 j11
          obtain ⟨j0, j1, j2, j3, j4, j5, j6, j7, j8, j9, j10, j11⟩ := c12_of k10.out
          obtain ⟨s0, s1, s2, s3, s4, s5, s6, s7, s8, s9, s10, s11, y0, y1, y2, y3, y4, y5, y6, y7, y8, y9, y10, y11⟩ := z12_of z10.out
          go_wp2_with fail
          have f3 : Blk (st12 w10 gR (.int .i64 0) (.int .i64 0) (.int .i64 0) (.bool false) (.int .i64 0) (.int .i64 0) (.int .i64 0) (.int .i64 0) (.int .i64 0) (.int .i64 0) (.int .i64 0) (.int .i64 0)) gR 25 #[.int .i64 0, .int .i64 0, .int .i64 0, .bool false, .int .i64 0, .int .i64 0, .int .i64 0, .int .i64 0, .int .i64 0, .int .i64 0, .int .i64 0, .int .i64 0] := st12_blk z10.out
          have hB : Below w.heap.size w (st12 w10 gR (.int .i64 0) (.int .i64 0) (.int .i64 0) (.bool false) (.int .i64 0) (.int .i64 0) (.int .i64 0) (.int .i64 0) (.int .i64 0) (.int .i64 0) (.int .i64 0) (.int .i64 0)) := st12_below b10.out hg.out
          obtain ⟨e0, e1, e2, e3, e4, e5, e6, e7, e8, e9, e10, e11⟩ := c12_of f3
          unfold st12 at e0 e1 e2 e3 e4 e5 e6 e7 e8 e9 e10 e11 hB
          exact bodyPost_ret (v := .tuple #[.agg #[.int .i64 0, .int .i64 0, .int .i64 0, .bool false, .int .i64 0, .int .i64 0, .int .i64 0, .int .i64 0, .int .i64 0, .int .i64 0, .int .i64 0, .int .i64 0], .bool false]) (by simp [results, Tryz.results6, go_sem, e0, e1, e2, e3, e4, e5, e6, e7, e8, e9, e10, e11]) rfl ⟨by rw [hP.out]; first | rfl | (rw [hmv.out]), hB⟩
end Rsp
end Go.Proofs.YteclenloimbaeaaGreatDoor
