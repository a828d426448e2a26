/- Texts side by side. -/
import Derived.Deep.CutBlock
import Derived.Test.YteclenloimbaeaaGreatDoorSliac
set_option linter.unusedVariables false
set_option linter.unusedSimpArgs false
set_option maxRecDepth 100000
set_option maxHeartbeats 16000000
namespace Go.Proofs.YteclenloimbaeaaGreatDoor
open Go.ChangeShapes Go.WideShapes Go.ChangeAt Go.RowKit Mem Wpl Wmr Wrt Wfi
namespace Rsp
open Kap Go.Lib Spa Spm Shw Rsa Rsn Rsw Rsl Stk Lat Lap
def nmL : List (List UInt8) := [wOrder, wCancel, wFill, wAck, wKill, wRearm, wLimit]
def kindF (x : List UInt8) : Int := if x = wOrder then 0 else if x = wCancel then 1 else if x = wFill then 2 else if x = wAck then 3 else if x = wKill then 4 else if x = wRearm then 5 else if x = wLimit then 6 else -1
def kk (x : List UInt8) (k : Nat) : Int := if kindF x < k then kindF x else -1
theorem kk_0 (x : List UInt8) : kk x 0 = -1 := by
  unfold kk kindF
  repeat' split
  all_goals first | rfl | omega
theorem kk_7 (x : List UInt8) : kk x 7 = kindF x := by
  unfold kk kindF
  repeat' split
  all_goals first | rfl | omega
theorem kk_yes {x : List UInt8} {k : Nat} (hk : k < 7) (h : at0 nmL k = x) : kk x (k + 1) = k := by
  subst h
  match k, hk with
  | 0, _ => rfl
  | 1, _ => rfl
  | 2, _ => rfl
  | 3, _ => rfl
  | 4, _ => rfl
  | 5, _ => rfl
  | 6, _ => rfl
theorem kk_no {x : List UInt8} {k : Nat} (hk : k < 7) (h : ¬ at0 nmL k = x) : kk x (k + 1) = kk x k := by
  have hne : ¬ kindF x = k := by
    intro e
    apply h
    unfold kindF at e
    match k, hk with
    | 0, _ => (repeat' split at e) <;> first | (symm; assumption) | omega
    | 1, _ => (repeat' split at e) <;> first | (symm; assumption) | omega
    | 2, _ => (repeat' split at e) <;> first | (symm; assumption) | omega
    | 3, _ => (repeat' split at e) <;> first | (symm; assumption) | omega
    | 4, _ => (repeat' split at e) <;> first | (symm; assumption) | omega
    | 5, _ => (repeat' split at e) <;> first | (symm; assumption) | omega
    | 6, _ => (repeat' split at e) <;> first | (symm; assumption) | omega
  unfold kk
  repeat' split
  all_goals first | rfl | omega
def pad (ws : List (List UInt8)) : List (List UInt8) := ws ++ List.replicate 7 []
theorem pad_at (ws : List (List UInt8)) (k : Nat) : at0 (pad ws) k = at0 ws k := by
  unfold at0 pad
  rw [List.getD_eq_getElem?_getD, List.getD_eq_getElem?_getD, List.getElem?_append]
  split
  · rfl
  · rename_i h
    rw [List.getElem?_eq_none (l := ws) (by omega), List.getElem?_replicate]
    split <;> rfl
theorem pad_len (ws : List (List UInt8)) : (pad ws).length = ws.length + 7 := by simp [pad]
theorem pad_stx (ws : List (List UInt8)) : stx (pad ws) = stx ws ++ [.string ⟨#[]⟩, .string ⟨#[]⟩, .string ⟨#[]⟩, .string ⟨#[]⟩, .string ⟨#[]⟩, .string ⟨#[]⟩, .string ⟨#[]⟩] := by simp [pad, stx]
theorem each_le (l : List UInt8) (k : Nat) : (at0 (wordsR [] l) k).length ≤ l.length := by
  unfold at0
  rw [List.getD_eq_getElem?_getD]
  cases h : (wordsR [] l)[k]? with
  | none => simp
  | some x => have := words_each l [] x (List.mem_of_getElem? h); simpa using this
theorem beq_dec (a b : List UInt8) : (a == b) = decide (a = b) := by
  by_cases h : a = b
  · rw [decide_eq_true h]; exact beq_iff_eq.2 h
  · rw [decide_eq_false h]; exact beq_eq_false_iff_ne.2 h
def MadeMB (r : M × Bool) (w : World) (e : Ending) (w' : World) : Prop := e = .returned (.tuple #[mvl r.1, .bool r.2]) ∧ Below w.heap.size w w'
theorem rparse_any (l : List UInt8) (w : World) (hl : (l.length : Int) ≤ 400) : Calls Tryz.prog 6 #[sv l] w (MadeMB (parseR l) w) := by
  obtain ⟨i0, hi, hz0, hz1, hz2⟩ := info_parts str_info
  have hwl := words_len l []
  have hel := each_le l
  have hG : Hid (guessR l = guessW numR (wordsR [] l) { m0 with k := -1 }) := κ rfl
  have WW := κ (fun W => rwords_any l W hl)
  obtain ⟨ws, hws⟩ : ∃ ws, ws = wordsR [] l := ⟨_, rfl⟩
  rw [← hws] at hwl hel hG WW
  have hR : Hid (parseR l = if l = [] ∨ ¬ lineL (guessR l) = l then (m0, false) else (guessR l, true)) := κ rfl
  have hwf := guessR_wf l
  generalize guessR l = m at hG hR hwf
  have b0 := κ (β w (.cells #[.int .i64 0, .int .i64 0, .int .i64 0, .bool false, .int .i64 0, .int .i64 0, .int .i64 0, .int .i64 0, .int .i64 0, .int .i64 0, .int .i64 0, .int .i64 0] 25))
  have z0 := κ (δ w 25 #[.int .i64 0, .int .i64 0, .int .i64 0, .bool false, .int .i64 0, .int .i64 0, .int .i64 0, .int .i64 0, .int .i64 0, .int .i64 0, .int .i64 0, .int .i64 0] w.heap.size rfl)
  clear hws
  go_enter Tryz.func6, Tryz.ntmps6
  go_upto_region 1 with fail
  generalize w.alloc (.cells #[.int .i64 0, .int .i64 0, .int .i64 0, .bool false, .int .i64 0, .int .i64 0, .int .i64 0, .int .i64 0, .int .i64 0, .int .i64 0, .int .i64 0, .int .i64 0] 25) = w0 at b0 z0 ⊢
  generalize hgR : w.heap.size = gR at z0 ⊢
  have hg : Hid (w.heap.size ≤ gR) := κ (by omega)
  clear hgR
  have b1 := κ (b0.out.alloc b0.out.size (.cells #[.string ⟨#[111, 114, 100, 101, 114]⟩, .string ⟨#[99, 97, 110, 99, 101, 108]⟩, .string ⟨#[102, 105, 108, 108]⟩, .string ⟨#[97, 99, 107]⟩, .string ⟨#[107, 105, 108, 108]⟩, .string ⟨#[114, 101, 97, 114, 109]⟩, .string ⟨#[108, 105, 109, 105, 116]⟩] 9))
  have z1 := κ (z0.out.alloc (.cells #[.string ⟨#[111, 114, 100, 101, 114]⟩, .string ⟨#[99, 97, 110, 99, 101, 108]⟩, .string ⟨#[102, 105, 108, 108]⟩, .string ⟨#[97, 99, 107]⟩, .string ⟨#[107, 105, 108, 108]⟩, .string ⟨#[114, 101, 97, 114, 109]⟩, .string ⟨#[108, 105, 109, 105, 116]⟩] 9))
  have n1 := κ (δ w0 9 #[.string ⟨#[111, 114, 100, 101, 114]⟩, .string ⟨#[99, 97, 110, 99, 101, 108]⟩, .string ⟨#[102, 105, 108, 108]⟩, .string ⟨#[97, 99, 107]⟩, .string ⟨#[107, 105, 108, 108]⟩, .string ⟨#[114, 101, 97, 114, 109]⟩, .string ⟨#[108, 105, 109, 105, 116]⟩] w0.heap.size rfl)
  go_upto_region 2 with fail
  generalize w0.alloc (.cells #[.string ⟨#[111, 114, 100, 101, 114]⟩, .string ⟨#[99, 97, 110, 99, 101, 108]⟩, .string ⟨#[102, 105, 108, 108]⟩, .string ⟨#[97, 99, 107]⟩, .string ⟨#[107, 105, 108, 108]⟩, .string ⟨#[114, 101, 97, 114, 109]⟩, .string ⟨#[108, 105, 109, 105, 116]⟩] 9) = w1 at b1 z1 n1 ⊢
  generalize w0.heap.size = gN at n1 ⊢
  go_wp2_with fail
  refine (WW.out w1).mono ?_
  rintro e w2 ⟨A, c, rfl, ho, hb2⟩
  have o2 := κ (ho.alloc (.cells #[.string ⟨#[]⟩, .string ⟨#[]⟩, .string ⟨#[]⟩, .string ⟨#[]⟩, .string ⟨#[]⟩, .string ⟨#[]⟩, .string ⟨#[]⟩] 9))
  have u3 := κ (hb2.alloc hb2.size (.cells #[.string ⟨#[]⟩, .string ⟨#[]⟩, .string ⟨#[]⟩, .string ⟨#[]⟩, .string ⟨#[]⟩, .string ⟨#[]⟩, .string ⟨#[]⟩] 9))
  have e3 : Hid (Rd (w2.alloc (.cells #[.string ⟨#[]⟩, .string ⟨#[]⟩, .string ⟨#[]⟩, .string ⟨#[]⟩, .string ⟨#[]⟩, .string ⟨#[]⟩, .string ⟨#[]⟩] 9)) (w2.alloc (.cells #[.string ⟨#[]⟩, .string ⟨#[]⟩, .string ⟨#[]⟩, .string ⟨#[]⟩, .string ⟨#[]⟩, .string ⟨#[]⟩, .string ⟨#[]⟩] 9)).heap.size (some ⟨w2.heap.size, 0, none⟩) [.string ⟨#[]⟩, .string ⟨#[]⟩, .string ⟨#[]⟩, .string ⟨#[]⟩, .string ⟨#[]⟩, .string ⟨#[]⟩, .string ⟨#[]⟩]) := κ (rd_new rfl)
  clear ho hb2 WW
  obtain ⟨nw, hnw⟩ : ∃ nw, nw = ws.length := ⟨_, rfl⟩
  rw [← hnw] at o2 hwl ⊢
  have HNW := κ hnw
  clear hnw
  go_wp2_with (first | (at_builtin; refine wpList_appR (nm := nw + 7) o2 u3.out e3 rfl rfl _ _ _ rfl i0 (.string ByteArray.empty) 16 Tryz.underlying52 hi hz0 hz1 hz2 rfl (by decide) rfl rfl rfl (by simp [Value.oneCell']) (by unfold maxLen; omega) (by omega) (Nat.le_refl _) u3.out.size u3.out.size ?_; intro A4 c4 w4 ho4 hb4 hs4))
  have b4 := κ (CrdB.below_step b1.out hb4)
  have z4 := κ (z1.out.below' hb4)
  have n4 := κ (n1.out.below' hb4)
  have t4 : Hid (Txs w4 w4.heap.size A4 (pad ws)) := κ (by have h := Rd.of_own ho4.out; rw [← pad_stx] at h; exact h)
  clear hb4 ho4 o2 u3 e3 b1 z1 n1 hs4
  have b5 := κ (b4.out.alloc b4.out.size (.cells #[.int .i64 (-1), .int .i64 0, .int .i64 0, .bool false, .int .i64 0, .int .i64 0, .int .i64 0, .int .i64 0, .int .i64 0, .int .i64 0, .int .i64 0, .int .i64 0] 25))
  have z5 := κ (z4.out.alloc (.cells #[.int .i64 (-1), .int .i64 0, .int .i64 0, .bool false, .int .i64 0, .int .i64 0, .int .i64 0, .int .i64 0, .int .i64 0, .int .i64 0, .int .i64 0, .int .i64 0] 25))
  have n5 := κ (n4.out.alloc (.cells #[.int .i64 (-1), .int .i64 0, .int .i64 0, .bool false, .int .i64 0, .int .i64 0, .int .i64 0, .int .i64 0, .int .i64 0, .int .i64 0, .int .i64 0, .int .i64 0] 25))
  have k5 := κ (δ w4 25 #[.int .i64 (-1), .int .i64 0, .int .i64 0, .bool false, .int .i64 0, .int .i64 0, .int .i64 0, .int .i64 0, .int .i64 0, .int .i64 0, .int .i64 0, .int .i64 0] w4.heap.size rfl)
  have t5 : Hid (Txs (w4.alloc (.cells #[.int .i64 (-1), .int .i64 0, .int .i64 0, .bool false, .int .i64 0, .int .i64 0, .int .i64 0, .int .i64 0, .int .i64 0, .int .i64 0, .int .i64 0, .int .i64 0] 25)) w4.heap.size A4 (pad ws)) := κ (t4.out.below ((Below.refl _ _).alloc (Nat.le_refl _) _))
  have gRM : Hid (gR < w4.heap.size) := κ z4.out.lt
  have gNM : Hid (gN < w4.heap.size) := κ n4.out.lt
  have hgM : Hid (w.heap.size ≤ w4.heap.size) := κ b4.out.size
  clear b4 z4 n4 t4
  generalize w4.alloc (.cells #[.int .i64 (-1), .int .i64 0, .int .i64 0, .bool false, .int .i64 0, .int .i64 0, .int .i64 0, .int .i64 0, .int .i64 0, .int .i64 0, .int .i64 0, .int .i64 0] 25) = w5 at b5 z5 n5 k5 t5 ⊢
  generalize w4.heap.size = gM at k5 t5 gRM gNM hgM ⊢
  obtain ⟨x, hx⟩ : ∃ x, x = at0 ws 0 := ⟨_, rfl⟩
  obtain ⟨gb, ob, rfl, hgb, hcc⟩ := Txs.at t5.out (i := 0) (by rw [pad_len]; omega)
  have HGB := κ hgb
  have HC : Hid (∀ j, j < nw + 7 → w5.cell? ⟨gb, ob + j, none⟩ = some (sv (at0 ws j))) := κ (by intro j hj; have h := hcc j (by rw [pad_len, ← HNW.out]; exact hj); rw [pad_at] at h; exact h)
  clear hgb hcc t5
  have Hx := κ hx
  clear hx
  have k5 : Hid (Blk w5 gM 25 #[.int .i64 (kk x 0), .int .i64 0, .int .i64 0, .bool false, .int .i64 0, .int .i64 0, .int .i64 0, .int .i64 0, .int .i64 0, .int .i64 0, .int .i64 0, .int .i64 0]) := κ (by rw [kk_0]; exact k5.out)
  go_loopg [7] 7 (fun g s7 w' => ∃ k : Nat, k + g = 7 ∧ s7 = .int .i64 k ∧ Hid (Blk w' gM 25 #[.int .i64 (kk x k), .int .i64 0, .int .i64 0, .bool false, .int .i64 0, .int .i64 0, .int .i64 0, .int .i64 0, .int .i64 0, .int .i64 0, .int .i64 0, .int .i64 0]) ∧ Hid (Below gM w5 w'))
  case atStart => exact ⟨0, rfl, rfl, k5, κ (Below.refl _ _)⟩
  case round =>
    clear k5
    obtain ⟨k, hkg, rfl, K, B⟩ := hrel
    have hk0 : (0 : Int) ≤ (k : Int) := Int.natCast_nonneg _
    by_cases hlt : k < 7
    · have hki : (k : Int) < 7 := by omega
      obtain ⟨yn, hyn⟩ : ∃ y, y = at0 nmL k := ⟨_, rfl⟩
      have c1 : wr.cell? ⟨gN, k, none⟩ = some (sv yn) := (B.out.cell gNM.out).trans (by
        rw [n5.out.cell k, hyn]
        match k, hlt with
        | 0, _ => rfl
        | 1, _ => rfl
        | 2, _ => rfl
        | 3, _ => rfl
        | 4, _ => rfl
        | 5, _ => rfl
        | 6, _ => rfl)
      have c2 : wr.cell? ⟨gb, ob, none⟩ = some (sv x) := (B.out.cell (p := ⟨gb, ob, none⟩) HGB.out).trans (by rw [Hx.out]; exact HC.out 0 (by omega))
      have i1 : (0 : Int) < (nw : Int) + 7 := by omega
      by_cases hq : yn = x
      · have q : (yn == x) = true := beq_iff_eq.2 hq
        have H2 : Hid (kk x (k + 1) = k) := κ (kk_yes hlt (hyn.symm.trans hq))
        clear hyn hq
        go_wp2_with fail
        go_quiet (fail)
        have KD : Hid (Blk (wr.drewN nq) gM 25 #[.int .i64 (kk x k), .int .i64 0, .int .i64 0, .bool false, .int .i64 0, .int .i64 0, .int .i64 0, .int .i64 0, .int .i64 0, .int .i64 0, .int .i64 0, .int .i64 0]) := K
        have BD : Hid (Below gM w5 (wr.drewN nq)) := κ (Below.drewN' B.out nq)
        clear K B
        go_upto_region 8 with fail
        generalize wr.drewN nq = wq at KD BD ⊢
        obtain ⟨s0, s1, s2, s3, s4, s5, s6, s7, s8, s9, s10, s11, y0, y1, y2, y3, y4, y5, y6, y7, y8, y9, y10, y11⟩ := z12_of KD.out
        go_wp2_with fail
        have K2 : Hid (Blk (wq.setCell ⟨gM, 0, none⟩ (.int .i64 k)) gM 25 #[.int .i64 (kk x (k + 1)), .int .i64 0, .int .i64 0, .bool false, .int .i64 0, .int .i64 0, .int .i64 0, .int .i64 0, .int .i64 0, .int .i64 0, .int .i64 0, .int .i64 0]) := κ (by rw [H2.out]; exact blk_st KD.out 0 (.int .i64 k))
        have B2 : Hid (Below gM w5 (wq.setCell ⟨gM, 0, none⟩ (.int .i64 k))) := κ (BD.out.setCell (Nat.le_refl _) _)
        go_roundg (gk - 1)
        case measure => omega
        case rel => exact ⟨k + 1, by omega, by go_num, K2, B2⟩
      · have q : (yn == x) = false := beq_eq_false_iff_ne.2 hq
        have H2 : Hid (kk x (k + 1) = kk x k) := κ (kk_no hlt (fun e => hq (hyn.trans e)))
        clear hyn hq
        go_wp2_with fail
        go_quiet (fail)
        have KD : Hid (Blk (wr.drewN nq) gM 25 #[.int .i64 (kk x (k + 1)), .int .i64 0, .int .i64 0, .bool false, .int .i64 0, .int .i64 0, .int .i64 0, .int .i64 0, .int .i64 0, .int .i64 0, .int .i64 0, .int .i64 0]) := κ (by rw [H2.out]; exact K.out)
        have BD : Hid (Below gM w5 (wr.drewN nq)) := κ (Below.drewN' B.out nq)
        clear K B
        go_wp2_with fail
        go_roundg (gk - 1)
        case measure => omega
        case rel => exact ⟨k + 1, by omega, by go_num, KD, BD⟩
    · have hki : ¬ (k : Int) < 7 := by omega
      have hk7 : k = 7 := by omega
      have K7 : Hid (Blk wr gM 25 #[.int .i64 (kindF x), .int .i64 0, .int .i64 0, .bool false, .int .i64 0, .int .i64 0, .int .i64 0, .int .i64 0, .int .i64 0, .int .i64 0, .int .i64 0, .int .i64 0]) := κ (by have h := K.out; rw [hk7, kk_7] at h; exact h)
      clear K hk7
      obtain ⟨kd, hkd⟩ : ∃ kd, kd = kindF x := ⟨_, rfl⟩
      rw [← hkd] at K7
      have HKD := κ hkd
      clear hkd
      obtain ⟨j0, j1, j2, j3, j4, j5, j6, j7, j8, j9, j10, j11⟩ := c12_of K7.out
      go_upto_block 2 with fail
      clear j0 j1 j2 j3 j4 j5 j6 j7 j8 j9 j10 j11
      go_cut [3] (fun s3 wx => s3 = .bool false ∧ Hid (Blk wx gM 25 #[.int .i64 m.k, .int .i64 m.a, .int .i64 m.s, .bool m.x, .int .i64 m.p, .int .i64 m.q, .int .i64 m.n, .int .i64 m.t, .int .i64 m.i, .int .i64 m.y, .int .i64 m.z, .int .i64 m.v]) ∧ Hid (Below gM w5 wx))
      case first =>
        have D : Hid (∀ j, j < nw + 7 → wr.cell? ⟨gb, ob + j, none⟩ = some (sv (at0 ws j))) := κ (fun j hj => (B.out.cell (p := ⟨gb, ob + j, none⟩) HGB.out).trans (HC.out j hj))
        have d1 := D.out 1 (by omega); have d2 := D.out 2 (by omega); have d3 := D.out 3 (by omega); have d4 := D.out 4 (by omega); have d5 := D.out 5 (by omega); have d6 := D.out 6 (by omega); have d7 := D.out 7 (by omega)
        have h1 := κ (hel 1); have h2 := κ (hel 2); have h3 := κ (hel 3); have h4 := κ (hel 4); have h5 := κ (hel 5); have h6 := κ (hel 6); have h7 := κ (hel 7)
        have i1 : (1 : Int) < (nw : Int) + 7 := (by omega); have i2 : (2 : Int) < (nw : Int) + 7 := (by omega); have i3 : (3 : Int) < (nw : Int) + 7 := (by omega); have i4 : (4 : Int) < (nw : Int) + 7 := (by omega); have i5 : (5 : Int) < (nw : Int) + 7 := (by omega); have i6 : (6 : Int) < (nw : Int) + 7 := (by omega); have i7 : (7 : Int) < (nw : Int) + 7 := (by omega)
        have hsell := beq_dec (at0 ws 3) [115, 101, 108, 108]
        have hG2 : Hid (m = guessW numR ws { m0 with k := -1 }) := hG
        have hx0 := κ Hx.out
        have gw : Hid (guessW numR ws { m0 with k := -1 } = if x = wOrder then { m0 with k := 0, a := numR (at0 ws 1), s := numR (at0 ws 2), x := decide (at0 ws 3 = wSell), p := numR (at0 ws 4), q := numR (at0 ws 5), n := numR (at0 ws 6), t := numR (at0 ws 7) }
          else if x = wCancel then { m0 with k := 1, i := numR (at0 ws 1) } else if x = wFill then { m0 with k := 2, i := numR (at0 ws 1), y := numR (at0 ws 2) } else if x = wAck then { m0 with k := 3, i := numR (at0 ws 1) }
          else if x = wKill then { m0 with k := 4 } else if x = wRearm then { m0 with k := 5 } else if x = wLimit then { m0 with k := 6, z := numR (at0 ws 1), v := numR (at0 ws 2) } else { m0 with k := -1 }) := κ (by unfold guessW; rw [← Hx.out])
        generalize at0 ws 1 = x1 at *; generalize at0 ws 2 = x2 at *; generalize at0 ws 3 = x3 at *; generalize at0 ws 4 = x4 at *; generalize at0 ws 5 = x5 at *; generalize at0 ws 6 = x6 at *; generalize at0 ws 7 = x7 at *
        clear D HC hel hwl hwf hR hG Hx b5 n5 z5 hx0
        by_cases n0 : x = wOrder
        · have hm : Hid (m = { m0 with k := 0, a := numR x1, s := numR x2, x := decide (x3 = wSell), p := numR x4, q := numR x5, n := numR x6, t := numR x7 }) := κ (by rw [hG2.out, gw.out];  rw [if_pos n0])
          obtain rfl : kd = 0 := by rw [HKD.out]; unfold kindF;  rw [if_pos n0]
          clear hG2 gw HKD n0
          go_upto_region 11 with fail
          have HT : Hid (wr.drew.cell? ⟨gb, ob + 1, none⟩ = some (sv x1) ∧ wr.drew.cell? ⟨gb, ob + 2, none⟩ = some (sv x2) ∧ wr.drew.cell? ⟨gb, ob + 3, none⟩ = some (sv x3) ∧ wr.drew.cell? ⟨gb, ob + 4, none⟩ = some (sv x4) ∧ wr.drew.cell? ⟨gb, ob + 5, none⟩ = some (sv x5) ∧ wr.drew.cell? ⟨gb, ob + 6, none⟩ = some (sv x6) ∧ wr.drew.cell? ⟨gb, ob + 7, none⟩ = some (sv x7)) := κ ⟨d1, d2, d3, d4, d5, d6, d7⟩
          have KD : Hid (Blk wr.drew gM 25 #[.int .i64 0, .int .i64 0, .int .i64 0, .bool false, .int .i64 0, .int .i64 0, .int .i64 0, .int .i64 0, .int .i64 0, .int .i64 0, .int .i64 0, .int .i64 0]) := K7
          have BD := κ B.out.drew
          clear d1 d2 d3 d4 d5 d6 d7
          refine wp_region_noPanic ?_
          refine wp_region_L (T := (fun w' => w'.cell? ⟨gb, ob + 1, none⟩ = some (sv x1) ∧ w'.cell? ⟨gb, ob + 2, none⟩ = some (sv x2) ∧ w'.cell? ⟨gb, ob + 3, none⟩ = some (sv x3) ∧ w'.cell? ⟨gb, ob + 4, none⟩ = some (sv x4) ∧ w'.cell? ⟨gb, ob + 5, none⟩ = some (sv x5) ∧ w'.cell? ⟨gb, ob + 6, none⟩ = some (sv x6) ∧ w'.cell? ⟨gb, ob + 7, none⟩ = some (sv x7))) (st := [30]) (by kernel_rfl) ?_
          generalize wr.drew = wq at HT KD BD ⊢
          refine wpL_word (i := 0) (v := ?_) rfl (by kernel_rfl) (fun _ _ _ h => h) (by kernel_rfl) _ _ _ _ (by kernel_rfl) (by kernel_rfl) (Or.inl ⟨by rfl, ?_⟩) (fun _ => HT.out) ?_
          rotate_left
          · intro w' _
            go_simp
            try with_reducible rfl
          (try simp only [Act.put, List.getElem_toArray, List.getElem_cons_succ, List.getElem_cons_zero, List.setIfInBounds_toArray, List.set_cons_zero, List.set_cons_succ])
          refine wpL_word (i := 1) (v := ?_) rfl (by kernel_rfl) (fun _ _ _ h => h) (by kernel_rfl) _ _ _ _ (by kernel_rfl) (by kernel_rfl) (Or.inl ⟨by rfl, ?_⟩) (fun _ => HT.out) ?_
          rotate_left
          · intro w' _
            go_simp
            try with_reducible rfl
          (try simp only [Act.put, List.getElem_toArray, List.getElem_cons_succ, List.getElem_cons_zero, List.setIfInBounds_toArray, List.set_cons_zero, List.set_cons_succ])
          refine wpL_load (i := 2) (v := ?_) rfl (by kernel_rfl) (fun _ _ _ h => h) (by kernel_rfl) (by kernel_rfl) _ _ _ _ (by kernel_rfl) (by kernel_rfl) (Or.inl ⟨by rfl, ?_⟩) (by kernel_rfl) HT.out ?_
          rotate_left
          · intro w' hS
            (try dsimp only at hS)
            obtain ⟨c1, c2, c3, c4, c5, c6, c7⟩ := hS
            go_simp
            try with_reducible rfl
          (try simp only [Act.put, List.getElem_toArray, List.getElem_cons_succ, List.getElem_cons_zero, List.setIfInBounds_toArray, List.set_cons_zero, List.set_cons_succ])
          refine wpL_pure (i := 3) (v := .int .i64 (numR x1)) rfl (by kernel_rfl) (fun _ _ _ h => h) (by kernel_rfl) _ _ _ _ (by kernel_rfl) (by kernel_rfl) ⟨by rfl, 16, #[sv x1], ?_, fun w' => rword_any x1 w' (by have := h1.out; omega)⟩ (fun _ => HT.out) ?_
          · intro w'
            go_simp
          (try simp only [Act.put, List.getElem_toArray, List.getElem_cons_succ, List.getElem_cons_zero, List.setIfInBounds_toArray, List.set_cons_zero, List.set_cons_succ])
          refine wpL_word (i := 4) (v := ?_) rfl (by kernel_rfl) (fun _ _ _ h => h) (by kernel_rfl) _ _ _ _ (by kernel_rfl) (by kernel_rfl) (Or.inl ⟨by rfl, ?_⟩) (fun _ => HT.out) ?_
          rotate_left
          · intro w' _
            go_simp
            try with_reducible rfl
          (try simp only [Act.put, List.getElem_toArray, List.getElem_cons_succ, List.getElem_cons_zero, List.setIfInBounds_toArray, List.set_cons_zero, List.set_cons_succ])
          refine wpL_word (i := 5) (v := ?_) rfl (by kernel_rfl) (fun _ _ _ h => h) (by kernel_rfl) _ _ _ _ (by kernel_rfl) (by kernel_rfl) (Or.inl ⟨by rfl, ?_⟩) (fun _ => HT.out) ?_
          rotate_left
          · intro w' _
            go_simp
            try with_reducible rfl
          (try simp only [Act.put, List.getElem_toArray, List.getElem_cons_succ, List.getElem_cons_zero, List.setIfInBounds_toArray, List.set_cons_zero, List.set_cons_succ])
          refine wpL_load (i := 6) (v := ?_) rfl (by kernel_rfl) (fun _ _ _ h => h) (by kernel_rfl) (by kernel_rfl) _ _ _ _ (by kernel_rfl) (by kernel_rfl) (Or.inl ⟨by rfl, ?_⟩) (by kernel_rfl) HT.out ?_
          rotate_left
          · intro w' hS
            (try dsimp only at hS)
            obtain ⟨c1, c2, c3, c4, c5, c6, c7⟩ := hS
            go_simp
            try with_reducible rfl
          (try simp only [Act.put, List.getElem_toArray, List.getElem_cons_succ, List.getElem_cons_zero, List.setIfInBounds_toArray, List.set_cons_zero, List.set_cons_succ])
          refine wpL_pure (i := 7) (v := .int .i64 (numR x2)) rfl (by kernel_rfl) (fun _ _ _ h => h) (by kernel_rfl) _ _ _ _ (by kernel_rfl) (by kernel_rfl) ⟨by rfl, 16, #[sv x2], ?_, fun w' => rword_any x2 w' (by have := h2.out; omega)⟩ (fun _ => HT.out) ?_
          · intro w'
            go_simp
          (try simp only [Act.put, List.getElem_toArray, List.getElem_cons_succ, List.getElem_cons_zero, List.setIfInBounds_toArray, List.set_cons_zero, List.set_cons_succ])
          refine wpL_word (i := 8) (v := ?_) rfl (by kernel_rfl) (fun _ _ _ h => h) (by kernel_rfl) _ _ _ _ (by kernel_rfl) (by kernel_rfl) (Or.inl ⟨by rfl, ?_⟩) (fun _ => HT.out) ?_
          rotate_left
          · intro w' _
            go_simp
            try with_reducible rfl
          (try simp only [Act.put, List.getElem_toArray, List.getElem_cons_succ, List.getElem_cons_zero, List.setIfInBounds_toArray, List.set_cons_zero, List.set_cons_succ])
          refine wpL_word (i := 9) (v := ?_) rfl (by kernel_rfl) (fun _ _ _ h => h) (by kernel_rfl) _ _ _ _ (by kernel_rfl) (by kernel_rfl) (Or.inl ⟨by rfl, ?_⟩) (fun _ => HT.out) ?_
          rotate_left
          · intro w' _
            go_simp
            try with_reducible rfl
          (try simp only [Act.put, List.getElem_toArray, List.getElem_cons_succ, List.getElem_cons_zero, List.setIfInBounds_toArray, List.set_cons_zero, List.set_cons_succ])
          refine wpL_load (i := 10) (v := ?_) rfl (by kernel_rfl) (fun _ _ _ h => h) (by kernel_rfl) (by kernel_rfl) _ _ _ _ (by kernel_rfl) (by kernel_rfl) (Or.inl ⟨by rfl, ?_⟩) (by kernel_rfl) HT.out ?_
          rotate_left
          · intro w' hS
            (try dsimp only at hS)
            obtain ⟨c1, c2, c3, c4, c5, c6, c7⟩ := hS
            go_simp
            try with_reducible rfl
          (try simp only [Act.put, List.getElem_toArray, List.getElem_cons_succ, List.getElem_cons_zero, List.setIfInBounds_toArray, List.set_cons_zero, List.set_cons_succ])
          refine wpL_word (i := 11) (v := ?_) rfl (by kernel_rfl) (fun _ _ _ h => h) (by kernel_rfl) _ _ _ _ (by kernel_rfl) (by kernel_rfl) (Or.inl ⟨by rfl, ?_⟩) (fun _ => HT.out) ?_
          rotate_left
          · intro w' _
            go_simp
            try with_reducible rfl
          (try simp only [Act.put, List.getElem_toArray, List.getElem_cons_succ, List.getElem_cons_zero, List.setIfInBounds_toArray, List.set_cons_zero, List.set_cons_succ])
          refine wpL_word (i := 12) (v := ?_) rfl (by kernel_rfl) (fun _ _ _ h => h) (by kernel_rfl) _ _ _ _ (by kernel_rfl) (by kernel_rfl) (Or.inl ⟨by rfl, ?_⟩) (fun _ => HT.out) ?_
          rotate_left
          · intro w' _
            go_simp
            try with_reducible rfl
          (try simp only [Act.put, List.getElem_toArray, List.getElem_cons_succ, List.getElem_cons_zero, List.setIfInBounds_toArray, List.set_cons_zero, List.set_cons_succ])
          refine wpL_word (i := 13) (v := ?_) rfl (by kernel_rfl) (fun _ _ _ h => h) (by kernel_rfl) _ _ _ _ (by kernel_rfl) (by kernel_rfl) (Or.inl ⟨by rfl, ?_⟩) (fun _ => HT.out) ?_
          rotate_left
          · intro w' _
            go_simp
            try with_reducible rfl
          (try simp only [Act.put, List.getElem_toArray, List.getElem_cons_succ, List.getElem_cons_zero, List.setIfInBounds_toArray, List.set_cons_zero, List.set_cons_succ])
          refine wpL_load (i := 14) (v := ?_) rfl (by kernel_rfl) (fun _ _ _ h => h) (by kernel_rfl) (by kernel_rfl) _ _ _ _ (by kernel_rfl) (by kernel_rfl) (Or.inl ⟨by rfl, ?_⟩) (by kernel_rfl) HT.out ?_
          rotate_left
          · intro w' hS
            (try dsimp only at hS)
            obtain ⟨c1, c2, c3, c4, c5, c6, c7⟩ := hS
            go_simp
            try with_reducible rfl
          (try simp only [Act.put, List.getElem_toArray, List.getElem_cons_succ, List.getElem_cons_zero, List.setIfInBounds_toArray, List.set_cons_zero, List.set_cons_succ])
          refine wpL_pure (i := 15) (v := .int .i64 (numR x4)) rfl (by kernel_rfl) (fun _ _ _ h => h) (by kernel_rfl) _ _ _ _ (by kernel_rfl) (by kernel_rfl) ⟨by rfl, 16, #[sv x4], ?_, fun w' => rword_any x4 w' (by have := h4.out; omega)⟩ (fun _ => HT.out) ?_
          · intro w'
            go_simp
          (try simp only [Act.put, List.getElem_toArray, List.getElem_cons_succ, List.getElem_cons_zero, List.setIfInBounds_toArray, List.set_cons_zero, List.set_cons_succ])
          refine wpL_word (i := 16) (v := ?_) rfl (by kernel_rfl) (fun _ _ _ h => h) (by kernel_rfl) _ _ _ _ (by kernel_rfl) (by kernel_rfl) (Or.inl ⟨by rfl, ?_⟩) (fun _ => HT.out) ?_
          rotate_left
          · intro w' _
            go_simp
            try with_reducible rfl
          (try simp only [Act.put, List.getElem_toArray, List.getElem_cons_succ, List.getElem_cons_zero, List.setIfInBounds_toArray, List.set_cons_zero, List.set_cons_succ])
          refine wpL_word (i := 17) (v := ?_) rfl (by kernel_rfl) (fun _ _ _ h => h) (by kernel_rfl) _ _ _ _ (by kernel_rfl) (by kernel_rfl) (Or.inl ⟨by rfl, ?_⟩) (fun _ => HT.out) ?_
          rotate_left
          · intro w' _
            go_simp
            try with_reducible rfl
          (try simp only [Act.put, List.getElem_toArray, List.getElem_cons_succ, List.getElem_cons_zero, List.setIfInBounds_toArray, List.set_cons_zero, List.set_cons_succ])
          refine wpL_load (i := 18) (v := ?_) rfl (by kernel_rfl) (fun _ _ _ h => h) (by kernel_rfl) (by kernel_rfl) _ _ _ _ (by kernel_rfl) (by kernel_rfl) (Or.inl ⟨by rfl, ?_⟩) (by kernel_rfl) HT.out ?_
          rotate_left
          · intro w' hS
            (try dsimp only at hS)
            obtain ⟨c1, c2, c3, c4, c5, c6, c7⟩ := hS
            go_simp
            try with_reducible rfl
          (try simp only [Act.put, List.getElem_toArray, List.getElem_cons_succ, List.getElem_cons_zero, List.setIfInBounds_toArray, List.set_cons_zero, List.set_cons_succ])
          refine wpL_pure (i := 19) (v := .int .i64 (numR x5)) rfl (by kernel_rfl) (fun _ _ _ h => h) (by kernel_rfl) _ _ _ _ (by kernel_rfl) (by kernel_rfl) ⟨by rfl, 16, #[sv x5], ?_, fun w' => rword_any x5 w' (by have := h5.out; omega)⟩ (fun _ => HT.out) ?_
          · intro w'
            go_simp
          (try simp only [Act.put, List.getElem_toArray, List.getElem_cons_succ, List.getElem_cons_zero, List.setIfInBounds_toArray, List.set_cons_zero, List.set_cons_succ])
          refine wpL_word (i := 20) (v := ?_) rfl (by kernel_rfl) (fun _ _ _ h => h) (by kernel_rfl) _ _ _ _ (by kernel_rfl) (by kernel_rfl) (Or.inl ⟨by rfl, ?_⟩) (fun _ => HT.out) ?_
          rotate_left
          · intro w' _
            go_simp
            try with_reducible rfl
          (try simp only [Act.put, List.getElem_toArray, List.getElem_cons_succ, List.getElem_cons_zero, List.setIfInBounds_toArray, List.set_cons_zero, List.set_cons_succ])
          refine wpL_word (i := 21) (v := ?_) rfl (by kernel_rfl) (fun _ _ _ h => h) (by kernel_rfl) _ _ _ _ (by kernel_rfl) (by kernel_rfl) (Or.inl ⟨by rfl, ?_⟩) (fun _ => HT.out) ?_
          rotate_left
          · intro w' _
            go_simp
            try with_reducible rfl
          (try simp only [Act.put, List.getElem_toArray, List.getElem_cons_succ, List.getElem_cons_zero, List.setIfInBounds_toArray, List.set_cons_zero, List.set_cons_succ])
          refine wpL_load (i := 22) (v := ?_) rfl (by kernel_rfl) (fun _ _ _ h => h) (by kernel_rfl) (by kernel_rfl) _ _ _ _ (by kernel_rfl) (by kernel_rfl) (Or.inl ⟨by rfl, ?_⟩) (by kernel_rfl) HT.out ?_
          rotate_left
          · intro w' hS
            (try dsimp only at hS)
            obtain ⟨c1, c2, c3, c4, c5, c6, c7⟩ := hS
            go_simp
            try with_reducible rfl
          (try simp only [Act.put, List.getElem_toArray, List.getElem_cons_succ, List.getElem_cons_zero, List.setIfInBounds_toArray, List.set_cons_zero, List.set_cons_succ])
          refine wpL_pure (i := 23) (v := .int .i64 (numR x6)) rfl (by kernel_rfl) (fun _ _ _ h => h) (by kernel_rfl) _ _ _ _ (by kernel_rfl) (by kernel_rfl) ⟨by rfl, 16, #[sv x6], ?_, fun w' => rword_any x6 w' (by have := h6.out; omega)⟩ (fun _ => HT.out) ?_
          · intro w'
            go_simp
          (try simp only [Act.put, List.getElem_toArray, List.getElem_cons_succ, List.getElem_cons_zero, List.setIfInBounds_toArray, List.set_cons_zero, List.set_cons_succ])
          refine wpL_word (i := 24) (v := ?_) rfl (by kernel_rfl) (fun _ _ _ h => h) (by kernel_rfl) _ _ _ _ (by kernel_rfl) (by kernel_rfl) (Or.inl ⟨by rfl, ?_⟩) (fun _ => HT.out) ?_
          rotate_left
          · intro w' _
            go_simp
            try with_reducible rfl
          (try simp only [Act.put, List.getElem_toArray, List.getElem_cons_succ, List.getElem_cons_zero, List.setIfInBounds_toArray, List.set_cons_zero, List.set_cons_succ])
          refine wpL_word (i := 25) (v := ?_) rfl (by kernel_rfl) (fun _ _ _ h => h) (by kernel_rfl) _ _ _ _ (by kernel_rfl) (by kernel_rfl) (Or.inl ⟨by rfl, ?_⟩) (fun _ => HT.out) ?_
          rotate_left
          · intro w' _
            go_simp
            try with_reducible rfl
          (try simp only [Act.put, List.getElem_toArray, List.getElem_cons_succ, List.getElem_cons_zero, List.setIfInBounds_toArray, List.set_cons_zero, List.set_cons_succ])
          refine wpL_load (i := 26) (v := ?_) rfl (by kernel_rfl) (fun _ _ _ h => h) (by kernel_rfl) (by kernel_rfl) _ _ _ _ (by kernel_rfl) (by kernel_rfl) (Or.inl ⟨by rfl, ?_⟩) (by kernel_rfl) HT.out ?_
          rotate_left
          · intro w' hS
            (try dsimp only at hS)
            obtain ⟨c1, c2, c3, c4, c5, c6, c7⟩ := hS
            go_simp
            try with_reducible rfl
          (try simp only [Act.put, List.getElem_toArray, List.getElem_cons_succ, List.getElem_cons_zero, List.setIfInBounds_toArray, List.set_cons_zero, List.set_cons_succ])
          refine wpL_pure (i := 27) (v := .int .i64 (numR x7)) rfl (by kernel_rfl) (fun _ _ _ h => h) (by kernel_rfl) _ _ _ _ (by kernel_rfl) (by kernel_rfl) ⟨by rfl, 16, #[sv x7], ?_, fun w' => rword_any x7 w' (by have := h7.out; omega)⟩ (fun _ => HT.out) ?_
          · intro w'
            go_simp
          (try simp only [Act.put, List.getElem_toArray, List.getElem_cons_succ, List.getElem_cons_zero, List.setIfInBounds_toArray, List.set_cons_zero, List.set_cons_succ])
          refine wpL_word (i := 28) (v := ?_) rfl (by kernel_rfl) (fun _ _ _ h => h) (by kernel_rfl) _ _ _ _ (by kernel_rfl) (by kernel_rfl) (Or.inl ⟨by rfl, ?_⟩) (fun _ => HT.out) ?_
          rotate_left
          · intro w' _
            go_simp
            try with_reducible rfl
          (try simp only [Act.put, List.getElem_toArray, List.getElem_cons_succ, List.getElem_cons_zero, List.setIfInBounds_toArray, List.set_cons_zero, List.set_cons_succ])
          refine wpL_word (i := 29) (v := ?_) rfl (by kernel_rfl) (fun _ _ _ h => h) (by kernel_rfl) _ _ _ _ (by kernel_rfl) (by kernel_rfl) (Or.inl ⟨by rfl, ?_⟩) (fun _ => HT.out) ?_
          rotate_left
          · intro w' _
            go_simp
            try with_reducible rfl
          (try simp only [Act.put, List.getElem_toArray, List.getElem_cons_succ, List.getElem_cons_zero, List.setIfInBounds_toArray, List.set_cons_zero, List.set_cons_succ])
          obtain ⟨s0, s1, s2, s3, s4, s5, s6, s7, s8, s9, s10, s11, y0, y1, y2, y3, y4, y5, y6, y7, y8, y9, y10, y11⟩ := z12_of KD.out
          refine wpL_late (n := 30) (by kernel_rfl) rfl (by kernel_rfl) (fun K' hK => ?_)
          go_simp
          refine hK.out _ _ ?_
          clear hK K'
          (try simp only [Act.put, List.getElem_toArray, List.getElem_cons_succ, List.getElem_cons_zero, List.setIfInBounds_toArray, List.set_cons_zero, List.set_cons_succ])
          refine wpL_done (by kernel_rfl) ?_ _
          refine NoPanic.normal ?_
          go_wp2_with fail
          go_meet
          have F0 : Blk (wq.setCell ⟨gM, 1, none⟩ (.int .i64 (numR x1))) gM 25 #[.int .i64 0, .int .i64 (numR x1), .int .i64 0, .bool false, .int .i64 0, .int .i64 0, .int .i64 0, .int .i64 0, .int .i64 0, .int .i64 0, .int .i64 0, .int .i64 0] := blk_st (KD.out) 1 (.int .i64 (numR x1))
          have F1 : Blk ((wq.setCell ⟨gM, 1, none⟩ (.int .i64 (numR x1))).setCell ⟨gM, 2, none⟩ (.int .i64 (numR x2))) gM 25 #[.int .i64 0, .int .i64 (numR x1), .int .i64 (numR x2), .bool false, .int .i64 0, .int .i64 0, .int .i64 0, .int .i64 0, .int .i64 0, .int .i64 0, .int .i64 0, .int .i64 0] := blk_st (F0) 2 (.int .i64 (numR x2))
          have F2 : Blk (((wq.setCell ⟨gM, 1, none⟩ (.int .i64 (numR x1))).setCell ⟨gM, 2, none⟩ (.int .i64 (numR x2))).setCell ⟨gM, 3, none⟩ (.bool (decide (x3 = wSell)))) gM 25 #[.int .i64 0, .int .i64 (numR x1), .int .i64 (numR x2), .bool (decide (x3 = wSell)), .int .i64 0, .int .i64 0, .int .i64 0, .int .i64 0, .int .i64 0, .int .i64 0, .int .i64 0, .int .i64 0] := blk_st (F1) 3 (.bool (decide (x3 = wSell)))
          have F3 : Blk ((((wq.setCell ⟨gM, 1, none⟩ (.int .i64 (numR x1))).setCell ⟨gM, 2, none⟩ (.int .i64 (numR x2))).setCell ⟨gM, 3, none⟩ (.bool (decide (x3 = wSell)))).setCell ⟨gM, 4, none⟩ (.int .i64 (numR x4))) gM 25 #[.int .i64 0, .int .i64 (numR x1), .int .i64 (numR x2), .bool (decide (x3 = wSell)), .int .i64 (numR x4), .int .i64 0, .int .i64 0, .int .i64 0, .int .i64 0, .int .i64 0, .int .i64 0, .int .i64 0] := blk_st (F2) 4 (.int .i64 (numR x4))
          have F4 : Blk (((((wq.setCell ⟨gM, 1, none⟩ (.int .i64 (numR x1))).setCell ⟨gM, 2, none⟩ (.int .i64 (numR x2))).setCell ⟨gM, 3, none⟩ (.bool (decide (x3 = wSell)))).setCell ⟨gM, 4, none⟩ (.int .i64 (numR x4))).setCell ⟨gM, 5, none⟩ (.int .i64 (numR x5))) gM 25 #[.int .i64 0, .int .i64 (numR x1), .int .i64 (numR x2), .bool (decide (x3 = wSell)), .int .i64 (numR x4), .int .i64 (numR x5), .int .i64 0, .int .i64 0, .int .i64 0, .int .i64 0, .int .i64 0, .int .i64 0] := blk_st (F3) 5 (.int .i64 (numR x5))
          have F5 : Blk ((((((wq.setCell ⟨gM, 1, none⟩ (.int .i64 (numR x1))).setCell ⟨gM, 2, none⟩ (.int .i64 (numR x2))).setCell ⟨gM, 3, none⟩ (.bool (decide (x3 = wSell)))).setCell ⟨gM, 4, none⟩ (.int .i64 (numR x4))).setCell ⟨gM, 5, none⟩ (.int .i64 (numR x5))).setCell ⟨gM, 6, none⟩ (.int .i64 (numR x6))) gM 25 #[.int .i64 0, .int .i64 (numR x1), .int .i64 (numR x2), .bool (decide (x3 = wSell)), .int .i64 (numR x4), .int .i64 (numR x5), .int .i64 (numR x6), .int .i64 0, .int .i64 0, .int .i64 0, .int .i64 0, .int .i64 0] := blk_st (F4) 6 (.int .i64 (numR x6))
          have F6 : Blk (((((((wq.setCell ⟨gM, 1, none⟩ (.int .i64 (numR x1))).setCell ⟨gM, 2, none⟩ (.int .i64 (numR x2))).setCell ⟨gM, 3, none⟩ (.bool (decide (x3 = wSell)))).setCell ⟨gM, 4, none⟩ (.int .i64 (numR x4))).setCell ⟨gM, 5, none⟩ (.int .i64 (numR x5))).setCell ⟨gM, 6, none⟩ (.int .i64 (numR x6))).setCell ⟨gM, 7, none⟩ (.int .i64 (numR x7))) gM 25 #[.int .i64 0, .int .i64 (numR x1), .int .i64 (numR x2), .bool (decide (x3 = wSell)), .int .i64 (numR x4), .int .i64 (numR x5), .int .i64 (numR x6), .int .i64 (numR x7), .int .i64 0, .int .i64 0, .int .i64 0, .int .i64 0] := blk_st (F5) 7 (.int .i64 (numR x7))
          have FB : Below gM w5 (((((((wq.setCell ⟨gM, 1, none⟩ (.int .i64 (numR x1))).setCell ⟨gM, 2, none⟩ (.int .i64 (numR x2))).setCell ⟨gM, 3, none⟩ (.bool (decide (x3 = wSell)))).setCell ⟨gM, 4, none⟩ (.int .i64 (numR x4))).setCell ⟨gM, 5, none⟩ (.int .i64 (numR x5))).setCell ⟨gM, 6, none⟩ (.int .i64 (numR x6))).setCell ⟨gM, 7, none⟩ (.int .i64 (numR x7))) := (((((((BD.out.setCell (p := ⟨gM, 1, none⟩) (Nat.le_refl _) (.int .i64 (numR x1))).setCell (p := ⟨gM, 2, none⟩) (Nat.le_refl _) (.int .i64 (numR x2))).setCell (p := ⟨gM, 3, none⟩) (Nat.le_refl _) (.bool (decide (x3 = wSell)))).setCell (p := ⟨gM, 4, none⟩) (Nat.le_refl _) (.int .i64 (numR x4))).setCell (p := ⟨gM, 5, none⟩) (Nat.le_refl _) (.int .i64 (numR x5))).setCell (p := ⟨gM, 6, none⟩) (Nat.le_refl _) (.int .i64 (numR x6))).setCell (p := ⟨gM, 7, none⟩) (Nat.le_refl _) (.int .i64 (numR x7)))
          have FM : Blk (((((((wq.setCell ⟨gM, 1, none⟩ (.int .i64 (numR x1))).setCell ⟨gM, 2, none⟩ (.int .i64 (numR x2))).setCell ⟨gM, 3, none⟩ (.bool (decide (x3 = wSell)))).setCell ⟨gM, 4, none⟩ (.int .i64 (numR x4))).setCell ⟨gM, 5, none⟩ (.int .i64 (numR x5))).setCell ⟨gM, 6, none⟩ (.int .i64 (numR x6))).setCell ⟨gM, 7, none⟩ (.int .i64 (numR x7))) gM 25 #[.int .i64 m.k, .int .i64 m.a, .int .i64 m.s, .bool m.x, .int .i64 m.p, .int .i64 m.q, .int .i64 m.n, .int .i64 m.t, .int .i64 m.i, .int .i64 m.y, .int .i64 m.z, .int .i64 m.v] := by
            rw [hm.out]
            exact F6
          clear F0 F1 F2 F3 F4 F5 F6
          exact ⟨rfl, κ FM, κ FB⟩
        by_cases n1 : x = wCancel
        · have hm : Hid (m = { m0 with k := 1, i := numR x1 }) := κ (by rw [hG2.out, gw.out]; rw [if_neg n0]; rw [if_pos n1])
          obtain rfl : kd = 1 := by rw [HKD.out]; unfold kindF; rw [if_neg n0]; rw [if_pos n1]
          clear hG2 gw HKD n0 n1
          obtain ⟨s0, s1, s2, s3, s4, s5, s6, s7, s8, s9, s10, s11, y0, y1, y2, y3, y4, y5, y6, y7, y8, y9, y10, y11⟩ := z12_of K7.out
          go_wp2_with fail
          refine (rword_any x1 _ (by have := h1.out; omega)).mono ?_
          rintro e w8 ⟨rfl, rfl⟩
          go_wp2_with fail
          go_meet
          have F0 : Blk (wr.setCell ⟨gM, 8, none⟩ (.int .i64 (numR x1))) gM 25 #[.int .i64 1, .int .i64 0, .int .i64 0, .bool false, .int .i64 0, .int .i64 0, .int .i64 0, .int .i64 0, .int .i64 (numR x1), .int .i64 0, .int .i64 0, .int .i64 0] := blk_st (K7.out) 8 (.int .i64 (numR x1))
          have FB : Below gM w5 (wr.setCell ⟨gM, 8, none⟩ (.int .i64 (numR x1))) := (B.out.setCell (p := ⟨gM, 8, none⟩) (Nat.le_refl _) (.int .i64 (numR x1)))
          have FM : Blk (wr.setCell ⟨gM, 8, none⟩ (.int .i64 (numR x1))) gM 25 #[.int .i64 m.k, .int .i64 m.a, .int .i64 m.s, .bool m.x, .int .i64 m.p, .int .i64 m.q, .int .i64 m.n, .int .i64 m.t, .int .i64 m.i, .int .i64 m.y, .int .i64 m.z, .int .i64 m.v] := by
            rw [hm.out]
            exact F0
          clear F0
          exact ⟨rfl, κ FM, κ FB⟩
        by_cases n2 : x = wFill
        · have hm : Hid (m = { m0 with k := 2, i := numR x1, y := numR x2 }) := κ (by rw [hG2.out, gw.out]; rw [if_neg n0]; rw [if_neg n1]; rw [if_pos n2])
          obtain rfl : kd = 2 := by rw [HKD.out]; unfold kindF; rw [if_neg n0]; rw [if_neg n1]; rw [if_pos n2]
          clear hG2 gw HKD n0 n1 n2
          go_upto_region 16 with fail
          have HT : Hid (wr.drew.cell? ⟨gb, ob + 1, none⟩ = some (sv x1) ∧ wr.drew.cell? ⟨gb, ob + 2, none⟩ = some (sv x2)) := κ ⟨d1, d2⟩
          have KD : Hid (Blk wr.drew gM 25 #[.int .i64 2, .int .i64 0, .int .i64 0, .bool false, .int .i64 0, .int .i64 0, .int .i64 0, .int .i64 0, .int .i64 0, .int .i64 0, .int .i64 0, .int .i64 0]) := K7
          have BD := κ B.out.drew
          clear d1 d2 d3 d4 d5 d6 d7
          refine wp_region_noPanic ?_
          refine wp_region_L (T := (fun w' => w'.cell? ⟨gb, ob + 1, none⟩ = some (sv x1) ∧ w'.cell? ⟨gb, ob + 2, none⟩ = some (sv x2))) (st := []) (by kernel_rfl) ?_
          generalize wr.drew = wq at HT KD BD ⊢
          refine wpL_word (i := 0) (v := ?_) rfl (by kernel_rfl) (fun _ _ _ h => h) (by kernel_rfl) _ _ _ _ (by kernel_rfl) (by kernel_rfl) (Or.inl ⟨by rfl, ?_⟩) (fun _ => HT.out) ?_
          rotate_left
          · intro w' _
            go_simp
            try with_reducible rfl
          (try simp only [Act.put, List.getElem_toArray, List.getElem_cons_succ, List.getElem_cons_zero, List.setIfInBounds_toArray, List.set_cons_zero, List.set_cons_succ])
          refine wpL_word (i := 1) (v := ?_) rfl (by kernel_rfl) (fun _ _ _ h => h) (by kernel_rfl) _ _ _ _ (by kernel_rfl) (by kernel_rfl) (Or.inl ⟨by rfl, ?_⟩) (fun _ => HT.out) ?_
          rotate_left
          · intro w' _
            go_simp
            try with_reducible rfl
          (try simp only [Act.put, List.getElem_toArray, List.getElem_cons_succ, List.getElem_cons_zero, List.setIfInBounds_toArray, List.set_cons_zero, List.set_cons_succ])
          refine wpL_load (i := 2) (v := ?_) rfl (by kernel_rfl) (fun _ _ _ h => h) (by kernel_rfl) (by kernel_rfl) _ _ _ _ (by kernel_rfl) (by kernel_rfl) (Or.inl ⟨by rfl, ?_⟩) (by kernel_rfl) HT.out ?_
          rotate_left
          · intro w' hS
            (try dsimp only at hS)
            obtain ⟨c1, c2⟩ := hS
            go_simp
            try with_reducible rfl
          (try simp only [Act.put, List.getElem_toArray, List.getElem_cons_succ, List.getElem_cons_zero, List.setIfInBounds_toArray, List.set_cons_zero, List.set_cons_succ])
          refine wpL_pure (i := 3) (v := .int .i64 (numR x1)) rfl (by kernel_rfl) (fun _ _ _ h => h) (by kernel_rfl) _ _ _ _ (by kernel_rfl) (by kernel_rfl) ⟨by rfl, 16, #[sv x1], ?_, fun w' => rword_any x1 w' (by have := h1.out; omega)⟩ (fun _ => HT.out) ?_
          · intro w'
            go_simp
          (try simp only [Act.put, List.getElem_toArray, List.getElem_cons_succ, List.getElem_cons_zero, List.setIfInBounds_toArray, List.set_cons_zero, List.set_cons_succ])
          refine wpL_word (i := 4) (v := ?_) rfl (by kernel_rfl) (fun _ _ _ h => h) (by kernel_rfl) _ _ _ _ (by kernel_rfl) (by kernel_rfl) (Or.inl ⟨by rfl, ?_⟩) (fun _ => HT.out) ?_
          rotate_left
          · intro w' _
            go_simp
            try with_reducible rfl
          (try simp only [Act.put, List.getElem_toArray, List.getElem_cons_succ, List.getElem_cons_zero, List.setIfInBounds_toArray, List.set_cons_zero, List.set_cons_succ])
          refine wpL_word (i := 5) (v := ?_) rfl (by kernel_rfl) (fun _ _ _ h => h) (by kernel_rfl) _ _ _ _ (by kernel_rfl) (by kernel_rfl) (Or.inl ⟨by rfl, ?_⟩) (fun _ => HT.out) ?_
          rotate_left
          · intro w' _
            go_simp
            try with_reducible rfl
          (try simp only [Act.put, List.getElem_toArray, List.getElem_cons_succ, List.getElem_cons_zero, List.setIfInBounds_toArray, List.set_cons_zero, List.set_cons_succ])
          refine wpL_load (i := 6) (v := ?_) rfl (by kernel_rfl) (fun _ _ _ h => h) (by kernel_rfl) (by kernel_rfl) _ _ _ _ (by kernel_rfl) (by kernel_rfl) (Or.inl ⟨by rfl, ?_⟩) (by kernel_rfl) HT.out ?_
          rotate_left
          · intro w' hS
            (try dsimp only at hS)
            obtain ⟨c1, c2⟩ := hS
            go_simp
            try with_reducible rfl
          (try simp only [Act.put, List.getElem_toArray, List.getElem_cons_succ, List.getElem_cons_zero, List.setIfInBounds_toArray, List.set_cons_zero, List.set_cons_succ])
          refine wpL_pure (i := 7) (v := .int .i64 (numR x2)) rfl (by kernel_rfl) (fun _ _ _ h => h) (by kernel_rfl) _ _ _ _ (by kernel_rfl) (by kernel_rfl) ⟨by rfl, 16, #[sv x2], ?_, fun w' => rword_any x2 w' (by have := h2.out; omega)⟩ (fun _ => HT.out) ?_
          · intro w'
            go_simp
          (try simp only [Act.put, List.getElem_toArray, List.getElem_cons_succ, List.getElem_cons_zero, List.setIfInBounds_toArray, List.set_cons_zero, List.set_cons_succ])
          refine wpL_word (i := 8) (v := ?_) rfl (by kernel_rfl) (fun _ _ _ h => h) (by kernel_rfl) _ _ _ _ (by kernel_rfl) (by kernel_rfl) (Or.inl ⟨by rfl, ?_⟩) (fun _ => HT.out) ?_
          rotate_left
          · intro w' _
            go_simp
            try with_reducible rfl
          (try simp only [Act.put, List.getElem_toArray, List.getElem_cons_succ, List.getElem_cons_zero, List.setIfInBounds_toArray, List.set_cons_zero, List.set_cons_succ])
          obtain ⟨s0, s1, s2, s3, s4, s5, s6, s7, s8, s9, s10, s11, y0, y1, y2, y3, y4, y5, y6, y7, y8, y9, y10, y11⟩ := z12_of KD.out
          have pc : (wq.setCell ⟨gM, 8, none⟩ (.int .i64 (numR x1))).cell? ⟨gM, 9, none⟩ = some (.int .i64 0) := (blk_st KD.out 8 (.int .i64 (numR x1))).cell 9
          have pf : (wq.setCell ⟨gM, 8, none⟩ (.int .i64 (numR x1))).frozen? ⟨gM, 9, none⟩ = false := (blk_st KD.out 8 (.int .i64 (numR x1))).thaw 9
          have hne := HGB.out
          have HT2 : Hid ((wq.setCell ⟨gM, 8, none⟩ (.int .i64 (numR x1))).cell? ⟨gb, ob + 1, none⟩ = some (sv x1) ∧ (wq.setCell ⟨gM, 8, none⟩ (.int .i64 (numR x1))).cell? ⟨gb, ob + 2, none⟩ = some (sv x2)) := κ ⟨(World.cell?_setCell_other _ _ _ _ (by intro e; injection e with e1 e2; omega)).trans HT.out.1, (World.cell?_setCell_other _ _ _ _ (by intro e; injection e with e1 e2; omega)).trans HT.out.2⟩
          have HT3 : Hid (((wq.setCell ⟨gM, 8, none⟩ (.int .i64 (numR x1))).setCell ⟨gM, 9, none⟩ (.int .i64 (numR x2))).cell? ⟨gb, ob + 1, none⟩ = some (sv x1) ∧ ((wq.setCell ⟨gM, 8, none⟩ (.int .i64 (numR x1))).setCell ⟨gM, 9, none⟩ (.int .i64 (numR x2))).cell? ⟨gb, ob + 2, none⟩ = some (sv x2)) := κ ⟨(World.cell?_setCell_other _ _ _ _ (by intro e; injection e with e1 e2; omega)).trans HT2.out.1, (World.cell?_setCell_other _ _ _ _ (by intro e; injection e with e1 e2; omega)).trans HT2.out.2⟩
          refine wpL_next (n := 9) (by kernel_rfl) rfl (fun K' hK => ?_)
          go_simp
          refine hK.out _ _ HT2.out ?_
          clear hK K'
          (try simp only [Act.put, List.getElem_toArray, List.getElem_cons_succ, List.getElem_cons_zero, List.setIfInBounds_toArray, List.set_cons_zero, List.set_cons_succ])
          refine wpL_word (i := 10) (v := ?_) rfl (by kernel_rfl) (fun _ _ _ h => h) (by kernel_rfl) _ _ _ _ (by kernel_rfl) (by kernel_rfl) (Or.inl ⟨by rfl, ?_⟩) (fun _ => HT2.out) ?_
          rotate_left
          · intro w' _
            go_simp
            try with_reducible rfl
          (try simp only [Act.put, List.getElem_toArray, List.getElem_cons_succ, List.getElem_cons_zero, List.setIfInBounds_toArray, List.set_cons_zero, List.set_cons_succ])
          refine wpL_next (n := 11) (by kernel_rfl) rfl (fun K' hK => ?_)
          go_simp
          refine hK.out _ _ HT3.out ?_
          clear hK K'
          (try simp only [Act.put, List.getElem_toArray, List.getElem_cons_succ, List.getElem_cons_zero, List.setIfInBounds_toArray, List.set_cons_zero, List.set_cons_succ])
          refine wpL_done (by kernel_rfl) ?_ _
          refine NoPanic.normal ?_
          go_wp2_with fail
          go_meet
          have F0 : Blk (wq.setCell ⟨gM, 8, none⟩ (.int .i64 (numR x1))) gM 25 #[.int .i64 2, .int .i64 0, .int .i64 0, .bool false, .int .i64 0, .int .i64 0, .int .i64 0, .int .i64 0, .int .i64 (numR x1), .int .i64 0, .int .i64 0, .int .i64 0] := blk_st (KD.out) 8 (.int .i64 (numR x1))
          have F1 : Blk ((wq.setCell ⟨gM, 8, none⟩ (.int .i64 (numR x1))).setCell ⟨gM, 9, none⟩ (.int .i64 (numR x2))) gM 25 #[.int .i64 2, .int .i64 0, .int .i64 0, .bool false, .int .i64 0, .int .i64 0, .int .i64 0, .int .i64 0, .int .i64 (numR x1), .int .i64 (numR x2), .int .i64 0, .int .i64 0] := blk_st (F0) 9 (.int .i64 (numR x2))
          have FB : Below gM w5 ((wq.setCell ⟨gM, 8, none⟩ (.int .i64 (numR x1))).setCell ⟨gM, 9, none⟩ (.int .i64 (numR x2))) := ((BD.out.setCell (p := ⟨gM, 8, none⟩) (Nat.le_refl _) (.int .i64 (numR x1))).setCell (p := ⟨gM, 9, none⟩) (Nat.le_refl _) (.int .i64 (numR x2)))
          have FM : Blk ((wq.setCell ⟨gM, 8, none⟩ (.int .i64 (numR x1))).setCell ⟨gM, 9, none⟩ (.int .i64 (numR x2))) gM 25 #[.int .i64 m.k, .int .i64 m.a, .int .i64 m.s, .bool m.x, .int .i64 m.p, .int .i64 m.q, .int .i64 m.n, .int .i64 m.t, .int .i64 m.i, .int .i64 m.y, .int .i64 m.z, .int .i64 m.v] := by
            rw [hm.out]
            exact F1
          clear F0 F1
          exact ⟨rfl, κ FM, κ FB⟩
        by_cases n3 : x = wAck
        · have hm : Hid (m = { m0 with k := 3, i := numR x1 }) := κ (by rw [hG2.out, gw.out]; rw [if_neg n0]; rw [if_neg n1]; rw [if_neg n2]; rw [if_pos n3])
          obtain rfl : kd = 3 := by rw [HKD.out]; unfold kindF; rw [if_neg n0]; rw [if_neg n1]; rw [if_neg n2]; rw [if_pos n3]
          clear hG2 gw HKD n0 n1 n2 n3
          obtain ⟨s0, s1, s2, s3, s4, s5, s6, s7, s8, s9, s10, s11, y0, y1, y2, y3, y4, y5, y6, y7, y8, y9, y10, y11⟩ := z12_of K7.out
          go_wp2_with fail
          refine (rword_any x1 _ (by have := h1.out; omega)).mono ?_
          rintro e w8 ⟨rfl, rfl⟩
          go_wp2_with fail
          go_meet
          have F0 : Blk (wr.setCell ⟨gM, 8, none⟩ (.int .i64 (numR x1))) gM 25 #[.int .i64 3, .int .i64 0, .int .i64 0, .bool false, .int .i64 0, .int .i64 0, .int .i64 0, .int .i64 0, .int .i64 (numR x1), .int .i64 0, .int .i64 0, .int .i64 0] := blk_st (K7.out) 8 (.int .i64 (numR x1))
          have FB : Below gM w5 (wr.setCell ⟨gM, 8, none⟩ (.int .i64 (numR x1))) := (B.out.setCell (p := ⟨gM, 8, none⟩) (Nat.le_refl _) (.int .i64 (numR x1)))
          have FM : Blk (wr.setCell ⟨gM, 8, none⟩ (.int .i64 (numR x1))) gM 25 #[.int .i64 m.k, .int .i64 m.a, .int .i64 m.s, .bool m.x, .int .i64 m.p, .int .i64 m.q, .int .i64 m.n, .int .i64 m.t, .int .i64 m.i, .int .i64 m.y, .int .i64 m.z, .int .i64 m.v] := by
            rw [hm.out]
            exact F0
          clear F0
          exact ⟨rfl, κ FM, κ FB⟩
        by_cases n4 : x = wKill
        · have hm : Hid (m = { m0 with k := 4 }) := κ (by rw [hG2.out, gw.out]; rw [if_neg n0]; rw [if_neg n1]; rw [if_neg n2]; rw [if_neg n3]; rw [if_pos n4])
          obtain rfl : kd = 4 := by rw [HKD.out]; unfold kindF; rw [if_neg n0]; rw [if_neg n1]; rw [if_neg n2]; rw [if_neg n3]; rw [if_pos n4]
          clear hG2 gw HKD n0 n1 n2 n3 n4
          go_wp2_with fail
          go_meet
          have FB : Below gM w5 wr := B.out
          have FM : Blk wr gM 25 #[.int .i64 m.k, .int .i64 m.a, .int .i64 m.s, .bool m.x, .int .i64 m.p, .int .i64 m.q, .int .i64 m.n, .int .i64 m.t, .int .i64 m.i, .int .i64 m.y, .int .i64 m.z, .int .i64 m.v] := by
            rw [hm.out]
            exact K7.out
          exact ⟨rfl, κ FM, κ FB⟩
        by_cases n5 : x = wRearm
        · have hm : Hid (m = { m0 with k := 5 }) := κ (by rw [hG2.out, gw.out]; rw [if_neg n0]; rw [if_neg n1]; rw [if_neg n2]; rw [if_neg n3]; rw [if_neg n4]; rw [if_pos n5])
          obtain rfl : kd = 5 := by rw [HKD.out]; unfold kindF; rw [if_neg n0]; rw [if_neg n1]; rw [if_neg n2]; rw [if_neg n3]; rw [if_neg n4]; rw [if_pos n5]
          clear hG2 gw HKD n0 n1 n2 n3 n4 n5
          go_wp2_with fail
          go_meet
          have FB : Below gM w5 wr := B.out
          have FM : Blk wr gM 25 #[.int .i64 m.k, .int .i64 m.a, .int .i64 m.s, .bool m.x, .int .i64 m.p, .int .i64 m.q, .int .i64 m.n, .int .i64 m.t, .int .i64 m.i, .int .i64 m.y, .int .i64 m.z, .int .i64 m.v] := by
            rw [hm.out]
            exact K7.out
          exact ⟨rfl, κ FM, κ FB⟩
        by_cases n6 : x = wLimit
        · have hm : Hid (m = { m0 with k := 6, z := numR x1, v := numR x2 }) := κ (by rw [hG2.out, gw.out]; rw [if_neg n0]; rw [if_neg n1]; rw [if_neg n2]; rw [if_neg n3]; rw [if_neg n4]; rw [if_neg n5]; rw [if_pos n6])
          obtain rfl : kd = 6 := by rw [HKD.out]; unfold kindF; rw [if_neg n0]; rw [if_neg n1]; rw [if_neg n2]; rw [if_neg n3]; rw [if_neg n4]; rw [if_neg n5]; rw [if_pos n6]
          clear hG2 gw HKD n0 n1 n2 n3 n4 n5 n6
          go_upto_region 18 with fail
          have HT : Hid (wr.drew.cell? ⟨gb, ob + 1, none⟩ = some (sv x1) ∧ wr.drew.cell? ⟨gb, ob + 2, none⟩ = some (sv x2)) := κ ⟨d1, d2⟩
          have KD : Hid (Blk wr.drew gM 25 #[.int .i64 6, .int .i64 0, .int .i64 0, .bool false, .int .i64 0, .int .i64 0, .int .i64 0, .int .i64 0, .int .i64 0, .int .i64 0, .int .i64 0, .int .i64 0]) := K7
          have BD := κ B.out.drew
          clear d1 d2 d3 d4 d5 d6 d7
          refine wp_region_noPanic ?_
          refine wp_region_L (T := (fun w' => w'.cell? ⟨gb, ob + 1, none⟩ = some (sv x1) ∧ w'.cell? ⟨gb, ob + 2, none⟩ = some (sv x2))) (st := []) (by kernel_rfl) ?_
          generalize wr.drew = wq at HT KD BD ⊢
          refine wpL_word (i := 0) (v := ?_) rfl (by kernel_rfl) (fun _ _ _ h => h) (by kernel_rfl) _ _ _ _ (by kernel_rfl) (by kernel_rfl) (Or.inl ⟨by rfl, ?_⟩) (fun _ => HT.out) ?_
          rotate_left
          · intro w' _
            go_simp
            try with_reducible rfl
          (try simp only [Act.put, List.getElem_toArray, List.getElem_cons_succ, List.getElem_cons_zero, List.setIfInBounds_toArray, List.set_cons_zero, List.set_cons_succ])
          refine wpL_word (i := 1) (v := ?_) rfl (by kernel_rfl) (fun _ _ _ h => h) (by kernel_rfl) _ _ _ _ (by kernel_rfl) (by kernel_rfl) (Or.inl ⟨by rfl, ?_⟩) (fun _ => HT.out) ?_
          rotate_left
          · intro w' _
            go_simp
            try with_reducible rfl
          (try simp only [Act.put, List.getElem_toArray, List.getElem_cons_succ, List.getElem_cons_zero, List.setIfInBounds_toArray, List.set_cons_zero, List.set_cons_succ])
          refine wpL_load (i := 2) (v := ?_) rfl (by kernel_rfl) (fun _ _ _ h => h) (by kernel_rfl) (by kernel_rfl) _ _ _ _ (by kernel_rfl) (by kernel_rfl) (Or.inl ⟨by rfl, ?_⟩) (by kernel_rfl) HT.out ?_
          rotate_left
          · intro w' hS
            (try dsimp only at hS)
            obtain ⟨c1, c2⟩ := hS
            go_simp
            try with_reducible rfl
          (try simp only [Act.put, List.getElem_toArray, List.getElem_cons_succ, List.getElem_cons_zero, List.setIfInBounds_toArray, List.set_cons_zero, List.set_cons_succ])
          refine wpL_pure (i := 3) (v := .int .i64 (numR x1)) rfl (by kernel_rfl) (fun _ _ _ h => h) (by kernel_rfl) _ _ _ _ (by kernel_rfl) (by kernel_rfl) ⟨by rfl, 16, #[sv x1], ?_, fun w' => rword_any x1 w' (by have := h1.out; omega)⟩ (fun _ => HT.out) ?_
          · intro w'
            go_simp
          (try simp only [Act.put, List.getElem_toArray, List.getElem_cons_succ, List.getElem_cons_zero, List.setIfInBounds_toArray, List.set_cons_zero, List.set_cons_succ])
          refine wpL_word (i := 4) (v := ?_) rfl (by kernel_rfl) (fun _ _ _ h => h) (by kernel_rfl) _ _ _ _ (by kernel_rfl) (by kernel_rfl) (Or.inl ⟨by rfl, ?_⟩) (fun _ => HT.out) ?_
          rotate_left
          · intro w' _
            go_simp
            try with_reducible rfl
          (try simp only [Act.put, List.getElem_toArray, List.getElem_cons_succ, List.getElem_cons_zero, List.setIfInBounds_toArray, List.set_cons_zero, List.set_cons_succ])
          refine wpL_word (i := 5) (v := ?_) rfl (by kernel_rfl) (fun _ _ _ h => h) (by kernel_rfl) _ _ _ _ (by kernel_rfl) (by kernel_rfl) (Or.inl ⟨by rfl, ?_⟩) (fun _ => HT.out) ?_
          rotate_left
          · intro w' _
            go_simp
            try with_reducible rfl
          (try simp only [Act.put, List.getElem_toArray, List.getElem_cons_succ, List.getElem_cons_zero, List.setIfInBounds_toArray, List.set_cons_zero, List.set_cons_succ])
          refine wpL_load (i := 6) (v := ?_) rfl (by kernel_rfl) (fun _ _ _ h => h) (by kernel_rfl) (by kernel_rfl) _ _ _ _ (by kernel_rfl) (by kernel_rfl) (Or.inl ⟨by rfl, ?_⟩) (by kernel_rfl) HT.out ?_
          rotate_left
          · intro w' hS
            (try dsimp only at hS)
            obtain ⟨c1, c2⟩ := hS
            go_simp
            try with_reducible rfl
          (try simp only [Act.put, List.getElem_toArray, List.getElem_cons_succ, List.getElem_cons_zero, List.setIfInBounds_toArray, List.set_cons_zero, List.set_cons_succ])
          refine wpL_pure (i := 7) (v := .int .i64 (numR x2)) rfl (by kernel_rfl) (fun _ _ _ h => h) (by kernel_rfl) _ _ _ _ (by kernel_rfl) (by kernel_rfl) ⟨by rfl, 16, #[sv x2], ?_, fun w' => rword_any x2 w' (by have := h2.out; omega)⟩ (fun _ => HT.out) ?_
          · intro w'
            go_simp
          (try simp only [Act.put, List.getElem_toArray, List.getElem_cons_succ, List.getElem_cons_zero, List.setIfInBounds_toArray, List.set_cons_zero, List.set_cons_succ])
          refine wpL_word (i := 8) (v := ?_) rfl (by kernel_rfl) (fun _ _ _ h => h) (by kernel_rfl) _ _ _ _ (by kernel_rfl) (by kernel_rfl) (Or.inl ⟨by rfl, ?_⟩) (fun _ => HT.out) ?_
          rotate_left
          · intro w' _
            go_simp
            try with_reducible rfl
          (try simp only [Act.put, List.getElem_toArray, List.getElem_cons_succ, List.getElem_cons_zero, List.setIfInBounds_toArray, List.set_cons_zero, List.set_cons_succ])
          obtain ⟨s0, s1, s2, s3, s4, s5, s6, s7, s8, s9, s10, s11, y0, y1, y2, y3, y4, y5, y6, y7, y8, y9, y10, y11⟩ := z12_of KD.out
          have pc : (wq.setCell ⟨gM, 10, none⟩ (.int .i64 (numR x1))).cell? ⟨gM, 11, none⟩ = some (.int .i64 0) := (blk_st KD.out 10 (.int .i64 (numR x1))).cell 11
          have pf : (wq.setCell ⟨gM, 10, none⟩ (.int .i64 (numR x1))).frozen? ⟨gM, 11, none⟩ = false := (blk_st KD.out 10 (.int .i64 (numR x1))).thaw 11
          have hne := HGB.out
          have HT2 : Hid ((wq.setCell ⟨gM, 10, none⟩ (.int .i64 (numR x1))).cell? ⟨gb, ob + 1, none⟩ = some (sv x1) ∧ (wq.setCell ⟨gM, 10, none⟩ (.int .i64 (numR x1))).cell? ⟨gb, ob + 2, none⟩ = some (sv x2)) := κ ⟨(World.cell?_setCell_other _ _ _ _ (by intro e; injection e with e1 e2; omega)).trans HT.out.1, (World.cell?_setCell_other _ _ _ _ (by intro e; injection e with e1 e2; omega)).trans HT.out.2⟩
          have HT3 : Hid (((wq.setCell ⟨gM, 10, none⟩ (.int .i64 (numR x1))).setCell ⟨gM, 11, none⟩ (.int .i64 (numR x2))).cell? ⟨gb, ob + 1, none⟩ = some (sv x1) ∧ ((wq.setCell ⟨gM, 10, none⟩ (.int .i64 (numR x1))).setCell ⟨gM, 11, none⟩ (.int .i64 (numR x2))).cell? ⟨gb, ob + 2, none⟩ = some (sv x2)) := κ ⟨(World.cell?_setCell_other _ _ _ _ (by intro e; injection e with e1 e2; omega)).trans HT2.out.1, (World.cell?_setCell_other _ _ _ _ (by intro e; injection e with e1 e2; omega)).trans HT2.out.2⟩
          refine wpL_next (n := 9) (by kernel_rfl) rfl (fun K' hK => ?_)
          go_simp
          refine hK.out _ _ HT2.out ?_
          clear hK K'
          (try simp only [Act.put, List.getElem_toArray, List.getElem_cons_succ, List.getElem_cons_zero, List.setIfInBounds_toArray, List.set_cons_zero, List.set_cons_succ])
          refine wpL_word (i := 10) (v := ?_) rfl (by kernel_rfl) (fun _ _ _ h => h) (by kernel_rfl) _ _ _ _ (by kernel_rfl) (by kernel_rfl) (Or.inl ⟨by rfl, ?_⟩) (fun _ => HT2.out) ?_
          rotate_left
          · intro w' _
            go_simp
            try with_reducible rfl
          (try simp only [Act.put, List.getElem_toArray, List.getElem_cons_succ, List.getElem_cons_zero, List.setIfInBounds_toArray, List.set_cons_zero, List.set_cons_succ])
          refine wpL_next (n := 11) (by kernel_rfl) rfl (fun K' hK => ?_)
          go_simp
          refine hK.out _ _ HT3.out ?_
          clear hK K'
          (try simp only [Act.put, List.getElem_toArray, List.getElem_cons_succ, List.getElem_cons_zero, List.setIfInBounds_toArray, List.set_cons_zero, List.set_cons_succ])
          refine wpL_done (by kernel_rfl) ?_ _
          refine NoPanic.normal ?_
          go_wp2_with fail
          go_meet
          have F0 : Blk (wq.setCell ⟨gM, 10, none⟩ (.int .i64 (numR x1))) gM 25 #[.int .i64 6, .int .i64 0, .int .i64 0, .bool false, .int .i64 0, .int .i64 0, .int .i64 0, .int .i64 0, .int .i64 0, .int .i64 0, .int .i64 (numR x1), .int .i64 0] := blk_st (KD.out) 10 (.int .i64 (numR x1))
          have F1 : Blk ((wq.setCell ⟨gM, 10, none⟩ (.int .i64 (numR x1))).setCell ⟨gM, 11, none⟩ (.int .i64 (numR x2))) gM 25 #[.int .i64 6, .int .i64 0, .int .i64 0, .bool false, .int .i64 0, .int .i64 0, .int .i64 0, .int .i64 0, .int .i64 0, .int .i64 0, .int .i64 (numR x1), .int .i64 (numR x2)] := blk_st (F0) 11 (.int .i64 (numR x2))
          have FB : Below gM w5 ((wq.setCell ⟨gM, 10, none⟩ (.int .i64 (numR x1))).setCell ⟨gM, 11, none⟩ (.int .i64 (numR x2))) := ((BD.out.setCell (p := ⟨gM, 10, none⟩) (Nat.le_refl _) (.int .i64 (numR x1))).setCell (p := ⟨gM, 11, none⟩) (Nat.le_refl _) (.int .i64 (numR x2)))
          have FM : Blk ((wq.setCell ⟨gM, 10, none⟩ (.int .i64 (numR x1))).setCell ⟨gM, 11, none⟩ (.int .i64 (numR x2))) gM 25 #[.int .i64 m.k, .int .i64 m.a, .int .i64 m.s, .bool m.x, .int .i64 m.p, .int .i64 m.q, .int .i64 m.n, .int .i64 m.t, .int .i64 m.i, .int .i64 m.y, .int .i64 m.z, .int .i64 m.v] := by
            rw [hm.out]
            exact F1
          clear F0 F1
          exact ⟨rfl, κ FM, κ FB⟩
        have hm : Hid (m = { m0 with k := -1 }) := κ (by rw [hG2.out, gw.out]; rw [if_neg n0]; rw [if_neg n1]; rw [if_neg n2]; rw [if_neg n3]; rw [if_neg n4]; rw [if_neg n5]; rw [if_neg n6])
        obtain rfl : kd = (-1) := by rw [HKD.out]; unfold kindF; rw [if_neg n0]; rw [if_neg n1]; rw [if_neg n2]; rw [if_neg n3]; rw [if_neg n4]; rw [if_neg n5]; rw [if_neg n6]
        clear hG2 gw HKD n0 n1 n2 n3 n4 n5 n6
        go_wp2_with fail
        go_meet
        have FB : Below gM w5 wr := B.out
        have FM : Blk wr gM 25 #[.int .i64 m.k, .int .i64 m.a, .int .i64 m.s, .bool m.x, .int .i64 m.p, .int .i64 m.q, .int .i64 m.n, .int .i64 m.t, .int .i64 m.i, .int .i64 m.y, .int .i64 m.z, .int .i64 m.v] := by
          rw [hm.out]
          exact K7.out
        exact ⟨rfl, κ FM, κ FB⟩
      case rest =>
        obtain ⟨rfl, KX, BX⟩ := hcut
        rename World => w9
        have b9 := κ (b5.out.trans (BX.out.mono hgM.out))
        have z9 := κ (Blk.below z5.out BX.out gRM.out)
        have RL := κ (fun W => rline_any m W hwf)
        have hmv : Hid (mvl m = .agg #[.int .i64 m.k, .int .i64 m.a, .int .i64 m.s, .bool m.x, .int .i64 m.p, .int .i64 m.q, .int .i64 m.n, .int .i64 m.t, .int .i64 m.i, .int .i64 m.y, .int .i64 m.z, .int .i64 m.v]) := κ rfl
        clear b0 z0 b5 z5 n5 BX B K7 HC Hx HKD hG hwl hel i0 hi hz0 hz1 hz2
        by_cases hl0 : l = []
        · have hP : Hid (parseR l = (m0, false)) := κ (by rw [hR.out, if_pos (Or.inl hl0)])
          have q : (l == []) = true := beq_iff_eq.2 hl0
          subst hl0
          clear hR
          obtain ⟨s0, s1, s2, s3, s4, s5, s6, s7, s8, s9, s10, s11, y0, y1, y2, y3, y4, y5, y6, y7, y8, y9, y10, y11⟩ := z12_of z9.out
          go_wp2_with fail
          have f3 : Blk (st12 w9 gR (.int .i64 0) (.int .i64 0) (.int .i64 0) (.bool false) (.int .i64 0) (.int .i64 0) (.int .i64 0) (.int .i64 0) (.int .i64 0) (.int .i64 0) (.int .i64 0) (.int .i64 0)) gR 25 #[.int .i64 0, .int .i64 0, .int .i64 0, .bool false, .int .i64 0, .int .i64 0, .int .i64 0, .int .i64 0, .int .i64 0, .int .i64 0, .int .i64 0, .int .i64 0] := st12_blk z9.out
          have hB : Below w.heap.size w (st12 w9 gR (.int .i64 0) (.int .i64 0) (.int .i64 0) (.bool false) (.int .i64 0) (.int .i64 0) (.int .i64 0) (.int .i64 0) (.int .i64 0) (.int .i64 0) (.int .i64 0) (.int .i64 0)) := st12_below b9.out hg.out
          obtain ⟨e0, e1, e2, e3, e4, e5, e6, e7, e8, e9, e10, e11⟩ := c12_of f3
          unfold st12 at e0 e1 e2 e3 e4 e5 e6 e7 e8 e9 e10 e11 hB
          exact bodyPost_ret (v := .tuple #[.agg #[.int .i64 0, .int .i64 0, .int .i64 0, .bool false, .int .i64 0, .int .i64 0, .int .i64 0, .int .i64 0, .int .i64 0, .int .i64 0, .int .i64 0, .int .i64 0], .bool false]) (by simp [results, Tryz.results6, go_sem, e0, e1, e2, e3, e4, e5, e6, e7, e8, e9, e10, e11]) rfl ⟨by rw [hP.out]; first | rfl | (rw [hmv.out]), hB⟩
        have q : (l == []) = false := beq_eq_false_iff_ne.2 hl0
        rw [hmv.out] at RL
        obtain ⟨lm, hlm⟩ : ∃ lm, lm = lineL m := ⟨_, rfl⟩
        rw [← hlm] at RL hR
        have HLM := κ hlm
        clear hlm
        obtain ⟨j0, j1, j2, j3, j4, j5, j6, j7, j8, j9, j10, j11⟩ := c12_of KX.out
        by_cases hq : lm = l
        · have hP : Hid (parseR l = (m, true)) := κ (by rw [hR.out, if_neg (by rintro (e | e); exact hl0 e; exact e hq)])
          have q2 : (lm == l) = true := beq_iff_eq.2 hq
          clear hR hq hl0
          go_wp2_with fail
          refine (RL.out _).mono ?_
          rintro e w10 ⟨rfl, hb10⟩
          have b10 := κ (CrdB.below_step b9.out hb10)
          have z10 := κ (z9.out.below' hb10)
          have k10 := κ (KX.out.below' hb10)
          clear hb10 b9 z9 KX RL j0 j1 j2 j3 j4 j5 j6 j7 j8 j9 j10 j11
          obtain ⟨j0, j1, j2, j3, j4, j5, j6, j7, j8, j9, j10, j11⟩ := c12_of k10.out
          obtain ⟨s0, s1, s2, s3, s4, s5, s6, s7, s8, s9, s10, s11, y0, y1, y2, y3, y4, y5, y6, y7, y8, y9, y10, y11⟩ := z12_of z10.out
          go_wp2_with fail
          have f3 : Blk (st12 w10 gR (.int .i64 m.k) (.int .i64 m.a) (.int .i64 m.s) (.bool m.x) (.int .i64 m.p) (.int .i64 m.q) (.int .i64 m.n) (.int .i64 m.t) (.int .i64 m.i) (.int .i64 m.y) (.int .i64 m.z) (.int .i64 m.v)) gR 25 #[.int .i64 m.k, .int .i64 m.a, .int .i64 m.s, .bool m.x, .int .i64 m.p, .int .i64 m.q, .int .i64 m.n, .int .i64 m.t, .int .i64 m.i, .int .i64 m.y, .int .i64 m.z, .int .i64 m.v] := st12_blk z10.out
          have hB : Below w.heap.size w (st12 w10 gR (.int .i64 m.k) (.int .i64 m.a) (.int .i64 m.s) (.bool m.x) (.int .i64 m.p) (.int .i64 m.q) (.int .i64 m.n) (.int .i64 m.t) (.int .i64 m.i) (.int .i64 m.y) (.int .i64 m.z) (.int .i64 m.v)) := st12_below b10.out hg.out
          obtain ⟨e0, e1, e2, e3, e4, e5, e6, e7, e8, e9, e10, e11⟩ := c12_of f3
          unfold st12 at e0 e1 e2 e3 e4 e5 e6 e7 e8 e9 e10 e11 hB
          exact bodyPost_ret (v := .tuple #[.agg #[.int .i64 m.k, .int .i64 m.a, .int .i64 m.s, .bool m.x, .int .i64 m.p, .int .i64 m.q, .int .i64 m.n, .int .i64 m.t, .int .i64 m.i, .int .i64 m.y, .int .i64 m.z, .int .i64 m.v], .bool true]) (by simp [results, Tryz.results6, go_sem, e0, e1, e2, e3, e4, e5, e6, e7, e8, e9, e10, e11]) rfl ⟨by rw [hP.out]; first | rfl | (rw [hmv.out]), hB⟩
        · have hP : Hid (parseR l = (m0, false)) := κ (by rw [hR.out, if_pos (Or.inr hq)])
          have q2 : (lm == l) = false := beq_eq_false_iff_ne.2 hq
          clear hR hq hl0
          go_wp2_with fail
          refine (RL.out _).mono ?_
          rintro e w10 ⟨rfl, hb10⟩
          have b10 := κ (CrdB.below_step b9.out hb10)
          have z10 := κ (z9.out.below' hb10)
          have k10 := κ (KX.out.below' hb10)
          clear hb10 b9 z9 KX RL j0 j1 j2 j3 j4 j5 j6 j7 j8 j9 j10 j11
          obtain ⟨j0, j1, j2, j3, j4, j5, j6, j7, j8, j9, j10, j11⟩ := c12_of k10.out
          obtain ⟨s0, s1, s2, s3, s4, s5, s6, s7, s8, s9, s10, s11, y0, y1, y2, y3, y4, y5, y6, y7, y8, y9, y10, y11⟩ := z12_of z10.out
          go_wp2_with fail
          have f3 : Blk (st12 w10 gR (.int .i64 0) (.int .i64 0) (.int .i64 0) (.bool false) (.int .i64 0) (.int .i64 0) (.int .i64 0) (.int .i64 0) (.int .i64 0) (.int .i64 0) (.int .i64 0) (.int .i64 0)) gR 25 #[.int .i64 0, .int .i64 0, .int .i64 0, .bool false, .int .i64 0, .int .i64 0, .int .i64 0, .int .i64 0, .int .i64 0, .int .i64 0, .int .i64 0, .int .i64 0] := st12_blk z10.out
          have hB : Below w.heap.size w (st12 w10 gR (.int .i64 0) (.int .i64 0) (.int .i64 0) (.bool false) (.int .i64 0) (.int .i64 0) (.int .i64 0) (.int .i64 0) (.int .i64 0) (.int .i64 0) (.int .i64 0) (.int .i64 0)) := st12_below b10.out hg.out
          obtain ⟨e0, e1, e2, e3, e4, e5, e6, e7, e8, e9, e10, e11⟩ := c12_of f3
          unfold st12 at e0 e1 e2 e3 e4 e5 e6 e7 e8 e9 e10 e11 hB
          exact bodyPost_ret (v := .tuple #[.agg #[.int .i64 0, .int .i64 0, .int .i64 0, .bool false, .int .i64 0, .int .i64 0, .int .i64 0, .int .i64 0, .int .i64 0, .int .i64 0, .int .i64 0, .int .i64 0], .bool false]) (by simp [results, Tryz.results6, go_sem, e0, e1, e2, e3, e4, e5, e6, e7, e8, e9, e10, e11]) rfl ⟨by rw [hP.out]; first | rfl | (rw [hmv.out]), hB⟩
end Rsp
namespace Wto
open Tre Ref3 Law3 Fix3 CrdB CrdC Rr4 Rul3 St7 Rul6
theorem to_any (m : M) (w : World) : Calls Tryz.prog 8 #[mvl m] w (MadeM m w) := by
  obtain ⟨k, a, s, x, p, q, n, t, i, y, z, v⟩ := m
  show Calls Tryz.prog 8 #[.agg #[.int .i64 k, .int .i64 a, .int .i64 s, .bool x, .int .i64 p, .int .i64 q, .int .i64 n, .int .i64 t, .int .i64 i, .int .i64 y, .int .i64 z, .int .i64 v]] w (MadeM ⟨k, a, s, x, p, q, n, t, i, y, z, v⟩ w)
  have b0 : Hid (Below w.heap.size w ((w.alloc (.cells #[.int .i64 k, .int .i64 a, .int .i64 s, .bool x, .int .i64 p, .int .i64 q, .int .i64 n, .int .i64 t, .int .i64 i, .int .i64 y, .int .i64 z, .int .i64 v] 25)).alloc (.cells #[.int .i64 0, .int .i64 0, .int .i64 0, .bool false, .int .i64 0, .int .i64 0, .int .i64 0, .int .i64 0, .int .i64 0, .int .i64 0, .int .i64 0, .int .i64 0] 29))) := ((Below.refl _ _).alloc (Nat.le_refl _) _).alloc (by simp) _
  have k0 : Hid (Blk ((w.alloc (.cells #[.int .i64 k, .int .i64 a, .int .i64 s, .bool x, .int .i64 p, .int .i64 q, .int .i64 n, .int .i64 t, .int .i64 i, .int .i64 y, .int .i64 z, .int .i64 v] 25)).alloc (.cells #[.int .i64 0, .int .i64 0, .int .i64 0, .bool false, .int .i64 0, .int .i64 0, .int .i64 0, .int .i64 0, .int .i64 0, .int .i64 0, .int .i64 0, .int .i64 0] 29)) w.heap.size 25 #[.int .i64 k, .int .i64 a, .int .i64 s, .bool x, .int .i64 p, .int .i64 q, .int .i64 n, .int .i64 t, .int .i64 i, .int .i64 y, .int .i64 z, .int .i64 v]) := (Blk.fresh w _ _).alloc _
  have zB : Hid (Blk ((w.alloc (.cells #[.int .i64 k, .int .i64 a, .int .i64 s, .bool x, .int .i64 p, .int .i64 q, .int .i64 n, .int .i64 t, .int .i64 i, .int .i64 y, .int .i64 z, .int .i64 v] 25)).alloc (.cells #[.int .i64 0, .int .i64 0, .int .i64 0, .bool false, .int .i64 0, .int .i64 0, .int .i64 0, .int .i64 0, .int .i64 0, .int .i64 0, .int .i64 0, .int .i64 0] 29)) (w.heap.size + 1) 29 #[.int .i64 0, .int .i64 0, .int .i64 0, .bool false, .int .i64 0, .int .i64 0, .int .i64 0, .int .i64 0, .int .i64 0, .int .i64 0, .int .i64 0, .int .i64 0]) := blk_at (by simp)
  go_enter Tryz.func8, Tryz.ntmps8
  go_upto_region 1 with fail
  generalize ((w.alloc (.cells #[.int .i64 k, .int .i64 a, .int .i64 s, .bool x, .int .i64 p, .int .i64 q, .int .i64 n, .int .i64 t, .int .i64 i, .int .i64 y, .int .i64 z, .int .i64 v] 25)).alloc (.cells #[.int .i64 0, .int .i64 0, .int .i64 0, .bool false, .int .i64 0, .int .i64 0, .int .i64 0, .int .i64 0, .int .i64 0, .int .i64 0, .int .i64 0, .int .i64 0] 29)) = w0 at b0 k0 zB ⊢
  have hg : Hid (w.heap.size ≤ w.heap.size + 1) := by show _ ≤ _; omega
  have n1 : w.heap.size ≠ w.heap.size + 1 := by omega
  have n2 : w.heap.size + 1 ≠ w.heap.size := by omega
  generalize w.heap.size + 1 = gR at zB hg n1 n2 ⊢
  generalize hgM : w.heap.size = gM at k0 n1 n2 ⊢
  clear hgM
  have s0 : w0.cell? ⟨gM, 0, none⟩ = some (.int .i64 k) ∧ w0.cell? ⟨gM, 1, none⟩ = some (.int .i64 a) ∧ w0.cell? ⟨gM, 2, none⟩ = some (.int .i64 s) ∧ w0.cell? ⟨gM, 3, none⟩ = some (.bool x) ∧ w0.cell? ⟨gM, 4, none⟩ = some (.int .i64 p) ∧ w0.cell? ⟨gM, 5, none⟩ = some (.int .i64 q) ∧ w0.cell? ⟨gM, 6, none⟩ = some (.int .i64 n) ∧ w0.cell? ⟨gM, 7, none⟩ = some (.int .i64 t) ∧ w0.cell? ⟨gM, 8, none⟩ = some (.int .i64 i) ∧ w0.cell? ⟨gM, 9, none⟩ = some (.int .i64 y) ∧ w0.cell? ⟨gM, 10, none⟩ = some (.int .i64 z) ∧ w0.cell? ⟨gM, 11, none⟩ = some (.int .i64 v) := c12_of k0.out
  obtain ⟨z0, z1, z2, z3, z4, z5, z6, z7, z8, z9, z10, z11, y0, y1, y2, y3, y4, y5, y6, y7, y8, y9, y10, y11⟩ := z12_of zB.out
  go_region_held3 (fun w' => w'.cell? ⟨gM, 0, none⟩ = some (.int .i64 k) ∧ w'.cell? ⟨gM, 1, none⟩ = some (.int .i64 a) ∧ w'.cell? ⟨gM, 2, none⟩ = some (.int .i64 s) ∧ w'.cell? ⟨gM, 3, none⟩ = some (.bool x) ∧ w'.cell? ⟨gM, 4, none⟩ = some (.int .i64 p) ∧ w'.cell? ⟨gM, 5, none⟩ = some (.int .i64 q) ∧ w'.cell? ⟨gM, 6, none⟩ = some (.int .i64 n) ∧ w'.cell? ⟨gM, 7, none⟩ = some (.int .i64 t) ∧ w'.cell? ⟨gM, 8, none⟩ = some (.int .i64 i) ∧ w'.cell? ⟨gM, 9, none⟩ = some (.int .i64 y) ∧ w'.cell? ⟨gM, 10, none⟩ = some (.int .i64 z) ∧ w'.cell? ⟨gM, 11, none⟩ = some (.int .i64 v))
    (first | go_keep | (with_reducible assumption) | (exact q5))
    (first | (go_at_call 11; refine (order_any a s x p q n t _).mono ?_; rintro e w5 ⟨rfl, hb5⟩; have B5 : Hid (Below w.heap.size w w5) := below_step b0.out.drew hb5; have q5 : w5.cell? ⟨gM, 0, none⟩ = some (.int .i64 k) ∧ w5.cell? ⟨gM, 1, none⟩ = some (.int .i64 a) ∧ w5.cell? ⟨gM, 2, none⟩ = some (.int .i64 s) ∧ w5.cell? ⟨gM, 3, none⟩ = some (.bool x) ∧ w5.cell? ⟨gM, 4, none⟩ = some (.int .i64 p) ∧ w5.cell? ⟨gM, 5, none⟩ = some (.int .i64 q) ∧ w5.cell? ⟨gM, 6, none⟩ = some (.int .i64 n) ∧ w5.cell? ⟨gM, 7, none⟩ = some (.int .i64 t) ∧ w5.cell? ⟨gM, 8, none⟩ = some (.int .i64 i) ∧ w5.cell? ⟨gM, 9, none⟩ = some (.int .i64 y) ∧ w5.cell? ⟨gM, 10, none⟩ = some (.int .i64 z) ∧ w5.cell? ⟨gM, 11, none⟩ = some (.int .i64 v) := c12_of (Blk.below' (show Blk w0.drew gM 25 #[.int .i64 k, .int .i64 a, .int .i64 s, .bool x, .int .i64 p, .int .i64 q, .int .i64 n, .int .i64 t, .int .i64 i, .int .i64 y, .int .i64 z, .int .i64 v] from k0.out) hb5); have Z5 : Hid (Blk w5 gR 29 #[.int .i64 0, .int .i64 0, .int .i64 0, .bool false, .int .i64 0, .int .i64 0, .int .i64 0, .int .i64 0, .int .i64 0, .int .i64 0, .int .i64 0, .int .i64 0]) := Blk.below' (show Blk w0.drew gR 29 #[.int .i64 0, .int .i64 0, .int .i64 0, .bool false, .int .i64 0, .int .i64 0, .int .i64 0, .int .i64 0, .int .i64 0, .int .i64 0, .int .i64 0, .int .i64 0] from zB.out) hb5; have ⟨x0, x1, x2, x3, x4, x5, x6, x7, x8, x9, x10, x11, t0, t1, t2, t3, t4, t5, t6, t7, t8, t9, t10, t11⟩ := z12_of Z5.out))
  have f3 : Blk (st12 w5 gR (.int .i64 k) (.int .i64 a) (.int .i64 s) (.bool x) (.int .i64 p) (.int .i64 q) (.int .i64 n) (.int .i64 t) (.int .i64 i) (.int .i64 y) (.int .i64 z) (.int .i64 v)) gR 29 #[.int .i64 k, .int .i64 a, .int .i64 s, .bool x, .int .i64 p, .int .i64 q, .int .i64 n, .int .i64 t, .int .i64 i, .int .i64 y, .int .i64 z, .int .i64 v] := st12_blk Z5.out
  have hfin : MadeM ⟨k, a, s, x, p, q, n, t, i, y, z, v⟩ w (.returned (.agg #[.int .i64 k, .int .i64 a, .int .i64 s, .bool x, .int .i64 p, .int .i64 q, .int .i64 n, .int .i64 t, .int .i64 i, .int .i64 y, .int .i64 z, .int .i64 v])) (st12 w5 gR (.int .i64 k) (.int .i64 a) (.int .i64 s) (.bool x) (.int .i64 p) (.int .i64 q) (.int .i64 n) (.int .i64 t) (.int .i64 i) (.int .i64 y) (.int .i64 z) (.int .i64 v)) := ⟨rfl, st12_below B5.out hg.out⟩
  go_wp2_with fail
  obtain ⟨d0, d1, d2, d3, d4, d5, d6, d7, d8, d9, d10, d11⟩ := c12_of f3
  unfold st12 at d0 d1 d2 d3 d4 d5 d6 d7 d8 d9 d10 d11 hfin
  exact bodyPost_ret (v := .agg #[.int .i64 k, .int .i64 a, .int .i64 s, .bool x, .int .i64 p, .int .i64 q, .int .i64 n, .int .i64 t, .int .i64 i, .int .i64 y, .int .i64 z, .int .i64 v]) (by simp [results, Tryz.results8, go_sem, d0, d1, d2, d3, d4, d5, d6, d7, d8, d9, d10, d11]) rfl hfin
theorem from_any (m : M) (w : World) : Calls Tryz.prog 9 #[mvl m] w (MadeM m w) := by
  obtain ⟨k, a, s, x, p, q, n, t, i, y, z, v⟩ := m
  show Calls Tryz.prog 9 #[.agg #[.int .i64 k, .int .i64 a, .int .i64 s, .bool x, .int .i64 p, .int .i64 q, .int .i64 n, .int .i64 t, .int .i64 i, .int .i64 y, .int .i64 z, .int .i64 v]] w (MadeM ⟨k, a, s, x, p, q, n, t, i, y, z, v⟩ w)
  go_enter Tryz.func9, Tryz.ntmps9
  go_wp2_with fail
  exact bodyPost_ret (v := .agg #[.int .i64 k, .int .i64 a, .int .i64 s, .bool x, .int .i64 p, .int .i64 q, .int .i64 n, .int .i64 t, .int .i64 i, .int .i64 y, .int .i64 z, .int .i64 v]) (by simp [results, Tryz.results9, go_sem]) rfl ⟨rfl, (((Below.refl _ _).alloc (Nat.le_refl _) _).alloc (by simp) _).alloc (by simp <;> omega) _⟩
end Wto
namespace Sgu
open Kap Go.Lib St7 Rul6 Wto Spa Spm Shw
def MadeT (l : List (List UInt8)) (w : World) (e : Ending) (w' : World) : Prop := ∃ A c, e = .returned (.slice A l.length c) ∧ Txs w' w'.heap.size A l ∧ Below w.heap.size w w'
theorem splitN_any (s : List UInt8) (w : World) (hL : Hid (Lw w)) (hs : s.length ≤ 400) : Calls Tryz.prog 30 #[sv s, .string ⟨#[32]⟩, .int .i64 8] w (MadeT (splP s) w) := by
  obtain ⟨m, hm⟩ := hL.out.m
  have hz : (⟨s.toArray⟩ : ByteArray).size = s.length := rfl
  refine (Tryz.strings_SplitN ⟨s.toArray⟩ ⟨#[32]⟩ 8 m w (by omega) hm (by decide) (by omega) (by omega)).mono ?_
  rintro e w' ⟨rfl, rfl⟩
  have hd := splitB_data ⟨#[32]⟩ 0 (min 8 (s.length + 1) - 1) ⟨s.toArray⟩
  have hd : (splitB ⟨#[32]⟩ 0 (min 8 ((⟨s.toArray⟩ : ByteArray).size + 1) - 1) ⟨s.toArray⟩).map (·.data.toList) = splP s := hd
  generalize splitB ⟨#[32]⟩ 0 (min 8 ((⟨s.toArray⟩ : ByteArray).size + 1) - 1) ⟨s.toArray⟩ = ps at hd ⊢
  have hl : ps.length = (splP s).length := by rw [← hd, List.length_map]
  rw [hl]
  refine ⟨_, _, rfl, .inr ⟨_, _, rfl, by simp, ?_⟩, (Below.refl _ _).alloc (Nat.le_refl _) _⟩
  intro i v hv
  unfold stx at hv
  rw [← hd, List.map_map, List.getElem?_map] at hv
  rw [World.cell?_alloc_at _ _ _ _ rfl, Nat.zero_add]
  unfold cellsOf
  cases hp : ps[i]? with
  | none => rw [hp] at hv; cases hv
  | some x =>
    rw [hp] at hv
    injection hv with hv
    have hi : i < ps.length := (List.getElem?_eq_some_iff.1 hp).1
    rw [List.getElem?_toArray, List.getElem?_append_left (by simpa using hi), List.getElem?_map, hp, ← hv]
    rfl
theorem splP_len (s : List UInt8) : 1 ≤ (splP s).length ∧ (splP s).length ≤ 8 := by
  have h2 : ∀ (k : Nat) (s : List UInt8), 1 ≤ (splitK [32] 0 k s).length ∧ (splitK [32] 0 k s).length ≤ k + 1 := by
    intro k
    induction k with
    | zero => intro s; simp [splitK]
    | succ k ih =>
      intro s
      unfold splitK
      split
      · simp
      · have := ih (s.drop ((index s [32]).toNat + [(32 : UInt8)].length))
        simp only [List.length_cons] at this ⊢
        omega
  have := h2 (min 8 (s.length + 1) - 1) s
  unfold splP
  omega
theorem splP_each (s : List UInt8) (k : Nat) : (at0 (splP s) k).length ≤ s.length := by
  have h2 : ∀ (k : Nat) (s : List UInt8), ∀ x ∈ splitK [32] 0 k s, x.length ≤ s.length := by
    intro k
    induction k with
    | zero => intro s x hx; simp [splitK] at hx; subst hx; exact Nat.le_refl _
    | succ k ih =>
      intro s x hx
      unfold splitK at hx
      split at hx
      · simp at hx; subst hx; exact Nat.le_refl _
      · rcases List.mem_cons.1 hx with rfl | hx
        · rw [List.length_take]; omega
        · have := ih _ x hx
          rw [List.length_drop] at this
          omega
  unfold at0
  rw [List.getD_eq_getElem?_getD]
  cases h : (splP s)[k]? with
  | none => simp
  | some x => exact h2 _ _ x (List.mem_of_getElem? h)
theorem beq_dec (a b : List UInt8) : (a == b) = decide (a = b) := by
  by_cases h : a = b
  · rw [decide_eq_true h]; exact beq_iff_eq.2 h
  · rw [decide_eq_false h]; exact beq_eq_false_iff_ne.2 h
theorem beq_t {a b : List UInt8} (h : a = b) : (a == b) = true := beq_iff_eq.2 h
theorem beq_f {a b : List UInt8} (h : ¬ a = b) : (a == b) = false := beq_eq_false_iff_ne.2 h
theorem guess_any (s : List UInt8) (w : World) (hL : Hid (Lw w)) (hs : s.length ≤ 400) : Calls Tryz.prog 14 #[sv s] w (MadeM (guessP s) w) := by
  have b0 := κ (β w (.cells #[.int .i64 0, .int .i64 0, .int .i64 0, .bool false, .int .i64 0, .int .i64 0, .int .i64 0, .int .i64 0, .int .i64 0, .int .i64 0, .int .i64 0, .int .i64 0] 29))
  have z0 := κ (δ w 29 #[.int .i64 0, .int .i64 0, .int .i64 0, .bool false, .int .i64 0, .int .i64 0, .int .i64 0, .int .i64 0, .int .i64 0, .int .i64 0, .int .i64 0, .int .i64 0] w.heap.size rfl)
  have L0 := lwb hL b0.out
  go_enter Tryz.func14, Tryz.ntmps14
  go_wp2_with fail
  generalize w.alloc (.cells #[.int .i64 0, .int .i64 0, .int .i64 0, .bool false, .int .i64 0, .int .i64 0, .int .i64 0, .int .i64 0, .int .i64 0, .int .i64 0, .int .i64 0, .int .i64 0] 29) = w0 at b0 z0 L0 ⊢
  have hg : Hid (w.heap.size ≤ w.heap.size) := κ (Nat.le_refl _)
  generalize hgR : w.heap.size = gR at z0 ⊢
  have hg : Hid (w.heap.size ≤ gR) := κ (by omega)
  clear hgR
  refine (splitN_any s w0 L0 hs).mono ?_
  rintro e w1 ⟨A, c, rfl, ht1, hb1⟩
  have t1 := κ ht1
  have b1 := κ (CrdB.below_step b0.out hb1)
  have z1 := κ (z0.out.below' hb1)
  have L1 := lwb L0 hb1
  clear ht1 hb1 b0 z0 L0
  obtain ⟨hn1, hn8⟩ := splP_len s
  go_wp2_with fail
  refine (word_any A c (splP s) 0 w1 t1 (by omega) (by omega)).mono ?_
  rintro e w2 ⟨rfl, rfl⟩
  by_cases n0 : at0 (splP s) 0 = wOrder
  · have q0 : (at0 (splP s) 0 == [111, 114, 100, 101, 114]) = true := beq_t n0
    have hm : Hid (guessP s = { m0 with k := 0, a := numP (at0 (splP s) 1), s := numP (at0 (splP s) 2), x := decide (at0 (splP s) 3 = wSell), p := numP (at0 (splP s) 4), q := numP (at0 (splP s) 5), n := numP (at0 (splP s) 6), t := numP (at0 (splP s) 7) }) := κ (by unfold guessP guessW;  rw [if_pos n0])
    clear n0
    go_wp2_with fail
    refine (number_any A c (splP s) 1 w1 L1 t1 (by omega) (by omega) (κ (by have := splP_each s 1; omega))).mono ?_
    rintro e w2 ⟨rfl, hb2⟩
    have t2 := κ (Rd.below' t1.out hb2 hb2.size)
    have b2 := κ (CrdB.below_step b1.out hb2)
    have z2 := κ (z1.out.below' hb2)
    have L2 := lwb L1 hb2
    clear hb2 b1 t1 L1 z1
    go_wp2_with fail
    refine (number_any A c (splP s) 2 w2 L2 t2 (by omega) (by omega) (κ (by have := splP_each s 2; omega))).mono ?_
    rintro e w3 ⟨rfl, hb3⟩
    have t3 := κ (Rd.below' t2.out hb3 hb3.size)
    have b3 := κ (CrdB.below_step b2.out hb3)
    have z3 := κ (z2.out.below' hb3)
    have L3 := lwb L2 hb3
    clear hb3 b2 t2 L2 z2
    go_wp2_with fail
    refine (word_any A c (splP s) 3 w3 t3 (by omega) (by omega)).mono ?_
    rintro e w2 ⟨rfl, rfl⟩
    have q8 : (at0 (splP s) 3 == [115, 101, 108, 108]) = decide (at0 (splP s) 3 = wSell) := beq_dec _ _
    go_wp2_with fail
    refine (number_any A c (splP s) 4 w3 L3 t3 (by omega) (by omega) (κ (by have := splP_each s 4; omega))).mono ?_
    rintro e w4 ⟨rfl, hb4⟩
    have t4 := κ (Rd.below' t3.out hb4 hb4.size)
    have b4 := κ (CrdB.below_step b3.out hb4)
    have z4 := κ (z3.out.below' hb4)
    have L4 := lwb L3 hb4
    clear hb4 b3 t3 L3 z3
    go_wp2_with fail
    refine (number_any A c (splP s) 5 w4 L4 t4 (by omega) (by omega) (κ (by have := splP_each s 5; omega))).mono ?_
    rintro e w5 ⟨rfl, hb5⟩
    have t5 := κ (Rd.below' t4.out hb5 hb5.size)
    have b5 := κ (CrdB.below_step b4.out hb5)
    have z5 := κ (z4.out.below' hb5)
    have L5 := lwb L4 hb5
    clear hb5 b4 t4 L4 z4
    go_wp2_with fail
    refine (number_any A c (splP s) 6 w5 L5 t5 (by omega) (by omega) (κ (by have := splP_each s 6; omega))).mono ?_
    rintro e w6 ⟨rfl, hb6⟩
    have t6 := κ (Rd.below' t5.out hb6 hb6.size)
    have b6 := κ (CrdB.below_step b5.out hb6)
    have z6 := κ (z5.out.below' hb6)
    have L6 := lwb L5 hb6
    clear hb6 b5 t5 L5 z5
    go_wp2_with fail
    refine (number_any A c (splP s) 7 w6 L6 t6 (by omega) (by omega) (κ (by have := splP_each s 7; omega))).mono ?_
    rintro e w7 ⟨rfl, hb7⟩
    have t7 := κ (Rd.below' t6.out hb7 hb7.size)
    have b7 := κ (CrdB.below_step b6.out hb7)
    have z7 := κ (z6.out.below' hb7)
    have L7 := lwb L6 hb7
    clear hb7 b6 t6 L6 z6
    obtain ⟨s0, s1, s2, s3, s4, s5, s6, s7, s8, s9, s10, s11, y0, y1, y2, y3, y4, y5, y6, y7, y8, y9, y10, y11⟩ := z12_of z7.out
    go_wp2_with fail
    have f3 : Blk (st12 w7 gR (.int .i64 0) (.int .i64 (numP (at0 (splP s) 1))) (.int .i64 (numP (at0 (splP s) 2))) (.bool (decide (at0 (splP s) 3 = wSell))) (.int .i64 (numP (at0 (splP s) 4))) (.int .i64 (numP (at0 (splP s) 5))) (.int .i64 (numP (at0 (splP s) 6))) (.int .i64 (numP (at0 (splP s) 7))) (.int .i64 0) (.int .i64 0) (.int .i64 0) (.int .i64 0)) gR 29 #[.int .i64 0, .int .i64 (numP (at0 (splP s) 1)), .int .i64 (numP (at0 (splP s) 2)), .bool (decide (at0 (splP s) 3 = wSell)), .int .i64 (numP (at0 (splP s) 4)), .int .i64 (numP (at0 (splP s) 5)), .int .i64 (numP (at0 (splP s) 6)), .int .i64 (numP (at0 (splP s) 7)), .int .i64 0, .int .i64 0, .int .i64 0, .int .i64 0] := st12_blk z7.out
    have hb : Below w.heap.size w (st12 w7 gR (.int .i64 0) (.int .i64 (numP (at0 (splP s) 1))) (.int .i64 (numP (at0 (splP s) 2))) (.bool (decide (at0 (splP s) 3 = wSell))) (.int .i64 (numP (at0 (splP s) 4))) (.int .i64 (numP (at0 (splP s) 5))) (.int .i64 (numP (at0 (splP s) 6))) (.int .i64 (numP (at0 (splP s) 7))) (.int .i64 0) (.int .i64 0) (.int .i64 0) (.int .i64 0)) := st12_below b7.out hg.out
    obtain ⟨d0, d1, d2, d3, d4, d5, d6, d7, d8, d9, d10, d11⟩ := c12_of f3
    unfold st12 at d0 d1 d2 d3 d4 d5 d6 d7 d8 d9 d10 d11 hb
    rw [hm.out]
    exact bodyPost_ret (v := .agg #[.int .i64 0, .int .i64 (numP (at0 (splP s) 1)), .int .i64 (numP (at0 (splP s) 2)), .bool (decide (at0 (splP s) 3 = wSell)), .int .i64 (numP (at0 (splP s) 4)), .int .i64 (numP (at0 (splP s) 5)), .int .i64 (numP (at0 (splP s) 6)), .int .i64 (numP (at0 (splP s) 7)), .int .i64 0, .int .i64 0, .int .i64 0, .int .i64 0]) (by simp [results, Tryz.results14, go_sem, d0, d1, d2, d3, d4, d5, d6, d7, d8, d9, d10, d11]) rfl ⟨rfl, hb⟩
  by_cases n1 : at0 (splP s) 0 = wCancel
  · have q0 : (at0 (splP s) 0 == [111, 114, 100, 101, 114]) = false := beq_f n0
    have q1 : (at0 (splP s) 0 == [99, 97, 110, 99, 101, 108]) = true := beq_t n1
    have hm : Hid (guessP s = { m0 with k := 1, i := numP (at0 (splP s) 1) }) := κ (by unfold guessP guessW; rw [if_neg n0]; rw [if_pos n1])
    clear n0 n1
    go_wp2_with fail
    refine (number_any A c (splP s) 1 w1 L1 t1 (by omega) (by omega) (κ (by have := splP_each s 1; omega))).mono ?_
    rintro e w2 ⟨rfl, hb2⟩
    have t2 := κ (Rd.below' t1.out hb2 hb2.size)
    have b2 := κ (CrdB.below_step b1.out hb2)
    have z2 := κ (z1.out.below' hb2)
    have L2 := lwb L1 hb2
    clear hb2 b1 t1 L1 z1
    obtain ⟨s0, s1, s2, s3, s4, s5, s6, s7, s8, s9, s10, s11, y0, y1, y2, y3, y4, y5, y6, y7, y8, y9, y10, y11⟩ := z12_of z2.out
    go_wp2_with fail
    have f3 : Blk (st12 w2 gR (.int .i64 1) (.int .i64 0) (.int .i64 0) (.bool false) (.int .i64 0) (.int .i64 0) (.int .i64 0) (.int .i64 0) (.int .i64 (numP (at0 (splP s) 1))) (.int .i64 0) (.int .i64 0) (.int .i64 0)) gR 29 #[.int .i64 1, .int .i64 0, .int .i64 0, .bool false, .int .i64 0, .int .i64 0, .int .i64 0, .int .i64 0, .int .i64 (numP (at0 (splP s) 1)), .int .i64 0, .int .i64 0, .int .i64 0] := st12_blk z2.out
    have hb : Below w.heap.size w (st12 w2 gR (.int .i64 1) (.int .i64 0) (.int .i64 0) (.bool false) (.int .i64 0) (.int .i64 0) (.int .i64 0) (.int .i64 0) (.int .i64 (numP (at0 (splP s) 1))) (.int .i64 0) (.int .i64 0) (.int .i64 0)) := st12_below b2.out hg.out
    obtain ⟨d0, d1, d2, d3, d4, d5, d6, d7, d8, d9, d10, d11⟩ := c12_of f3
    unfold st12 at d0 d1 d2 d3 d4 d5 d6 d7 d8 d9 d10 d11 hb
    rw [hm.out]
    exact bodyPost_ret (v := .agg #[.int .i64 1, .int .i64 0, .int .i64 0, .bool false, .int .i64 0, .int .i64 0, .int .i64 0, .int .i64 0, .int .i64 (numP (at0 (splP s) 1)), .int .i64 0, .int .i64 0, .int .i64 0]) (by simp [results, Tryz.results14, go_sem, d0, d1, d2, d3, d4, d5, d6, d7, d8, d9, d10, d11]) rfl ⟨rfl, hb⟩
  by_cases n2 : at0 (splP s) 0 = wFill
  · have q0 : (at0 (splP s) 0 == [111, 114, 100, 101, 114]) = false := beq_f n0
    have q1 : (at0 (splP s) 0 == [99, 97, 110, 99, 101, 108]) = false := beq_f n1
    have q2 : (at0 (splP s) 0 == [102, 105, 108, 108]) = true := beq_t n2
    have hm : Hid (guessP s = { m0 with k := 2, i := numP (at0 (splP s) 1), y := numP (at0 (splP s) 2) }) := κ (by unfold guessP guessW; rw [if_neg n0]; rw [if_neg n1]; rw [if_pos n2])
    clear n0 n1 n2
    go_wp2_with fail
    refine (number_any A c (splP s) 1 w1 L1 t1 (by omega) (by omega) (κ (by have := splP_each s 1; omega))).mono ?_
    rintro e w2 ⟨rfl, hb2⟩
    have t2 := κ (Rd.below' t1.out hb2 hb2.size)
    have b2 := κ (CrdB.below_step b1.out hb2)
    have z2 := κ (z1.out.below' hb2)
    have L2 := lwb L1 hb2
    clear hb2 b1 t1 L1 z1
    go_wp2_with fail
    refine (number_any A c (splP s) 2 w2 L2 t2 (by omega) (by omega) (κ (by have := splP_each s 2; omega))).mono ?_
    rintro e w3 ⟨rfl, hb3⟩
    have t3 := κ (Rd.below' t2.out hb3 hb3.size)
    have b3 := κ (CrdB.below_step b2.out hb3)
    have z3 := κ (z2.out.below' hb3)
    have L3 := lwb L2 hb3
    clear hb3 b2 t2 L2 z2
    obtain ⟨s0, s1, s2, s3, s4, s5, s6, s7, s8, s9, s10, s11, y0, y1, y2, y3, y4, y5, y6, y7, y8, y9, y10, y11⟩ := z12_of z3.out
    go_wp2_with fail
    have f3 : Blk (st12 w3 gR (.int .i64 2) (.int .i64 0) (.int .i64 0) (.bool false) (.int .i64 0) (.int .i64 0) (.int .i64 0) (.int .i64 0) (.int .i64 (numP (at0 (splP s) 1))) (.int .i64 (numP (at0 (splP s) 2))) (.int .i64 0) (.int .i64 0)) gR 29 #[.int .i64 2, .int .i64 0, .int .i64 0, .bool false, .int .i64 0, .int .i64 0, .int .i64 0, .int .i64 0, .int .i64 (numP (at0 (splP s) 1)), .int .i64 (numP (at0 (splP s) 2)), .int .i64 0, .int .i64 0] := st12_blk z3.out
    have hb : Below w.heap.size w (st12 w3 gR (.int .i64 2) (.int .i64 0) (.int .i64 0) (.bool false) (.int .i64 0) (.int .i64 0) (.int .i64 0) (.int .i64 0) (.int .i64 (numP (at0 (splP s) 1))) (.int .i64 (numP (at0 (splP s) 2))) (.int .i64 0) (.int .i64 0)) := st12_below b3.out hg.out
    obtain ⟨d0, d1, d2, d3, d4, d5, d6, d7, d8, d9, d10, d11⟩ := c12_of f3
    unfold st12 at d0 d1 d2 d3 d4 d5 d6 d7 d8 d9 d10 d11 hb
    rw [hm.out]
    exact bodyPost_ret (v := .agg #[.int .i64 2, .int .i64 0, .int .i64 0, .bool false, .int .i64 0, .int .i64 0, .int .i64 0, .int .i64 0, .int .i64 (numP (at0 (splP s) 1)), .int .i64 (numP (at0 (splP s) 2)), .int .i64 0, .int .i64 0]) (by simp [results, Tryz.results14, go_sem, d0, d1, d2, d3, d4, d5, d6, d7, d8, d9, d10, d11]) rfl ⟨rfl, hb⟩
  by_cases n3 : at0 (splP s) 0 = wAck
  · have q0 : (at0 (splP s) 0 == [111, 114, 100, 101, 114]) = false := beq_f n0
    have q1 : (at0 (splP s) 0 == [99, 97, 110, 99, 101, 108]) = false := beq_f n1
    have q2 : (at0 (splP s) 0 == [102, 105, 108, 108]) = false := beq_f n2
    have q3 : (at0 (splP s) 0 == [97, 99, 107]) = true := beq_t n3
    have hm : Hid (guessP s = { m0 with k := 3, i := numP (at0 (splP s) 1) }) := κ (by unfold guessP guessW; rw [if_neg n0]; rw [if_neg n1]; rw [if_neg n2]; rw [if_pos n3])
    clear n0 n1 n2 n3
    go_wp2_with fail
    refine (number_any A c (splP s) 1 w1 L1 t1 (by omega) (by omega) (κ (by have := splP_each s 1; omega))).mono ?_
    rintro e w2 ⟨rfl, hb2⟩
    have t2 := κ (Rd.below' t1.out hb2 hb2.size)
    have b2 := κ (CrdB.below_step b1.out hb2)
    have z2 := κ (z1.out.below' hb2)
    have L2 := lwb L1 hb2
    clear hb2 b1 t1 L1 z1
    obtain ⟨s0, s1, s2, s3, s4, s5, s6, s7, s8, s9, s10, s11, y0, y1, y2, y3, y4, y5, y6, y7, y8, y9, y10, y11⟩ := z12_of z2.out
    go_wp2_with fail
    have f3 : Blk (st12 w2 gR (.int .i64 3) (.int .i64 0) (.int .i64 0) (.bool false) (.int .i64 0) (.int .i64 0) (.int .i64 0) (.int .i64 0) (.int .i64 (numP (at0 (splP s) 1))) (.int .i64 0) (.int .i64 0) (.int .i64 0)) gR 29 #[.int .i64 3, .int .i64 0, .int .i64 0, .bool false, .int .i64 0, .int .i64 0, .int .i64 0, .int .i64 0, .int .i64 (numP (at0 (splP s) 1)), .int .i64 0, .int .i64 0, .int .i64 0] := st12_blk z2.out
    have hb : Below w.heap.size w (st12 w2 gR (.int .i64 3) (.int .i64 0) (.int .i64 0) (.bool false) (.int .i64 0) (.int .i64 0) (.int .i64 0) (.int .i64 0) (.int .i64 (numP (at0 (splP s) 1))) (.int .i64 0) (.int .i64 0) (.int .i64 0)) := st12_below b2.out hg.out
    obtain ⟨d0, d1, d2, d3, d4, d5, d6, d7, d8, d9, d10, d11⟩ := c12_of f3
    unfold st12 at d0 d1 d2 d3 d4 d5 d6 d7 d8 d9 d10 d11 hb
    rw [hm.out]
    exact bodyPost_ret (v := .agg #[.int .i64 3, .int .i64 0, .int .i64 0, .bool false, .int .i64 0, .int .i64 0, .int .i64 0, .int .i64 0, .int .i64 (numP (at0 (splP s) 1)), .int .i64 0, .int .i64 0, .int .i64 0]) (by simp [results, Tryz.results14, go_sem, d0, d1, d2, d3, d4, d5, d6, d7, d8, d9, d10, d11]) rfl ⟨rfl, hb⟩
  by_cases n4 : at0 (splP s) 0 = wKill
  · have q0 : (at0 (splP s) 0 == [111, 114, 100, 101, 114]) = false := beq_f n0
    have q1 : (at0 (splP s) 0 == [99, 97, 110, 99, 101, 108]) = false := beq_f n1
    have q2 : (at0 (splP s) 0 == [102, 105, 108, 108]) = false := beq_f n2
    have q3 : (at0 (splP s) 0 == [97, 99, 107]) = false := beq_f n3
    have q4 : (at0 (splP s) 0 == [107, 105, 108, 108]) = true := beq_t n4
    have hm : Hid (guessP s = { m0 with k := 4 }) := κ (by unfold guessP guessW; rw [if_neg n0]; rw [if_neg n1]; rw [if_neg n2]; rw [if_neg n3]; rw [if_pos n4])
    clear n0 n1 n2 n3 n4
    obtain ⟨s0, s1, s2, s3, s4, s5, s6, s7, s8, s9, s10, s11, y0, y1, y2, y3, y4, y5, y6, y7, y8, y9, y10, y11⟩ := z12_of z1.out
    go_wp2_with fail
    have f3 : Blk (st12 w1 gR (.int .i64 4) (.int .i64 0) (.int .i64 0) (.bool false) (.int .i64 0) (.int .i64 0) (.int .i64 0) (.int .i64 0) (.int .i64 0) (.int .i64 0) (.int .i64 0) (.int .i64 0)) gR 29 #[.int .i64 4, .int .i64 0, .int .i64 0, .bool false, .int .i64 0, .int .i64 0, .int .i64 0, .int .i64 0, .int .i64 0, .int .i64 0, .int .i64 0, .int .i64 0] := st12_blk z1.out
    have hb : Below w.heap.size w (st12 w1 gR (.int .i64 4) (.int .i64 0) (.int .i64 0) (.bool false) (.int .i64 0) (.int .i64 0) (.int .i64 0) (.int .i64 0) (.int .i64 0) (.int .i64 0) (.int .i64 0) (.int .i64 0)) := st12_below b1.out hg.out
    obtain ⟨d0, d1, d2, d3, d4, d5, d6, d7, d8, d9, d10, d11⟩ := c12_of f3
    unfold st12 at d0 d1 d2 d3 d4 d5 d6 d7 d8 d9 d10 d11 hb
    rw [hm.out]
    exact bodyPost_ret (v := .agg #[.int .i64 4, .int .i64 0, .int .i64 0, .bool false, .int .i64 0, .int .i64 0, .int .i64 0, .int .i64 0, .int .i64 0, .int .i64 0, .int .i64 0, .int .i64 0]) (by simp [results, Tryz.results14, go_sem, d0, d1, d2, d3, d4, d5, d6, d7, d8, d9, d10, d11]) rfl ⟨rfl, hb⟩
  by_cases n5 : at0 (splP s) 0 = wRearm
  · have q0 : (at0 (splP s) 0 == [111, 114, 100, 101, 114]) = false := beq_f n0
    have q1 : (at0 (splP s) 0 == [99, 97, 110, 99, 101, 108]) = false := beq_f n1
    have q2 : (at0 (splP s) 0 == [102, 105, 108, 108]) = false := beq_f n2
    have q3 : (at0 (splP s) 0 == [97, 99, 107]) = false := beq_f n3
    have q4 : (at0 (splP s) 0 == [107, 105, 108, 108]) = false := beq_f n4
    have q5 : (at0 (splP s) 0 == [114, 101, 97, 114, 109]) = true := beq_t n5
    have hm : Hid (guessP s = { m0 with k := 5 }) := κ (by unfold guessP guessW; rw [if_neg n0]; rw [if_neg n1]; rw [if_neg n2]; rw [if_neg n3]; rw [if_neg n4]; rw [if_pos n5])
    clear n0 n1 n2 n3 n4 n5
    obtain ⟨s0, s1, s2, s3, s4, s5, s6, s7, s8, s9, s10, s11, y0, y1, y2, y3, y4, y5, y6, y7, y8, y9, y10, y11⟩ := z12_of z1.out
    go_wp2_with fail
    have f3 : Blk (st12 w1 gR (.int .i64 5) (.int .i64 0) (.int .i64 0) (.bool false) (.int .i64 0) (.int .i64 0) (.int .i64 0) (.int .i64 0) (.int .i64 0) (.int .i64 0) (.int .i64 0) (.int .i64 0)) gR 29 #[.int .i64 5, .int .i64 0, .int .i64 0, .bool false, .int .i64 0, .int .i64 0, .int .i64 0, .int .i64 0, .int .i64 0, .int .i64 0, .int .i64 0, .int .i64 0] := st12_blk z1.out
    have hb : Below w.heap.size w (st12 w1 gR (.int .i64 5) (.int .i64 0) (.int .i64 0) (.bool false) (.int .i64 0) (.int .i64 0) (.int .i64 0) (.int .i64 0) (.int .i64 0) (.int .i64 0) (.int .i64 0) (.int .i64 0)) := st12_below b1.out hg.out
    obtain ⟨d0, d1, d2, d3, d4, d5, d6, d7, d8, d9, d10, d11⟩ := c12_of f3
    unfold st12 at d0 d1 d2 d3 d4 d5 d6 d7 d8 d9 d10 d11 hb
    rw [hm.out]
    exact bodyPost_ret (v := .agg #[.int .i64 5, .int .i64 0, .int .i64 0, .bool false, .int .i64 0, .int .i64 0, .int .i64 0, .int .i64 0, .int .i64 0, .int .i64 0, .int .i64 0, .int .i64 0]) (by simp [results, Tryz.results14, go_sem, d0, d1, d2, d3, d4, d5, d6, d7, d8, d9, d10, d11]) rfl ⟨rfl, hb⟩
  by_cases n6 : at0 (splP s) 0 = wLimit
  · have q0 : (at0 (splP s) 0 == [111, 114, 100, 101, 114]) = false := beq_f n0
    have q1 : (at0 (splP s) 0 == [99, 97, 110, 99, 101, 108]) = false := beq_f n1
    have q2 : (at0 (splP s) 0 == [102, 105, 108, 108]) = false := beq_f n2
    have q3 : (at0 (splP s) 0 == [97, 99, 107]) = false := beq_f n3
    have q4 : (at0 (splP s) 0 == [107, 105, 108, 108]) = false := beq_f n4
    have q5 : (at0 (splP s) 0 == [114, 101, 97, 114, 109]) = false := beq_f n5
    have q6 : (at0 (splP s) 0 == [108, 105, 109, 105, 116]) = true := beq_t n6
    have hm : Hid (guessP s = { m0 with k := 6, z := numP (at0 (splP s) 1), v := numP (at0 (splP s) 2) }) := κ (by unfold guessP guessW; rw [if_neg n0]; rw [if_neg n1]; rw [if_neg n2]; rw [if_neg n3]; rw [if_neg n4]; rw [if_neg n5]; rw [if_pos n6])
    clear n0 n1 n2 n3 n4 n5 n6
    go_wp2_with fail
    refine (number_any A c (splP s) 1 w1 L1 t1 (by omega) (by omega) (κ (by have := splP_each s 1; omega))).mono ?_
    rintro e w2 ⟨rfl, hb2⟩
    have t2 := κ (Rd.below' t1.out hb2 hb2.size)
    have b2 := κ (CrdB.below_step b1.out hb2)
    have z2 := κ (z1.out.below' hb2)
    have L2 := lwb L1 hb2
    clear hb2 b1 t1 L1 z1
    go_wp2_with fail
    refine (number_any A c (splP s) 2 w2 L2 t2 (by omega) (by omega) (κ (by have := splP_each s 2; omega))).mono ?_
    rintro e w3 ⟨rfl, hb3⟩
    have t3 := κ (Rd.below' t2.out hb3 hb3.size)
    have b3 := κ (CrdB.below_step b2.out hb3)
    have z3 := κ (z2.out.below' hb3)
    have L3 := lwb L2 hb3
    clear hb3 b2 t2 L2 z2
    obtain ⟨s0, s1, s2, s3, s4, s5, s6, s7, s8, s9, s10, s11, y0, y1, y2, y3, y4, y5, y6, y7, y8, y9, y10, y11⟩ := z12_of z3.out
    go_wp2_with fail
    have f3 : Blk (st12 w3 gR (.int .i64 6) (.int .i64 0) (.int .i64 0) (.bool false) (.int .i64 0) (.int .i64 0) (.int .i64 0) (.int .i64 0) (.int .i64 0) (.int .i64 0) (.int .i64 (numP (at0 (splP s) 1))) (.int .i64 (numP (at0 (splP s) 2)))) gR 29 #[.int .i64 6, .int .i64 0, .int .i64 0, .bool false, .int .i64 0, .int .i64 0, .int .i64 0, .int .i64 0, .int .i64 0, .int .i64 0, .int .i64 (numP (at0 (splP s) 1)), .int .i64 (numP (at0 (splP s) 2))] := st12_blk z3.out
    have hb : Below w.heap.size w (st12 w3 gR (.int .i64 6) (.int .i64 0) (.int .i64 0) (.bool false) (.int .i64 0) (.int .i64 0) (.int .i64 0) (.int .i64 0) (.int .i64 0) (.int .i64 0) (.int .i64 (numP (at0 (splP s) 1))) (.int .i64 (numP (at0 (splP s) 2)))) := st12_below b3.out hg.out
    obtain ⟨d0, d1, d2, d3, d4, d5, d6, d7, d8, d9, d10, d11⟩ := c12_of f3
    unfold st12 at d0 d1 d2 d3 d4 d5 d6 d7 d8 d9 d10 d11 hb
    rw [hm.out]
    exact bodyPost_ret (v := .agg #[.int .i64 6, .int .i64 0, .int .i64 0, .bool false, .int .i64 0, .int .i64 0, .int .i64 0, .int .i64 0, .int .i64 0, .int .i64 0, .int .i64 (numP (at0 (splP s) 1)), .int .i64 (numP (at0 (splP s) 2))]) (by simp [results, Tryz.results14, go_sem, d0, d1, d2, d3, d4, d5, d6, d7, d8, d9, d10, d11]) rfl ⟨rfl, hb⟩
  have q0 : (at0 (splP s) 0 == [111, 114, 100, 101, 114]) = false := beq_f n0
  have q1 : (at0 (splP s) 0 == [99, 97, 110, 99, 101, 108]) = false := beq_f n1
  have q2 : (at0 (splP s) 0 == [102, 105, 108, 108]) = false := beq_f n2
  have q3 : (at0 (splP s) 0 == [97, 99, 107]) = false := beq_f n3
  have q4 : (at0 (splP s) 0 == [107, 105, 108, 108]) = false := beq_f n4
  have q5 : (at0 (splP s) 0 == [114, 101, 97, 114, 109]) = false := beq_f n5
  have q6 : (at0 (splP s) 0 == [108, 105, 109, 105, 116]) = false := beq_f n6
  have hm : Hid (guessP s = m0) := κ (by unfold guessP guessW; rw [if_neg n0]; rw [if_neg n1]; rw [if_neg n2]; rw [if_neg n3]; rw [if_neg n4]; rw [if_neg n5]; rw [if_neg n6])
  clear n0 n1 n2 n3 n4 n5 n6
  obtain ⟨s0, s1, s2, s3, s4, s5, s6, s7, s8, s9, s10, s11, y0, y1, y2, y3, y4, y5, y6, y7, y8, y9, y10, y11⟩ := z12_of z1.out
  go_wp2_with fail
  have f3 : Blk (st12 w1 gR (.int .i64 0) (.int .i64 0) (.int .i64 0) (.bool false) (.int .i64 0) (.int .i64 0) (.int .i64 0) (.int .i64 0) (.int .i64 0) (.int .i64 0) (.int .i64 0) (.int .i64 0)) gR 29 #[.int .i64 0, .int .i64 0, .int .i64 0, .bool false, .int .i64 0, .int .i64 0, .int .i64 0, .int .i64 0, .int .i64 0, .int .i64 0, .int .i64 0, .int .i64 0] := st12_blk z1.out
  have hb : Below w.heap.size w (st12 w1 gR (.int .i64 0) (.int .i64 0) (.int .i64 0) (.bool false) (.int .i64 0) (.int .i64 0) (.int .i64 0) (.int .i64 0) (.int .i64 0) (.int .i64 0) (.int .i64 0) (.int .i64 0)) := st12_below b1.out hg.out
  obtain ⟨d0, d1, d2, d3, d4, d5, d6, d7, d8, d9, d10, d11⟩ := c12_of f3
  unfold st12 at d0 d1 d2 d3 d4 d5 d6 d7 d8 d9 d10 d11 hb
  rw [hm.out]
  exact bodyPost_ret (v := .agg #[.int .i64 0, .int .i64 0, .int .i64 0, .bool false, .int .i64 0, .int .i64 0, .int .i64 0, .int .i64 0, .int .i64 0, .int .i64 0, .int .i64 0, .int .i64 0]) (by simp [results, Tryz.results14, go_sem, d0, d1, d2, d3, d4, d5, d6, d7, d8, d9, d10, d11]) rfl ⟨rfl, hb⟩
end Sgu
end Go.Proofs.YteclenloimbaeaaGreatDoor
