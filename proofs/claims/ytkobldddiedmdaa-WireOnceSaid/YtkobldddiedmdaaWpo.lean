/- Contract: an order's bytes put behind others, by wire. Condition: its numbers are not below 0. -/
import Derived.Test.YtkobldddiedmdaaWen
import Derived.Test.YtkobldddiedmdaaTl5
namespace Go.Proofs.Ytkobldddiedmdaa.Wpo
set_option maxRecDepth 100000
open Go.ChangeShapes Go.WideShapes Go.ChangeAt Go.RowKit Mem Tre Ref3 Law3 Fix3 CrdB CrdC Rr4 Wpl Wmr Wrt St7 Rul6 Wen Tl5
set_option linter.unusedVariables false
set_option linter.unusedSimpArgs false

theorem ix0 (p q n t : Int) (w : World) : (Instr.index 52 (.agg #[.int .i64 p, .int .i64 q, .int .i64 n, .int .i64 t]) (.int .i64 0)).run Try.prog w = .ok (.int .i64 p) w := by
  first | rfl | kernel_rfl
theorem ix1 (p q n t : Int) (w : World) : (Instr.index 52 (.agg #[.int .i64 p, .int .i64 q, .int .i64 n, .int .i64 t]) (.int .i64 1)).run Try.prog w = .ok (.int .i64 q) w := by
  first | rfl | kernel_rfl
theorem ix2 (p q n t : Int) (w : World) : (Instr.index 52 (.agg #[.int .i64 p, .int .i64 q, .int .i64 n, .int .i64 t]) (.int .i64 2)).run Try.prog w = .ok (.int .i64 n) w := by
  first | rfl | kernel_rfl
theorem ix3 (p q n t : Int) (w : World) : (Instr.index 52 (.agg #[.int .i64 p, .int .i64 q, .int .i64 n, .int .i64 t]) (.int .i64 3)).run Try.prog w = .ok (.int .i64 t) w := by
  first | rfl | kernel_rfl
attribute [local go_sem high] ix0 ix1 ix2 ix3
def pk (p q n t : Nat) : Nat → List UInt8
  | 0 => []
  | 1 => putB p 8
  | 2 => putB p 8 ++ putB q 8
  | 3 => putB p 8 ++ (putB q 8 ++ putB n 8)
  | _ => putB p 8 ++ (putB q 8 ++ (putB n 8 ++ putB t 8))
def ordL (a s : Nat) (x : Bool) (p q n t : Nat) : List UInt8 := putB a 2 ++ (putB s 2 ++ ([bitB x] ++ (putB p 8 ++ (putB q 8 ++ (putB n 8 ++ putB t 8)))))
theorem pk_len (p q n t j : Nat) (h : j ≤ 4) : (pk p q n t j).length = 8 * j := by
  rcases (by omega : j = 0 ∨ j = 1 ∨ j = 2 ∨ j = 3 ∨ j = 4) with h | h | h | h | h <;> subst h <;> simp [pk, putB_len]
def nth4 (p q n t : Int) (j : Nat) : Int := if j = 0 then p else if j = 1 then q else if j = 2 then n else t
theorem pk_step (p q n t : Int) (j : Nat) (h : j < 4) : pk p.toNat q.toNat n.toNat t.toNat j ++ putB (nth4 p q n t j).toNat 8 = pk p.toNat q.toNat n.toNat t.toNat (j + 1) := by
  rcases (by omega : j = 0 ∨ j = 1 ∨ j = 2 ∨ j = 3) with h | h | h | h <;> subst h <;> simp [pk, nth4]
theorem own_oneB {w : World} {g base : Nat} {b : UInt8} {v : Int} (h : Blk w g 5 #[.int .u8 v]) (hv : v = (b.toNat : Int)) (hb : base ≤ g) : w.ownsRow base 5 1 (.slice (some ⟨g, 0, none⟩) 1 1) 1 (bts [b]) := by
  subst hv
  exact ⟨by simp [bts], .inr ⟨g, 1, #[.int .u8 (b.toNat : Int)], rfl, hb, h, Nat.le_refl _, by unfold maxLen; omega, by simp, by simp [bts]⟩⟩
set_option maxHeartbeats 8000000 in
theorem putO_any (base : Nat) (A : Option Addr) (c : Nat) (l : List UInt8) (a s : Int) (x : Bool) (p q n t : Int) (w : World) (ha : 0 ≤ a ∧ a ≤ 9223372036854775807) (hs : 0 ≤ s ∧ s ≤ 9223372036854775807)
    (hp : 0 ≤ p ∧ p ≤ 9223372036854775807) (hq : 0 ≤ q ∧ q ≤ 9223372036854775807) (hn : 0 ≤ n ∧ n ≤ 9223372036854775807) (ht : 0 ≤ t ∧ t ≤ 9223372036854775807) (hl : l.length ≤ 1000) (hb : base ≤ w.heap.size)
    (hr : Hid (w.ownsRow base 5 1 (.slice A l.length c) l.length (bts l))) :
    Calls Try.prog 13 #[.slice A l.length c, .agg #[.int .i64 a, .int .i64 s, .bool x, .int .i64 p, .int .i64 q, .int .i64 n, .int .i64 t]] w (MadeBy base (l ++ ordL a.toNat s.toNat x p.toNat q.toNat n.toNat t.toNat) w) := by
  obtain ⟨i0, hi, hz0, hz1, hz2⟩ := info_parts u8_info
  have b0 : Hid (Below base w (w.alloc (.cells #[.int .i64 a, .int .i64 s, .bool x, .int .i64 p, .int .i64 q, .int .i64 n, .int .i64 t] 26))) := (Below.refl _ _).alloc hb _
  have k0 : Hid (Blk (w.alloc (.cells #[.int .i64 a, .int .i64 s, .bool x, .int .i64 p, .int .i64 q, .int .i64 n, .int .i64 t] 26)) w.heap.size 26 #[.int .i64 a, .int .i64 s, .bool x, .int .i64 p, .int .i64 q, .int .i64 n, .int .i64 t]) := Blk.fresh _ _ _
  have r0 : Hid ((w.alloc (.cells #[.int .i64 a, .int .i64 s, .bool x, .int .i64 p, .int .i64 q, .int .i64 n, .int .i64 t] 26)).ownsRow base 5 1 (.slice A l.length c) l.length (bts l)) := World.ownsRow.alloc hr.out _
  have z0 : Hid (base ≤ (w.alloc (.cells #[.int .i64 a, .int .i64 s, .bool x, .int .i64 p, .int .i64 q, .int .i64 n, .int .i64 t] 26)).heap.size) := by show _ ≤ _; simp; omega
  have o0 : Hid (Oth w (w.alloc (.cells #[.int .i64 a, .int .i64 s, .bool x, .int .i64 p, .int .i64 q, .int .i64 n, .int .i64 t] 26))) := Oth.alloc _ _
  go_enter Try.func13, Try.ntmps13
  go_upto_region 1 with fail
  generalize w.alloc (.cells #[.int .i64 a, .int .i64 s, .bool x, .int .i64 p, .int .i64 q, .int .i64 n, .int .i64 t] 26) = w0 at b0 k0 r0 z0 o0 ⊢
  generalize w.heap.size = gB at k0 ⊢
  obtain ⟨m0, m1, m2, m3, m4, m5, m6⟩ := c7_of k0.out
  go_wp2_with fail
  refine (put_any base A c l a 2 _ ha.1 ha.2 (by omega) (by omega) z0.out r0).mono ?_
  rintro e w1 ⟨A1, c1, rfl, r1, b1, o1⟩
  have b1' : Hid (Below base w w1) := b0.out.trans b1
  have k1 : Hid (Blk w1 gB 26 #[.int .i64 a, .int .i64 s, .bool x, .int .i64 p, .int .i64 q, .int .i64 n, .int .i64 t]) := o1 _ _ _ (by decide) k0.out
  have z1 : Hid (base ≤ w1.heap.size) := Nat.le_trans z0.out b1.size
  have o1' : Hid (Oth w w1) := o0.out.trans o1
  have hL1 : Hid ((l ++ putB a.toNat 2).length = l.length + 2) := by show _ = _; rw [List.length_append, putB_len]
  generalize hl1 : l ++ putB a.toNat 2 = L1 at r1 hL1 ⊢
  have HL1 := Lib.hid hl1
  clear b0 k0 r0 z0 o0 b1 o1 m0 m1 m2 m3 m4 m5 m6 hl1
  obtain ⟨m0, m1, m2, m3, m4, m5, m6⟩ := c7_of k1.out
  go_wp2_with fail
  refine (put_any base A1 c1 L1 s 2 _ hs.1 hs.2 (by omega) (by have := hL1.out; omega) z1.out r1).mono ?_
  rintro e w2 ⟨A2, c2, rfl, r2, b2, o2⟩
  have b2' : Hid (Below base w w2) := b1'.out.trans b2
  have k2 : Hid (Blk w2 gB 26 #[.int .i64 a, .int .i64 s, .bool x, .int .i64 p, .int .i64 q, .int .i64 n, .int .i64 t]) := o2 _ _ _ (by decide) k1.out
  have z2 : Hid (base ≤ w2.heap.size) := Nat.le_trans z1.out b2.size
  have o2' : Hid (Oth w w2) := o1'.out.trans o2
  clear b1' k1 r1 z1 o1' b2 o2 m0 m1 m2 m3 m4 m5 m6
  obtain ⟨m0, m1, m2, m3, m4, m5, m6⟩ := c7_of k2.out
  have hL2 : Hid ((L1 ++ putB s.toNat 2).length = l.length + 4) := by show _ = _; rw [List.length_append, putB_len, hL1.out]
  generalize hl2 : L1 ++ putB s.toNat 2 = L2 at r2 hL2 ⊢
  have HL2 := Lib.hid hl2
  clear hl2
  have hby : L2.length + 1 ≤ maxLen := by have := hL2.out; unfold maxLen; omega
  have hbz : (L2.length + 1) * 1 ≤ 140737488355328 := by have := hL2.out; omega
  have zz := z2.out
  go_upto_if 16 with fail
  go_cut [0] (fun sa wx => ∃ A3 c3, sa = .slice A3 (L2 ++ [bitB x]).length c3 ∧ Hid (wx.ownsRow base 5 1 (.slice A3 (L2 ++ [bitB x]).length c3) (L2 ++ [bitB x]).length (bts (L2 ++ [bitB x]))) ∧ Hid (Below base w wx) ∧ Hid (Blk wx gB 26 #[.int .i64 a, .int .i64 s, .bool x, .int .i64 p, .int .i64 q, .int .i64 n, .int .i64 t]) ∧ Hid (base ≤ wx.heap.size) ∧ Hid (Oth w wx))
  case first =>
    cases x
    · go_wp2_with (at_builtin; refine wpList_app1G r2 rfl _ _ _ rfl i0 (.int .u8 0) 1 Try.underlying23 hi hz0 hz1 hz2 rfl (by decide) rfl rfl rfl [.int .u8 0] rfl rfl (by simp [Value.oneCell']) hby hbz zz ?_; intro A3 c3 w3 hown3 hgr3)
      go_meet
      refine ⟨A3, c3, by simp, ?_, (b2'.out.alloc zz _).grown hgr3 (by simp; omega) (fun q hq => by have := World.ownsRow.lt r2.out q hq; omega), Blk_grown (k2.out.alloc _) hgr3 (Ne.symm (own_blk_ne r2.out k2.out (by decide))), by show _ ≤ _; have := hgr3.size; simp at this; omega, (o2'.out.trans (Oth.alloc _ _)).trans (Oth.grown (World.ownsRow.alloc r2.out _) hgr3)⟩
      have hb : bts (L2 ++ [bitB false]) = bts L2 ++ [.int .u8 0] := bts_app _ _
      have hq : (L2 ++ [bitB false]).length = L2.length + 1 := by simp
      rw [hb, hq]
      exact hown3
    · go_wp2_with (at_builtin; refine wpList_app1G r2 rfl _ _ _ rfl i0 (.int .u8 0) 1 Try.underlying23 hi hz0 hz1 hz2 rfl (by decide) rfl rfl rfl [.int .u8 1] rfl rfl (by simp [Value.oneCell']) hby hbz zz ?_; intro A3 c3 w3 hown3 hgr3)
      go_meet
      refine ⟨A3, c3, by simp, ?_, (b2'.out.alloc zz _).grown hgr3 (by simp; omega) (fun q hq => by have := World.ownsRow.lt r2.out q hq; omega), Blk_grown (k2.out.alloc _) hgr3 (Ne.symm (own_blk_ne r2.out k2.out (by decide))), by show _ ≤ _; have := hgr3.size; simp at this; omega, (o2'.out.trans (Oth.alloc _ _)).trans (Oth.grown (World.ownsRow.alloc r2.out _) hgr3)⟩
      have hb : bts (L2 ++ [bitB true]) = bts L2 ++ [.int .u8 1] := bts_app _ _
      have hq : (L2 ++ [bitB true]).length = L2.length + 1 := by simp
      rw [hb, hq]
      exact hown3
  case rest =>
    obtain ⟨A3, c3, rfl, r3, b3, k3, z3, o3⟩ := hcut
    rename World => w3
    clear r2 b2' k2 z2 o2' zz m0 m1 m2 m3 m4 m5 m6 hby hbz
    obtain ⟨m0, m1, m2, m3, m4, m5, m6⟩ := c7_of k3.out
    have q3 : Hid ((L2 ++ [bitB x]).length = l.length + 5) := by show _ = _; rw [List.length_append, hL2.out]; rfl
    have hfin : Hid (l ++ ordL a.toNat s.toNat x p.toNat q.toNat n.toNat t.toNat = (L2 ++ [bitB x]) ++ pk p.toNat q.toNat n.toNat t.toNat 4) := by
      show _ = _
      rw [← HL2.out, ← HL1.out]
      simp [ordL, pk]
    generalize L2 ++ [bitB x] = L3 at r3 q3 hfin ⊢
    go_upto_region 7 with fail
    clear m0 m1 m2 m3 m4 m5 m6
    go_wp2_with fail
    go_loopg [0, 32] 4 (fun g s0 s32 w' => ∃ (j : Nat) (A4 : Option Addr) (c4 : Nat) (L : List UInt8), j + g = 4 ∧ s32 = .int .i64 j ∧ s0 = .slice A4 L.length c4 ∧ Hid (L = L3 ++ pk p.toNat q.toNat n.toNat t.toNat j) ∧ Hid (w'.ownsRow base 5 1 (.slice A4 L.length c4) L.length (bts L)) ∧ Hid (Below base w w') ∧ Hid (base ≤ w'.heap.size) ∧ Hid (Oth w w'))
    case atStart => exact ⟨0, A3, c3, L3, by omega, rfl, rfl, by show _ = _; simp [pk], r3, b3, z3, o3⟩
    case round =>
      obtain ⟨j, A4, c4, L, hj, rfl, rfl, hL, r4, b4, z4, o4⟩ := hrel
      have hLl : Hid (L.length = l.length + 5 + 8 * j) := by show _ = _; rw [hL.out, List.length_append, pk_len _ _ _ _ _ (by omega), q3.out]
      by_cases h4 : j < 4
      · obtain ⟨g, rfl⟩ : ∃ g, gk = g + 1 := ⟨gk - 1, by omega⟩
        have t0 : decide ((j : Int) < 4) = true := by simp; omega
        have hnx : Hid (0 ≤ nth4 p q n t j ∧ nth4 p q n t j ≤ 9223372036854775807) := by show _ ∧ _; unfold nth4; split; · exact hp
                                                                                         split; · exact hq
                                                                                         split; · exact hn
                                                                                         exact ht
        have hst := Lib.hid (pk_step p q n t j h4)
        go_upto_region 8 with fail
        go_cut [6] (fun s6 wx => s6 = .int .i64 (nth4 p q n t j) ∧ wx = wr)
        case first =>
          generalize hji : (j : Int) = ji at ⊢
          rcases (by omega : j = 0 ∨ j = 1 ∨ j = 2 ∨ j = 3) with h | h | h | h
          · obtain rfl : ji = 0 := by omega
            subst h
            go_wp2_with fail
            go_meet
            exact ⟨rfl, rfl⟩
          · obtain rfl : ji = 1 := by omega
            subst h
            go_wp2_with fail
            go_meet
            exact ⟨rfl, rfl⟩
          · obtain rfl : ji = 2 := by omega
            subst h
            go_wp2_with fail
            go_meet
            exact ⟨rfl, rfl⟩
          · obtain rfl : ji = 3 := by omega
            subst h
            go_wp2_with fail
            go_meet
            exact ⟨rfl, rfl⟩
        case rest =>
          obtain ⟨rfl, rfl⟩ := hcut
          generalize nth4 p q n t j = x4 at hnx hst ⊢
          go_wp2_with fail
          refine (put_any base A4 c4 L x4 8 _ hnx.out.1 hnx.out.2 (by omega) (by have := hLl.out; omega) z4.out r4).mono ?_
          rintro e w5 ⟨A5, c5, rfl, r5, b5, o5⟩
          have hL5 : Hid (L ++ putB x4.toNat 8 = L3 ++ pk p.toNat q.toNat n.toNat t.toNat (j + 1)) := by show _ = _; rw [hL.out, List.append_assoc, hst.out]
          generalize L ++ putB x4.toNat 8 = L5 at r5 hL5 ⊢
          have b5' : Hid (Below base w w5) := b4.out.trans b5
          have z5 : Hid (base ≤ w5.heap.size) := Nat.le_trans z4.out b5.size
          have o5' : Hid (Oth w w5) := o4.out.trans o5
          clear b5 o5 hst
          go_wp2_with fail
          go_roundg g
          case measure => omega
          case rel => exact ⟨j + 1, A5, c5, L5, by omega, by go_num, rfl, hL5, r5, b5', z5, o5'⟩
      · have hj4 : j = 4 := by omega
        subst hj4
        have t0 : decide (((4 : Nat) : Int) < 4) = false := by decide
        go_wp2_with fail
        go_ret
        rw [hfin.out, ← hL.out]
        exact ⟨A4, c4, rfl, r4, b4.out, o4.out⟩
end Go.Proofs.Ytkobldddiedmdaa.Wpo
