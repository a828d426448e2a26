/- Texts side by side. -/
import Derived.Test.YtcccdikhfgpamaaGreatUhan
set_option linter.unusedVariables false
set_option linter.unusedSimpArgs false
set_option maxRecDepth 100000
set_option maxHeartbeats 16000000
namespace Go.Proofs.YtcccdikhfgpamaaGreat
open Go.ChangeShapes Go.WideShapes Go.ChangeAt Go.RowKit Mem Tre Ref3
namespace Rck
theorem rcheck_any (A : Option Addr) (c : Nat) (l : List (Int × Int)) (w : World) (hl : Hid (Nds w w.heap.size A l)) (hw : Hid (WfN l)) (hmax : (l.length : Int) ≤ 9223372036854775807) :
    Calls Tryz.prog 62 #[.slice A l.length c] w (Made2 (chk l) w) := by
  by_cases h32 : 32 < l.length
  · go_enter Tryz.func62, Tryz.ntmps62
    go_wp2
    go_ret2
    exact made2 (by rw [chk, if_pos h32]) (Below.refl _ _)
  by_cases h0 : l.length = 0
  · have C : l = [] := List.eq_nil_of_length_eq_zero h0
    subst C
    go_enter Tryz.func62, Tryz.ntmps62
    go_wp2
    go_ret2
    exact made2 rfl (Below.refl _ _)
  obtain ⟨b, o, hA, X, K⟩ := Nds.at hl.o (by omega)
  have L := Lib.hid K
  have Y : ((l.length : Int) == 0) = false := beq_eq_false_iff_ne.2 (by omega)
  have m : Hid (chk l = scanF l l.length 0) := by show _ = _; rw [chk, if_neg h32, if_neg h0]
  clear K h0
  subst hA
  go_enter Tryz.func62, Tryz.ntmps62
  go_wp2
  go_loopg [4] l.length (fun g P E => ∃ k : Nat, k + g = l.length ∧ P = .int .i64 k ∧ Hid (scanF l g k = scanF l l.length 0) ∧ Hid (∀ j, j < k → nP l j = -1 ∨ inR l.length (nP l j) = true) ∧ w = E)
  case atStart => exact ⟨0, by omega, rfl, rfl, fun j F => absurd F (Nat.not_lt_zero j), rfl⟩
  case round =>
    obtain ⟨k, Z, rfl, a, q, rfl⟩ := hrel
    by_cases hlt : (k : Int) < (l.length : Int)
    · obtain ⟨g, rfl⟩ : ∃ g, gk = g + 1 := ⟨gk - 1, by omega⟩
      have Q : w.cell? ⟨b, o + k * 2, none⟩ = some (.int .i64 (nP l k)) := (L.o k (by omega)).1
      have R : w.cell? ⟨b, o + k * 2 + 1, none⟩ = some (.int .i64 (nC l k)) := (L.o k (by omega)).2
      by_cases hP : -1 ≤ nP l k ∧ nP l k < l.length
      · have r : nP l k = -1 ∨ inR l.length (nP l k) = true := by
          by_cases e : nP l k = -1
          · exact .inl e
          · exact .inr (inR_t (by omega) (by omega))
        obtain ⟨G, H⟩ := hP
        by_cases hC : 0 ≤ nC l k ∧ nC l k ≤ 4611686018427387904
        · have n : Hid (scanF l g (k + 1) = scanF l l.length 0) := (scan_go r hC.1 hC.2).symm.trans a.o
          have s : Hid (∀ j, j < k + 1 → nP l j = -1 ∨ inR l.length (nP l j) = true) := fun j F => by
            by_cases e : j = k
            · subst e; exact r
            · exact q.o j (by omega)
          obtain ⟨I, J⟩ := hC
          clear r
          go_wp2_with fail
          go_roundg g
          case measure => omega
          case rel => exact ⟨k + 1, by omega, by go_num, n, s, rfl⟩
        · have d : Hid (scanF l l.length 0 = (1, (k : Int))) := by
            show _ = _
            rw [← a.o]; exact scan_1 r (by omega)
          clear r
          by_cases I : nC l k < 0
          · clear hC
            go_wp2_with fail
            go_ret2
            exact made2 (m.o.trans d.o) (Below.refl _ _)
          · have J : 4611686018427387904 < nC l k := by omega
            clear hC
            go_wp2_with fail
            go_ret2
            exact made2 (m.o.trans d.o) (Below.refl _ _)
      · have O : (nP l k != -1) = true := by simp; omega
        have d : Hid (scanF l l.length 0 = (18, (k : Int))) := by
          show _ = _
          rw [← a.o]; exact scan_18 O (inR_f (by omega))
        clear O
        by_cases G : nP l k < -1
        · clear hP
          go_wp2_with fail
          go_ret2
          exact made2 (m.o.trans d.o) (Below.refl _ _)
        · have H : (l.length : Int) ≤ nP l k := by omega
          clear hP
          go_wp2_with fail
          go_ret2
          exact made2 (m.o.trans d.o) (Below.refl _ _)
    · have d : Hid (scanF l l.length 0 = climbF l l.length 0) := by
        show _ = _
        rw [← a.o, show gk = 0 by omega]; rfl
      have t : Hid (Par l) := by
        intro i hi
        rcases q.o i (by omega) with h | h
        · omega
        · have := inR_of h; omega
      clear q a
      go_wp2_with fail
      go_loopg [5] l.length (fun g S E => ∃ k : Nat, k + g = l.length ∧ S = .int .i64 k ∧ Hid (climbF l g k = climbF l l.length 0) ∧ Below w.heap.size w E)
      case atStart => exact ⟨0, by omega, rfl, rfl, Below.refl _ _⟩
      case round =>
        obtain ⟨j, F, rfl, a, f⟩ := hrel
        have x : Hid (Nds wr wr.heap.size (some ⟨b, o, none⟩) l) := Rd.below' hl.o f f.size
        by_cases hlt : (j : Int) < (l.length : Int)
        · obtain ⟨g, rfl⟩ : ∃ g, gk = g + 1 := ⟨gk - 1, by omega⟩
          have y := fit_top t.o 3 j (by omega)
          cases ht : top l 3 j with
          | true =>
            have n : Hid (climbF l g (j + 1) = climbF l l.length 0) := (climbF_go ht).symm.trans a.o
            rw [ht] at y
            clear ht
            go_wp2_with (go_at_call 78; refine (rclimb_any _ _ _ _ _ x hw hmax ⟨by omega, by omega⟩).mono ?_; rintro e T ⟨U, V, rfl, z, v⟩; have W := Lib.hid z; clear z)
            go_roundg g
            case measure => omega
            case rel => exact ⟨j + 1, by omega, by go_num, n, f.trans (v.mono f.size)⟩
          | false =>
            have p : Hid (climbF l l.length 0 = (16, (j : Int))) := a.o.symm.trans (climbF_no ht)
            rw [ht] at y
            clear ht
            go_wp2_with (go_at_call 78; refine (rclimb_any _ _ _ _ _ x hw hmax ⟨by omega, by omega⟩).mono ?_; rintro e T ⟨U, V, rfl, z, v⟩; have W := Lib.hid z; clear z)
            go_ret2
            exact made2 (m.o.trans (d.o.trans p.o)) (f.trans (v.mono f.size))
        · have p : Hid (climbF l l.length 0 = (0, -1)) := by
            show _ = _
            rw [← a.o, show gk = 0 by omega]; rfl
          go_wp2_with fail
          go_ret2
          exact made2 (m.o.trans (d.o.trans p.o)) f
end Rck
namespace Rul2
open Law3 Fix3 Opn Bnd Flo Cfg Rul1 Rck
attribute [local go_sem] run_store_float
theorem siz_f {sh wi ra ta : Int} (h : sh < 1 ∨ 4 < sh ∨ wi < 0 ∨ 16 < wi ∨ ra < 1 ∨ 1000 < ra ∨ ta < 1 ∨ 64 < ta) : sizB sh wi ra ta = false := by
  unfold sizB btwB
  simp only [Bool.and_eq_false_iff, decide_eq_false_iff_not]
  omega
theorem siz_t {sh wi ra ta : Int} (h : ¬ (sh < 1 ∨ 4 < sh ∨ wi < 0 ∨ 16 < wi ∨ ra < 1 ∨ 1000 < ra ∨ ta < 1 ∨ 64 < ta)) : sizB sh wi ra ta = true := by
  unfold sizB btwB
  simp only [Bool.and_eq_true, decide_eq_true_eq]
  omega
theorem sym_f {p q wo : Int} {b : Nat} (h : p < 1 ∨ 1099511627776 < p ∨ q < 1 ∨ 1099511627776 < q ∨ wo < 0 ∨ rightB b = false) : symB p q wo b = false := by
  unfold symB btwB
  simp only [Bool.and_eq_false_iff, decide_eq_false_iff_not]
  rcases h with h | h | h | h | h | h
  · omega
  · omega
  · omega
  · omega
  · omega
  · exact .inr h
theorem sym_t {p q wo : Int} {b : Nat} (h : ¬ (p < 1 ∨ 1099511627776 < p ∨ q < 1 ∨ 1099511627776 < q ∨ wo < 0)) (hb : rightB b = true) : symB p q wo b = true := by
  unfold symB btwB
  simp only [Bool.and_eq_true, decide_eq_true_eq]
  exact ⟨by omega, hb⟩
theorem rcheck5_any (sh wi ra ta : Int) (A B C : Option Addr) (c d f : Nat) (nd : List (Int × Int)) (ac : List Int) (sy : List (Int × Int × Int × Nat)) (w : World)
    (hl : Hid (Nds w w.heap.size A nd)) (hu : Hid (Ris w w.heap.size B ac)) (hs : Hid (Smb w w.heap.size C sy)) (hw : Hid (WfN nd)) (hmax : (nd.length : Int) ≤ 1000000) (hmay : (ac.length : Int) ≤ 1000000) (hmaz : (sy.length : Int) ≤ 1000000) :
    Calls Tryz.prog 30 #[.agg #[.int .i64 sh, .int .i64 wi, .int .i64 ra, .int .i64 ta, .slice A nd.length c, .slice B ac.length d, .slice C sy.length f]] w (MadeX (cfgF sh wi ra ta nd ac sy) w) := by
  have l : Below w.heap.size w (w.alloc (.cells #[.int .i64 sh, .int .i64 wi, .int .i64 ra, .int .i64 ta, .slice A nd.length c, .slice B ac.length d, .slice C sy.length f] 31)) := (Below.refl _ _).alloc (Nat.le_refl _) _
  have P : Hid (Nds (w.alloc (.cells #[.int .i64 sh, .int .i64 wi, .int .i64 ra, .int .i64 ta, .slice A nd.length c, .slice B ac.length d, .slice C sy.length f] 31)) (w.alloc (.cells #[.int .i64 sh, .int .i64 wi, .int .i64 ra, .int .i64 ta, .slice A nd.length c, .slice B ac.length d, .slice C sy.length f] 31)).heap.size A nd) := Rd.below' hl.o l l.size
  have G : Hid (Ris (w.alloc (.cells #[.int .i64 sh, .int .i64 wi, .int .i64 ra, .int .i64 ta, .slice A nd.length c, .slice B ac.length d, .slice C sy.length f] 31)) (w.alloc (.cells #[.int .i64 sh, .int .i64 wi, .int .i64 ra, .int .i64 ta, .slice A nd.length c, .slice B ac.length d, .slice C sy.length f] 31)).heap.size B ac) := Rd.below' hu.o l l.size
  have Q : Hid (Smb (w.alloc (.cells #[.int .i64 sh, .int .i64 wi, .int .i64 ra, .int .i64 ta, .slice A nd.length c, .slice B ac.length d, .slice C sy.length f] 31)) (w.alloc (.cells #[.int .i64 sh, .int .i64 wi, .int .i64 ra, .int .i64 ta, .slice A nd.length c, .slice B ac.length d, .slice C sy.length f] 31)).heap.size C sy) := Rd.below' hs.o l l.size
  have R : Hid (Blk (w.alloc (.cells #[.int .i64 sh, .int .i64 wi, .int .i64 ra, .int .i64 ta, .slice A nd.length c, .slice B ac.length d, .slice C sy.length f] 31)) w.heap.size 31 #[.int .i64 sh, .int .i64 wi, .int .i64 ra, .int .i64 ta, .slice A nd.length c, .slice B ac.length d, .slice C sy.length f]) := Blk.fresh _ _ _
  by_cases hh0 : sh < 1
  · have E : Hid (cfgF sh wi ra ta nd ac sy = 1) := cfgF_1 (siz_f (by omega))
    go_enter Tryz.func30, Tryz.ntmps30
    go_wp2_with fail
    go_ret
    exact madeX_mk E.o l
  by_cases hh1 : 4 < sh
  · have E : Hid (cfgF sh wi ra ta nd ac sy = 1) := cfgF_1 (siz_f (by omega))
    go_enter Tryz.func30, Tryz.ntmps30
    go_wp2_with fail
    go_ret
    exact madeX_mk E.o l
  by_cases hh2 : wi < 0
  · have E : Hid (cfgF sh wi ra ta nd ac sy = 1) := cfgF_1 (siz_f (by omega))
    go_enter Tryz.func30, Tryz.ntmps30
    go_wp2_with fail
    go_ret
    exact madeX_mk E.o l
  by_cases hh3 : 16 < wi
  · have E : Hid (cfgF sh wi ra ta nd ac sy = 1) := cfgF_1 (siz_f (by omega))
    go_enter Tryz.func30, Tryz.ntmps30
    go_wp2_with fail
    go_ret
    exact madeX_mk E.o l
  by_cases hh4 : ra < 1
  · have E : Hid (cfgF sh wi ra ta nd ac sy = 1) := cfgF_1 (siz_f (by omega))
    go_enter Tryz.func30, Tryz.ntmps30
    go_wp2_with fail
    go_ret
    exact madeX_mk E.o l
  by_cases hh5 : 1000 < ra
  · have E : Hid (cfgF sh wi ra ta nd ac sy = 1) := cfgF_1 (siz_f (by omega))
    go_enter Tryz.func30, Tryz.ntmps30
    go_wp2_with fail
    go_ret
    exact madeX_mk E.o l
  by_cases hh6 : ta < 1
  · have E : Hid (cfgF sh wi ra ta nd ac sy = 1) := cfgF_1 (siz_f (by omega))
    go_enter Tryz.func30, Tryz.ntmps30
    go_wp2_with fail
    go_ret
    exact madeX_mk E.o l
  by_cases hh7 : 64 < ta
  · have E : Hid (cfgF sh wi ra ta nd ac sy = 1) := cfgF_1 (siz_f (by omega))
    go_enter Tryz.func30, Tryz.ntmps30
    go_wp2_with fail
    go_ret
    exact madeX_mk E.o l
  have a : Hid (sizB sh wi ra ta = true) := siz_t (by omega)
  go_enter Tryz.func30, Tryz.ntmps30
  go_wp2_with fail
  generalize (w.alloc (.cells #[.int .i64 sh, .int .i64 wi, .int .i64 ra, .int .i64 ta, .slice A nd.length c, .slice B ac.length d, .slice C sy.length f] 31)) = w1 at l P G Q R ⊢
  refine (rcheck_any A c nd w1 P hw (by omega)).mono ?_
  rintro e m ⟨rfl, n⟩
  have H := below_step l n
  have K := Lib.hid (Blk.below' R.o n)
  have S : Hid (Ris m m.heap.size B ac) := Rd.below' G.o n n.size
  have X : Hid (Smb m m.heap.size C sy) := Rd.below' Q.o n n.size
  have Y : m.cell? ⟨w.heap.size, 4, none⟩ = some (.slice A nd.length c) := K.o.cell 4
  have Z : m.cell? ⟨w.heap.size, 5, none⟩ = some (.slice B ac.length d) := K.o.cell 5
  have g6 : m.cell? ⟨w.heap.size, 6, none⟩ = some (.slice C sy.length f) := K.o.cell 6
  clear l R P G Q n
  by_cases hc : (chk nd).1 = 0
  case neg =>
    have c1 : ((chk nd).1 != 0) = true := by simp [hc]
    have c2 : ((chk nd).1 == 0) = false := by simp [hc]
    have E : Hid (cfgF sh wi ra ta nd ac sy = (chk nd).1) := cfgF_2 a.o hc
    clear hc
    go_wp2_with fail
    go_ret
    exact madeX_mk E.o H
  have c1 : ((chk nd).1 != 0) = false := by simp [hc]
  have c2 : ((chk nd).1 == 0) = true := by simp [hc]
  have r := Lib.hid hc
  clear hc
  by_cases ha0 : (ac.length : Int) < 1
  · have E : Hid (cfgF sh wi ra ta nd ac sy = 3) := cfgF_3 a.o r.o (.inl (by omega))
    go_wp2_with fail
    go_ret
    exact madeX_mk E.o H
  by_cases ha1 : 32 < (ac.length : Int)
  · have E : Hid (cfgF sh wi ra ta nd ac sy = 3) := cfgF_3 a.o r.o (.inr (by omega))
    go_wp2_with fail
    go_ret
    exact madeX_mk E.o H
  have t : Hid (¬ (ac.length = 0 ∨ 32 < ac.length)) := by show ¬ _; omega
  have q3 : decide (32 < (ac.length : Int)) = false := by simp; omega
  go_wp2_with fail
  go_loopg [5] ac.length (fun g s5 T => ∃ (k v : Nat), k + g = ac.length ∧ s5 = .int .i64 k ∧ Hid (∀ i, i < k → inR nd.length (gI ac i) = true) ∧ T = m.drewN v)
  case atStart => exact ⟨0, 0, by omega, rfl, fun i I => absurd I (Nat.not_lt_zero i), rfl⟩
  case round =>
    obtain ⟨k, v, hk, rfl, F, rfl⟩ := hrel
    by_cases hlt : (k : Int) < (ac.length : Int)
    · obtain ⟨g, rfl⟩ : ∃ g, gk = g + 1 := ⟨gk - 1, by omega⟩
      obtain ⟨b, o, rfl, L, x⟩ := Ris.at (i := k) S.o (by omega)
      have d0 := x k (by omega)
      clear x
      by_cases hi0 : gI ac k < 0
      · have E : Hid (cfgF sh wi ra ta nd ac sy = 18) := cfgF_4 a.o r.o t.o (accB_f (i := k) (by omega) (inR_f (by omega)))
        have z1 : decide (gI ac k < 0) = true := by simp; omega
        go_wp2_with fail
        go_quiet (fail)
        go_wp2_with fail
        go_ret
        exact madeX_mk E.o (Below.drewN' (Below.drewN' H _) _)
      have z1 : decide (gI ac k < 0) = false := by simp; omega
      by_cases hi1 : (nd.length : Int) ≤ gI ac k
      · have E : Hid (cfgF sh wi ra ta nd ac sy = 18) := cfgF_4 a.o r.o t.o (accB_f (i := k) (by omega) (inR_f (by omega)))
        have z2 : decide ((nd.length : Int) ≤ gI ac k) = true := by simp; omega
        go_wp2_with fail
        go_quiet (fail)
        go_wp2_with fail
        go_ret
        exact madeX_mk E.o (Below.drewN' (Below.drewN' H _) _)
      have z2 : decide ((nd.length : Int) ≤ gI ac k) = false := by simp; omega
      have q : Hid (∀ i, i < k + 1 → inR nd.length (gI ac i) = true) := fun i I => by
        by_cases e : i = k
        · subst e; exact inR_t (by omega) (by omega)
        · exact F.o i (by omega)
      go_wp2_with fail
      go_quiet (fail)
      go_wp2_with fail
      go_roundg g
      case measure => omega
      case rel => exact ⟨k + 1, _, by omega, by go_num, q, rfl⟩
    · have z : Hid (accB nd.length ac = true) := accB_t fun i I => F.o i (by omega)
      have O : Below w.heap.size w (m.drewN v) := Below.drewN' H v
      have sq : Hid (Smb (m.drewN v) (m.drewN v).heap.size C sy) := X.o
      have kq : Hid (Blk (m.drewN v) w.heap.size 31 #[.int .i64 sh, .int .i64 wi, .int .i64 ra, .int .i64 ta, .slice A nd.length c, .slice B ac.length d, .slice C sy.length f]) := K.o
      have U : (m.drewN v).cell? ⟨w.heap.size, 4, none⟩ = some (.slice A nd.length c) := Y
      have V : (m.drewN v).cell? ⟨w.heap.size, 5, none⟩ = some (.slice B ac.length d) := Z
      have W : (m.drewN v).cell? ⟨w.heap.size, 6, none⟩ = some (.slice C sy.length f) := g6
      clear hk Y Z g6 H X K
      generalize m.drewN v = w3 at O sq kq U V W ⊢
      by_cases ha0 : (sy.length : Int) < 1
      · have E : Hid (cfgF sh wi ra ta nd ac sy = 4) := cfgF_5 a.o r.o t.o z.o (.inl (by omega))
        go_wp2_with fail
        go_ret
        exact madeX_mk E.o O
      by_cases ha2 : 16 < (sy.length : Int)
      · have E : Hid (cfgF sh wi ra ta nd ac sy = 4) := cfgF_5 a.o r.o t.o z.o (.inr (by omega))
        go_wp2_with fail
        go_ret
        exact madeX_mk E.o O
      have J : Hid (¬ (sy.length = 0 ∨ 16 < sy.length)) := by show ¬ _; omega
      have q4 : decide (16 < (sy.length : Int)) = false := by simp; omega
      go_wp2_with fail
      go_loopg [6] sy.length (fun g s6 T => ∃ (j : Nat), j + g = sy.length ∧ s6 = .int .i64 j ∧ Hid (∀ i, i < j → symB (sP sy i) (sQ sy i) (sW sy i) (sB sy i) = true) ∧ Below w3.heap.size w3 T)
      case atStart => exact ⟨0, by omega, rfl, fun i I => absurd I (Nat.not_lt_zero i), Below.refl _ _⟩
      case round =>
        obtain ⟨j, hj, rfl, y, h⟩ := hrel
        have s := below_step O h
        have g7 : wr.cell? ⟨w.heap.size, 6, none⟩ = some (.slice C sy.length f) := (Blk.below' kq.o h).cell 6
        by_cases hlt2 : (j : Int) < (sy.length : Int)
        · obtain ⟨g, rfl⟩ : ∃ g, gk = g + 1 := ⟨gk - 1, by omega⟩
          obtain ⟨b, o, rfl, L, x⟩ := Smb.at (i := j) sq.o (by omega)
          obtain ⟨r0, r1, r2, r3⟩ := x j (by omega)
          have d0 := (h.cell (p := ⟨b, o + j * 4, none⟩) L).trans r0
          have d1 := (h.cell (p := ⟨b, o + j * 4 + 1, none⟩) L).trans r1
          have d2 := (h.cell (p := ⟨b, o + j * 4 + 2, none⟩) L).trans r2
          have d3 := (h.cell (p := ⟨b, o + j * 4 + 3, none⟩) L).trans r3
          clear x r0 r1 r2 r3
          by_cases hy0 : sP sy j < 1
          ·
              have E : Hid (cfgF sh wi ra ta nd ac sy = 1) := cfgF_6 a.o r.o t.o z.o J.o (tabB_f (i := j) (by omega) (sym_f (by omega)))
              go_wp2_with fail
              go_ret
              exact madeX_mk E.o (s.alloc s.size _)
          by_cases hy1 : 1099511627776 < sP sy j
          ·
              have E : Hid (cfgF sh wi ra ta nd ac sy = 1) := cfgF_6 a.o r.o t.o z.o J.o (tabB_f (i := j) (by omega) (sym_f (by omega)))
              go_wp2_with fail
              go_ret
              exact madeX_mk E.o (s.alloc s.size _)
          by_cases hy2 : sQ sy j < 1
          ·
              have E : Hid (cfgF sh wi ra ta nd ac sy = 1) := cfgF_6 a.o r.o t.o z.o J.o (tabB_f (i := j) (by omega) (sym_f (by omega)))
              go_wp2_with fail
              go_ret
              exact madeX_mk E.o (s.alloc s.size _)
          by_cases hy3 : 1099511627776 < sQ sy j
          ·
              have E : Hid (cfgF sh wi ra ta nd ac sy = 1) := cfgF_6 a.o r.o t.o z.o J.o (tabB_f (i := j) (by omega) (sym_f (by omega)))
              go_wp2_with fail
              go_ret
              exact madeX_mk E.o (s.alloc s.size _)
          by_cases hy4 : sW sy j < 0
          ·
              have E : Hid (cfgF sh wi ra ta nd ac sy = 1) := cfgF_6 a.o r.o t.o z.o J.o (tabB_f (i := j) (by omega) (sym_f (by omega)))
              go_wp2_with fail
              go_ret
              exact madeX_mk E.o (s.alloc s.size _)
          cases hin : rightB (sB sy j)
          · have E : Hid (cfgF sh wi ra ta nd ac sy = 1) := cfgF_6 a.o r.o t.o z.o J.o (tabB_f (i := j) (by omega) (sym_f (.inr (.inr (.inr (.inr (.inr hin)))))))
            go_wp2_with (go_at_call 21; refine (Bnd.rright_any _ _).mono ?_; rintro e w4 ⟨rfl, rfl⟩)
            go_ret
            exact madeX_mk E.o (s.alloc s.size _)
          · have q : Hid (∀ i, i < j + 1 → symB (sP sy i) (sQ sy i) (sW sy i) (sB sy i) = true) := fun i I => by
              by_cases e : i = j
              · subst e; exact sym_t (by omega) hin
              · exact y.o i (by omega)
            go_wp2_with (go_at_call 21; refine (Bnd.rright_any _ _).mono ?_; rintro e w4 ⟨rfl, rfl⟩)
            go_roundg g
            case measure => omega
            case rel => exact ⟨j + 1, by omega, by go_num, q, h.alloc h.size _⟩
        · have E : Hid (cfgF sh wi ra ta nd ac sy = 0) := cfgF_7 a.o r.o t.o z.o J.o (tabB_t fun i I => y.o i (by omega))
          go_wp2_with fail
          go_ret
          exact madeX_mk E.o s
end Rul2
end Go.Proofs.YtcccdikhfgpamaaGreat
