/- The contracts of the reference's Check. Condition: the Config lies in memory, its numbers are of 64 bits. -/
import Derived.Test.YtecjecgkioklaaaRul1
namespace Go.Proofs.Ytecjecgkioklaaa.Rul2
set_option maxRecDepth 100000
open Go.ChangeShapes Go.WideShapes Go.ChangeAt Go.RowKit Mem Tre Ref3 Law3 Fix3 Opn Bnd Flo Cfg Rul1
set_option linter.unusedVariables false
attribute [local go_sem] run_store_float

theorem siz_f {sh wi ra ta : Int} (h : sh < 1 ∨ 4 < sh ∨ wi < 0 ∨ 16 < wi ∨ ra < 1 ∨ 1000 < ra ∨ ta < 1 ∨ 64 < ta) : sizB sh wi ra ta = false := by
  unfold sizB btwB
  simp only [Bool.and_eq_false_iff, decide_eq_false_iff_not]
  omega
theorem siz_t {sh wi ra ta : Int} (h : ¬ (sh < 1 ∨ 4 < sh ∨ wi < 0 ∨ 16 < wi ∨ ra < 1 ∨ 1000 < ra ∨ ta < 1 ∨ 64 < ta)) : sizB sh wi ra ta = true := by
  unfold sizB btwB
  simp only [Bool.and_eq_true, decide_eq_true_eq]
  omega
theorem sym_f {p q wo : Int} {b : Nat} (h : p < 1 ∨ 1099511627776 < p ∨ q < 1 ∨ 1099511627776 < q ∨ wo < 0 ∨ rightB b = false) : symB p q wo b = false := by
  unfold symB btwB
  simp only [Bool.and_eq_false_iff, decide_eq_false_iff_not]
  rcases h with h | h | h | h | h | h
  · omega
  · omega
  · omega
  · omega
  · omega
  · exact .inr h
theorem sym_t {p q wo : Int} {b : Nat} (h : ¬ (p < 1 ∨ 1099511627776 < p ∨ q < 1 ∨ 1099511627776 < q ∨ wo < 0)) (hb : rightB b = true) : symB p q wo b = true := by
  unfold symB btwB
  simp only [Bool.and_eq_true, decide_eq_true_eq]
  exact ⟨by omega, hb⟩

set_option maxHeartbeats 4000000 in
theorem rcheck5_any (sh wi ra ta : Int) (A B C : Option Addr) (c d f : Nat) (nd : List (Int × Int)) (ac : List Int) (sy : List (Int × Int × Int × Nat)) (w : World)
    (hl : Hid (Nds w w.heap.size A nd)) (hu : Hid (Ris w w.heap.size B ac)) (hs : Hid (Smb w w.heap.size C sy)) (hw : Hid (WfN nd)) (hmax : (nd.length : Int) ≤ 1000000) (hmay : (ac.length : Int) ≤ 1000000) (hmaz : (sy.length : Int) ≤ 1000000) :
    Calls Try.prog 17 #[.agg #[.int .i64 sh, .int .i64 wi, .int .i64 ra, .int .i64 ta, .slice A nd.length c, .slice B ac.length d, .slice C sy.length f]] w (MadeX (cfgF sh wi ra ta nd ac sy) w) := by
  have b0 : Below w.heap.size w (w.alloc (.cells #[.int .i64 sh, .int .i64 wi, .int .i64 ra, .int .i64 ta, .slice A nd.length c, .slice B ac.length d, .slice C sy.length f] 29)) := (Below.refl _ _).alloc (Nat.le_refl _) _
  have l0 : Hid (Nds (w.alloc (.cells #[.int .i64 sh, .int .i64 wi, .int .i64 ra, .int .i64 ta, .slice A nd.length c, .slice B ac.length d, .slice C sy.length f] 29)) (w.alloc (.cells #[.int .i64 sh, .int .i64 wi, .int .i64 ra, .int .i64 ta, .slice A nd.length c, .slice B ac.length d, .slice C sy.length f] 29)).heap.size A nd) := Rd.below' hl.out b0 b0.size
  have ua0 : Hid (Ris (w.alloc (.cells #[.int .i64 sh, .int .i64 wi, .int .i64 ra, .int .i64 ta, .slice A nd.length c, .slice B ac.length d, .slice C sy.length f] 29)) (w.alloc (.cells #[.int .i64 sh, .int .i64 wi, .int .i64 ra, .int .i64 ta, .slice A nd.length c, .slice B ac.length d, .slice C sy.length f] 29)).heap.size B ac) := Rd.below' hu.out b0 b0.size
  have s0 : Hid (Smb (w.alloc (.cells #[.int .i64 sh, .int .i64 wi, .int .i64 ra, .int .i64 ta, .slice A nd.length c, .slice B ac.length d, .slice C sy.length f] 29)) (w.alloc (.cells #[.int .i64 sh, .int .i64 wi, .int .i64 ra, .int .i64 ta, .slice A nd.length c, .slice B ac.length d, .slice C sy.length f] 29)).heap.size C sy) := Rd.below' hs.out b0 b0.size
  have k0 : Hid (Blk (w.alloc (.cells #[.int .i64 sh, .int .i64 wi, .int .i64 ra, .int .i64 ta, .slice A nd.length c, .slice B ac.length d, .slice C sy.length f] 29)) w.heap.size 29 #[.int .i64 sh, .int .i64 wi, .int .i64 ra, .int .i64 ta, .slice A nd.length c, .slice B ac.length d, .slice C sy.length f]) := Blk.fresh _ _ _
  by_cases hh0 : sh < 1
  · have E : Hid (cfgF sh wi ra ta nd ac sy = 1) := cfgF_1 (siz_f (by omega))
    go_enter Try.func17, Try.ntmps17
    go_wp2_with fail
    go_ret
    exact madeX_mk E.out b0
  by_cases hh1 : 4 < sh
  · have E : Hid (cfgF sh wi ra ta nd ac sy = 1) := cfgF_1 (siz_f (by omega))
    go_enter Try.func17, Try.ntmps17
    go_wp2_with fail
    go_ret
    exact madeX_mk E.out b0
  by_cases hh2 : wi < 0
  · have E : Hid (cfgF sh wi ra ta nd ac sy = 1) := cfgF_1 (siz_f (by omega))
    go_enter Try.func17, Try.ntmps17
    go_wp2_with fail
    go_ret
    exact madeX_mk E.out b0
  by_cases hh3 : 16 < wi
  · have E : Hid (cfgF sh wi ra ta nd ac sy = 1) := cfgF_1 (siz_f (by omega))
    go_enter Try.func17, Try.ntmps17
    go_wp2_with fail
    go_ret
    exact madeX_mk E.out b0
  by_cases hh4 : ra < 1
  · have E : Hid (cfgF sh wi ra ta nd ac sy = 1) := cfgF_1 (siz_f (by omega))
    go_enter Try.func17, Try.ntmps17
    go_wp2_with fail
    go_ret
    exact madeX_mk E.out b0
  by_cases hh5 : 1000 < ra
  · have E : Hid (cfgF sh wi ra ta nd ac sy = 1) := cfgF_1 (siz_f (by omega))
    go_enter Try.func17, Try.ntmps17
    go_wp2_with fail
    go_ret
    exact madeX_mk E.out b0
  by_cases hh6 : ta < 1
  · have E : Hid (cfgF sh wi ra ta nd ac sy = 1) := cfgF_1 (siz_f (by omega))
    go_enter Try.func17, Try.ntmps17
    go_wp2_with fail
    go_ret
    exact madeX_mk E.out b0
  by_cases hh7 : 64 < ta
  · have E : Hid (cfgF sh wi ra ta nd ac sy = 1) := cfgF_1 (siz_f (by omega))
    go_enter Try.func17, Try.ntmps17
    go_wp2_with fail
    go_ret
    exact madeX_mk E.out b0
  have HSZ : Hid (sizB sh wi ra ta = true) := siz_t (by omega)
  go_enter Try.func17, Try.ntmps17
  go_wp2_with fail
  generalize (w.alloc (.cells #[.int .i64 sh, .int .i64 wi, .int .i64 ra, .int .i64 ta, .slice A nd.length c, .slice B ac.length d, .slice C sy.length f] 29)) = w1 at b0 l0 ua0 s0 k0 ⊢
  refine (rcheck_any A c nd w1 l0 hw (by omega)).mono ?_
  rintro e w2 ⟨rfl, hb2⟩
  have b2 := below_step b0 hb2
  have k2 := Lib.hid (Blk.below' k0.out hb2)
  have ua2 : Hid (Ris w2 w2.heap.size B ac) := Rd.below' ua0.out hb2 hb2.size
  have s2 : Hid (Smb w2 w2.heap.size C sy) := Rd.below' s0.out hb2 hb2.size
  have g4 : w2.cell? ⟨w.heap.size, 4, none⟩ = some (.slice A nd.length c) := k2.out.cell 4
  have g5 : w2.cell? ⟨w.heap.size, 5, none⟩ = some (.slice B ac.length d) := k2.out.cell 5
  have g6 : w2.cell? ⟨w.heap.size, 6, none⟩ = some (.slice C sy.length f) := k2.out.cell 6
  clear b0 k0 l0 ua0 s0 hb2
  by_cases hc : (chk nd).1 = 0
  case neg =>
    have c1 : ((chk nd).1 != 0) = true := by simp [hc]
    have c2 : ((chk nd).1 == 0) = false := by simp [hc]
    have E : Hid (cfgF sh wi ra ta nd ac sy = (chk nd).1) := cfgF_2 HSZ.out hc
    clear hc
    go_wp2_with fail
    go_ret
    exact madeX_mk E.out b2
  have c1 : ((chk nd).1 != 0) = false := by simp [hc]
  have c2 : ((chk nd).1 == 0) = true := by simp [hc]
  have HC := Lib.hid hc
  clear hc
  by_cases ha0 : (ac.length : Int) < 1
  · have E : Hid (cfgF sh wi ra ta nd ac sy = 3) := cfgF_3 HSZ.out HC.out (.inl (by omega))
    go_wp2_with fail
    go_ret
    exact madeX_mk E.out b2
  by_cases ha1 : 32 < (ac.length : Int)
  · have E : Hid (cfgF sh wi ra ta nd ac sy = 3) := cfgF_3 HSZ.out HC.out (.inr (by omega))
    go_wp2_with fail
    go_ret
    exact madeX_mk E.out b2
  have HA : Hid (¬ (ac.length = 0 ∨ 32 < ac.length)) := by show ¬ _; omega
  have q3 : decide (32 < (ac.length : Int)) = false := by simp; omega
  go_wp2_with fail
  go_loopg [5] ac.length (fun g s5 w' => ∃ (k nq : Nat), k + g = ac.length ∧ s5 = .int .i64 k ∧ Hid (∀ i, i < k → inR nd.length (gI ac i) = true) ∧ w' = w2.drewN nq)
  case atStart => exact ⟨0, 0, by omega, rfl, fun i hi => absurd hi (Nat.not_lt_zero i), rfl⟩
  case round =>
    obtain ⟨k, nq, hk, rfl, hall, rfl⟩ := hrel
    by_cases hlt : (k : Int) < (ac.length : Int)
    · obtain ⟨g, rfl⟩ : ∃ g, gk = g + 1 := ⟨gk - 1, by omega⟩
      obtain ⟨b, o, rfl, hb, hcc⟩ := Ris.at (i := k) ua2.out (by omega)
      have d0 := hcc k (by omega)
      clear hcc
      by_cases hi0 : gI ac k < 0
      · have E : Hid (cfgF sh wi ra ta nd ac sy = 18) := cfgF_4 HSZ.out HC.out HA.out (accB_f (i := k) (by omega) (inR_f (by omega)))
        have z1 : decide (gI ac k < 0) = true := by simp; omega
        go_wp2_with fail
        go_quiet (fail)
        go_wp2_with fail
        go_ret
        exact madeX_mk E.out (Below.drewN' (Below.drewN' b2 _) _)
      have z1 : decide (gI ac k < 0) = false := by simp; omega
      by_cases hi1 : (nd.length : Int) ≤ gI ac k
      · have E : Hid (cfgF sh wi ra ta nd ac sy = 18) := cfgF_4 HSZ.out HC.out HA.out (accB_f (i := k) (by omega) (inR_f (by omega)))
        have z2 : decide ((nd.length : Int) ≤ gI ac k) = true := by simp; omega
        go_wp2_with fail
        go_quiet (fail)
        go_wp2_with fail
        go_ret
        exact madeX_mk E.out (Below.drewN' (Below.drewN' b2 _) _)
      have z2 : decide ((nd.length : Int) ≤ gI ac k) = false := by simp; omega
      have hall' : Hid (∀ i, i < k + 1 → inR nd.length (gI ac i) = true) := fun i hi => by
        by_cases e : i = k
        · subst e; exact inR_t (by omega) (by omega)
        · exact hall.out i (by omega)
      go_wp2_with fail
      go_quiet (fail)
      go_wp2_with fail
      go_roundg g
      case measure => omega
      case rel => exact ⟨k + 1, _, by omega, by go_num, hall', rfl⟩
    · have HB : Hid (accB nd.length ac = true) := accB_t fun i hi => hall.out i (by omega)
      have bq : Below w.heap.size w (w2.drewN nq) := Below.drewN' b2 nq
      have sq : Hid (Smb (w2.drewN nq) (w2.drewN nq).heap.size C sy) := s2.out
      have kq : Hid (Blk (w2.drewN nq) w.heap.size 29 #[.int .i64 sh, .int .i64 wi, .int .i64 ra, .int .i64 ta, .slice A nd.length c, .slice B ac.length d, .slice C sy.length f]) := k2.out
      have g4' : (w2.drewN nq).cell? ⟨w.heap.size, 4, none⟩ = some (.slice A nd.length c) := g4
      have g5' : (w2.drewN nq).cell? ⟨w.heap.size, 5, none⟩ = some (.slice B ac.length d) := g5
      have g6' : (w2.drewN nq).cell? ⟨w.heap.size, 6, none⟩ = some (.slice C sy.length f) := g6
      clear hk g4 g5 g6 b2 s2 k2
      generalize w2.drewN nq = w3 at bq sq kq g4' g5' g6' ⊢
      by_cases ha0 : (sy.length : Int) < 1
      · have E : Hid (cfgF sh wi ra ta nd ac sy = 4) := cfgF_5 HSZ.out HC.out HA.out HB.out (.inl (by omega))
        go_wp2_with fail
        go_ret
        exact madeX_mk E.out bq
      by_cases ha2 : 16 < (sy.length : Int)
      · have E : Hid (cfgF sh wi ra ta nd ac sy = 4) := cfgF_5 HSZ.out HC.out HA.out HB.out (.inr (by omega))
        go_wp2_with fail
        go_ret
        exact madeX_mk E.out bq
      have HD : Hid (¬ (sy.length = 0 ∨ 16 < sy.length)) := by show ¬ _; omega
      have q4 : decide (16 < (sy.length : Int)) = false := by simp; omega
      go_wp2_with fail
      go_loopg [6] sy.length (fun g s6 w' => ∃ (j : Nat), j + g = sy.length ∧ s6 = .int .i64 j ∧ Hid (∀ i, i < j → symB (sP sy i) (sQ sy i) (sW sy i) (sB sy i) = true) ∧ Below w3.heap.size w3 w')
      case atStart => exact ⟨0, by omega, rfl, fun i hi => absurd hi (Nat.not_lt_zero i), Below.refl _ _⟩
      case round =>
        obtain ⟨j, hj, rfl, hall2, hbel⟩ := hrel
        have bE := below_step bq hbel
        have g7 : wr.cell? ⟨w.heap.size, 6, none⟩ = some (.slice C sy.length f) := (Blk.below' kq.out hbel).cell 6
        by_cases hlt2 : (j : Int) < (sy.length : Int)
        · obtain ⟨g, rfl⟩ : ∃ g, gk = g + 1 := ⟨gk - 1, by omega⟩
          obtain ⟨b, o, rfl, hb, hcc⟩ := Smb.at (i := j) sq.out (by omega)
          obtain ⟨r0, r1, r2, r3⟩ := hcc j (by omega)
          have d0 := (hbel.cell (p := ⟨b, o + j * 4, none⟩) hb).trans r0
          have d1 := (hbel.cell (p := ⟨b, o + j * 4 + 1, none⟩) hb).trans r1
          have d2 := (hbel.cell (p := ⟨b, o + j * 4 + 2, none⟩) hb).trans r2
          have d3 := (hbel.cell (p := ⟨b, o + j * 4 + 3, none⟩) hb).trans r3
          clear hcc r0 r1 r2 r3
          by_cases hy0 : sP sy j < 1
          ·
              have E : Hid (cfgF sh wi ra ta nd ac sy = 1) := cfgF_6 HSZ.out HC.out HA.out HB.out HD.out (tabB_f (i := j) (by omega) (sym_f (by omega)))
              go_wp2_with fail
              go_ret
              exact madeX_mk E.out (bE.alloc bE.size _)
          by_cases hy1 : 1099511627776 < sP sy j
          ·
              have E : Hid (cfgF sh wi ra ta nd ac sy = 1) := cfgF_6 HSZ.out HC.out HA.out HB.out HD.out (tabB_f (i := j) (by omega) (sym_f (by omega)))
              go_wp2_with fail
              go_ret
              exact madeX_mk E.out (bE.alloc bE.size _)
          by_cases hy2 : sQ sy j < 1
          ·
              have E : Hid (cfgF sh wi ra ta nd ac sy = 1) := cfgF_6 HSZ.out HC.out HA.out HB.out HD.out (tabB_f (i := j) (by omega) (sym_f (by omega)))
              go_wp2_with fail
              go_ret
              exact madeX_mk E.out (bE.alloc bE.size _)
          by_cases hy3 : 1099511627776 < sQ sy j
          ·
              have E : Hid (cfgF sh wi ra ta nd ac sy = 1) := cfgF_6 HSZ.out HC.out HA.out HB.out HD.out (tabB_f (i := j) (by omega) (sym_f (by omega)))
              go_wp2_with fail
              go_ret
              exact madeX_mk E.out (bE.alloc bE.size _)
          by_cases hy4 : sW sy j < 0
          ·
              have E : Hid (cfgF sh wi ra ta nd ac sy = 1) := cfgF_6 HSZ.out HC.out HA.out HB.out HD.out (tabB_f (i := j) (by omega) (sym_f (by omega)))
              go_wp2_with fail
              go_ret
              exact madeX_mk E.out (bE.alloc bE.size _)
          cases hin : rightB (sB sy j)
          · have E : Hid (cfgF sh wi ra ta nd ac sy = 1) := cfgF_6 HSZ.out HC.out HA.out HB.out HD.out (tabB_f (i := j) (by omega) (sym_f (.inr (.inr (.inr (.inr (.inr hin)))))))
            go_wp2_with (go_at_call 49; refine (Bnd.rright_any _ _).mono ?_; rintro e w4 ⟨rfl, rfl⟩)
            go_ret
            exact madeX_mk E.out (bE.alloc bE.size _)
          · have hall' : Hid (∀ i, i < j + 1 → symB (sP sy i) (sQ sy i) (sW sy i) (sB sy i) = true) := fun i hi => by
              by_cases e : i = j
              · subst e; exact sym_t (by omega) hin
              · exact hall2.out i (by omega)
            go_wp2_with (go_at_call 49; refine (Bnd.rright_any _ _).mono ?_; rintro e w4 ⟨rfl, rfl⟩)
            go_roundg g
            case measure => omega
            case rel => exact ⟨j + 1, by omega, by go_num, hall', hbel.alloc hbel.size _⟩
        · have E : Hid (cfgF sh wi ra ta nd ac sy = 0) := cfgF_7 HSZ.out HC.out HA.out HB.out HD.out (tabB_t fun i hi => hall2.out i (by omega))
          go_wp2_with fail
          go_ret
          exact madeX_mk E.out bE
end Go.Proofs.Ytecjecgkioklaaa.Rul2
