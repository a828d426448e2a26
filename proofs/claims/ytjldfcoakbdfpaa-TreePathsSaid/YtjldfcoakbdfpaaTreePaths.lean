/- For every list of nodes and every number the law TreePaths returns true, and changes nothing: path and level are the reference's, the path goes from each node to the one it hangs on, up to one that hangs on none. No condition. -/
import Derived.Test.YtjldfcoakbdfpaaTold3
import Derived.Test.YtjldfcoakbdfpaaFix
namespace Go.Proofs.Ytjldfcoakbdfpaa.treePaths
open Go.ChangeShapes Go.WideShapes Go.ChangeAt Go.RowKit Mem Tre Ref3 Law3 Told3 Fix3
set_option linter.unusedVariables false

theorem own : ownKnob Try.prog.godebug = none := by kernel_rfl
theorem laidOut : laidOutB Try.prog = true := by kernel_rfl

theorem path_len (l : List (Int × Int)) : ∀ (g : Nat) (n : Int), (pathF l g n).length ≤ g
  | 0, n => by simp [pathF]
  | g + 1, n => by
    rw [pathF]
    split
    · have := path_len l g (nP l n.toNat); simp; omega
    · simp
theorem path_wf {l : List (Int × Int)} (hl : l.length ≤ 32) : ∀ (g : Nat) (n : Int) (i : Nat), i < (pathF l g n).length → 0 ≤ gI (pathF l g n) i ∧ gI (pathF l g n) i < l.length
  | 0, n, i, h => by simp [pathF] at h
  | g + 1, n, i, h => by
    by_cases hin : inR l.length n = true
    · rw [pathF_in hin] at h ⊢
      cases i with
      | zero => exact inR_of hin
      | succ i => exact path_wf hl g _ i (by simpa using h)
    · rw [pathF_out (by simpa using hin)] at h; simp at h
theorem path_step {l : List (Int × Int)} : ∀ (g : Nat) (n : Int) (i : Nat), i + 1 < (pathF l g n).length → nP l (gI (pathF l g n) i).toNat = gI (pathF l g n) (i + 1)
  | 0, n, i, h => by simp [pathF] at h
  | g + 1, n, i, h => by
    by_cases hin : inR l.length n = true
    · rw [pathF_in hin] at h ⊢
      cases i with
      | zero =>
        show nP l n.toNat = gI (pathF l g (nP l n.toNat)) 0
        have h' : 0 < (pathF l g (nP l n.toNat)).length := by simp at h; omega
        cases g with
        | zero => simp [pathF] at h'
        | succ g =>
          by_cases hin2 : inR l.length (nP l n.toNat) = true
          · rw [pathF_in hin2]; rfl
          · rw [pathF_out (by simpa using hin2)] at h'; simp at h'
      | succ i => exact path_step g _ i (by simpa using h)
    · rw [pathF_out (by simpa using hin)] at h; simp at h
theorem path_last {l : List (Int × Int)} : ∀ (g : Nat) (n : Int) (i : Nat), fitF l g n = true → i + 1 = (pathF l g n).length → inR l.length (nP l (gI (pathF l g n) i).toNat) = false
  | 0, n, i, _, h => by simp [pathF] at h
  | g + 1, n, i, hf, h => by
    by_cases hin : inR l.length n = true
    · rw [pathF_in hin] at h ⊢
      rw [fitF_in hin] at hf
      cases i with
      | zero =>
        show inR l.length (nP l n.toNat) = false
        have h' : (pathF l g (nP l n.toNat)).length = 0 := by simp at h; exact List.length_eq_zero_iff.2 h
        cases g with
        | zero => simpa [fitF] using hf
        | succ g =>
          cases hin2 : inR l.length (nP l n.toNat) with
          | true => rw [pathF_in hin2] at h'; simp at h'
          | false => rfl
      | succ i => exact path_last g _ i hf (by simpa using h)
    · rw [pathF_out (by simpa using hin)] at h; simp at h
theorem okt_par {l : List (Int × Int)} (h : Okt l) : Par l := fun i hi => by have := h i hi; omega
theorem okt_fit {l : List (Int × Int)} (h : Okt l) (n : Int) : fitF l 3 n = true := by
  by_cases hin : inR l.length n = true
  · obtain ⟨h0, h1⟩ := inR_of hin
    have := fit_top (okt_par h) 3 n.toNat (by omega)
    rw [Int.toNat_of_nonneg h0] at this
    rw [this]
    exact (h n.toNat (by omega)).2.2.2.2
  · exact fitF_out (by simpa using hin)
theorem okt_last {l : List (Int × Int)} (h : Okt l) (hl : l.length ≤ 32) (n : Int) (i : Nat) (hi : i + 1 = (pathF l 3 n).length) : nP l (gI (pathF l 3 n) i).toNat = -1 := by
  have h1 := path_last 3 n i (okt_fit h n) hi
  have h2 := path_wf hl 3 n i (by omega)
  have h3 := h (gI (pathF l 3 n) i).toNat (by omega)
  by_cases e : 0 ≤ nP l (gI (pathF l 3 n) i).toNat
  · rw [inR_t e (by omega)] at h1; cases h1
  · omega
theorem path_n (n : Nat) (A : Option Addr) (c : Nat) (l : List (Int × Int)) (m : Int) (w : World) (hn : n = l.length) (hl : Hid (Nds w w.heap.size A l)) (hw : Hid (WfN l)) (hmax : (l.length : Int) ≤ 9223372036854775807) (hm : inI m) :
    Calls Try.prog 14 #[.slice A n c, .int .i64 m] w (MadeI (pathF l 3 m) w) := by subst hn; exact path_any A c l m w hl.out hw hmax hm


set_option maxHeartbeats 2000000 in
theorem inner1 (A : Option Addr) (c : Nat) (l : List (Int × Int)) (n : Int) (w : World) (hl : Hid (Nds w w.heap.size A l)) (hw : Hid (WfN l)) (hmax : (l.length : Int) ≤ 9223372036854775807) (hn0 : -9223372036854775808 ≤ n) (hn1 : n ≤ 9223372036854775807) (hc : n ≤ 40) :
    Calls Try.prog 4 #[.slice A l.length c, .int .i64 n] w (MadeB true w) := by
  obtain ⟨F, hF⟩ : ∃ F, F = fixF l := ⟨_, rfl⟩
  have HF := Lib.hid hF
  have o1 : Hid (Okt F) := by rw [hF]; exact okt_fixF l
  have o2 : F.length ≤ 10 := by rw [hF]; exact (fixF_len l).2
  have o3 : 1 ≤ F.length := by rw [hF]; exact (fixF_len l).1
  have o4 : Hid (WfN F) := okt_wf o1.out (by omega)
  clear hF
  obtain ⟨P, hP⟩ : ∃ P, P = pathF F 3 (n) := ⟨_, rfl⟩
  have HP := Lib.hid hP
  have p1 : P.length ≤ 3 := by rw [hP]; exact path_len _ _ _
  clear hP
  have e0 : eqI P P = true := eqI_refl P
  have e1 : (((P.length : Int) - 1) != ((P.length : Int) - 1)) = false := by simp
  have e2 : (((P.length : Int) - 1) == ((P.length : Int) - 1)) = true := by simp
  have e3 : (chk F).1 = 0 := by rw [okt_chk o1.out o3 (by omega)]
  go_enter Try.func4, Try.ntmps4
  go_wp2_with fail
  refine (fix_any A c l w hl hw hmax).mono ?_
  rintro e w1 ⟨A1, c1, rfl, hr1, hb1⟩
  rw [← HF.out] at hr1 ⊢
  have r1 : Hid (Nds w1 w1.heap.size A1 F) := hr1
  clear hr1
  go_wp2_with fail
  refine (to_any A1 c1 F w1 r1 o4 (by omega)).mono ?_
  rintro e w2 ⟨A2, c2, rfl, hr2, hb2⟩
  have r2 : Hid (Nds w2 w2.heap.size A2 F) := hr2
  have r1' : Hid (Nds w2 w2.heap.size A1 F) := Rd.below' r1.out hb2 hb2.size
  have hs2 : Below w.heap.size w w2 := hb1.trans (hb2.mono hb1.size)
  clear hr2 r1 hb1 hb2
  go_wp2_with fail
  refine (path_any A2 c2 F _ w2 r2.out o4 (by omega) ⟨by omega, by omega⟩).mono ?_
  rintro e w3 ⟨A3, c3, rfl, hr3, hb3⟩
  rw [← HP.out] at hr3 ⊢
  have r3 : Hid (Ris w3 w3.heap.size A3 P) := hr3
  have r2' : Hid (Nds w3 w3.heap.size A2 F) := Rd.below' r2.out hb3 hb3.size
  have r1'' : Hid (Nds w3 w3.heap.size A1 F) := Rd.below' r1'.out hb3 hb3.size
  have hs3 : Below w.heap.size w w3 := hs2.trans (hb3.mono hs2.size)
  clear hr3 r2 r1' hb3 hs2
  go_wp2_with fail
  refine (told3_any _).mono ?_
  rintro e w4 ⟨rfl, hb4⟩
  have q3 : Hid (Ris w4 w4.heap.size A3 P) := Rd.below' r3.out hb4 hb4.size
  have q2 : Hid (Nds w4 w4.heap.size A2 F) := Rd.below' r2'.out hb4 hb4.size
  have q1 : Hid (Nds w4 w4.heap.size A1 F) := Rd.below' r1''.out hb4 hb4.size
  have hs4 : Below w.heap.size w w4 := hs3.trans (hb4.mono hs3.size)
  clear r3 r2' r1'' hb4 hs3
  go_wp2_with fail
  refine (rpath_any A1 c1 F _ w4 q1 o4 (by omega) ⟨by omega, by omega⟩).mono ?_
  rintro e w5 ⟨A5, c5, rfl, hr5, hb5⟩
  rw [← HP.out] at hr5 ⊢
  have s5 : Hid (Ris w5 w5.heap.size A5 P) := hr5
  have s3 : Hid (Ris w5 w5.heap.size A3 P) := Rd.below' q3.out hb5 hb5.size
  have s2 : Hid (Nds w5 w5.heap.size A2 F) := Rd.below' q2.out hb5 hb5.size
  have s1 : Hid (Nds w5 w5.heap.size A1 F) := Rd.below' q1.out hb5 hb5.size
  have hs5 : Below w.heap.size w w5 := hs4.trans (hb5.mono hs4.size)
  clear hr5 q3 q2 q1 hb5 hs4
  go_wp2_with fail
  refine (ints_any A3 A5 c3 c5 P P w5 s3 s5 (by omega) (by omega)).mono ?_
  rintro e w6 ⟨rfl, hb6⟩
  have t3 : Hid (Ris w6 w6.heap.size A3 P) := Rd.below' s3.out hb6 hb6.size
  have t2 : Hid (Nds w6 w6.heap.size A2 F) := Rd.below' s2.out hb6 hb6.size
  have t1 : Hid (Nds w6 w6.heap.size A1 F) := Rd.below' s1.out hb6 hb6.size
  have hs6 : Below w.heap.size w w6 := hs5.trans (hb6.mono hs5.size)
  clear s5 s3 s2 s1 hb6 hs5
  go_wp2_with fail
  refine (level_any A2 c2 F _ w6 t2.out o4 (by omega) ⟨by omega, by omega⟩ (by rw [← HP.out]; omega)).mono ?_
  rintro e w7 ⟨rfl, hb7⟩
  rw [← HP.out]
  have u3 : Hid (Ris w7 w7.heap.size A3 P) := Rd.below' t3.out hb7 hb7.size
  have u2 : Hid (Nds w7 w7.heap.size A2 F) := Rd.below' t2.out hb7 hb7.size
  have u1 : Hid (Nds w7 w7.heap.size A1 F) := Rd.below' t1.out hb7 hb7.size
  have hs7 : Below w.heap.size w w7 := hs6.trans (hb7.mono hs6.size)
  clear t3 t2 t1 hb7 hs6
  go_wp2_with fail
  refine (rpath_any A1 c1 F _ w7 u1 o4 (by omega) ⟨by omega, by omega⟩).mono ?_
  rintro e w8 ⟨A8, c8, rfl, hr8, hb8⟩
  rw [← HP.out]
  have v3 : Hid (Ris w8 w8.heap.size A3 P) := Rd.below' u3.out hb8 hb8.size
  have v2 : Hid (Nds w8 w8.heap.size A2 F) := Rd.below' u2.out hb8 hb8.size
  have hs8 : Below w.heap.size w w8 := hs7.trans (hb8.mono hs7.size)
  clear hr8 u3 u2 u1 hb8 hs7
  go_wp2_with fail
  go_loopg [8] P.length (fun g s8 w' => ∃ (i : Nat), i + g = P.length ∧ s8 = .int .i64 i ∧ Hid (Ris w' w'.heap.size A3 P) ∧ Hid (Nds w' w'.heap.size A2 F) ∧ Below w.heap.size w w')
  case atStart => exact ⟨0, by omega, rfl, v3, v2, hs8⟩
  case round =>
    obtain ⟨i, hk, rfl, hr3, hr2, hbel⟩ := hrel
    by_cases hlt : (i : Int) < (P.length : Int)
    · obtain ⟨g, rfl⟩ : ∃ g, gk = g + 1 := ⟨gk - 1, by omega⟩
      have hwf := path_wf (l := F) (by omega) 3 (n) i (by rw [← HP.out]; omega)
      rw [← HP.out] at hwf
      obtain ⟨w1a, w1b⟩ := hwf
      obtain ⟨b, o, rfl, hb, hcc⟩ := Ris.at (i := i) hr3.out (by omega)
      obtain ⟨b', o', rfl, hb', hcc'⟩ := Nds.at hr2.out (by omega)
      have d0 := hcc i (by omega)
      have d1 := (hcc' (gI P i).toNat (by omega)).1
      by_cases hnx : i + 1 < P.length
      · have hst := path_step (l := F) 3 (n) i (by rw [← HP.out]; exact hnx)
        rw [← HP.out] at hst
        have d2 := hcc (i + 1) hnx
        have d2' : wr.cell? ⟨b, o + i + 1, none⟩ = some (.int .i64 (gI P (i + 1))) := by rw [Nat.add_assoc]; exact d2
        rw [hst] at d1
        have y1 : ((gI P (i + 1)) != (gI P (i + 1))) = false := by simp
        have y2 : (((i : Int) + 1) == (P.length : Int)) = false := beq_eq_false_iff_ne.2 (by omega)
        have y3 : decide (((i : Int) + 1) < (P.length : Int)) = true := by simp; omega
        have y4 : decide (i + 1 < P.length) = true := by simp; omega
        clear hcc hcc' hst
        go_wp2_with fail
        go_quiet (fail)
        go_wp2_with fail
        go_roundg g
        case measure => omega
        case rel => exact ⟨i + 1, by omega, by go_num, hr3, hr2, Below.drewN' hbel _⟩
      · have hst := okt_last o1.out (by omega) (n) i (by rw [← HP.out]; omega)
        rw [← HP.out] at hst
        rw [hst] at d1
        have y2 : (((i : Int) + 1) == (P.length : Int)) = true := beq_iff_eq.2 (by omega)
        have y3 : decide (((i : Int) + 1) < (P.length : Int)) = false := by simp; omega
        have y4 : decide (i + 1 < P.length) = false := by simp; omega
        clear hcc hcc' hst
        go_wp2_with fail
        go_quiet (fail)
        go_wp2_with fail
        go_roundg g
        case measure => omega
        case rel => exact ⟨i + 1, by omega, by go_num, hr3, hr2, Below.drewN' hbel _⟩
    · go_wp2_with fail
      refine (check_any A2 c2 F _ hr2.out o4 (by omega)).mono ?_
      rintro e w9 ⟨rfl, hb9⟩
      go_wp2_with fail
      go_ret
      exact madeB_mk rfl (hbel.trans (hb9.mono hbel.size))

set_option maxHeartbeats 2000000 in
theorem inner2 (A : Option Addr) (c : Nat) (l : List (Int × Int)) (n : Int) (w : World) (hl : Hid (Nds w w.heap.size A l)) (hw : Hid (WfN l)) (hmax : (l.length : Int) ≤ 9223372036854775807) (hn0 : -9223372036854775808 ≤ n) (hn1 : n ≤ 9223372036854775807) (hc : 40 < n) :
    Calls Try.prog 4 #[.slice A l.length c, .int .i64 n] w (MadeB true w) := by
  obtain ⟨F, hF⟩ : ∃ F, F = fixF l := ⟨_, rfl⟩
  have HF := Lib.hid hF
  have o1 : Hid (Okt F) := by rw [hF]; exact okt_fixF l
  have o2 : F.length ≤ 10 := by rw [hF]; exact (fixF_len l).2
  have o3 : 1 ≤ F.length := by rw [hF]; exact (fixF_len l).1
  have o4 : Hid (WfN F) := okt_wf o1.out (by omega)
  clear hF
  obtain ⟨P, hP⟩ : ∃ P, P = pathF F 3 (n % 40) := ⟨_, rfl⟩
  have HP := Lib.hid hP
  have p1 : P.length ≤ 3 := by rw [hP]; exact path_len _ _ _
  clear hP
  have e0 : eqI P P = true := eqI_refl P
  have e1 : (((P.length : Int) - 1) != ((P.length : Int) - 1)) = false := by simp
  have e2 : (((P.length : Int) - 1) == ((P.length : Int) - 1)) = true := by simp
  have e3 : (chk F).1 = 0 := by rw [okt_chk o1.out o3 (by omega)]
  go_enter Try.func4, Try.ntmps4
  go_wp2_with fail
  refine (fix_any A c l w hl hw hmax).mono ?_
  rintro e w1 ⟨A1, c1, rfl, hr1, hb1⟩
  rw [← HF.out] at hr1 ⊢
  have r1 : Hid (Nds w1 w1.heap.size A1 F) := hr1
  clear hr1
  go_wp2_with fail
  refine (to_any A1 c1 F w1 r1 o4 (by omega)).mono ?_
  rintro e w2 ⟨A2, c2, rfl, hr2, hb2⟩
  have r2 : Hid (Nds w2 w2.heap.size A2 F) := hr2
  have r1' : Hid (Nds w2 w2.heap.size A1 F) := Rd.below' r1.out hb2 hb2.size
  have hs2 : Below w.heap.size w w2 := hb1.trans (hb2.mono hb1.size)
  clear hr2 r1 hb1 hb2
  go_wp2_with fail
  refine (path_any A2 c2 F _ w2 r2.out o4 (by omega) ⟨by omega, by omega⟩).mono ?_
  rintro e w3 ⟨A3, c3, rfl, hr3, hb3⟩
  rw [← HP.out] at hr3 ⊢
  have r3 : Hid (Ris w3 w3.heap.size A3 P) := hr3
  have r2' : Hid (Nds w3 w3.heap.size A2 F) := Rd.below' r2.out hb3 hb3.size
  have r1'' : Hid (Nds w3 w3.heap.size A1 F) := Rd.below' r1'.out hb3 hb3.size
  have hs3 : Below w.heap.size w w3 := hs2.trans (hb3.mono hs2.size)
  clear hr3 r2 r1' hb3 hs2
  go_wp2_with fail
  refine (told3_any _).mono ?_
  rintro e w4 ⟨rfl, hb4⟩
  have q3 : Hid (Ris w4 w4.heap.size A3 P) := Rd.below' r3.out hb4 hb4.size
  have q2 : Hid (Nds w4 w4.heap.size A2 F) := Rd.below' r2'.out hb4 hb4.size
  have q1 : Hid (Nds w4 w4.heap.size A1 F) := Rd.below' r1''.out hb4 hb4.size
  have hs4 : Below w.heap.size w w4 := hs3.trans (hb4.mono hs3.size)
  clear r3 r2' r1'' hb4 hs3
  go_wp2_with fail
  refine (rpath_any A1 c1 F _ w4 q1 o4 (by omega) ⟨by omega, by omega⟩).mono ?_
  rintro e w5 ⟨A5, c5, rfl, hr5, hb5⟩
  rw [← HP.out] at hr5 ⊢
  have s5 : Hid (Ris w5 w5.heap.size A5 P) := hr5
  have s3 : Hid (Ris w5 w5.heap.size A3 P) := Rd.below' q3.out hb5 hb5.size
  have s2 : Hid (Nds w5 w5.heap.size A2 F) := Rd.below' q2.out hb5 hb5.size
  have s1 : Hid (Nds w5 w5.heap.size A1 F) := Rd.below' q1.out hb5 hb5.size
  have hs5 : Below w.heap.size w w5 := hs4.trans (hb5.mono hs4.size)
  clear hr5 q3 q2 q1 hb5 hs4
  go_wp2_with fail
  refine (ints_any A3 A5 c3 c5 P P w5 s3 s5 (by omega) (by omega)).mono ?_
  rintro e w6 ⟨rfl, hb6⟩
  have t3 : Hid (Ris w6 w6.heap.size A3 P) := Rd.below' s3.out hb6 hb6.size
  have t2 : Hid (Nds w6 w6.heap.size A2 F) := Rd.below' s2.out hb6 hb6.size
  have t1 : Hid (Nds w6 w6.heap.size A1 F) := Rd.below' s1.out hb6 hb6.size
  have hs6 : Below w.heap.size w w6 := hs5.trans (hb6.mono hs5.size)
  clear s5 s3 s2 s1 hb6 hs5
  go_wp2_with fail
  refine (level_any A2 c2 F _ w6 t2.out o4 (by omega) ⟨by omega, by omega⟩ (by rw [← HP.out]; omega)).mono ?_
  rintro e w7 ⟨rfl, hb7⟩
  rw [← HP.out]
  have u3 : Hid (Ris w7 w7.heap.size A3 P) := Rd.below' t3.out hb7 hb7.size
  have u2 : Hid (Nds w7 w7.heap.size A2 F) := Rd.below' t2.out hb7 hb7.size
  have u1 : Hid (Nds w7 w7.heap.size A1 F) := Rd.below' t1.out hb7 hb7.size
  have hs7 : Below w.heap.size w w7 := hs6.trans (hb7.mono hs6.size)
  clear t3 t2 t1 hb7 hs6
  go_wp2_with fail
  refine (rpath_any A1 c1 F _ w7 u1 o4 (by omega) ⟨by omega, by omega⟩).mono ?_
  rintro e w8 ⟨A8, c8, rfl, hr8, hb8⟩
  rw [← HP.out]
  have v3 : Hid (Ris w8 w8.heap.size A3 P) := Rd.below' u3.out hb8 hb8.size
  have v2 : Hid (Nds w8 w8.heap.size A2 F) := Rd.below' u2.out hb8 hb8.size
  have hs8 : Below w.heap.size w w8 := hs7.trans (hb8.mono hs7.size)
  clear hr8 u3 u2 u1 hb8 hs7
  go_wp2_with fail
  go_loopg [8] P.length (fun g s8 w' => ∃ (i : Nat), i + g = P.length ∧ s8 = .int .i64 i ∧ Hid (Ris w' w'.heap.size A3 P) ∧ Hid (Nds w' w'.heap.size A2 F) ∧ Below w.heap.size w w')
  case atStart => exact ⟨0, by omega, rfl, v3, v2, hs8⟩
  case round =>
    obtain ⟨i, hk, rfl, hr3, hr2, hbel⟩ := hrel
    by_cases hlt : (i : Int) < (P.length : Int)
    · obtain ⟨g, rfl⟩ : ∃ g, gk = g + 1 := ⟨gk - 1, by omega⟩
      have hwf := path_wf (l := F) (by omega) 3 (n % 40) i (by rw [← HP.out]; omega)
      rw [← HP.out] at hwf
      obtain ⟨w1a, w1b⟩ := hwf
      obtain ⟨b, o, rfl, hb, hcc⟩ := Ris.at (i := i) hr3.out (by omega)
      obtain ⟨b', o', rfl, hb', hcc'⟩ := Nds.at hr2.out (by omega)
      have d0 := hcc i (by omega)
      have d1 := (hcc' (gI P i).toNat (by omega)).1
      by_cases hnx : i + 1 < P.length
      · have hst := path_step (l := F) 3 (n % 40) i (by rw [← HP.out]; exact hnx)
        rw [← HP.out] at hst
        have d2 := hcc (i + 1) hnx
        have d2' : wr.cell? ⟨b, o + i + 1, none⟩ = some (.int .i64 (gI P (i + 1))) := by rw [Nat.add_assoc]; exact d2
        rw [hst] at d1
        have y1 : ((gI P (i + 1)) != (gI P (i + 1))) = false := by simp
        have y2 : (((i : Int) + 1) == (P.length : Int)) = false := beq_eq_false_iff_ne.2 (by omega)
        have y3 : decide (((i : Int) + 1) < (P.length : Int)) = true := by simp; omega
        have y4 : decide (i + 1 < P.length) = true := by simp; omega
        clear hcc hcc' hst
        go_wp2_with fail
        go_quiet (fail)
        go_wp2_with fail
        go_roundg g
        case measure => omega
        case rel => exact ⟨i + 1, by omega, by go_num, hr3, hr2, Below.drewN' hbel _⟩
      · have hst := okt_last o1.out (by omega) (n % 40) i (by rw [← HP.out]; omega)
        rw [← HP.out] at hst
        rw [hst] at d1
        have y2 : (((i : Int) + 1) == (P.length : Int)) = true := beq_iff_eq.2 (by omega)
        have y3 : decide (((i : Int) + 1) < (P.length : Int)) = false := by simp; omega
        have y4 : decide (i + 1 < P.length) = false := by simp; omega
        clear hcc hcc' hst
        go_wp2_with fail
        go_quiet (fail)
        go_wp2_with fail
        go_roundg g
        case measure => omega
        case rel => exact ⟨i + 1, by omega, by go_num, hr3, hr2, Below.drewN' hbel _⟩
    · go_wp2_with fail
      refine (check_any A2 c2 F _ hr2.out o4 (by omega)).mono ?_
      rintro e w9 ⟨rfl, hb9⟩
      go_wp2_with fail
      go_ret
      exact madeB_mk rfl (hbel.trans (hb9.mono hbel.size))

theorem inner (A : Option Addr) (c : Nat) (l : List (Int × Int)) (n : Int) (w : World) (hl : Nds w w.heap.size A l) (hw : WfN l) (hc : l.length ≤ c) (hcm : c ≤ maxLen) (hn : inI n) :
    Calls Try.prog 4 #[.slice A l.length c, .int .i64 n] w (MadeB true w) := by
  unfold maxLen at hcm
  by_cases h : 40 < n
  · exact inner2 A c l n w hl hw (by omega) hn.1 hn.2 h
  · exact inner1 A c l n w hl hw (by omega) hn.1 hn.2 (by omega)

set_option maxRecDepth 100000 in
theorem lifted (os : Os) (started : os.Started) (H : Type) (enc : TypeId × Value → H) :
    ReturnsInHanded {} Try.checked os 4 .any (Rows.treePathsSpec.pre6 enc Try.prog Try.f4 Rows.treePathsRow.domain false) (Rows.treePathsSpec.post enc Try.prog Try.f4 false true false false) := by
  refine returnsInHanded_of_change (C := Try.checked) own started (by kernel_rfl) Try.func4
    (ChangeSpec.witness6 (enc := enc) (C := Try.checked) false ⟨#[], #[.slice none 0 0, .int .i64 0], []⟩ 8 (by kernel_rfl) (by kernel_rfl) (by kernel_rfl) (by kernel_rfl)) ?_
  intro W base args ds gs before hval0 hW hcnd _
  have hval : ∀ (j : Nat) t v, Try.f4.params[j]? = some t → args[j]? = some v → Value.okWide Try.prog W .any base t v := hval0
  have hW' := hW
  obtain ⟨p, q, hA0, hV, rfl, hfz, hnd⟩ := hW
  have hA : DataW.TrodAll enc Try.prog W 0 (fun _ => true) true Try.f4.params.toList args.toList ds p := hA0
  rw [Try.params4] at hA hval
  obtain ⟨v0, v1, d0, d1, p0, p1, rfl, rfl, rfl, h0, h1⟩ := trodAll_two hA
  obtain ⟨A, c, l, rfl, hlc, hcm, hl, hw⟩ := open_nodes Try.underlying22 Try.underlying69 (by kernel_rfl) rfl rfl (by kernel_rfl) (by kernel_rfl) Try.underlying3 Try.underlying2 (hval 0 _ v0 rfl rfl) h0
  obtain ⟨a1, rfl, rfl, rfl, wf1⟩ := open_int Try.underlying3 (hval 1 _ v1 rfl rfl) h1
  refine (inner A c l a1 W hl hw hlc hcm (wf_in wf1)).mono fun e W' ⟨he, hb⟩ => ?_
  subst he
  exact ⟨_, rfl, law_post hW' rfl rfl rfl rfl (by kernel_rfl) Try.underlying4 (by rw [Try.params4]; simp only [List.mem_cons, List.not_mem_nil, or_false, forall_eq_or_imp, forall_eq]; exact ⟨⟨by kernel_rfl, of_decide_eq_true (by kernel_rfl)⟩, ⟨by kernel_rfl, of_decide_eq_true (by kernel_rfl)⟩⟩) laidOut hb⟩

theorem over : Rows.treePathsRow.holds Try.pinned (OpenSpec.ofChange Rows.treePathsSpec) :=
  OpenClaim.holds_of_wide 4 Try.f4 rfl rfl rfl rfl rfl rfl rfl ⟨rfl, rfl, rfl, rfl, rfl⟩ rfl rfl rfl rfl rfl (by kernel_rfl) Try.func4 (by kernel_rfl)
    (of_decide_eq_true (by kernel_rfl)) (by unfold Func.isWrapper; first | (rw [if_pos (by decide +kernel)]; kernel_rfl) | (rw [if_neg (by decide +kernel)]; exact ⟨rfl, rfl⟩))
    (fun os started H enc _ => lifted os started H enc)

theorem proved : Rows.TreePathsSaid := over
#print axioms proved
end Go.Proofs.Ytjldfcoakbdfpaa.treePaths
