import Derived.Test.YtiabkkdeonepgaaGreatDoorXO
import Derived.Deep.RegionHeld3
import Derived.BigRegion
import Derived.RegionTactic
import Derived.ChangeAlike
import Derived.Test.YtiabkkdeonepgaaGreatDoorXH
set_option maxRecDepth 100000
namespace Go.Proofs.YtiabkkdeonepgaaGreatDoor
open Go.RowKit
namespace Ps
set_option maxHeartbeats 8000000 in
theorem stmt_while (X : Cx) (f : Nat) (IE : ExC X f .expr 127) (IB : ExC X f .block 86) (b : Int) (i : Nat) (w : World) (r : Fo × Nat × Int) (hr : exM X.l (f + 1) .stmt b i = some r) (hS : St X w b) (hi : i < X.l.length) (q0 : isM X.l i kIf = false) (q1 : isM X.l i kWhile = true) :
    Calls Tryz.prog 109 #[X.p, .int .i64 i] w fun e w' => NodeP X w r e w' := by
  have hle := hS.wf.le
  have hrb := hS.row.lt
  have hnx := isM_next hS.wf q1
  obtain ⟨j, hj⟩ : ∃ j, j = i + 1 := ⟨_, rfl⟩
  have e1 : IntKind.i64.wrap ((i : Int) + 1) = (j : Int) := by rw [IntKind.wrap_i64]; omega
  rw [exM, if_neg (by rw [q0]; simp), if_pos q1, ← hj] at hr
  rw [← hj] at hnx
  obtain ⟨⟨cf, p1, b1⟩, hc, hr⟩ := Option.bind_eq_some_iff.1 hr
  obtain ⟨⟨kf, p2, b2⟩, hk, hr⟩ := Option.bind_eq_some_iff.1 hr
  injection hr with hr
  subst hr
  dsimp only at hk
  have L0 := Lib.hid (((LS.start hS).alloc w.heap.size rfl 25 zc).alloc (w.heap.size + 1) (by simp) 25 (nc ⟨13, i, 0, e0, 0⟩ none 0 0))
  have I0 : Hid (∀ w', St X w' b → Calls Tryz.prog 37 #[X.p, .int .i64 i, .string ⟨#[105, 102]⟩] w' fun e w'' => e = .returned (.bool false) ∧ Below w'.heap.size w' w'') := fun w' h => by rw [← q0]; exact is_any X b i ⟨#[105, 102]⟩ w' h hi
  have I1 : Hid (∀ w', St X w' b → Calls Tryz.prog 37 #[X.p, .int .i64 i, .string ⟨#[119, 104, 105, 108, 101]⟩] w' fun e w'' => e = .returned (.bool true) ∧ Below w'.heap.size w' w'') := fun w' h => by rw [← q1]; exact is_any X b i ⟨#[119, 104, 105, 108, 101]⟩ w' h hi
  have C1 : Hid (∀ w', St X w' b → Calls Tryz.prog 127 #[X.p, .int .i64 j] w' fun e w'' => NodeP X w' (cf, p1, b1) e w'') := fun w' h => IE b j w' _ hc h hnx
  have C2 : Hid (p1 < X.l.length → ∀ w', St X w' b1 → Calls Tryz.prog 86 #[X.p, .int .i64 p1] w' fun e w'' => NodeP X w' (kf, p2, b2) e w'') := fun hl w' h => IB b1 p1 w' _ hk h hl
  clear hS hc hk hj q0 q1
  go_enter Tryz.func109, Tryz.ntmps109
  go_wp2_with fail
  refine (I0.out _ L0.out.st).mono ?_
  rintro e w1 ⟨rfl, hb1⟩
  have L1 := Lib.hid (L0.out.other hb1)
  clear hb1
  go_wp2_with fail
  refine (I1.out _ L1.out.st).mono ?_
  rintro e w2 ⟨rfl, hb2⟩
  have L2 : Hid (LS X w (w2.setCell ⟨w.heap.size + 1, 0, none⟩ (.int .i64 10)) b [(w.heap.size + 1, 25, nc ⟨10, i, 0, e0, 0⟩ none 0 0), (w.heap.size, 25, zc)] [] (.slice none 0 0) .nil) := (L1.out.other hb2).set 0 rfl 0 (.int .i64 10)
  have m2 := ((L1.out.other hb2).row 0 rfl).cell
  have t2 := ((L1.out.other hb2).row 0 rfl).thaw
  clear hb2
  go_wp2_with fail
  refine (I0.out _ L2.out.st).mono ?_
  rintro e w3 ⟨rfl, hb3⟩
  have L3 := Lib.hid (L2.out.other hb3)
  clear hb3 m2 t2
  go_wp2_with fail
  refine (C1.out _ L3.out.st).mono ?_
  rintro e w4 ⟨h3, k3, A3, c3, e3, rfl, hK3, hS3, hF3, hl3⟩
  dsimp only at e3 hS3 hl3
  subst e3
  obtain ⟨y1, y2, y3, y4, y5⟩ := h3
  have L4 := Lib.hid ((L3.out.kid hS3 hF3 hK3).alloc w4.heap.size rfl 25 (nc ⟨y1, y2, y3, y4, y5⟩ A3 k3.len c3))
  clear hS3 hF3 hK3
  go_wp2_with fail
  refine (C2.out hl3 _ L4.out.st).mono ?_
  rintro e w5 ⟨h4, k4, A4, c4, e4, rfl, hK4, hS4, hF4, hl4⟩
  dsimp only at e4 hS4 hl4
  subst e4
  obtain ⟨z1, z2, z3, z4, z5⟩ := h4
  have L5 := Lib.hid ((L4.out.kid hS4 hF4 hK4).alloc w5.heap.size rfl 25 (nc ⟨z1, z2, z3, z4, z5⟩ A4 k4.len c4))
  have L6 := Lib.hid (L5.out.slice (w5.heap.size + 1) (by simp) (cs := #[.int .i64 y1, .int .i64 y2, .int .i64 y3, .string y4, .int .i64 y5, .slice A3 k3.len c3, .int .i64 z1, .int .i64 z2, .int .i64 z3, .string z4, .int .i64 z5, .slice A4 k4.len c4]) (KV.slice2 (h1 := ⟨y1, y2, y3, y4, y5⟩) (h2 := ⟨z1, z2, z3, z4, z5⟩) (L5.out.kidP 1 rfl) (L5.out.kidP 0 rfl)))
  have m4 := (L5.out.row 0 rfl).cell
  have m5 := (L5.out.row 1 rfl).cell
  have m6 := (L6.out.row 2 rfl).cell
  clear hS4 hF4 hK4
  go_wp2_with fail
  refine (ended_any ⟨10, i, 0, e0, 0⟩ none 0 0 p2 (some ⟨w5.heap.size + 1, 0, none⟩) 2 2 _).mono ?_
  rintro e wz ⟨rfl, hbz⟩
  have Lz := Lib.hid ((L6.out.other hbz).put6 3 rfl rfl (.int .i64 10) (.int .i64 i) (.int .i64 p2) (.string e0) (.int .i64 0) (.slice (some ⟨w5.heap.size + 1, 0, none⟩) 2 2))
  have r7 := ((L6.out.other hbz).row 3 rfl).cell
  have t7 := ((L6.out.other hbz).row 3 rfl).thaw
  clear hbz
  go_wp2
  refine bodyPost_ret ?_ rfl ⟨⟨10, i, p2, e0, 0⟩, (Fo.one ⟨y1, y2, y3, y4, y5⟩ k3).app (.one ⟨z1, z2, z3, z4, z5⟩ k4), (some ⟨w5.heap.size + 1, 0, none⟩), 2, rfl, rfl, ?_, Lz.out.st, Lz.out.fr, hl4⟩
  · simp [results, Tryz.results109, go_sem, e0, r7]
    rfl
  · exact (Lz.out.kidP 0 rfl).new_ (fun g h => h.1)
set_option maxHeartbeats 8000000 in
theorem stmt_if (X : Cx) (f : Nat) (IE : ExC X f .expr 127) (IB : ExC X f .block 86) (b : Int) (i : Nat) (w : World) (r : Fo × Nat × Int) (hr : exM X.l (f + 1) .stmt b i = some r) (hS : St X w b) (hi : i < X.l.length) (q0 : isM X.l i kIf = true) :
    Calls Tryz.prog 109 #[X.p, .int .i64 i] w fun e w' => NodeP X w r e w' := by
  have hle := hS.wf.le
  have WF := Lib.hid hS.wf
  have hrb := hS.row.lt
  have hnx := isM_next hS.wf q0
  obtain ⟨j, hj⟩ : ∃ j, j = i + 1 := ⟨_, rfl⟩
  have e1 : IntKind.i64.wrap ((i : Int) + 1) = (j : Int) := by rw [IntKind.wrap_i64]; omega
  rw [exM, if_pos q0, ← hj] at hr
  rw [← hj] at hnx
  obtain ⟨⟨cf, p1, b1⟩, hc, hr⟩ := Option.bind_eq_some_iff.1 hr
  obtain ⟨⟨kf, p2, b2⟩, hk, hr⟩ := Option.bind_eq_some_iff.1 hr
  dsimp only at hk hr
  have HR := Lib.hid hr
  have L0 := Lib.hid (((LS.start hS).alloc w.heap.size rfl 25 zc).alloc (w.heap.size + 1) (by simp) 25 (nc ⟨13, i, 0, e0, 0⟩ none 0 0))
  have I0 : Hid (∀ w', St X w' b → Calls Tryz.prog 37 #[X.p, .int .i64 i, .string ⟨#[105, 102]⟩] w' fun e w'' => e = .returned (.bool true) ∧ Below w'.heap.size w' w'') := fun w' h => by rw [← q0]; exact is_any X b i ⟨#[105, 102]⟩ w' h hi
  have C1 : Hid (∀ w', St X w' b → Calls Tryz.prog 127 #[X.p, .int .i64 j] w' fun e w'' => NodeP X w' (cf, p1, b1) e w'') := fun w' h => IE b j w' _ hc h hnx
  have C2 : Hid (p1 < X.l.length → ∀ w', St X w' b1 → Calls Tryz.prog 86 #[X.p, .int .i64 p1] w' fun e w'' => NodeP X w' (kf, p2, b2) e w'') := fun hl w' h => IB b1 p1 w' _ hk h hl
  clear hS hc hk hj q0 hr
  go_enter Tryz.func109, Tryz.ntmps109
  go_wp2_with fail
  refine (I0.out _ L0.out.st).mono ?_
  rintro e w1 ⟨rfl, hb1⟩
  have L2 : Hid (LS X w (w1.setCell ⟨w.heap.size + 1, 0, none⟩ (.int .i64 10)) b [(w.heap.size + 1, 25, nc ⟨10, i, 0, e0, 0⟩ none 0 0), (w.heap.size, 25, zc)] [] (.slice none 0 0) .nil) := (L0.out.other hb1).set 0 rfl 0 (.int .i64 10)
  have m2 := ((L0.out.other hb1).row 0 rfl).cell
  have t2 := ((L0.out.other hb1).row 0 rfl).thaw
  clear hb1
  go_wp2_with fail
  refine (I0.out _ L2.out.st).mono ?_
  rintro e w3 ⟨rfl, hb3⟩
  have L3 := Lib.hid (L2.out.other hb3)
  clear hb3 m2 t2
  go_wp2_with fail
  refine (C1.out _ L3.out.st).mono ?_
  rintro e w4 ⟨h3, k3, A3, c3, e3, rfl, hK3, hS3, hF3, hl3⟩
  dsimp only at e3 hS3 hl3
  subst e3
  obtain ⟨y1, y2, y3, y4, y5⟩ := h3
  have L4 := Lib.hid ((L3.out.kid hS3 hF3 hK3).alloc w4.heap.size rfl 25 (nc ⟨y1, y2, y3, y4, y5⟩ A3 k3.len c3))
  clear hS3 hF3 hK3
  go_wp2_with fail
  refine (C2.out hl3 _ L4.out.st).mono ?_
  rintro e w5 ⟨h4, k4, A4, c4, e4, rfl, hK4, hS4, hF4, hl4⟩
  dsimp only at e4 hS4 hl4
  subst e4
  obtain ⟨z1, z2, z3, z4, z5⟩ := h4
  have L5 := Lib.hid ((L4.out.kid hS4 hF4 hK4).alloc w5.heap.size rfl 25 (nc ⟨z1, z2, z3, z4, z5⟩ A4 k4.len c4))
  have L6 := Lib.hid (L5.out.lit (cs := #[.int .i64 y1, .int .i64 y2, .int .i64 y3, .string y4, .int .i64 y5, .slice A3 k3.len c3, .int .i64 z1, .int .i64 z2, .int .i64 z3, .string z4, .int .i64 z5, .slice A4 k4.len c4]) (KV.slice2 (h1 := ⟨y1, y2, y3, y4, y5⟩) (h2 := ⟨z1, z2, z3, z4, z5⟩) (L5.out.kidP 1 rfl) (L5.out.kidP 0 rfl)) (w5.heap.size + 1) (by simp) (show 2 ≤ maxLen by unfold maxLen; omega))
  obtain ⟨Kc, hKc⟩ : ∃ Kc, Kc = (Fo.one ⟨y1, y2, y3, y4, y5⟩ k3).app (.one ⟨z1, z2, z3, z4, z5⟩ k4) := ⟨_, rfl⟩
  have HKC := Lib.hid hKc
  have L7 : Hid (LS X w ((((w5.alloc (.cells (nc ⟨z1, z2, z3, z4, z5⟩ A4 k4.len c4) 25)).alloc (.cells #[.int .i64 y1, .int .i64 y2, .int .i64 y3, .string y4, .int .i64 y5, .slice A3 k3.len c3, .int .i64 z1, .int .i64 z2, .int .i64 z3, .string z4, .int .i64 z5, .slice A4 k4.len c4] 25)).setCell ⟨w.heap.size + 1, 0, none⟩ (.int .i64 9)).alloc (.cells zc 25)) b2 [(w5.heap.size + 2, 25, zc), (w5.heap.size, 25, nc ⟨z1, z2, z3, z4, z5⟩ A4 k4.len c4), (w4.heap.size, 25, nc ⟨y1, y2, y3, y4, y5⟩ A3 k3.len c3), (w.heap.size + 1, 25, nc ⟨9, i, 0, e0, 0⟩ none 0 0), (w.heap.size, 25, zc)] [(k4, A4, c4), (k3, A3, c3)] (.slice (some ⟨w5.heap.size + 1, 0, none⟩) 2 2) Kc) := by
    rw [hKc]
    exact (L6.out.set 2 rfl 0 (.int .i64 9)).alloc (w5.heap.size + 2) (by simp [World.setCell]) 25 zc
  have hK2 : Hid (Kc.len = 2) := by rw [hKc]; rfl
  have m4 := (L5.out.row 0 rfl).cell
  have m5 := (L5.out.row 1 rfl).cell
  have m6 := (L6.out.row 2 rfl).cell
  have t6 := (L6.out.row 2 rfl).thaw
  have n7 := L7.out.st.row.cell
  clear hS4 hF4 hK4 hKc
  obtain ⟨z, hz⟩ : ∃ z : Bool, (z = true ↔ (b2 < 0 ∧ isM X.l p2 kElse = true)) := by
    by_cases h : b2 < 0 ∧ isM X.l p2 kElse = true
    · exact ⟨true, fun _ => h, fun _ => rfl⟩
    · exact ⟨false, by simp only [Bool.false_eq_true, false_iff]; exact h⟩
  have HZ := Lib.hid hz
  clear hz
  have ISK := Lib.hid (fun (x : ByteArray) w' h => is_any X b2 p2 x w' h hl4)
  go_upto_region 13 with fail
  go_cut [59] from 49 (fun s59 wx => s59 = .bool z ∧ Hid (LS X w wx b2 [(w5.heap.size + 2, 25, zc), (w5.heap.size, 25, nc ⟨z1, z2, z3, z4, z5⟩ A4 k4.len c4), (w4.heap.size, 25, nc ⟨y1, y2, y3, y4, y5⟩ A3 k3.len c3), (w.heap.size + 1, 25, nc ⟨9, i, 0, e0, 0⟩ none 0 0), (w.heap.size, 25, zc)] [(k4, A4, c4), (k3, A3, c3)] (.slice (some ⟨w5.heap.size + 1, 0, none⟩) 2 2) Kc))
  case first =>
    by_cases hb : b2 < 0
    · have cm := ISK.out ⟨#[101, 108, 115, 101]⟩ _ L7.out.st
      cases q : isM X.l p2 kElse
      · rw [show isM X.l p2 (⟨#[101, 108, 115, 101]⟩ : ByteArray).data.toList = false from q] at cm
        have CM := Lib.hid cm
        obtain rfl : z = false := by
          cases z
          · rfl
          · have h := (HZ.out.1 rfl).2
            rw [q] at h; cases h
        clear cm q m4 m5 m6 t6
        go_wp2_with fail
        refine CM.out.mono ?_
        rintro e wm ⟨rfl, hbm⟩
        have LM := Lib.hid (L7.out.other hbm)
        clear hbm
        go_wp2_with fail
        go_meet
        exact ⟨rfl, LM.out⟩
      · rw [show isM X.l p2 (⟨#[101, 108, 115, 101]⟩ : ByteArray).data.toList = true from q] at cm
        have CM := Lib.hid cm
        obtain rfl : z = true := HZ.out.2 ⟨hb, q⟩
        clear cm q m4 m5 m6 t6
        go_wp2_with fail
        refine CM.out.mono ?_
        rintro e wm ⟨rfl, hbm⟩
        have LM := Lib.hid (L7.out.other hbm)
        clear hbm
        go_wp2_with fail
        go_meet
        exact ⟨rfl, LM.out⟩
    · obtain rfl : z = false := by
        cases z
        · rfl
        · exact absurd (HZ.out.1 rfl).1 hb
      clear m4 m5 m6 t6
      go_wp2_with fail
      go_meet
      exact ⟨rfl, L7.out⟩
  case rest =>
  obtain ⟨rfl, LC⟩ := hcut
  clear m4 m5 m6 t6 n7
  cases z
  · have hr := HR.out
    rw [if_neg (fun hh => by have := HZ.out.2 hh; cases this)] at hr
    injection hr with hr
    subst hr
    have m8 := (LC.out.row 0 rfl).cell
    have M6 := Lib.hid (LC.out.other (bel1 wc (.cells (nc ⟨0, 0, 0, e0, 0⟩ none 0 0) 25)))
    have hk2 := hK2.out
    have h2m : Kc.len + 1 ≤ maxLen := by unfold maxLen; omega
    have h2b : (Kc.len + 1) * 72 ≤ 140737488355328 := by omega
    clear hk2 HZ HR
    obtain ⟨cs, o1, o2⟩ := M6.out.own
    have O1 := Lib.hid o1
    have O2 := Lib.hid o2
    obtain ⟨i0, hi0, hz0, hz1, hz2⟩ := info_parts info25
    have b5 := Lib.hid M6.out.size
    have b3' := h2m
    have b4' := h2b
    have CN := Lib.hid (cells_nd wc (.int .i64 (0 : Nat)) (.int .i64 (0 : Nat)) (.int .i64 (0 : Nat)) (.string e0) (.int .i64 (0 : Nat)) (.slice none 0 0))
    clear o1 o2
    go_wp2_with (at_builtin; refine wpList_append_at rfl (.tmp 67) (.tmp 69) 23 rfl w.heap.size 25 i0 (.agg #[.int .i64 (0 : Nat), .int .i64 (0 : Nat), .int .i64 (0 : Nat), .string ⟨#[]⟩, .int .i64 (0 : Nat), .slice none 0 0]) 6 72 Tryz.underlying23 hi0 hz0 hz1 hz2 rfl (by decide) _ Kc.len cs rfl O1.out ⟨wc.heap.size, 0, none⟩ 1 1 [.int .i64 (0 : Nat), .int .i64 (0 : Nat), .int .i64 (0 : Nat), .string e0, .int .i64 (0 : Nat), .slice none 0 0] rfl rfl CN.out (one_nd ⟨0, 0, 0, e0, 0⟩ _ _ _) b3' b4' b5.out ?_)
    intro v' w7 hown' hgrow hat
    have M7 := Lib.hid (M6.out.push ⟨O1.out, O2.out⟩ (k := .one ⟨0, 0, 0, e0, 0⟩ .nil) (FC.one (KV.nil _ _ _ _)) hown' hgrow (fun j hj => by
      rcases hat j hj with h | h
      · exact .inl h
      · exact .inr (by simpa using h)))
    clear hown' hgrow hat b3' b4' b5 CN O1 O2
    obtain ⟨Kd, hKd⟩ : ∃ Kd, Kd = Kc.app (.one ⟨0, 0, 0, e0, 0⟩ .nil) := ⟨_, rfl⟩
    rw [← hKd] at M7
    have HKD := Lib.hid hKd
    clear hKd
    obtain ⟨A7, c7, e7, _, _⟩ := M7.out.list
    subst e7
    have m9 := (M7.out.row 3 rfl).cell
    clear m8
    go_wp2_with fail
    refine (ended_any ⟨9, i, 0, e0, 0⟩ none 0 0 p2 A7 Kd.len c7 _).mono ?_
    rintro e wz ⟨rfl, hbz⟩
    have Lz := Lib.hid ((M7.out.other hbz).put6 4 rfl rfl (.int .i64 9) (.int .i64 i) (.int .i64 p2) (.string e0) (.int .i64 0) (.slice A7 Kd.len c7))
    have r7 := ((M7.out.other hbz).row 4 rfl).cell
    have t7 := ((M7.out.other hbz).row 4 rfl).thaw
    clear hbz
    go_wp2
    refine bodyPost_ret ?_ rfl ⟨⟨9, i, p2, e0, 0⟩, Kd, A7, c7, by rw [HKD.out, HKC.out, Fo.app_assoc]; rfl, rfl, ?_, Lz.out.st, Lz.out.fr, hl4⟩
    · simp [results, Tryz.results109, go_sem, e0, r7]
    · exact Lz.out.kv
  · obtain ⟨hb, q⟩ := HZ.out.1 rfl
    have hr := HR.out
    rw [if_pos ⟨hb, q⟩] at hr
    obtain ⟨⟨of, p3, b3⟩, ho, hr⟩ := Option.bind_eq_some_iff.1 hr
    injection hr with hr
    subst hr
    have hn2 := isM_next WF.out q
    obtain ⟨j2, hj2⟩ : ∃ j2, j2 = p2 + 1 := ⟨_, rfl⟩
    rw [← hj2] at ho hn2
    have e2 : IntKind.i64.wrap ((p2 : Int) + 1) = (j2 : Int) := by rw [IntKind.wrap_i64]; omega
    have C3 : Hid (∀ w', St X w' b2 → Calls Tryz.prog 86 #[X.p, .int .i64 j2] w' fun e w'' => NodeP X w' (of, p3, b3) e w'') := fun w' h => IB b2 j2 w' _ ho h hn2
    clear ho hj2 HZ HR hb q
    go_wp2_with fail
    refine (C3.out _ LC.out.st).mono ?_
    rintro e w6 ⟨h5, k5, A5, c5, e5, rfl, hK5, hS5, hF5, hl5⟩
    dsimp only at e5 hS5 hl5
    subst e5
    obtain ⟨u1, u2, u3, u4, u5⟩ := h5
    have L8 := Lib.hid ((LC.out.kid hS5 hF5 hK5).put6 0 rfl rfl (.int .i64 u1) (.int .i64 u2) (.int .i64 u3) (.string u4) (.int .i64 u5) (.slice A5 k5.len c5))
    have m8 := ((LC.out.kid hS5 hF5 hK5).row 0 rfl).cell
    have t8 := ((LC.out.kid hS5 hF5 hK5).row 0 rfl).thaw
    have M6 := Lib.hid (L8.out.other (bel1 _ (.cells (nc ⟨u1, u2, u3, u4, u5⟩ A5 k5.len c5) 25)))
    have hk2 := hK2.out
    have h2m : Kc.len + 1 ≤ maxLen := by unfold maxLen; omega
    have h2b : (Kc.len + 1) * 72 ≤ 140737488355328 := by omega
    have m9 := (L8.out.row 0 rfl).cell
    clear hS5 hF5 hK5 hk2
    obtain ⟨cs, o1, o2⟩ := M6.out.own
    have O1 := Lib.hid o1
    have O2 := Lib.hid o2
    obtain ⟨i0, hi0, hz0, hz1, hz2⟩ := info_parts info25
    have b5 := Lib.hid M6.out.size
    have b3' := h2m
    have b4' := h2b
    have CN := Lib.hid (cells_nd ((((((w6.setCell ⟨w5.heap.size + 2, 0, none⟩ (.int .i64 u1)).setCell ⟨w5.heap.size + 2, 1, none⟩ (.int .i64 u2)).setCell ⟨w5.heap.size + 2, 2, none⟩ (.int .i64 u3)).setCell ⟨w5.heap.size + 2, 3, none⟩ (.string u4)).setCell ⟨w5.heap.size + 2, 4, none⟩ (.int .i64 u5)).setCell ⟨w5.heap.size + 2, 5, none⟩ (.slice A5 k5.len c5)) (.int .i64 u1) (.int .i64 u2) (.int .i64 u3) (.string u4) (.int .i64 u5) (.slice A5 k5.len c5))
    clear o1 o2
    go_wp2_with (at_builtin; refine wpList_append_at rfl (.tmp 67) (.tmp 69) 23 rfl w.heap.size 25 i0 (.agg #[.int .i64 0, .int .i64 0, .int .i64 0, .string ⟨#[]⟩, .int .i64 0, .slice none 0 0]) 6 72 Tryz.underlying23 hi0 hz0 hz1 hz2 rfl (by decide) _ Kc.len cs rfl O1.out ⟨w6.heap.size, 0, none⟩ 1 1 [.int .i64 u1, .int .i64 u2, .int .i64 u3, .string u4, .int .i64 u5, .slice A5 k5.len c5] rfl rfl (by simpa [World.setCell] using CN.out) (one_nd ⟨u1, u2, u3, u4, u5⟩ _ _ _) b3' b4' b5.out ?_)
    intro v' w7 hown' hgrow hat
    have M7 := Lib.hid (M6.out.push ⟨O1.out, O2.out⟩ (k := .one ⟨u1, u2, u3, u4, u5⟩ k5) (FC.one (M6.out.kidP 0 rfl)) hown' hgrow (fun j hj => by
      rcases hat j hj with h | h
      · exact .inl h
      · exact .inr (by simpa [World.setCell] using h)))
    clear hown' hgrow hat b3' b4' b5 CN O1 O2
    obtain ⟨Kd, hKd⟩ : ∃ Kd, Kd = Kc.app (.one ⟨u1, u2, u3, u4, u5⟩ k5) := ⟨_, rfl⟩
    rw [← hKd] at M7
    have HKD := Lib.hid hKd
    clear hKd
    obtain ⟨A7, c7, e7, _, _⟩ := M7.out.list
    subst e7
    have m10 := (M7.out.row 3 rfl).cell
    clear m8 m9
    go_wp2_with fail
    refine (ended_any ⟨9, i, 0, e0, 0⟩ none 0 0 p3 A7 Kd.len c7 _).mono ?_
    rintro e wz ⟨rfl, hbz⟩
    have Lz := Lib.hid ((M7.out.other hbz).put6 4 rfl rfl (.int .i64 9) (.int .i64 i) (.int .i64 p3) (.string e0) (.int .i64 0) (.slice A7 Kd.len c7))
    have r7 := ((M7.out.other hbz).row 4 rfl).cell
    have t7 := ((M7.out.other hbz).row 4 rfl).thaw
    clear hbz
    go_wp2
    refine bodyPost_ret ?_ rfl ⟨⟨9, i, p3, e0, 0⟩, Kd, A7, c7, by rw [HKD.out, HKC.out, Fo.app_assoc], rfl, ?_, Lz.out.st, Lz.out.fr, hl5⟩
    · simp [results, Tryz.results109, go_sem, e0, r7]
    · exact Lz.out.kv
end Ps
end Go.Proofs.YtiabkkdeonepgaaGreatDoor
namespace Go.Proofs.YtiabkkdeonepgaaGreatDoor
open Go.RowKit
namespace Ps
def Chain (l : List Tok) (f : Nat) (b : Int) (i : Nat) (hd : Hd) (kf : Fo) (a0 : Nat) (b0 : Int) : Prop :=
  (isM l i kLet = true ∧ ∃ w2 u p q, wordM l b ⟨7, i, 0, e0, 0⟩ (i + 1) = (hd, w2, u) ∧ typedM l f u w2 = some (kf, p, q) ∧ wantM l q p sEq = (a0, b0)) ∨
  (isM l i kLet = false ∧ isM l i kPrint = true ∧ hd = ⟨11, i, 0, e0, 0⟩ ∧ kf = .nil ∧ a0 = i + 1 ∧ b0 = b) ∨
  (isM l i kLet = false ∧ isM l i kPrint = false ∧ isM l i kReturn = true ∧ hd = ⟨12, i, 0, e0, 0⟩ ∧ kf = .nil ∧ a0 = i + 1 ∧ b0 = b) ∨
  (isM l i kLet = false ∧ isM l i kPrint = false ∧ isM l i kReturn = false ∧ (kindAt l i = 1 ∧ isM l (i + 1) sEq = true) ∧ ∃ w2, wordM l b ⟨8, i, 0, e0, 0⟩ i = (hd, w2, b0) ∧ kf = .nil ∧ a0 = w2 + 1) ∨
  (isM l i kLet = false ∧ isM l i kPrint = false ∧ isM l i kReturn = false ∧ ¬ (kindAt l i = 1 ∧ isM l (i + 1) sEq = true) ∧ hd = ⟨13, i, 0, e0, 0⟩ ∧ kf = .nil ∧ a0 = i ∧ b0 = b)
theorem stmt_chain {l : List Tok} {f : Nat} {b : Int} {i : Nat} {r : Fo × Nat × Int} (h : exM l (f + 1) .stmt b i = some r) (q0 : isM l i kIf = false) (q1 : isM l i kWhile = false) :
    ∃ hd kf a0 b0, Chain l f b i hd kf a0 b0 ∧ (exM l f .expr b0 a0).bind (fun v => some ((Fo.one { hd with til := (wantM l v.2.2 v.2.1 sSem).1 } (kf.app v.1), (wantM l v.2.2 v.2.1 sSem).1, (wantM l v.2.2 v.2.1 sSem).2) : Fo × Nat × Int)) = some r := by
  rw [exM, if_neg (by rw [q0]; simp), if_neg (by rw [q1]; simp)] at h
  cases qL : isM l i kLet
  · rw [if_neg (by rw [qL]; simp)] at h
    cases qP : isM l i kPrint
    · cases qR : isM l i kReturn
      · by_cases hs : kindAt l i = 1 ∧ isM l (i + 1) sEq = true
        · rw [if_neg (by rw [qP]; simp), if_neg (by rw [qR]; simp), if_pos hs] at h
          exact ⟨_, .nil, _, _, .inr (.inr (.inr (.inl ⟨qL, qP, qR, hs, _, rfl, rfl, rfl⟩))), h⟩
        · rw [if_neg (by rw [qP]; simp), if_neg (by rw [qR]; simp), if_neg hs] at h
          exact ⟨_, .nil, _, _, .inr (.inr (.inr (.inr ⟨qL, qP, qR, hs, rfl, rfl, rfl, rfl⟩))), h⟩
      · rw [if_neg (by rw [qP]; simp), if_pos qR] at h
        exact ⟨_, .nil, _, _, .inr (.inr (.inl ⟨qL, qP, qR, rfl, rfl, rfl, rfl⟩)), h⟩
    · rw [if_pos qP] at h
      exact ⟨_, .nil, _, _, .inr (.inl ⟨qL, qP, rfl, rfl, rfl, rfl⟩), h⟩
  · rw [if_pos qL] at h
    obtain ⟨⟨tf, p, q⟩, h1, h2⟩ := Option.bind_eq_some_iff.1 h
    exact ⟨_, tf, _, _, .inl ⟨qL, _, _, p, q, rfl, h1, rfl⟩, h2⟩
theorem hat_of {v : Value} {g n cap H s : Nat} (h : v.ownBlock = some g ∨ g = H) (hs : s ≤ H) : ∀ j, (Value.slice (some ⟨g, 0, none⟩) n cap).ownBlock = some j → v.ownBlock = some j ∨ s ≤ j := fun j hj => by
  simp [Value.ownBlock] at hj
  subst hj
  rcases h with h | h
  · exact .inl h
  · exact .inr (by omega)
set_option maxHeartbeats 16000000 in
theorem stmt_rest (X : Cx) (f : Nat) (hf : f ≤ 1000000) (IE : ExC X f .expr 127) (b : Int) (i : Nat) (w : World) (r : Fo × Nat × Int) (hr : exM X.l (f + 1) .stmt b i = some r) (hS : St X w b) (hi : i < X.l.length) (q0 : isM X.l i kIf = false) (q1 : isM X.l i kWhile = false) :
    Calls Tryz.prog 109 #[X.p, .int .i64 i] w fun e w' => NodeP X w r e w' := by
  have hle := hS.wf.le
  have WF := Lib.hid hS.wf
  have hrb := hS.row.lt
  have e1 : IntKind.i64.wrap ((i : Int) + 1) = ((i + 1 : Nat) : Int) := by rw [IntKind.wrap_i64]; omega
  obtain ⟨⟨g1, g2, g3, g4, g5⟩, kf, a0, b0, hch, hr⟩ := stmt_chain hr q0 q1
  obtain ⟨⟨vf, p1, b1⟩, hv, hr⟩ := Option.bind_eq_some_iff.1 hr
  obtain ⟨⟨p2, b2⟩, hy⟩ : ∃ y, y = wantM X.l b1 p1 sSem := ⟨_, rfl⟩
  dsimp only at hr
  rw [← hy] at hr
  injection hr with hr
  subst hr
  have HC := Lib.hid hch
  have L0 := Lib.hid (((LS.start hS).alloc w.heap.size rfl 25 zc).alloc (w.heap.size + 1) (by simp) 25 (nc ⟨13, i, 0, e0, 0⟩ none 0 0))
  have ISK := Lib.hid (fun (x : ByteArray) w' h => is_any X b i x w' h hi)
  have I0 : Hid (∀ w', St X w' b → Calls Tryz.prog 37 #[X.p, .int .i64 i, .string ⟨#[105, 102]⟩] w' fun e w'' => e = .returned (.bool false) ∧ Below w'.heap.size w' w'') := fun w' h => by rw [← q0]; exact is_any X b i ⟨#[105, 102]⟩ w' h hi
  have I1 : Hid (∀ w', St X w' b → Calls Tryz.prog 37 #[X.p, .int .i64 i, .string ⟨#[119, 104, 105, 108, 101]⟩] w' fun e w'' => e = .returned (.bool false) ∧ Below w'.heap.size w' w'') := fun w' h => by rw [← q1]; exact is_any X b i ⟨#[119, 104, 105, 108, 101]⟩ w' h hi
  have CE : Hid (a0 < X.l.length → ∀ w', St X w' b0 → Calls Tryz.prog 127 #[X.p, .int .i64 a0] w' fun e w'' => NodeP X w' (vf, p1, b1) e w'') := fun hl w' h => IE b0 a0 w' _ hv h hl
  have CW : Hid (p1 < X.l.length → ∀ w', St X w' b1 → Calls Tryz.prog 59 #[X.p, .int .i64 p1, .string ⟨#[59]⟩] w' fun e w'' => AtP X w' (p2, b2) e w'') := fun hl w' h => by rw [hy]; exact want_any X b1 p1 ⟨#[59]⟩ w' h hl
  clear hS hv hy hch q0 q1
  go_enter Tryz.func109, Tryz.ntmps109
  go_wp2_with fail
  refine (I0.out _ L0.out.st).mono ?_
  rintro e w1 ⟨rfl, hb1⟩
  have L1 := Lib.hid (L0.out.other hb1)
  clear hb1
  go_wp2_with fail
  refine (I1.out _ L1.out.st).mono ?_
  rintro e w2 ⟨rfl, hb2⟩
  have L2 := Lib.hid (L1.out.other hb2)
  clear hb2
  obtain ⟨z, hz⟩ : ∃ z, z = isM X.l i kLet := ⟨_, rfl⟩
  have cL := ISK.out ⟨#[108, 101, 116]⟩ _ L2.out.st
  rw [show isM X.l i (⟨#[108, 101, 116]⟩ : ByteArray).data.toList = z from hz.symm] at cL
  have CL := Lib.hid cL
  have HZ := Lib.hid hz
  clear cL hz
  go_wp2_with fail
  refine CL.out.mono ?_
  rintro e wL ⟨rfl, hbL⟩
  have L3 := Lib.hid (L2.out.other hbL)
  clear hbL
  go_upto_if 78 with fail
  go_cut [7, 8, 14, 15] from 79 (fun s7 s8 _ _ wx => s7 = .int .i64 a0 ∧ a0 < X.l.length ∧ kf.len ≤ 1 ∧ Hid (LS X w wx b0 [(w.heap.size + 1, 25, nc ⟨g1, g2, g3, g4, g5⟩ none 0 0), (w.heap.size, 25, zc)] [] s8 kf))
  case first =>
    cases z
    case true =>
      have qL := HZ.out.symm
      have hnx := isM_next WF.out qL
      obtain ⟨w2, u, p, q, hw, ht, hwt⟩ : ∃ w2 u p q, wordM X.l b ⟨7, i, 0, e0, 0⟩ (i + 1) = (⟨g1, g2, g3, g4, g5⟩, w2, u) ∧ typedM X.l f u w2 = some (kf, p, q) ∧ wantM X.l q p sEq = (a0, b0) := by
        rcases HC.out with h | h | h | h | h
        · exact h.2
        all_goals (rw [qL] at h; cases h.1)
      obtain ⟨j, hj⟩ : ∃ j, j = i + 1 := ⟨_, rfl⟩
      rw [← hj] at hw hnx e1
      have CW1 : Hid (∀ w', St X w' b → Calls Tryz.prog 58 #[X.p, nv ⟨7, i, 0, e0, 0⟩ none 0 0, .int .i64 j] w' fun e w'' => WordP X w' (⟨g1, g2, g3, g4, g5⟩, w2, u) none 0 0 e w'') := fun w' h => by rw [← hw]; exact word_any X b _ none 0 0 j w' h hnx
      have CT : Hid (w2 < X.l.length → ∀ w', St X w' u → Calls Tryz.prog 85 #[X.p, .int .i64 w2] w' fun e w'' => NodeP X w' (kf, p, q) e w'') := fun hl w' h => typed_any X f hf u w2 w' _ ht h hl
      have CQ : Hid (p < X.l.length → ∀ w', St X w' q → Calls Tryz.prog 59 #[X.p, .int .i64 p, .string ⟨#[61]⟩] w' fun e w'' => AtP X w' (a0, b0) e w'') := fun hl w' h => by rw [← hwt]; exact want_any X q p ⟨#[61]⟩ w' h hl
      have L4 : Hid (LS X w (wL.setCell ⟨w.heap.size + 1, 0, none⟩ (.int .i64 7)) b [(w.heap.size + 1, 25, nc ⟨7, i, 0, e0, 0⟩ none 0 0), (w.heap.size, 25, zc)] [] (.slice none 0 0) .nil) := L3.out.set 0 rfl 0 (.int .i64 7)
      have m0 := (L3.out.row 0 rfl).cell
      have t0 := (L3.out.row 0 rfl).thaw
      have m4 := (L4.out.row 0 rfl).cell
      clear HC ISK CE CW HZ hw ht hwt qL hj
      go_wp2_with fail
      refine (CW1.out _ L4.out.st).mono ?_
      rintro e w4 ⟨rfl, hS4, hF4, hl4⟩
      have L5 := Lib.hid ((L4.out.step hS4 hF4).put6 0 rfl rfl (.int .i64 g1) (.int .i64 g2) (.int .i64 g3) (.string g4) (.int .i64 g5) (.slice none 0 0))
      have m5 := ((L4.out.step hS4 hF4).row 0 rfl).cell
      have t5 := ((L4.out.step hS4 hF4).row 0 rfl).thaw
      clear hS4 hF4 m0 t0 m4
      go_wp2_with fail
      refine (CT.out hl4 _ L5.out.st).mono ?_
      rintro e w5 ⟨h5, k5, A5, c5, e5, rfl, hK5, hS5, hF5, hl5⟩
      dsimp only at e5 hS5 hl5
      obtain ⟨u1, u2, u3, u4, u5⟩ := h5
      have L6 := Lib.hid ((L5.out.kid hS5 hF5 hK5).alloc w5.heap.size rfl 25 (nc ⟨u1, u2, u3, u4, u5⟩ A5 k5.len c5))
      have M6 := Lib.hid (L6.out.other (bel1 _ (.cells (nc ⟨u1, u2, u3, u4, u5⟩ A5 k5.len c5) 25)))
      have m6 := (L6.out.row 0 rfl).cell
      clear hS5 hF5 hK5 m5 t5
      obtain ⟨cs, o1, o2⟩ := M6.out.own
      have O1 := Lib.hid o1
      have O2 := Lib.hid o2
      obtain ⟨i0, hi0, hz0, hz1, hz2⟩ := info_parts info25
      have b5 := Lib.hid M6.out.size
      have b3' : Fo.nil.len + 1 ≤ maxLen := by decide
      have b4' : (Fo.nil.len + 1) * 72 ≤ 140737488355328 := by decide
      have CN := Lib.hid (cells_nd (w5.alloc (.cells (nc ⟨u1, u2, u3, u4, u5⟩ A5 k5.len c5) 25)) (.int .i64 u1) (.int .i64 u2) (.int .i64 u3) (.string u4) (.int .i64 u5) (.slice A5 k5.len c5))
      clear o1 o2
      go_wp2_with (at_builtin; refine wpList_append_at rfl (.tmp 94) (.tmp 96) 23 rfl w.heap.size 25 i0 (.agg #[.int .i64 0, .int .i64 0, .int .i64 0, .string ⟨#[]⟩, .int .i64 0, .slice none 0 0]) 6 72 Tryz.underlying23 hi0 hz0 hz1 hz2 rfl (by decide) _ Fo.nil.len cs rfl O1.out ⟨w5.heap.size + 1, 0, none⟩ 1 1 [.int .i64 u1, .int .i64 u2, .int .i64 u3, .string u4, .int .i64 u5, .slice A5 k5.len c5] rfl rfl (by simpa using CN.out) (one_nd ⟨u1, u2, u3, u4, u5⟩ _ _ _) b3' b4' b5.out ?_)
      intro v' w7 hown' hgrow hat
      have M7 := Lib.hid (M6.out.push ⟨O1.out, O2.out⟩ (k := .one ⟨u1, u2, u3, u4, u5⟩ k5) (FC.one (M6.out.kidP 0 rfl)) hown' hgrow (fun j hj => by
        rcases hat j hj with h | h
        · exact .inl h
        · exact .inr (by simpa using h)))
      clear hown' hgrow hat b3' b4' b5 CN O1 O2 m6
      go_wp2_with fail
      refine (CQ.out hl5 _ M7.out.st).mono ?_
      rintro e w8 ⟨rfl, hS8, hF8, hl8⟩
      have L8 := Lib.hid (M7.out.step hS8 hF8)
      clear hS8 hF8
      subst e5
      go_wp2_with fail
      go_meet
      exact ⟨rfl, hl8, Nat.le_refl _, L8.out.drop.noK⟩
    case false =>
    have qL := HZ.out.symm
    cases qP : isM X.l i kPrint
    case true =>
      have cP := ISK.out ⟨#[112, 114, 105, 110, 116]⟩ _ L3.out.st
      rw [show isM X.l i (⟨#[112, 114, 105, 110, 116]⟩ : ByteArray).data.toList = true from qP] at cP
      have CP := Lib.hid cP
      clear cP
      go_wp2_with fail
      refine CP.out.mono ?_
      rintro e wP ⟨rfl, hbP⟩
      have L4 := Lib.hid (L3.out.other hbP)
      clear hbP
      have hnx := isM_next WF.out qP
      obtain ⟨hh, hh2, hh3, hh4⟩ : (⟨g1, g2, g3, g4, g5⟩ : Hd) = ⟨11, i, 0, e0, 0⟩ ∧ kf = .nil ∧ a0 = i + 1 ∧ b0 = b := by
        rcases HC.out with h | h | h | h | h
        · rw [qL] at h; cases h.1
        · exact h.2.2
        · rw [qP] at h; cases h.2.1
        · rw [qP] at h; cases h.2.1
        · rw [qP] at h; cases h.2.1
      obtain ⟨x1, x2, x3, x4, x5⟩ := Hd.mk.inj hh
      have x2 := x2.symm
      subst x1 x2 x3 x4 x5
      subst hh2 hh3 hh4
      have m0 := (L4.out.row 0 rfl).cell
      have t0 := (L4.out.row 0 rfl).thaw
      have LZ : Hid (LS X w (wP.setCell ⟨w.heap.size + 1, 0, none⟩ (.int .i64 11)) b0 [(w.heap.size + 1, 25, nc ⟨11, i, 0, e0, 0⟩ none 0 0), (w.heap.size, 25, zc)] [] (.slice none 0 0) .nil) := L4.out.set 0 rfl 0 (.int .i64 11)
      clear HC hh CE ISK
      go_wp2_with fail
      go_meet
      exact ⟨rfl, hnx, Nat.zero_le _, LZ.out⟩
    case false =>
    have cP := ISK.out ⟨#[112, 114, 105, 110, 116]⟩ _ L3.out.st
    rw [show isM X.l i (⟨#[112, 114, 105, 110, 116]⟩ : ByteArray).data.toList = false from qP] at cP
    have CP := Lib.hid cP
    clear cP
    go_wp2_with fail
    refine CP.out.mono ?_
    rintro e wP ⟨rfl, hbP⟩
    have L4 := Lib.hid (L3.out.other hbP)
    clear hbP
    cases qR : isM X.l i kReturn
    case true =>
      have cR := ISK.out ⟨#[114, 101, 116, 117, 114, 110]⟩ _ L4.out.st
      rw [show isM X.l i (⟨#[114, 101, 116, 117, 114, 110]⟩ : ByteArray).data.toList = true from qR] at cR
      have CR := Lib.hid cR
      clear cR
      go_wp2_with fail
      refine CR.out.mono ?_
      rintro e wR ⟨rfl, hbR⟩
      have L5 := Lib.hid (L4.out.other hbR)
      clear hbR
      have hnx := isM_next WF.out qR
      obtain ⟨hh, hh2, hh3, hh4⟩ : (⟨g1, g2, g3, g4, g5⟩ : Hd) = ⟨12, i, 0, e0, 0⟩ ∧ kf = .nil ∧ a0 = i + 1 ∧ b0 = b := by
        rcases HC.out with h | h | h | h | h
        · rw [qL] at h; cases h.1
        · rw [qP] at h; cases h.2.1
        · exact h.2.2.2
        · rw [qR] at h; cases h.2.2.1
        · rw [qR] at h; cases h.2.2.1
      obtain ⟨x1, x2, x3, x4, x5⟩ := Hd.mk.inj hh
      have x2 := x2.symm
      subst x1 x2 x3 x4 x5
      subst hh2 hh3 hh4
      have m0 := (L5.out.row 0 rfl).cell
      have t0 := (L5.out.row 0 rfl).thaw
      have LZ : Hid (LS X w (wR.setCell ⟨w.heap.size + 1, 0, none⟩ (.int .i64 12)) b0 [(w.heap.size + 1, 25, nc ⟨12, i, 0, e0, 0⟩ none 0 0), (w.heap.size, 25, zc)] [] (.slice none 0 0) .nil) := L5.out.set 0 rfl 0 (.int .i64 12)
      clear HC hh CE ISK
      go_wp2_with fail
      go_meet
      exact ⟨rfl, hnx, Nat.zero_le _, LZ.out⟩
    case false =>
    have cR := ISK.out ⟨#[114, 101, 116, 117, 114, 110]⟩ _ L4.out.st
    rw [show isM X.l i (⟨#[114, 101, 116, 117, 114, 110]⟩ : ByteArray).data.toList = false from qR] at cR
    have CR := Lib.hid cR
    clear cR
    go_wp2_with fail
    refine CR.out.mono ?_
    rintro e wR ⟨rfl, hbR⟩
    have L5 := Lib.hid (L4.out.other hbR)
    clear hbR
    have hle' := hle
    obtain ⟨gt, eg, lg, hct⟩ := L5.out.st.toks
    obtain ⟨k0, _, _, _⟩ := hct i hi
    have rr := L5.out.st.row.cell
    rw [eg] at rr
    have hcap := L5.out.st.cap
    have hil : (i : Int) < (X.l.length : Int) := by omega
    have hkg := kindAt_get hi
    have lrb := L5.out.st.row.lt
    have hlg : gt < wR.heap.size := by omega
    by_cases hk : kindAt X.l i = 1
    · have hj1 := kindAt_next WF.out (i := i) (by omega)
      have dk : ((X.l[i].kind : Int) == 1) = true := by rw [beq_iff_eq]; omega
      have c5 := is_any X b (i + 1) ⟨#[61]⟩ _ L5.out.st hj1
      cases qE : isM X.l (i + 1) sEq
      · rw [show isM X.l (i + 1) (⟨#[61]⟩ : ByteArray).data.toList = false from qE] at c5
        have C5 := Lib.hid c5
        have hdo : (⟨g1, g2, g3, g4, g5⟩ : Hd) = ⟨13, i, 0, e0, 0⟩ ∧ kf = .nil ∧ a0 = i ∧ b0 = b := by
          rcases HC.out with h | h | h | h | h
          · rw [qL] at h; cases h.1
          · rw [qP] at h; cases h.2.1
          · rw [qR] at h; cases h.2.2.1
          · have := h.2.2.2.1.2; rw [qE] at this; cases this
          · exact h.2.2.2.2
        obtain ⟨hh, hh2, hh3, hh4⟩ := hdo
        obtain ⟨x1, x2, x3, x4, x5⟩ := Hd.mk.inj hh
        have x2 := x2.symm
        subst x1 x2 x3 x4 x5 hh2
        have hh3 := hh3.symm
        have hh4 := hh4.symm
        subst hh3 hh4
        clear HC
        generalize X.l[i] = tt at *
        clear c5 hh qL qP qR qE hk hkg hct ISK
        go_wp2_with fail
        refine C5.out.mono ?_
        rintro e wE ⟨rfl, hbE⟩
        have L6 := Lib.hid (L5.out.other hbE)
        clear hbE
        go_wp2_with fail
        go_meet
        exact ⟨rfl, hi, Nat.zero_le _, L6.out⟩
      · rw [show isM X.l (i + 1) (⟨#[61]⟩ : ByteArray).data.toList = true from qE] at c5
        have C5 := Lib.hid c5
        have hnx := isM_next WF.out qE
        obtain ⟨w2, hw, hh2, hh3⟩ : ∃ w2, wordM X.l b ⟨8, i, 0, e0, 0⟩ i = (⟨g1, g2, g3, g4, g5⟩, w2, b0) ∧ kf = .nil ∧ a0 = w2 + 1 := by
          rcases HC.out with h | h | h | h | h
          · rw [qL] at h; cases h.1
          · rw [qP] at h; cases h.2.1
          · rw [qR] at h; cases h.2.2.1
          · exact h.2.2.2.2
          · exact absurd ⟨hk, qE⟩ h.2.2.2.1
        have ha : w2 + 1 < X.l.length := by
          have hw2 := hw
          unfold wordM at hw2
          by_cases hb0 : 0 ≤ b
          · rw [if_pos hb0] at hw2
            injection hw2 with h1 h2
            injection h2 with h2 h3
            omega
          · rw [if_neg hb0, if_pos hk] at hw2
            injection hw2 with h1 h2
            injection h2 with h2 h3
            omega
        subst hh2 hh3
        have e2 : IntKind.i64.wrap ((w2 : Int) + 1) = ((w2 + 1 : Nat) : Int) := by rw [IntKind.wrap_i64]; omega
        have CW1 : Hid (∀ w', St X w' b → Calls Tryz.prog 58 #[X.p, nv ⟨8, i, 0, e0, 0⟩ none 0 0, .int .i64 i] w' fun e w'' => WordP X w' (⟨g1, g2, g3, g4, g5⟩, w2, b0) none 0 0 e w'') := fun w' h => by rw [← hw]; exact word_any X b _ none 0 0 i w' h hi
        clear HC hw
        generalize X.l[i] = tt at *
        clear c5 qL qP qR qE hk hkg hct ISK
        go_wp2_with fail
        refine C5.out.mono ?_
        rintro e wE ⟨rfl, hbE⟩
        have L6 := Lib.hid (L5.out.other hbE)
        have L7 : Hid (LS X w (wE.setCell ⟨w.heap.size + 1, 0, none⟩ (.int .i64 8)) b [(w.heap.size + 1, 25, nc ⟨8, i, 0, e0, 0⟩ none 0 0), (w.heap.size, 25, zc)] [] (.slice none 0 0) .nil) := L6.out.set 0 rfl 0 (.int .i64 8)
        have m0 := (L6.out.row 0 rfl).cell
        have t0 := (L6.out.row 0 rfl).thaw
        have m4 := (L7.out.row 0 rfl).cell
        clear hbE
        go_wp2_with fail
        refine (CW1.out _ L7.out.st).mono ?_
        rintro e w8 ⟨rfl, hS4, hF4, hl4⟩
        have L8 := Lib.hid ((L7.out.step hS4 hF4).put6 0 rfl rfl (.int .i64 g1) (.int .i64 g2) (.int .i64 g3) (.string g4) (.int .i64 g5) (.slice none 0 0))
        have m5 := ((L7.out.step hS4 hF4).row 0 rfl).cell
        have t5 := ((L7.out.step hS4 hF4).row 0 rfl).thaw
        clear hS4 hF4 m0 t0 m4
        go_wp2_with fail
        go_meet
        exact ⟨rfl, ha, Nat.zero_le _, L8.out⟩
    · have dk : ((X.l[i].kind : Int) == 1) = false := by rw [beq_eq_false_iff_ne]; omega
      have hdo : (⟨g1, g2, g3, g4, g5⟩ : Hd) = ⟨13, i, 0, e0, 0⟩ ∧ kf = .nil ∧ a0 = i ∧ b0 = b := by
        rcases HC.out with h | h | h | h | h
        · rw [qL] at h; cases h.1
        · rw [qP] at h; cases h.2.1
        · rw [qR] at h; cases h.2.2.1
        · exact absurd h.2.2.2.1.1 hk
        · exact h.2.2.2.2
      obtain ⟨hh, hh2, hh3, hh4⟩ := hdo
      obtain ⟨x1, x2, x3, x4, x5⟩ := Hd.mk.inj hh
      have x2 := x2.symm
      subst x1 x2 x3 x4 x5 hh2
      have hh3 := hh3.symm
      have hh4 := hh4.symm
      subst hh3 hh4
      clear HC
      generalize X.l[i] = tt at *
      clear hh qL qP qR hk hkg hct ISK
      go_wp2_with fail
      go_meet
      exact ⟨rfl, hi, Nat.zero_le _, L5.out⟩
  case rest =>
  obtain ⟨rfl, ha0, hkf, LC⟩ := hcut
  clear HC ISK
  go_wp2_with fail
  refine (CE.out ha0 _ LC.out.st).mono ?_
  rintro e w5 ⟨h5, k5, A5, c5, e5, rfl, hK5, hS5, hF5, hl5⟩
  dsimp only at e5 hS5 hl5
  subst e5
  obtain ⟨u1, u2, u3, u4, u5⟩ := h5
  have L6 := Lib.hid ((LC.out.kid hS5 hF5 hK5).alloc w5.heap.size rfl 25 (nc ⟨u1, u2, u3, u4, u5⟩ A5 k5.len c5))
  clear hS5 hF5 hK5
  go_wp2_with fail
  refine (CW.out hl5 _ L6.out.st).mono ?_
  rintro e w6 ⟨rfl, hS6, hF6, hl6⟩
  have L7 := Lib.hid (L6.out.step hS6 hF6)
  clear hS6 hF6
  obtain ⟨Av, cv, ev, hcv, _⟩ := L7.out.list
  subst ev
  have L8 := Lib.hid (L7.out.other ((Below.refl _ w6).drew))
  have M5 := Lib.hid (L7.out.other (bel1 w6 (.cells (nc ⟨u1, u2, u3, u4, u5⟩ A5 k5.len c5) 25)))
  have M6 : Hid (LS X w (w6.alloc (.cells (nc ⟨u1, u2, u3, u4, u5⟩ A5 k5.len c5) 25)).drew b2 _ _ _ _) := M5.out.other ((Below.refl _ _).drew)
  obtain ⟨cs, o1, o2⟩ := M6.out.own
  have O1 := Lib.hid o1
  have O2 := Lib.hid o2
  have HS0 : (∀ o, w6.drew.cell? ⟨w5.heap.size, o, none⟩ = (nc ⟨u1, u2, u3, u4, u5⟩ A5 k5.len c5)[o]?) ∧ (∀ o, w6.drew.cell? ⟨w.heap.size + 1, o, none⟩ = (nc ⟨g1, g2, g3, g4, g5⟩ none 0 0)[o]?) := ⟨(L8.out.row 0 rfl).cell, (L8.out.row 1 rfl).cell⟩
  have HS1 : (∀ o, (w6.alloc (.cells (nc ⟨u1, u2, u3, u4, u5⟩ A5 k5.len c5) 25)).drew.cell? ⟨w5.heap.size, o, none⟩ = (nc ⟨u1, u2, u3, u4, u5⟩ A5 k5.len c5)[o]?) ∧ (∀ o, (w6.alloc (.cells (nc ⟨u1, u2, u3, u4, u5⟩ A5 k5.len c5) 25)).drew.cell? ⟨w.heap.size + 1, o, none⟩ = (nc ⟨g1, g2, g3, g4, g5⟩ none 0 0)[o]?) := ⟨(M6.out.row 0 rfl).cell, (M6.out.row 1 rfl).cell⟩
  obtain ⟨i0, hi0, hz0, hz1, hz2⟩ := info_parts info25
  have b3 : kf.len + 1 ≤ maxLen := by unfold maxLen; omega
  have b4 : (kf.len + 1) * 72 ≤ 140737488355328 := by omega
  have b5 := M6.out.size
  clear o1 o2
  go_wp2_with fail
  go_region_held3 (fun w' => (∀ o, w'.cell? ⟨w5.heap.size, o, none⟩ = (nc ⟨u1, u2, u3, u4, u5⟩ A5 k5.len c5)[o]?) ∧ (∀ o, w'.cell? ⟨w.heap.size + 1, o, none⟩ = (nc ⟨g1, g2, g3, g4, g5⟩ none 0 0)[o]?))
    (first
      | (with_reducible exact HSd)
      | (with_reducible exact HSc)
      | (with_reducible exact HSb)
      | (with_reducible exact HS1)
      | (with_reducible exact HS0))
    (first
      | (go_at_call 40; refine (ended_any ⟨g1, g2, g3, g4, g5⟩ none 0 0 p2 (some ⟨gg, 0, none⟩) (kf.len + 1) cap' _).mono ?_; rintro e w9 ⟨rfl, hb9⟩; have L9 := Lib.hid (M7.out.other hb9); have HSc := (And.intro (L9.out.row 0 rfl).cell (L9.out.row 1 rfl).cell); have L10 := Lib.hid (L9.out.put6 2 rfl rfl (.int .i64 g1) (.int .i64 g2) (.int .i64 p2) (.string g4) (.int .i64 g5) (.slice (some ⟨gg, 0, none⟩) (kf.len + 1) cap')); have HSd := (And.intro (L10.out.row 0 rfl).cell (L10.out.row 1 rfl).cell); have z1 := (L9.out.row 2 rfl).cell; have z2 := (L9.out.row 2 rfl).thaw)
      | (refine step_append_lies _ (by rfl) (.tmp 149) (.tmp 151) 23 (by rfl) w.heap.size 25 i0 _ 6 72 Tryz.underlying23 hi0 hz0 hz1 hz2 rfl (by omega) _ kf.len cs (by rfl) O1.out ⟨w6.heap.size, 0, none⟩ 1 1 [.int .i64 u1, .int .i64 u2, .int .i64 u3, .string u4, .int .i64 u5, .slice A5 k5.len c5] (by rfl) (by rfl) (fun j u hj => cells_nd w6 _ _ _ _ _ _ j u hj) (one_nd ⟨u1, u2, u3, u4, u5⟩ _ _ _) (by omega) b3 b4 b5 (w6.heap.size + 1) (by simp) ?_; intro gg cap' w7 hown3 hgrow hat hlt3; have M7 := Lib.hid (M6.out.push ⟨O1.out, O2.out⟩ (k := .one ⟨u1, u2, u3, u4, u5⟩ k5) (FC.one (M6.out.kidP 0 rfl)) hown3 hgrow (hat_of hat (by simp))); have HSb := (And.intro (M7.out.row 0 rfl).cell (M7.out.row 1 rfl).cell))
      | fail)
  go_wp2
  have hkl : (kf.app (.one ⟨u1, u2, u3, u4, u5⟩ k5)).len = kf.len + 1 := by rw [Fo.len_app]; rfl
  refine bodyPost_ret ?_ rfl ⟨⟨g1, g2, p2, g4, g5⟩, kf.app (.one ⟨u1, u2, u3, u4, u5⟩ k5), some ⟨gg, 0, none⟩, cap', rfl, rfl, L10.out.kv, L10.out.st, L10.out.fr, hl6⟩
  simp [results, Tryz.results109, go_sem, z1, hkl]
end Ps
end Go.Proofs.YtiabkkdeonepgaaGreatDoor
namespace Go.Proofs.YtiabkkdeonepgaaGreatDoor
open Go.RowKit
namespace Ps
theorem stmt_ok (X : Cx) : StmtOk X := fun f hf IE IB b i w r hr hS hi => by
  cases q0 : isM X.l i kIf
  · cases q1 : isM X.l i kWhile
    · exact stmt_rest X f hf (IE f (Nat.le_refl _)) b i w r hr hS hi q0 q1
    · exact stmt_while X f (IE f (Nat.le_refl _)) (IB f (Nat.le_refl _)) b i w r hr hS hi q0 q1
  · exact stmt_if X f (IE f (Nat.le_refl _)) (IB f (Nat.le_refl _)) b i w r hr hS hi q0
theorem items_endD {l : List Tok} {f : Nat} {b : Int} {i : Nat} {r : Fo × Nat × Int} (h : itemsM l f b i = some r) (hc : ¬ (b < 0 ∧ kindAt l i ≠ 0)) : r = (.nil, i, b) := by
  cases f with
  | zero => rw [itemsM] at h; cases h
  | succ f => rw [itemsM, if_neg hc] at h; injection h with h; exact h.symm
theorem items_goD {l : List Tok} {f : Nat} {b : Int} {i : Nat} {r : Fo × Nat × Int} (h : itemsM l f b i = some r) (hc : b < 0 ∧ kindAt l i ≠ 0) :
    ∃ f' t, f = f' + 1 ∧ (if isM l i kUse = true then t = useM l b i else defM l f' b i = some t) ∧ ∃ r', itemsM l f' t.2.2 t.2.1 = some r' ∧ r = (t.1.app r'.1, r'.2) := by
  cases f with
  | zero => rw [itemsM] at h; cases h
  | succ f =>
    rw [itemsM, if_pos hc] at h
    split at h
    · rename_i hq
      obtain ⟨r', h1, h2⟩ := Option.map_eq_some_iff.1 h
      exact ⟨f, _, rfl, by rw [if_pos hq], r', h1, h2.symm⟩
    · rename_i hq
      obtain ⟨t, ht, h⟩ := Option.bind_eq_some_iff.1 h
      obtain ⟨r', h1, h2⟩ := Option.map_eq_some_iff.1 h
      exact ⟨f, t, rfl, by rw [if_neg hq]; exact ht, r', h1, h2.symm⟩
set_option maxHeartbeats 8000000 in
theorem rfile_any (X : Cx) (f : Nat) (hf : f ≤ 1000000) (w : World) (xf : Fo) (xi : Nat) (xb : Int) (hx : itemsM X.l f (-1) 0 = some (xf, xi, xb)) (hS : St X w (-1)) :
    Calls Tryz.prog 22 #[X.p] w fun e w' => ∃ A cap, e = .returned (nv ⟨1, 0, xi, e0, 0⟩ A xf.len cap) ∧ KV w' (fun g => w.heap.size ≤ g) xf A cap ∧ St X w' xb ∧ Fr X.rb w.heap.size w w' ∧ xi < X.l.length ∧ (xb < 0 → kindAt X.l xi = 0) := by
  have L0 := Lib.hid ((LS.start hS).alloc w.heap.size rfl 25 zc)
  have hle := hS.wf.le
  have hpos := hS.wf.pos
  have WF := Lib.hid hS.wf
  have hrb := hS.row.lt
  have HX := Lib.hid hx
  clear hS hx
  go_enter Tryz.func22, Tryz.ntmps22
  go_wp2_with fail
  go_loopg [3, 4] (f + 1) (fun kx s6 s9 wr => ∃ (fk ik : Nat) (bk : Int) (Kk : Fo) (rk : Fo × Nat × Int) (u : Value), u = s9 ∧ s6 = .int .i64 ik ∧ fk ≤ kx ∧ Kk.len + fk ≤ f ∧ ik < X.l.length ∧ Hid (itemsM X.l fk bk ik = some rk) ∧ Hid (xf = Kk.app rk.1 ∧ xi = rk.2.1 ∧ xb = rk.2.2) ∧ Hid (LS X w wr bk [(w.heap.size, 25, zc)] [] s9 Kk))
  case atStart => exact ⟨f, 0, -1, .nil, (xf, xi, xb), _, rfl, by go_num, by omega, by simp [Fo.len], hpos, HX.out, ⟨rfl, rfl, rfl⟩, L0.out⟩
  case round =>
    obtain ⟨fk, ik, bk, Kk, rk, u, rfl, rfl, hkx, hfk, hik, HG, HE, LK⟩ := hrel
    obtain ⟨z, hz⟩ : ∃ z : Bool, (z = true ↔ (bk < 0 ∧ kindAt X.l ik ≠ 0)) := by
      by_cases h : bk < 0 ∧ kindAt X.l ik ≠ 0
      · exact ⟨true, fun _ => h, fun _ => rfl⟩
      · exact ⟨false, by simp only [Bool.false_eq_true, false_iff]; exact h⟩
    have HZ := Lib.hid hz
    obtain ⟨AK, cK, eK, hcK, _⟩ := LK.out.list
    obtain rfl := eK
    have hkg := kindAt_get hik
    obtain ⟨gt, eg, lg, hct⟩ := LK.out.st.toks
    obtain ⟨k0, _, _, _⟩ := hct ik hik
    have rr := LK.out.st.row.cell
    rw [eg] at rr
    have hcap := LK.out.st.cap
    have hil : (ik : Int) < (X.l.length : Int) := by omega
    rw [← hkg] at k0
    clear hz hct hkg
    go_upto_region 3 with fail
    go_cut [21] from 6 to 40 (fun s64 wx => s64 = .bool z ∧ Hid (LS X w wx bk [(w.heap.size, 25, zc)] [] (.slice AK Kk.len cK) Kk))
    case first =>
      by_cases h1 : bk < 0
      · by_cases h2 : kindAt X.l ik = 0
        · obtain rfl : z = false := by
            cases z
            · rfl
            · exact absurd h2 (HZ.out.1 rfl).2
          have dk : ((kindAt X.l ik : Int) != 0) = false := by rw [h2]; rfl
          generalize kindAt X.l ik = kk at *
          clear h2
          go_wp2_with fail
          go_meet
          exact ⟨rfl, LK.out⟩
        · obtain rfl : z = true := HZ.out.2 ⟨h1, h2⟩
          have dk : ((kindAt X.l ik : Int) != 0) = true := by rw [bne_iff_ne]; omega
          generalize kindAt X.l ik = kk at *
          clear h2
          go_wp2_with fail
          go_meet
          exact ⟨rfl, LK.out⟩
      · obtain rfl : z = false := by
          cases z
          · rfl
          · exact absurd (HZ.out.1 rfl).1 h1
        clear k0
        go_wp2_with fail
        go_meet
        exact ⟨rfl, LK.out⟩
    case rest =>
    obtain ⟨rfl, LC⟩ := hcut
    clear LK rr k0 eg lg hil
    cases z
    · have hnz : ¬ (bk < 0 ∧ kindAt X.l ik ≠ 0) := fun hh => by have := HZ.out.2 hh; cases this
      have hrk := items_endD HG.out hnz
      obtain ⟨h1, h2, h3⟩ := HE.out
      rw [hrk, Fo.app_nil] at h1
      rw [hrk] at h2 h3
      dsimp only at h1 h2 h3
      have HN : Hid (bk < 0 → kindAt X.l ik = 0) := fun hb => by
        by_cases h : kindAt X.l ik = 0
        · exact h
        · exact absurd ⟨hb, h⟩ hnz
      subst h1 h2 h3
      have hxl := hik
      clear HG HE HZ hrk hnz
      go_wp2_with fail
      refine (ended_any ⟨1, 0, 0, e0, 0⟩ none 0 0 xi AK xf.len cK _).mono ?_
      rintro e wb ⟨rfl, hbb⟩
      have Lb := Lib.hid ((LC.out.other hbb).put6 0 rfl rfl (.int .i64 1) (.int .i64 0) (.int .i64 xi) (.string e0) (.int .i64 0) (.slice AK xf.len cK))
      have r7 := ((LC.out.other hbb).row 0 rfl).cell
      have t7 := ((LC.out.other hbb).row 0 rfl).thaw
      clear hbb
      go_wp2
      refine bodyPost_ret ?_ rfl ⟨AK, cK, rfl, Lb.out.kv, Lb.out.st, Lb.out.fr, hxl, HN.out⟩
      simp [results, Tryz.results22, go_sem, e0, r7]
    · obtain ⟨f', t, hf', hty, r', hG', hrk⟩ := items_goD HG.out (HZ.out.1 rfl)
      obtain ⟨tf, a3, b3⟩ := t
      dsimp only at hG' hrk
      have HF' := Lib.hid hf'
      obtain ⟨h1, h2, h3⟩ := HE.out
      rw [hrk] at h1 h2 h3
      dsimp only at h1 h2 h3
      have HH1 := Lib.hid h1
      have HH2 := Lib.hid h2
      have HH3 := Lib.hid h3
      have HG1 := Lib.hid hG'
      have HTY := Lib.hid hty
      have LU0 := Lib.hid (LC.out.alloc wc.heap.size rfl 25 zc)
      have cU := is_any X bk ik ⟨#[117, 115, 101]⟩ _ LU0.out.st hik
      clear hrk HG HZ HE hf' h1 h2 h3 hG' hty
      cases qU : isM X.l ik kUse
      · rw [show isM X.l ik (⟨#[117, 115, 101]⟩ : ByteArray).data.toList = false from qU] at cU
        have CU := Lib.hid cU
        have hd := HTY.out
        rw [if_neg (by rw [qU]; simp)] at hd
        have C3 : Hid (∀ w', St X w' bk → Calls Tryz.prog 39 #[X.p, .int .i64 ik] w' fun e w'' => NodeP X w' (tf, a3, b3) e w'') := fun w' h => def_c X f' (all_c X (stmt_ok X) f' (by have := HF'.out; omega)).lam bk ik w' _ hd h hik
        clear cU hd qU HTY
        go_wp2_with fail
        refine CU.out.mono ?_
        rintro e wu ⟨rfl, hbu⟩
        have LU := Lib.hid (LU0.out.other hbu)
        clear hbu CU LU0
        go_wp2_with fail
        refine (C3.out _ LU.out.st).mono ?_
        rintro e w5 ⟨h5, k5, A5, c5, e5, rfl, hK5, hS5, hF5, hl5⟩
        dsimp only at e5 hS5 hl5
        have HE5 := Lib.hid e5
        obtain ⟨hk1, hk2, hk3, hk4, hk5⟩ := h5
        have L5 := Lib.hid ((LU.out.kid hS5 hF5 hK5).put6 0 rfl rfl (.int .i64 hk1) (.int .i64 hk2) (.int .i64 hk3) (.string hk4) (.int .i64 hk5) (.slice A5 k5.len c5))
        have m8 := ((LU.out.kid hS5 hF5 hK5).row 0 rfl).cell
        have t8 := ((LU.out.kid hS5 hF5 hK5).row 0 rfl).thaw
        have M6 := Lib.hid (L5.out.other (bel1 _ (.cells (nc ⟨hk1, hk2, hk3, hk4, hk5⟩ A5 k5.len c5) 25)))
        have m9 := (L5.out.row 0 rfl).cell
        clear hS5 hF5 hK5 e5
        obtain ⟨cs, o1, o2⟩ := M6.out.own
        have O1 := Lib.hid o1
        have O2 := Lib.hid o2
        obtain ⟨i0, hi0, hz0, hz1, hz2⟩ := info_parts info25
        have b5 := Lib.hid M6.out.size
        have b3' : Kk.len + 1 ≤ maxLen := by unfold maxLen; omega
        have b4' : (Kk.len + 1) * 72 ≤ 140737488355328 := by omega
        have CN := Lib.hid (cells_nd ((((((w5.setCell ⟨wc.heap.size, 0, none⟩ (.int .i64 hk1)).setCell ⟨wc.heap.size, 1, none⟩ (.int .i64 hk2)).setCell ⟨wc.heap.size, 2, none⟩ (.int .i64 hk3)).setCell ⟨wc.heap.size, 3, none⟩ (.string hk4)).setCell ⟨wc.heap.size, 4, none⟩ (.int .i64 hk5)).setCell ⟨wc.heap.size, 5, none⟩ (.slice A5 k5.len c5)) (.int .i64 hk1) (.int .i64 hk2) (.int .i64 hk3) (.string hk4) (.int .i64 hk5) (.slice A5 k5.len c5))
        clear o1 o2
        go_wp2_with (at_builtin; refine wpList_append_at rfl (.tmp 37) (.tmp 39) 23 rfl w.heap.size 25 i0 (.agg #[.int .i64 0, .int .i64 0, .int .i64 0, .string ⟨#[]⟩, .int .i64 0, .slice none 0 0]) 6 72 Tryz.underlying23 hi0 hz0 hz1 hz2 rfl (by decide) _ Kk.len cs rfl O1.out ⟨w5.heap.size, 0, none⟩ 1 1 [.int .i64 hk1, .int .i64 hk2, .int .i64 hk3, .string hk4, .int .i64 hk5, .slice A5 k5.len c5] rfl rfl (by simpa [World.setCell] using CN.out) (one_nd ⟨hk1, hk2, hk3, hk4, hk5⟩ _ _ _) b3' b4' b5.out ?_)
        intro v' w7 hown' hgrow hat
        have M7 := Lib.hid (M6.out.push ⟨O1.out, O2.out⟩ (k := .one ⟨hk1, hk2, hk3, hk4, hk5⟩ k5) (FC.one (M6.out.kidP 0 rfl)) hown' hgrow (fun j hj => by
          rcases hat j hj with h | h
          · exact .inl h
          · exact .inr (by simpa [World.setCell] using h)))
        clear hown' hgrow hat b3' b4' b5 CN O1 O2
        have M7 := Lib.hid M7.out.drop.noK
        have hkl : (Kk.app (.one ⟨hk1, hk2, hk3, hk4, hk5⟩ k5)).len = Kk.len + 1 := by rw [Fo.len_app]; rfl
        have HE2 := Lib.hid (show xf = (Kk.app (.one ⟨hk1, hk2, hk3, hk4, hk5⟩ k5)).app r'.1 ∧ xi = r'.2.1 ∧ xb = r'.2.2 from ⟨by rw [HH1.out, Fo.app_assoc, HE5.out], HH2.out, HH3.out⟩)
        have hf'' := HF'.out
        clear m8 t8 m9
        go_wp2_with fail
        go_roundg f'
        case measure => omega
        case rel => exact ⟨f', a3, b3, _, r', _, rfl, by go_num, by omega, by omega, hl5, HG1.out, HE2.out, M7.out⟩
      · rw [show isM X.l ik (⟨#[117, 115, 101]⟩ : ByteArray).data.toList = true from qU] at cU
        have CU := Lib.hid cU
        have hd := HTY.out
        rw [if_pos qU] at hd
        have hnx := isM_next WF.out qU
        have C3 : Hid (∀ w', St X w' bk → Calls Tryz.prog 38 #[X.p, .int .i64 ik] w' fun e w'' => NodeP X w' (tf, a3, b3) e w'') := fun w' h => by rw [hd]; exact use_any X bk ik w' h hnx
        clear cU hd qU HTY
        go_wp2_with fail
        refine CU.out.mono ?_
        rintro e wu ⟨rfl, hbu⟩
        have LU := Lib.hid (LU0.out.other hbu)
        clear hbu CU LU0
        go_wp2_with fail
        refine (C3.out _ LU.out.st).mono ?_
        rintro e w5 ⟨h5, k5, A5, c5, e5, rfl, hK5, hS5, hF5, hl5⟩
        dsimp only at e5 hS5 hl5
        have HE5 := Lib.hid e5
        obtain ⟨hk1, hk2, hk3, hk4, hk5⟩ := h5
        have L5 := Lib.hid ((LU.out.kid hS5 hF5 hK5).put6 0 rfl rfl (.int .i64 hk1) (.int .i64 hk2) (.int .i64 hk3) (.string hk4) (.int .i64 hk5) (.slice A5 k5.len c5))
        have m8 := ((LU.out.kid hS5 hF5 hK5).row 0 rfl).cell
        have t8 := ((LU.out.kid hS5 hF5 hK5).row 0 rfl).thaw
        have M6 := Lib.hid (L5.out.other (bel1 _ (.cells (nc ⟨hk1, hk2, hk3, hk4, hk5⟩ A5 k5.len c5) 25)))
        have m9 := (L5.out.row 0 rfl).cell
        clear hS5 hF5 hK5 e5
        obtain ⟨cs, o1, o2⟩ := M6.out.own
        have O1 := Lib.hid o1
        have O2 := Lib.hid o2
        obtain ⟨i0, hi0, hz0, hz1, hz2⟩ := info_parts info25
        have b5 := Lib.hid M6.out.size
        have b3' : Kk.len + 1 ≤ maxLen := by unfold maxLen; omega
        have b4' : (Kk.len + 1) * 72 ≤ 140737488355328 := by omega
        have CN := Lib.hid (cells_nd ((((((w5.setCell ⟨wc.heap.size, 0, none⟩ (.int .i64 hk1)).setCell ⟨wc.heap.size, 1, none⟩ (.int .i64 hk2)).setCell ⟨wc.heap.size, 2, none⟩ (.int .i64 hk3)).setCell ⟨wc.heap.size, 3, none⟩ (.string hk4)).setCell ⟨wc.heap.size, 4, none⟩ (.int .i64 hk5)).setCell ⟨wc.heap.size, 5, none⟩ (.slice A5 k5.len c5)) (.int .i64 hk1) (.int .i64 hk2) (.int .i64 hk3) (.string hk4) (.int .i64 hk5) (.slice A5 k5.len c5))
        clear o1 o2
        go_wp2_with (at_builtin; refine wpList_append_at rfl (.tmp 37) (.tmp 39) 23 rfl w.heap.size 25 i0 (.agg #[.int .i64 0, .int .i64 0, .int .i64 0, .string ⟨#[]⟩, .int .i64 0, .slice none 0 0]) 6 72 Tryz.underlying23 hi0 hz0 hz1 hz2 rfl (by decide) _ Kk.len cs rfl O1.out ⟨w5.heap.size, 0, none⟩ 1 1 [.int .i64 hk1, .int .i64 hk2, .int .i64 hk3, .string hk4, .int .i64 hk5, .slice A5 k5.len c5] rfl rfl (by simpa [World.setCell] using CN.out) (one_nd ⟨hk1, hk2, hk3, hk4, hk5⟩ _ _ _) b3' b4' b5.out ?_)
        intro v' w7 hown' hgrow hat
        have M7 := Lib.hid (M6.out.push ⟨O1.out, O2.out⟩ (k := .one ⟨hk1, hk2, hk3, hk4, hk5⟩ k5) (FC.one (M6.out.kidP 0 rfl)) hown' hgrow (fun j hj => by
          rcases hat j hj with h | h
          · exact .inl h
          · exact .inr (by simpa [World.setCell] using h)))
        clear hown' hgrow hat b3' b4' b5 CN O1 O2
        have M7 := Lib.hid M7.out.drop.noK
        have hkl : (Kk.app (.one ⟨hk1, hk2, hk3, hk4, hk5⟩ k5)).len = Kk.len + 1 := by rw [Fo.len_app]; rfl
        have HE2 := Lib.hid (show xf = (Kk.app (.one ⟨hk1, hk2, hk3, hk4, hk5⟩ k5)).app r'.1 ∧ xi = r'.2.1 ∧ xb = r'.2.2 from ⟨by rw [HH1.out, Fo.app_assoc, HE5.out], HH2.out, HH3.out⟩)
        have hf'' := HF'.out
        clear m8 t8 m9
        go_wp2_with fail
        go_roundg f'
        case measure => omega
        case rel => exact ⟨f', a3, b3, _, r', _, rfl, by go_num, by omega, by omega, hl5, HG1.out, HE2.out, M7.out⟩
end Ps
end Go.Proofs.YtiabkkdeonepgaaGreatDoor
