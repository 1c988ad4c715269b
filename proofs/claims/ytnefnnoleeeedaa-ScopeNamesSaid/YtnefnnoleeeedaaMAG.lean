import Derived.Test.YtnefnnoleeeedaaMAF
import Derived.Deep.RegionHeld3
import Derived.BigRegion
import Derived.RegionTactic
import Derived.ChangeAlike
import Derived.Test.YtnefnnoleeeedaaMAC
import Derived.Deep.LoopGhost
import Derived.Test.YtnefnnoleeeedaaMAB
import Derived.Deep.RegionWith
import Derived.Test.YtnefnnoleeeedaaMAA
import Derived.Lib.Builder
import Derived.Lib.AppendStr
import Derived.Lib.OthersKept
namespace Go.Proofs.Ytnefnnoleeeedaa
open Go.RowKit
namespace Ps
set_option maxHeartbeats 8000000 in
set_option maxRecDepth 100000 in
theorem stmt_while (X : Cx) (f : Nat) (IE : ExC X f .expr 100) (IB : ExC X f .block 95) (b : Int) (i : Nat) (w : World) (r : Fo × Nat × Int) (hr : exM X.l (f + 1) .stmt b i = some r) (hS : St X w b) (hi : i < X.l.length) (q0 : isM X.l i kIf = false) (q1 : isM X.l i kWhile = true) :
    Calls Try.prog 99 #[X.p, .int .i64 i] w fun e w' => NodeP X w r e w' := by
  have hle := hS.wf.le
  have hrb := hS.row.lt
  have hnx := isM_next hS.wf q1
  obtain ⟨j, hj⟩ : ∃ j, j = i + 1 := ⟨_, rfl⟩
  have e1 : IntKind.i64.wrap ((i : Int) + 1) = (j : Int) := by rw [IntKind.wrap_i64]; omega
  rw [exM, if_neg (by rw [q0]; simp), if_pos q1, ← hj] at hr
  rw [← hj] at hnx
  obtain ⟨⟨cf, p1, b1⟩, hc, hr⟩ := Option.bind_eq_some_iff.1 hr
  obtain ⟨⟨kf, p2, b2⟩, hk, hr⟩ := Option.bind_eq_some_iff.1 hr
  injection hr with hr
  subst hr
  dsimp only at hk
  have L0 := Lib.hid (((LS.start hS).alloc w.heap.size rfl 25 zc).alloc (w.heap.size + 1) (by simp) 25 (nc ⟨13, i, 0, e0, 0⟩ none 0 0))
  have I0 : Hid (∀ w', St X w' b → Calls Try.prog 53 #[X.p, .int .i64 i, .string ⟨#[105, 102]⟩] w' fun e w'' => e = .returned (.bool false) ∧ Below w'.heap.size w' w'') := fun w' h => by rw [← q0]; exact is_any X b i ⟨#[105, 102]⟩ w' h hi
  have I1 : Hid (∀ w', St X w' b → Calls Try.prog 53 #[X.p, .int .i64 i, .string ⟨#[119, 104, 105, 108, 101]⟩] w' fun e w'' => e = .returned (.bool true) ∧ Below w'.heap.size w' w'') := fun w' h => by rw [← q1]; exact is_any X b i ⟨#[119, 104, 105, 108, 101]⟩ w' h hi
  have C1 : Hid (∀ w', St X w' b → Calls Try.prog 100 #[X.p, .int .i64 j] w' fun e w'' => NodeP X w' (cf, p1, b1) e w'') := fun w' h => IE b j w' _ hc h hnx
  have C2 : Hid (p1 < X.l.length → ∀ w', St X w' b1 → Calls Try.prog 95 #[X.p, .int .i64 p1] w' fun e w'' => NodeP X w' (kf, p2, b2) e w'') := fun hl w' h => IB b1 p1 w' _ hk h hl
  clear hS hc hk hj q0 q1
  go_enter Try.func99, Try.ntmps99
  go_wp2_with fail
  refine (I0.out _ L0.out.st).mono ?_
  rintro e w1 ⟨rfl, hb1⟩
  have L1 := Lib.hid (L0.out.other hb1)
  clear hb1
  go_wp2_with fail
  refine (I1.out _ L1.out.st).mono ?_
  rintro e w2 ⟨rfl, hb2⟩
  have L2 : Hid (LS X w (w2.setCell ⟨w.heap.size + 1, 0, none⟩ (.int .i64 10)) b [(w.heap.size + 1, 25, nc ⟨10, i, 0, e0, 0⟩ none 0 0), (w.heap.size, 25, zc)] [] (.slice none 0 0) .nil) := (L1.out.other hb2).set 0 rfl 0 (.int .i64 10)
  have m2 := ((L1.out.other hb2).row 0 rfl).cell
  have t2 := ((L1.out.other hb2).row 0 rfl).thaw
  clear hb2
  go_wp2_with fail
  refine (I0.out _ L2.out.st).mono ?_
  rintro e w3 ⟨rfl, hb3⟩
  have L3 := Lib.hid (L2.out.other hb3)
  clear hb3 m2 t2
  go_wp2_with fail
  refine (C1.out _ L3.out.st).mono ?_
  rintro e w4 ⟨h3, k3, A3, c3, e3, rfl, hK3, hS3, hF3, hl3⟩
  dsimp only at e3 hS3 hl3
  subst e3
  obtain ⟨y1, y2, y3, y4, y5⟩ := h3
  have L4 := Lib.hid ((L3.out.kid hS3 hF3 hK3).alloc w4.heap.size rfl 25 (nc ⟨y1, y2, y3, y4, y5⟩ A3 k3.len c3))
  clear hS3 hF3 hK3
  go_wp2_with fail
  refine (C2.out hl3 _ L4.out.st).mono ?_
  rintro e w5 ⟨h4, k4, A4, c4, e4, rfl, hK4, hS4, hF4, hl4⟩
  dsimp only at e4 hS4 hl4
  subst e4
  obtain ⟨z1, z2, z3, z4, z5⟩ := h4
  have L5 := Lib.hid ((L4.out.kid hS4 hF4 hK4).alloc w5.heap.size rfl 25 (nc ⟨z1, z2, z3, z4, z5⟩ A4 k4.len c4))
  have L6 := Lib.hid (L5.out.slice (w5.heap.size + 1) (by simp) (cs := #[.int .i64 y1, .int .i64 y2, .int .i64 y3, .string y4, .int .i64 y5, .slice A3 k3.len c3, .int .i64 z1, .int .i64 z2, .int .i64 z3, .string z4, .int .i64 z5, .slice A4 k4.len c4]) (KV.slice2 (h1 := ⟨y1, y2, y3, y4, y5⟩) (h2 := ⟨z1, z2, z3, z4, z5⟩) (L5.out.kidP 1 rfl) (L5.out.kidP 0 rfl)))
  have m4 := (L5.out.row 0 rfl).cell
  have m5 := (L5.out.row 1 rfl).cell
  have m6 := (L6.out.row 2 rfl).cell
  clear hS4 hF4 hK4
  go_wp2_with fail
  refine (ended_any ⟨10, i, 0, e0, 0⟩ none 0 0 p2 (some ⟨w5.heap.size + 1, 0, none⟩) 2 2 _).mono ?_
  rintro e wz ⟨rfl, hbz⟩
  have Lz := Lib.hid ((L6.out.other hbz).put6 3 rfl rfl (.int .i64 10) (.int .i64 i) (.int .i64 p2) (.string e0) (.int .i64 0) (.slice (some ⟨w5.heap.size + 1, 0, none⟩) 2 2))
  have r7 := ((L6.out.other hbz).row 3 rfl).cell
  have t7 := ((L6.out.other hbz).row 3 rfl).thaw
  clear hbz
  go_wp2
  refine bodyPost_ret ?_ rfl ⟨⟨10, i, p2, e0, 0⟩, (Fo.one ⟨y1, y2, y3, y4, y5⟩ k3).app (.one ⟨z1, z2, z3, z4, z5⟩ k4), (some ⟨w5.heap.size + 1, 0, none⟩), 2, rfl, rfl, ?_, Lz.out.st, Lz.out.fr, hl4⟩
  · simp [results, Try.results99, go_sem, e0, r7]
    rfl
  · exact (Lz.out.kidP 0 rfl).new_ (fun g h => h.1)
set_option maxHeartbeats 8000000 in
set_option maxRecDepth 100000 in
theorem stmt_if (X : Cx) (f : Nat) (IE : ExC X f .expr 100) (IB : ExC X f .block 95) (b : Int) (i : Nat) (w : World) (r : Fo × Nat × Int) (hr : exM X.l (f + 1) .stmt b i = some r) (hS : St X w b) (hi : i < X.l.length) (q0 : isM X.l i kIf = true) :
    Calls Try.prog 99 #[X.p, .int .i64 i] w fun e w' => NodeP X w r e w' := by
  have hle := hS.wf.le
  have WF := Lib.hid hS.wf
  have hrb := hS.row.lt
  have hnx := isM_next hS.wf q0
  obtain ⟨j, hj⟩ : ∃ j, j = i + 1 := ⟨_, rfl⟩
  have e1 : IntKind.i64.wrap ((i : Int) + 1) = (j : Int) := by rw [IntKind.wrap_i64]; omega
  rw [exM, if_pos q0, ← hj] at hr
  rw [← hj] at hnx
  obtain ⟨⟨cf, p1, b1⟩, hc, hr⟩ := Option.bind_eq_some_iff.1 hr
  obtain ⟨⟨kf, p2, b2⟩, hk, hr⟩ := Option.bind_eq_some_iff.1 hr
  dsimp only at hk hr
  have HR := Lib.hid hr
  have L0 := Lib.hid (((LS.start hS).alloc w.heap.size rfl 25 zc).alloc (w.heap.size + 1) (by simp) 25 (nc ⟨13, i, 0, e0, 0⟩ none 0 0))
  have I0 : Hid (∀ w', St X w' b → Calls Try.prog 53 #[X.p, .int .i64 i, .string ⟨#[105, 102]⟩] w' fun e w'' => e = .returned (.bool true) ∧ Below w'.heap.size w' w'') := fun w' h => by rw [← q0]; exact is_any X b i ⟨#[105, 102]⟩ w' h hi
  have C1 : Hid (∀ w', St X w' b → Calls Try.prog 100 #[X.p, .int .i64 j] w' fun e w'' => NodeP X w' (cf, p1, b1) e w'') := fun w' h => IE b j w' _ hc h hnx
  have C2 : Hid (p1 < X.l.length → ∀ w', St X w' b1 → Calls Try.prog 95 #[X.p, .int .i64 p1] w' fun e w'' => NodeP X w' (kf, p2, b2) e w'') := fun hl w' h => IB b1 p1 w' _ hk h hl
  clear hS hc hk hj q0 hr
  go_enter Try.func99, Try.ntmps99
  go_wp2_with fail
  refine (I0.out _ L0.out.st).mono ?_
  rintro e w1 ⟨rfl, hb1⟩
  have L2 : Hid (LS X w (w1.setCell ⟨w.heap.size + 1, 0, none⟩ (.int .i64 10)) b [(w.heap.size + 1, 25, nc ⟨10, i, 0, e0, 0⟩ none 0 0), (w.heap.size, 25, zc)] [] (.slice none 0 0) .nil) := (L0.out.other hb1).set 0 rfl 0 (.int .i64 10)
  have m2 := ((L0.out.other hb1).row 0 rfl).cell
  have t2 := ((L0.out.other hb1).row 0 rfl).thaw
  clear hb1
  go_wp2_with fail
  refine (I0.out _ L2.out.st).mono ?_
  rintro e w3 ⟨rfl, hb3⟩
  have L3 := Lib.hid (L2.out.other hb3)
  clear hb3 m2 t2
  go_wp2_with fail
  refine (C1.out _ L3.out.st).mono ?_
  rintro e w4 ⟨h3, k3, A3, c3, e3, rfl, hK3, hS3, hF3, hl3⟩
  dsimp only at e3 hS3 hl3
  subst e3
  obtain ⟨y1, y2, y3, y4, y5⟩ := h3
  have L4 := Lib.hid ((L3.out.kid hS3 hF3 hK3).alloc w4.heap.size rfl 25 (nc ⟨y1, y2, y3, y4, y5⟩ A3 k3.len c3))
  clear hS3 hF3 hK3
  go_wp2_with fail
  refine (C2.out hl3 _ L4.out.st).mono ?_
  rintro e w5 ⟨h4, k4, A4, c4, e4, rfl, hK4, hS4, hF4, hl4⟩
  dsimp only at e4 hS4 hl4
  subst e4
  obtain ⟨z1, z2, z3, z4, z5⟩ := h4
  have L5 := Lib.hid ((L4.out.kid hS4 hF4 hK4).alloc w5.heap.size rfl 25 (nc ⟨z1, z2, z3, z4, z5⟩ A4 k4.len c4))
  have L6 := Lib.hid (L5.out.lit (cs := #[.int .i64 y1, .int .i64 y2, .int .i64 y3, .string y4, .int .i64 y5, .slice A3 k3.len c3, .int .i64 z1, .int .i64 z2, .int .i64 z3, .string z4, .int .i64 z5, .slice A4 k4.len c4]) (KV.slice2 (h1 := ⟨y1, y2, y3, y4, y5⟩) (h2 := ⟨z1, z2, z3, z4, z5⟩) (L5.out.kidP 1 rfl) (L5.out.kidP 0 rfl)) (w5.heap.size + 1) (by simp) (show 2 ≤ maxLen by unfold maxLen; omega))
  obtain ⟨Kc, hKc⟩ : ∃ Kc, Kc = (Fo.one ⟨y1, y2, y3, y4, y5⟩ k3).app (.one ⟨z1, z2, z3, z4, z5⟩ k4) := ⟨_, rfl⟩
  have HKC := Lib.hid hKc
  have L7 : Hid (LS X w ((((w5.alloc (.cells (nc ⟨z1, z2, z3, z4, z5⟩ A4 k4.len c4) 25)).alloc (.cells #[.int .i64 y1, .int .i64 y2, .int .i64 y3, .string y4, .int .i64 y5, .slice A3 k3.len c3, .int .i64 z1, .int .i64 z2, .int .i64 z3, .string z4, .int .i64 z5, .slice A4 k4.len c4] 25)).setCell ⟨w.heap.size + 1, 0, none⟩ (.int .i64 9)).alloc (.cells zc 25)) b2 [(w5.heap.size + 2, 25, zc), (w5.heap.size, 25, nc ⟨z1, z2, z3, z4, z5⟩ A4 k4.len c4), (w4.heap.size, 25, nc ⟨y1, y2, y3, y4, y5⟩ A3 k3.len c3), (w.heap.size + 1, 25, nc ⟨9, i, 0, e0, 0⟩ none 0 0), (w.heap.size, 25, zc)] [(k4, A4, c4), (k3, A3, c3)] (.slice (some ⟨w5.heap.size + 1, 0, none⟩) 2 2) Kc) := by
    rw [hKc]
    exact (L6.out.set 2 rfl 0 (.int .i64 9)).alloc (w5.heap.size + 2) (by simp [World.setCell]) 25 zc
  have hK2 : Hid (Kc.len = 2) := by rw [hKc]; rfl
  have m4 := (L5.out.row 0 rfl).cell
  have m5 := (L5.out.row 1 rfl).cell
  have m6 := (L6.out.row 2 rfl).cell
  have t6 := (L6.out.row 2 rfl).thaw
  have n7 := L7.out.st.row.cell
  clear hS4 hF4 hK4 hKc
  obtain ⟨z, hz⟩ : ∃ z : Bool, (z = true ↔ (b2 < 0 ∧ isM X.l p2 kElse = true)) := by
    by_cases h : b2 < 0 ∧ isM X.l p2 kElse = true
    · exact ⟨true, fun _ => h, fun _ => rfl⟩
    · exact ⟨false, by simp only [Bool.false_eq_true, false_iff]; exact h⟩
  have HZ := Lib.hid hz
  clear hz
  have ISK := Lib.hid (fun (x : ByteArray) w' h => is_any X b2 p2 x w' h hl4)
  go_upto_region 13 with fail
  go_cut [59] from 49 (fun s59 wx => s59 = .bool z ∧ Hid (LS X w wx b2 [(w5.heap.size + 2, 25, zc), (w5.heap.size, 25, nc ⟨z1, z2, z3, z4, z5⟩ A4 k4.len c4), (w4.heap.size, 25, nc ⟨y1, y2, y3, y4, y5⟩ A3 k3.len c3), (w.heap.size + 1, 25, nc ⟨9, i, 0, e0, 0⟩ none 0 0), (w.heap.size, 25, zc)] [(k4, A4, c4), (k3, A3, c3)] (.slice (some ⟨w5.heap.size + 1, 0, none⟩) 2 2) Kc))
  case first =>
    by_cases hb : b2 < 0
    · have cm := ISK.out ⟨#[101, 108, 115, 101]⟩ _ L7.out.st
      cases q : isM X.l p2 kElse
      · rw [show isM X.l p2 (⟨#[101, 108, 115, 101]⟩ : ByteArray).data.toList = false from q] at cm
        have CM := Lib.hid cm
        obtain rfl : z = false := by
          cases z
          · rfl
          · have h := (HZ.out.1 rfl).2
            rw [q] at h; cases h
        clear cm q m4 m5 m6 t6
        go_wp2_with fail
        refine CM.out.mono ?_
        rintro e wm ⟨rfl, hbm⟩
        have LM := Lib.hid (L7.out.other hbm)
        clear hbm
        go_wp2_with fail
        go_meet
        exact ⟨rfl, LM.out⟩
      · rw [show isM X.l p2 (⟨#[101, 108, 115, 101]⟩ : ByteArray).data.toList = true from q] at cm
        have CM := Lib.hid cm
        obtain rfl : z = true := HZ.out.2 ⟨hb, q⟩
        clear cm q m4 m5 m6 t6
        go_wp2_with fail
        refine CM.out.mono ?_
        rintro e wm ⟨rfl, hbm⟩
        have LM := Lib.hid (L7.out.other hbm)
        clear hbm
        go_wp2_with fail
        go_meet
        exact ⟨rfl, LM.out⟩
    · obtain rfl : z = false := by
        cases z
        · rfl
        · exact absurd (HZ.out.1 rfl).1 hb
      clear m4 m5 m6 t6
      go_wp2_with fail
      go_meet
      exact ⟨rfl, L7.out⟩
  case rest =>
  obtain ⟨rfl, LC⟩ := hcut
  clear m4 m5 m6 t6 n7
  cases z
  · have hr := HR.out
    rw [if_neg (fun hh => by have := HZ.out.2 hh; cases this)] at hr
    injection hr with hr
    subst hr
    have m8 := (LC.out.row 0 rfl).cell
    have M6 := Lib.hid (LC.out.other (bel1 wc (.cells (nc ⟨0, 0, 0, e0, 0⟩ none 0 0) 25)))
    have hk2 := hK2.out
    have h2m : Kc.len + 1 ≤ maxLen := by unfold maxLen; omega
    have h2b : (Kc.len + 1) * 72 ≤ 140737488355328 := by omega
    clear hk2 HZ HR
    obtain ⟨cs, o1, o2⟩ := M6.out.own
    have O1 := Lib.hid o1
    have O2 := Lib.hid o2
    obtain ⟨i0, hi0, hz0, hz1, hz2⟩ := info_parts info25
    have b5 := Lib.hid M6.out.size
    have b3' := h2m
    have b4' := h2b
    have CN := Lib.hid (cells_nd wc (.int .i64 (0 : Nat)) (.int .i64 (0 : Nat)) (.int .i64 (0 : Nat)) (.string e0) (.int .i64 (0 : Nat)) (.slice none 0 0))
    clear o1 o2
    go_wp2_with (at_builtin; refine wpList_append_at rfl (.tmp 67) (.tmp 69) 23 rfl w.heap.size 25 i0 (.agg #[.int .i64 (0 : Nat), .int .i64 (0 : Nat), .int .i64 (0 : Nat), .string ⟨#[]⟩, .int .i64 (0 : Nat), .slice none 0 0]) 6 72 Try.underlying23 hi0 hz0 hz1 hz2 rfl (by decide) _ Kc.len cs rfl O1.out ⟨wc.heap.size, 0, none⟩ 1 1 [.int .i64 (0 : Nat), .int .i64 (0 : Nat), .int .i64 (0 : Nat), .string e0, .int .i64 (0 : Nat), .slice none 0 0] rfl rfl CN.out (one_nd ⟨0, 0, 0, e0, 0⟩ _ _ _) b3' b4' b5.out ?_)
    intro v' w7 hown' hgrow hat
    have M7 := Lib.hid (M6.out.push ⟨O1.out, O2.out⟩ (k := .one ⟨0, 0, 0, e0, 0⟩ .nil) (FC.one (KV.nil _ _ _ _)) hown' hgrow (fun j hj => by
      rcases hat j hj with h | h
      · exact .inl h
      · exact .inr (by simpa using h)))
    clear hown' hgrow hat b3' b4' b5 CN O1 O2
    obtain ⟨Kd, hKd⟩ : ∃ Kd, Kd = Kc.app (.one ⟨0, 0, 0, e0, 0⟩ .nil) := ⟨_, rfl⟩
    rw [← hKd] at M7
    have HKD := Lib.hid hKd
    clear hKd
    obtain ⟨A7, c7, e7, _, _⟩ := M7.out.list
    subst e7
    have m9 := (M7.out.row 3 rfl).cell
    clear m8
    go_wp2_with fail
    refine (ended_any ⟨9, i, 0, e0, 0⟩ none 0 0 p2 A7 Kd.len c7 _).mono ?_
    rintro e wz ⟨rfl, hbz⟩
    have Lz := Lib.hid ((M7.out.other hbz).put6 4 rfl rfl (.int .i64 9) (.int .i64 i) (.int .i64 p2) (.string e0) (.int .i64 0) (.slice A7 Kd.len c7))
    have r7 := ((M7.out.other hbz).row 4 rfl).cell
    have t7 := ((M7.out.other hbz).row 4 rfl).thaw
    clear hbz
    go_wp2
    refine bodyPost_ret ?_ rfl ⟨⟨9, i, p2, e0, 0⟩, Kd, A7, c7, by rw [HKD.out, HKC.out, Fo.app_assoc]; rfl, rfl, ?_, Lz.out.st, Lz.out.fr, hl4⟩
    · simp [results, Try.results99, go_sem, e0, r7]
    · exact Lz.out.kv
  · obtain ⟨hb, q⟩ := HZ.out.1 rfl
    have hr := HR.out
    rw [if_pos ⟨hb, q⟩] at hr
    obtain ⟨⟨of, p3, b3⟩, ho, hr⟩ := Option.bind_eq_some_iff.1 hr
    injection hr with hr
    subst hr
    have hn2 := isM_next WF.out q
    obtain ⟨j2, hj2⟩ : ∃ j2, j2 = p2 + 1 := ⟨_, rfl⟩
    rw [← hj2] at ho hn2
    have e2 : IntKind.i64.wrap ((p2 : Int) + 1) = (j2 : Int) := by rw [IntKind.wrap_i64]; omega
    have C3 : Hid (∀ w', St X w' b2 → Calls Try.prog 95 #[X.p, .int .i64 j2] w' fun e w'' => NodeP X w' (of, p3, b3) e w'') := fun w' h => IB b2 j2 w' _ ho h hn2
    clear ho hj2 HZ HR hb q
    go_wp2_with fail
    refine (C3.out _ LC.out.st).mono ?_
    rintro e w6 ⟨h5, k5, A5, c5, e5, rfl, hK5, hS5, hF5, hl5⟩
    dsimp only at e5 hS5 hl5
    subst e5
    obtain ⟨u1, u2, u3, u4, u5⟩ := h5
    have L8 := Lib.hid ((LC.out.kid hS5 hF5 hK5).put6 0 rfl rfl (.int .i64 u1) (.int .i64 u2) (.int .i64 u3) (.string u4) (.int .i64 u5) (.slice A5 k5.len c5))
    have m8 := ((LC.out.kid hS5 hF5 hK5).row 0 rfl).cell
    have t8 := ((LC.out.kid hS5 hF5 hK5).row 0 rfl).thaw
    have M6 := Lib.hid (L8.out.other (bel1 _ (.cells (nc ⟨u1, u2, u3, u4, u5⟩ A5 k5.len c5) 25)))
    have hk2 := hK2.out
    have h2m : Kc.len + 1 ≤ maxLen := by unfold maxLen; omega
    have h2b : (Kc.len + 1) * 72 ≤ 140737488355328 := by omega
    have m9 := (L8.out.row 0 rfl).cell
    clear hS5 hF5 hK5 hk2
    obtain ⟨cs, o1, o2⟩ := M6.out.own
    have O1 := Lib.hid o1
    have O2 := Lib.hid o2
    obtain ⟨i0, hi0, hz0, hz1, hz2⟩ := info_parts info25
    have b5 := Lib.hid M6.out.size
    have b3' := h2m
    have b4' := h2b
    have CN := Lib.hid (cells_nd ((((((w6.setCell ⟨w5.heap.size + 2, 0, none⟩ (.int .i64 u1)).setCell ⟨w5.heap.size + 2, 1, none⟩ (.int .i64 u2)).setCell ⟨w5.heap.size + 2, 2, none⟩ (.int .i64 u3)).setCell ⟨w5.heap.size + 2, 3, none⟩ (.string u4)).setCell ⟨w5.heap.size + 2, 4, none⟩ (.int .i64 u5)).setCell ⟨w5.heap.size + 2, 5, none⟩ (.slice A5 k5.len c5)) (.int .i64 u1) (.int .i64 u2) (.int .i64 u3) (.string u4) (.int .i64 u5) (.slice A5 k5.len c5))
    clear o1 o2
    go_wp2_with (at_builtin; refine wpList_append_at rfl (.tmp 67) (.tmp 69) 23 rfl w.heap.size 25 i0 (.agg #[.int .i64 0, .int .i64 0, .int .i64 0, .string ⟨#[]⟩, .int .i64 0, .slice none 0 0]) 6 72 Try.underlying23 hi0 hz0 hz1 hz2 rfl (by decide) _ Kc.len cs rfl O1.out ⟨w6.heap.size, 0, none⟩ 1 1 [.int .i64 u1, .int .i64 u2, .int .i64 u3, .string u4, .int .i64 u5, .slice A5 k5.len c5] rfl rfl (by simpa [World.setCell] using CN.out) (one_nd ⟨u1, u2, u3, u4, u5⟩ _ _ _) b3' b4' b5.out ?_)
    intro v' w7 hown' hgrow hat
    have M7 := Lib.hid (M6.out.push ⟨O1.out, O2.out⟩ (k := .one ⟨u1, u2, u3, u4, u5⟩ k5) (FC.one (M6.out.kidP 0 rfl)) hown' hgrow (fun j hj => by
      rcases hat j hj with h | h
      · exact .inl h
      · exact .inr (by simpa [World.setCell] using h)))
    clear hown' hgrow hat b3' b4' b5 CN O1 O2
    obtain ⟨Kd, hKd⟩ : ∃ Kd, Kd = Kc.app (.one ⟨u1, u2, u3, u4, u5⟩ k5) := ⟨_, rfl⟩
    rw [← hKd] at M7
    have HKD := Lib.hid hKd
    clear hKd
    obtain ⟨A7, c7, e7, _, _⟩ := M7.out.list
    subst e7
    have m10 := (M7.out.row 3 rfl).cell
    clear m8 m9
    go_wp2_with fail
    refine (ended_any ⟨9, i, 0, e0, 0⟩ none 0 0 p3 A7 Kd.len c7 _).mono ?_
    rintro e wz ⟨rfl, hbz⟩
    have Lz := Lib.hid ((M7.out.other hbz).put6 4 rfl rfl (.int .i64 9) (.int .i64 i) (.int .i64 p3) (.string e0) (.int .i64 0) (.slice A7 Kd.len c7))
    have r7 := ((M7.out.other hbz).row 4 rfl).cell
    have t7 := ((M7.out.other hbz).row 4 rfl).thaw
    clear hbz
    go_wp2
    refine bodyPost_ret ?_ rfl ⟨⟨9, i, p3, e0, 0⟩, Kd, A7, c7, by rw [HKD.out, HKC.out, Fo.app_assoc], rfl, ?_, Lz.out.st, Lz.out.fr, hl5⟩
    · simp [results, Try.results99, go_sem, e0, r7]
    · exact Lz.out.kv
end Ps
end Go.Proofs.Ytnefnnoleeeedaa
namespace Go.Proofs.Ytnefnnoleeeedaa
open Go.RowKit
namespace Ps
def Chain (l : List Tok) (f : Nat) (b : Int) (i : Nat) (hd : Hd) (kf : Fo) (a0 : Nat) (b0 : Int) : Prop :=
  (isM l i kLet = true ∧ ∃ w2 u p q, wordM l b ⟨7, i, 0, e0, 0⟩ (i + 1) = (hd, w2, u) ∧ typedM l f u w2 = some (kf, p, q) ∧ wantM l q p sEq = (a0, b0)) ∨
  (isM l i kLet = false ∧ isM l i kPrint = true ∧ hd = ⟨11, i, 0, e0, 0⟩ ∧ kf = .nil ∧ a0 = i + 1 ∧ b0 = b) ∨
  (isM l i kLet = false ∧ isM l i kPrint = false ∧ isM l i kReturn = true ∧ hd = ⟨12, i, 0, e0, 0⟩ ∧ kf = .nil ∧ a0 = i + 1 ∧ b0 = b) ∨
  (isM l i kLet = false ∧ isM l i kPrint = false ∧ isM l i kReturn = false ∧ (kindAt l i = 1 ∧ isM l (i + 1) sEq = true) ∧ ∃ w2, wordM l b ⟨8, i, 0, e0, 0⟩ i = (hd, w2, b0) ∧ kf = .nil ∧ a0 = w2 + 1) ∨
  (isM l i kLet = false ∧ isM l i kPrint = false ∧ isM l i kReturn = false ∧ ¬ (kindAt l i = 1 ∧ isM l (i + 1) sEq = true) ∧ hd = ⟨13, i, 0, e0, 0⟩ ∧ kf = .nil ∧ a0 = i ∧ b0 = b)
theorem stmt_chain {l : List Tok} {f : Nat} {b : Int} {i : Nat} {r : Fo × Nat × Int} (h : exM l (f + 1) .stmt b i = some r) (q0 : isM l i kIf = false) (q1 : isM l i kWhile = false) :
    ∃ hd kf a0 b0, Chain l f b i hd kf a0 b0 ∧ (exM l f .expr b0 a0).bind (fun v => some ((Fo.one { hd with til := (wantM l v.2.2 v.2.1 sSem).1 } (kf.app v.1), (wantM l v.2.2 v.2.1 sSem).1, (wantM l v.2.2 v.2.1 sSem).2) : Fo × Nat × Int)) = some r := by
  rw [exM, if_neg (by rw [q0]; simp), if_neg (by rw [q1]; simp)] at h
  cases qL : isM l i kLet
  · rw [if_neg (by rw [qL]; simp)] at h
    cases qP : isM l i kPrint
    · cases qR : isM l i kReturn
      · by_cases hs : kindAt l i = 1 ∧ isM l (i + 1) sEq = true
        · rw [if_neg (by rw [qP]; simp), if_neg (by rw [qR]; simp), if_pos hs] at h
          exact ⟨_, .nil, _, _, .inr (.inr (.inr (.inl ⟨qL, qP, qR, hs, _, rfl, rfl, rfl⟩))), h⟩
        · rw [if_neg (by rw [qP]; simp), if_neg (by rw [qR]; simp), if_neg hs] at h
          exact ⟨_, .nil, _, _, .inr (.inr (.inr (.inr ⟨qL, qP, qR, hs, rfl, rfl, rfl, rfl⟩))), h⟩
      · rw [if_neg (by rw [qP]; simp), if_pos qR] at h
        exact ⟨_, .nil, _, _, .inr (.inr (.inl ⟨qL, qP, qR, rfl, rfl, rfl, rfl⟩)), h⟩
    · rw [if_pos qP] at h
      exact ⟨_, .nil, _, _, .inr (.inl ⟨qL, qP, rfl, rfl, rfl, rfl⟩), h⟩
  · rw [if_pos qL] at h
    obtain ⟨⟨tf, p, q⟩, h1, h2⟩ := Option.bind_eq_some_iff.1 h
    exact ⟨_, tf, _, _, .inl ⟨qL, _, _, p, q, rfl, h1, rfl⟩, h2⟩
theorem hat_of {v : Value} {g n cap H s : Nat} (h : v.ownBlock = some g ∨ g = H) (hs : s ≤ H) : ∀ j, (Value.slice (some ⟨g, 0, none⟩) n cap).ownBlock = some j → v.ownBlock = some j ∨ s ≤ j := fun j hj => by
  simp [Value.ownBlock] at hj
  subst hj
  rcases h with h | h
  · exact .inl h
  · exact .inr (by omega)
set_option maxHeartbeats 16000000 in
set_option maxRecDepth 100000 in
theorem stmt_rest (X : Cx) (f : Nat) (hf : f ≤ 1000000) (IE : ExC X f .expr 100) (b : Int) (i : Nat) (w : World) (r : Fo × Nat × Int) (hr : exM X.l (f + 1) .stmt b i = some r) (hS : St X w b) (hi : i < X.l.length) (q0 : isM X.l i kIf = false) (q1 : isM X.l i kWhile = false) :
    Calls Try.prog 99 #[X.p, .int .i64 i] w fun e w' => NodeP X w r e w' := by
  have hle := hS.wf.le
  have WF := Lib.hid hS.wf
  have hrb := hS.row.lt
  have e1 : IntKind.i64.wrap ((i : Int) + 1) = ((i + 1 : Nat) : Int) := by rw [IntKind.wrap_i64]; omega
  obtain ⟨⟨g1, g2, g3, g4, g5⟩, kf, a0, b0, hch, hr⟩ := stmt_chain hr q0 q1
  obtain ⟨⟨vf, p1, b1⟩, hv, hr⟩ := Option.bind_eq_some_iff.1 hr
  obtain ⟨⟨p2, b2⟩, hy⟩ : ∃ y, y = wantM X.l b1 p1 sSem := ⟨_, rfl⟩
  dsimp only at hr
  rw [← hy] at hr
  injection hr with hr
  subst hr
  have HC := Lib.hid hch
  have L0 := Lib.hid (((LS.start hS).alloc w.heap.size rfl 25 zc).alloc (w.heap.size + 1) (by simp) 25 (nc ⟨13, i, 0, e0, 0⟩ none 0 0))
  have ISK := Lib.hid (fun (x : ByteArray) w' h => is_any X b i x w' h hi)
  have I0 : Hid (∀ w', St X w' b → Calls Try.prog 53 #[X.p, .int .i64 i, .string ⟨#[105, 102]⟩] w' fun e w'' => e = .returned (.bool false) ∧ Below w'.heap.size w' w'') := fun w' h => by rw [← q0]; exact is_any X b i ⟨#[105, 102]⟩ w' h hi
  have I1 : Hid (∀ w', St X w' b → Calls Try.prog 53 #[X.p, .int .i64 i, .string ⟨#[119, 104, 105, 108, 101]⟩] w' fun e w'' => e = .returned (.bool false) ∧ Below w'.heap.size w' w'') := fun w' h => by rw [← q1]; exact is_any X b i ⟨#[119, 104, 105, 108, 101]⟩ w' h hi
  have CE : Hid (a0 < X.l.length → ∀ w', St X w' b0 → Calls Try.prog 100 #[X.p, .int .i64 a0] w' fun e w'' => NodeP X w' (vf, p1, b1) e w'') := fun hl w' h => IE b0 a0 w' _ hv h hl
  have CW : Hid (p1 < X.l.length → ∀ w', St X w' b1 → Calls Try.prog 83 #[X.p, .int .i64 p1, .string ⟨#[59]⟩] w' fun e w'' => AtP X w' (p2, b2) e w'') := fun hl w' h => by rw [hy]; exact want_any X b1 p1 ⟨#[59]⟩ w' h hl
  clear hS hv hy hch q0 q1
  go_enter Try.func99, Try.ntmps99
  go_wp2_with fail
  refine (I0.out _ L0.out.st).mono ?_
  rintro e w1 ⟨rfl, hb1⟩
  have L1 := Lib.hid (L0.out.other hb1)
  clear hb1
  go_wp2_with fail
  refine (I1.out _ L1.out.st).mono ?_
  rintro e w2 ⟨rfl, hb2⟩
  have L2 := Lib.hid (L1.out.other hb2)
  clear hb2
  obtain ⟨z, hz⟩ : ∃ z, z = isM X.l i kLet := ⟨_, rfl⟩
  have cL := ISK.out ⟨#[108, 101, 116]⟩ _ L2.out.st
  rw [show isM X.l i (⟨#[108, 101, 116]⟩ : ByteArray).data.toList = z from hz.symm] at cL
  have CL := Lib.hid cL
  have HZ := Lib.hid hz
  clear cL hz
  go_wp2_with fail
  refine CL.out.mono ?_
  rintro e wL ⟨rfl, hbL⟩
  have L3 := Lib.hid (L2.out.other hbL)
  clear hbL
  go_upto_if 78 with fail
  go_cut [7, 8, 14, 15] from 79 (fun s7 s8 _ _ wx => s7 = .int .i64 a0 ∧ a0 < X.l.length ∧ kf.len ≤ 1 ∧ Hid (LS X w wx b0 [(w.heap.size + 1, 25, nc ⟨g1, g2, g3, g4, g5⟩ none 0 0), (w.heap.size, 25, zc)] [] s8 kf))
  case first =>
    cases z
    case true =>
      have qL := HZ.out.symm
      have hnx := isM_next WF.out qL
      obtain ⟨w2, u, p, q, hw, ht, hwt⟩ : ∃ w2 u p q, wordM X.l b ⟨7, i, 0, e0, 0⟩ (i + 1) = (⟨g1, g2, g3, g4, g5⟩, w2, u) ∧ typedM X.l f u w2 = some (kf, p, q) ∧ wantM X.l q p sEq = (a0, b0) := by
        rcases HC.out with h | h | h | h | h
        · exact h.2
        all_goals (rw [qL] at h; cases h.1)
      obtain ⟨j, hj⟩ : ∃ j, j = i + 1 := ⟨_, rfl⟩
      rw [← hj] at hw hnx e1
      have CW1 : Hid (∀ w', St X w' b → Calls Try.prog 82 #[X.p, nv ⟨7, i, 0, e0, 0⟩ none 0 0, .int .i64 j] w' fun e w'' => WordP X w' (⟨g1, g2, g3, g4, g5⟩, w2, u) none 0 0 e w'') := fun w' h => by rw [← hw]; exact word_any X b _ none 0 0 j w' h hnx
      have CT : Hid (w2 < X.l.length → ∀ w', St X w' u → Calls Try.prog 94 #[X.p, .int .i64 w2] w' fun e w'' => NodeP X w' (kf, p, q) e w'') := fun hl w' h => typed_any X f hf u w2 w' _ ht h hl
      have CQ : Hid (p < X.l.length → ∀ w', St X w' q → Calls Try.prog 83 #[X.p, .int .i64 p, .string ⟨#[61]⟩] w' fun e w'' => AtP X w' (a0, b0) e w'') := fun hl w' h => by rw [← hwt]; exact want_any X q p ⟨#[61]⟩ w' h hl
      have L4 : Hid (LS X w (wL.setCell ⟨w.heap.size + 1, 0, none⟩ (.int .i64 7)) b [(w.heap.size + 1, 25, nc ⟨7, i, 0, e0, 0⟩ none 0 0), (w.heap.size, 25, zc)] [] (.slice none 0 0) .nil) := L3.out.set 0 rfl 0 (.int .i64 7)
      have m0 := (L3.out.row 0 rfl).cell
      have t0 := (L3.out.row 0 rfl).thaw
      have m4 := (L4.out.row 0 rfl).cell
      clear HC ISK CE CW HZ hw ht hwt qL hj
      go_wp2_with fail
      refine (CW1.out _ L4.out.st).mono ?_
      rintro e w4 ⟨rfl, hS4, hF4, hl4⟩
      have L5 := Lib.hid ((L4.out.step hS4 hF4).put6 0 rfl rfl (.int .i64 g1) (.int .i64 g2) (.int .i64 g3) (.string g4) (.int .i64 g5) (.slice none 0 0))
      have m5 := ((L4.out.step hS4 hF4).row 0 rfl).cell
      have t5 := ((L4.out.step hS4 hF4).row 0 rfl).thaw
      clear hS4 hF4 m0 t0 m4
      go_wp2_with fail
      refine (CT.out hl4 _ L5.out.st).mono ?_
      rintro e w5 ⟨h5, k5, A5, c5, e5, rfl, hK5, hS5, hF5, hl5⟩
      dsimp only at e5 hS5 hl5
      obtain ⟨u1, u2, u3, u4, u5⟩ := h5
      have L6 := Lib.hid ((L5.out.kid hS5 hF5 hK5).alloc w5.heap.size rfl 25 (nc ⟨u1, u2, u3, u4, u5⟩ A5 k5.len c5))
      have M6 := Lib.hid (L6.out.other (bel1 _ (.cells (nc ⟨u1, u2, u3, u4, u5⟩ A5 k5.len c5) 25)))
      have m6 := (L6.out.row 0 rfl).cell
      clear hS5 hF5 hK5 m5 t5
      obtain ⟨cs, o1, o2⟩ := M6.out.own
      have O1 := Lib.hid o1
      have O2 := Lib.hid o2
      obtain ⟨i0, hi0, hz0, hz1, hz2⟩ := info_parts info25
      have b5 := Lib.hid M6.out.size
      have b3' : Fo.nil.len + 1 ≤ maxLen := by decide
      have b4' : (Fo.nil.len + 1) * 72 ≤ 140737488355328 := by decide
      have CN := Lib.hid (cells_nd (w5.alloc (.cells (nc ⟨u1, u2, u3, u4, u5⟩ A5 k5.len c5) 25)) (.int .i64 u1) (.int .i64 u2) (.int .i64 u3) (.string u4) (.int .i64 u5) (.slice A5 k5.len c5))
      clear o1 o2
      go_wp2_with (at_builtin; refine wpList_append_at rfl (.tmp 94) (.tmp 96) 23 rfl w.heap.size 25 i0 (.agg #[.int .i64 0, .int .i64 0, .int .i64 0, .string ⟨#[]⟩, .int .i64 0, .slice none 0 0]) 6 72 Try.underlying23 hi0 hz0 hz1 hz2 rfl (by decide) _ Fo.nil.len cs rfl O1.out ⟨w5.heap.size + 1, 0, none⟩ 1 1 [.int .i64 u1, .int .i64 u2, .int .i64 u3, .string u4, .int .i64 u5, .slice A5 k5.len c5] rfl rfl (by simpa using CN.out) (one_nd ⟨u1, u2, u3, u4, u5⟩ _ _ _) b3' b4' b5.out ?_)
      intro v' w7 hown' hgrow hat
      have M7 := Lib.hid (M6.out.push ⟨O1.out, O2.out⟩ (k := .one ⟨u1, u2, u3, u4, u5⟩ k5) (FC.one (M6.out.kidP 0 rfl)) hown' hgrow (fun j hj => by
        rcases hat j hj with h | h
        · exact .inl h
        · exact .inr (by simpa using h)))
      clear hown' hgrow hat b3' b4' b5 CN O1 O2 m6
      go_wp2_with fail
      refine (CQ.out hl5 _ M7.out.st).mono ?_
      rintro e w8 ⟨rfl, hS8, hF8, hl8⟩
      have L8 := Lib.hid (M7.out.step hS8 hF8)
      clear hS8 hF8
      subst e5
      go_wp2_with fail
      go_meet
      exact ⟨rfl, hl8, Nat.le_refl _, L8.out.drop.noK⟩
    case false =>
    have qL := HZ.out.symm
    cases qP : isM X.l i kPrint
    case true =>
      have cP := ISK.out ⟨#[112, 114, 105, 110, 116]⟩ _ L3.out.st
      rw [show isM X.l i (⟨#[112, 114, 105, 110, 116]⟩ : ByteArray).data.toList = true from qP] at cP
      have CP := Lib.hid cP
      clear cP
      go_wp2_with fail
      refine CP.out.mono ?_
      rintro e wP ⟨rfl, hbP⟩
      have L4 := Lib.hid (L3.out.other hbP)
      clear hbP
      have hnx := isM_next WF.out qP
      obtain ⟨hh, hh2, hh3, hh4⟩ : (⟨g1, g2, g3, g4, g5⟩ : Hd) = ⟨11, i, 0, e0, 0⟩ ∧ kf = .nil ∧ a0 = i + 1 ∧ b0 = b := by
        rcases HC.out with h | h | h | h | h
        · rw [qL] at h; cases h.1
        · exact h.2.2
        · rw [qP] at h; cases h.2.1
        · rw [qP] at h; cases h.2.1
        · rw [qP] at h; cases h.2.1
      obtain ⟨x1, x2, x3, x4, x5⟩ := Hd.mk.inj hh
      have x2 := x2.symm
      subst x1 x2 x3 x4 x5
      subst hh2 hh3 hh4
      have m0 := (L4.out.row 0 rfl).cell
      have t0 := (L4.out.row 0 rfl).thaw
      have LZ : Hid (LS X w (wP.setCell ⟨w.heap.size + 1, 0, none⟩ (.int .i64 11)) b0 [(w.heap.size + 1, 25, nc ⟨11, i, 0, e0, 0⟩ none 0 0), (w.heap.size, 25, zc)] [] (.slice none 0 0) .nil) := L4.out.set 0 rfl 0 (.int .i64 11)
      clear HC hh CE ISK
      go_wp2_with fail
      go_meet
      exact ⟨rfl, hnx, Nat.zero_le _, LZ.out⟩
    case false =>
    have cP := ISK.out ⟨#[112, 114, 105, 110, 116]⟩ _ L3.out.st
    rw [show isM X.l i (⟨#[112, 114, 105, 110, 116]⟩ : ByteArray).data.toList = false from qP] at cP
    have CP := Lib.hid cP
    clear cP
    go_wp2_with fail
    refine CP.out.mono ?_
    rintro e wP ⟨rfl, hbP⟩
    have L4 := Lib.hid (L3.out.other hbP)
    clear hbP
    cases qR : isM X.l i kReturn
    case true =>
      have cR := ISK.out ⟨#[114, 101, 116, 117, 114, 110]⟩ _ L4.out.st
      rw [show isM X.l i (⟨#[114, 101, 116, 117, 114, 110]⟩ : ByteArray).data.toList = true from qR] at cR
      have CR := Lib.hid cR
      clear cR
      go_wp2_with fail
      refine CR.out.mono ?_
      rintro e wR ⟨rfl, hbR⟩
      have L5 := Lib.hid (L4.out.other hbR)
      clear hbR
      have hnx := isM_next WF.out qR
      obtain ⟨hh, hh2, hh3, hh4⟩ : (⟨g1, g2, g3, g4, g5⟩ : Hd) = ⟨12, i, 0, e0, 0⟩ ∧ kf = .nil ∧ a0 = i + 1 ∧ b0 = b := by
        rcases HC.out with h | h | h | h | h
        · rw [qL] at h; cases h.1
        · rw [qP] at h; cases h.2.1
        · exact h.2.2.2
        · rw [qR] at h; cases h.2.2.1
        · rw [qR] at h; cases h.2.2.1
      obtain ⟨x1, x2, x3, x4, x5⟩ := Hd.mk.inj hh
      have x2 := x2.symm
      subst x1 x2 x3 x4 x5
      subst hh2 hh3 hh4
      have m0 := (L5.out.row 0 rfl).cell
      have t0 := (L5.out.row 0 rfl).thaw
      have LZ : Hid (LS X w (wR.setCell ⟨w.heap.size + 1, 0, none⟩ (.int .i64 12)) b0 [(w.heap.size + 1, 25, nc ⟨12, i, 0, e0, 0⟩ none 0 0), (w.heap.size, 25, zc)] [] (.slice none 0 0) .nil) := L5.out.set 0 rfl 0 (.int .i64 12)
      clear HC hh CE ISK
      go_wp2_with fail
      go_meet
      exact ⟨rfl, hnx, Nat.zero_le _, LZ.out⟩
    case false =>
    have cR := ISK.out ⟨#[114, 101, 116, 117, 114, 110]⟩ _ L4.out.st
    rw [show isM X.l i (⟨#[114, 101, 116, 117, 114, 110]⟩ : ByteArray).data.toList = false from qR] at cR
    have CR := Lib.hid cR
    clear cR
    go_wp2_with fail
    refine CR.out.mono ?_
    rintro e wR ⟨rfl, hbR⟩
    have L5 := Lib.hid (L4.out.other hbR)
    clear hbR
    have hle' := hle
    obtain ⟨gt, eg, lg, hct⟩ := L5.out.st.toks
    obtain ⟨k0, _, _, _⟩ := hct i hi
    have rr := L5.out.st.row.cell
    rw [eg] at rr
    have hcap := L5.out.st.cap
    have hil : (i : Int) < (X.l.length : Int) := by omega
    have hkg := kindAt_get hi
    have lrb := L5.out.st.row.lt
    have hlg : gt < wR.heap.size := by omega
    by_cases hk : kindAt X.l i = 1
    · have hj1 := kindAt_next WF.out (i := i) (by omega)
      have dk : ((X.l[i].kind : Int) == 1) = true := by rw [beq_iff_eq]; omega
      have c5 := is_any X b (i + 1) ⟨#[61]⟩ _ L5.out.st hj1
      cases qE : isM X.l (i + 1) sEq
      · rw [show isM X.l (i + 1) (⟨#[61]⟩ : ByteArray).data.toList = false from qE] at c5
        have C5 := Lib.hid c5
        have hdo : (⟨g1, g2, g3, g4, g5⟩ : Hd) = ⟨13, i, 0, e0, 0⟩ ∧ kf = .nil ∧ a0 = i ∧ b0 = b := by
          rcases HC.out with h | h | h | h | h
          · rw [qL] at h; cases h.1
          · rw [qP] at h; cases h.2.1
          · rw [qR] at h; cases h.2.2.1
          · have := h.2.2.2.1.2; rw [qE] at this; cases this
          · exact h.2.2.2.2
        obtain ⟨hh, hh2, hh3, hh4⟩ := hdo
        obtain ⟨x1, x2, x3, x4, x5⟩ := Hd.mk.inj hh
        have x2 := x2.symm
        subst x1 x2 x3 x4 x5 hh2
        have hh3 := hh3.symm
        have hh4 := hh4.symm
        subst hh3 hh4
        clear HC
        generalize X.l[i] = tt at *
        clear c5 hh qL qP qR qE hk hkg hct ISK
        go_wp2_with fail
        refine C5.out.mono ?_
        rintro e wE ⟨rfl, hbE⟩
        have L6 := Lib.hid (L5.out.other hbE)
        clear hbE
        go_wp2_with fail
        go_meet
        exact ⟨rfl, hi, Nat.zero_le _, L6.out⟩
      · rw [show isM X.l (i + 1) (⟨#[61]⟩ : ByteArray).data.toList = true from qE] at c5
        have C5 := Lib.hid c5
        have hnx := isM_next WF.out qE
        obtain ⟨w2, hw, hh2, hh3⟩ : ∃ w2, wordM X.l b ⟨8, i, 0, e0, 0⟩ i = (⟨g1, g2, g3, g4, g5⟩, w2, b0) ∧ kf = .nil ∧ a0 = w2 + 1 := by
          rcases HC.out with h | h | h | h | h
          · rw [qL] at h; cases h.1
          · rw [qP] at h; cases h.2.1
          · rw [qR] at h; cases h.2.2.1
          · exact h.2.2.2.2
          · exact absurd ⟨hk, qE⟩ h.2.2.2.1
        have ha : w2 + 1 < X.l.length := by
          have hw2 := hw
          unfold wordM at hw2
          by_cases hb0 : 0 ≤ b
          · rw [if_pos hb0] at hw2
            injection hw2 with h1 h2
            injection h2 with h2 h3
            omega
          · rw [if_neg hb0, if_pos hk] at hw2
            injection hw2 with h1 h2
            injection h2 with h2 h3
            omega
        subst hh2 hh3
        have e2 : IntKind.i64.wrap ((w2 : Int) + 1) = ((w2 + 1 : Nat) : Int) := by rw [IntKind.wrap_i64]; omega
        have CW1 : Hid (∀ w', St X w' b → Calls Try.prog 82 #[X.p, nv ⟨8, i, 0, e0, 0⟩ none 0 0, .int .i64 i] w' fun e w'' => WordP X w' (⟨g1, g2, g3, g4, g5⟩, w2, b0) none 0 0 e w'') := fun w' h => by rw [← hw]; exact word_any X b _ none 0 0 i w' h hi
        clear HC hw
        generalize X.l[i] = tt at *
        clear c5 qL qP qR qE hk hkg hct ISK
        go_wp2_with fail
        refine C5.out.mono ?_
        rintro e wE ⟨rfl, hbE⟩
        have L6 := Lib.hid (L5.out.other hbE)
        have L7 : Hid (LS X w (wE.setCell ⟨w.heap.size + 1, 0, none⟩ (.int .i64 8)) b [(w.heap.size + 1, 25, nc ⟨8, i, 0, e0, 0⟩ none 0 0), (w.heap.size, 25, zc)] [] (.slice none 0 0) .nil) := L6.out.set 0 rfl 0 (.int .i64 8)
        have m0 := (L6.out.row 0 rfl).cell
        have t0 := (L6.out.row 0 rfl).thaw
        have m4 := (L7.out.row 0 rfl).cell
        clear hbE
        go_wp2_with fail
        refine (CW1.out _ L7.out.st).mono ?_
        rintro e w8 ⟨rfl, hS4, hF4, hl4⟩
        have L8 := Lib.hid ((L7.out.step hS4 hF4).put6 0 rfl rfl (.int .i64 g1) (.int .i64 g2) (.int .i64 g3) (.string g4) (.int .i64 g5) (.slice none 0 0))
        have m5 := ((L7.out.step hS4 hF4).row 0 rfl).cell
        have t5 := ((L7.out.step hS4 hF4).row 0 rfl).thaw
        clear hS4 hF4 m0 t0 m4
        go_wp2_with fail
        go_meet
        exact ⟨rfl, ha, Nat.zero_le _, L8.out⟩
    · have dk : ((X.l[i].kind : Int) == 1) = false := by rw [beq_eq_false_iff_ne]; omega
      have hdo : (⟨g1, g2, g3, g4, g5⟩ : Hd) = ⟨13, i, 0, e0, 0⟩ ∧ kf = .nil ∧ a0 = i ∧ b0 = b := by
        rcases HC.out with h | h | h | h | h
        · rw [qL] at h; cases h.1
        · rw [qP] at h; cases h.2.1
        · rw [qR] at h; cases h.2.2.1
        · exact absurd h.2.2.2.1.1 hk
        · exact h.2.2.2.2
      obtain ⟨hh, hh2, hh3, hh4⟩ := hdo
      obtain ⟨x1, x2, x3, x4, x5⟩ := Hd.mk.inj hh
      have x2 := x2.symm
      subst x1 x2 x3 x4 x5 hh2
      have hh3 := hh3.symm
      have hh4 := hh4.symm
      subst hh3 hh4
      clear HC
      generalize X.l[i] = tt at *
      clear hh qL qP qR hk hkg hct ISK
      go_wp2_with fail
      go_meet
      exact ⟨rfl, hi, Nat.zero_le _, L5.out⟩
  case rest =>
  obtain ⟨rfl, ha0, hkf, LC⟩ := hcut
  clear HC ISK
  go_wp2_with fail
  refine (CE.out ha0 _ LC.out.st).mono ?_
  rintro e w5 ⟨h5, k5, A5, c5, e5, rfl, hK5, hS5, hF5, hl5⟩
  dsimp only at e5 hS5 hl5
  subst e5
  obtain ⟨u1, u2, u3, u4, u5⟩ := h5
  have L6 := Lib.hid ((LC.out.kid hS5 hF5 hK5).alloc w5.heap.size rfl 25 (nc ⟨u1, u2, u3, u4, u5⟩ A5 k5.len c5))
  clear hS5 hF5 hK5
  go_wp2_with fail
  refine (CW.out hl5 _ L6.out.st).mono ?_
  rintro e w6 ⟨rfl, hS6, hF6, hl6⟩
  have L7 := Lib.hid (L6.out.step hS6 hF6)
  clear hS6 hF6
  obtain ⟨Av, cv, ev, hcv, _⟩ := L7.out.list
  subst ev
  have L8 := Lib.hid (L7.out.other ((Below.refl _ w6).drew))
  have M5 := Lib.hid (L7.out.other (bel1 w6 (.cells (nc ⟨u1, u2, u3, u4, u5⟩ A5 k5.len c5) 25)))
  have M6 : Hid (LS X w (w6.alloc (.cells (nc ⟨u1, u2, u3, u4, u5⟩ A5 k5.len c5) 25)).drew b2 _ _ _ _) := M5.out.other ((Below.refl _ _).drew)
  obtain ⟨cs, o1, o2⟩ := M6.out.own
  have O1 := Lib.hid o1
  have O2 := Lib.hid o2
  have HS0 : (∀ o, w6.drew.cell? ⟨w5.heap.size, o, none⟩ = (nc ⟨u1, u2, u3, u4, u5⟩ A5 k5.len c5)[o]?) ∧ (∀ o, w6.drew.cell? ⟨w.heap.size + 1, o, none⟩ = (nc ⟨g1, g2, g3, g4, g5⟩ none 0 0)[o]?) := ⟨(L8.out.row 0 rfl).cell, (L8.out.row 1 rfl).cell⟩
  have HS1 : (∀ o, (w6.alloc (.cells (nc ⟨u1, u2, u3, u4, u5⟩ A5 k5.len c5) 25)).drew.cell? ⟨w5.heap.size, o, none⟩ = (nc ⟨u1, u2, u3, u4, u5⟩ A5 k5.len c5)[o]?) ∧ (∀ o, (w6.alloc (.cells (nc ⟨u1, u2, u3, u4, u5⟩ A5 k5.len c5) 25)).drew.cell? ⟨w.heap.size + 1, o, none⟩ = (nc ⟨g1, g2, g3, g4, g5⟩ none 0 0)[o]?) := ⟨(M6.out.row 0 rfl).cell, (M6.out.row 1 rfl).cell⟩
  obtain ⟨i0, hi0, hz0, hz1, hz2⟩ := info_parts info25
  have b3 : kf.len + 1 ≤ maxLen := by unfold maxLen; omega
  have b4 : (kf.len + 1) * 72 ≤ 140737488355328 := by omega
  have b5 := M6.out.size
  clear o1 o2
  go_wp2_with fail
  go_region_held3 (fun w' => (∀ o, w'.cell? ⟨w5.heap.size, o, none⟩ = (nc ⟨u1, u2, u3, u4, u5⟩ A5 k5.len c5)[o]?) ∧ (∀ o, w'.cell? ⟨w.heap.size + 1, o, none⟩ = (nc ⟨g1, g2, g3, g4, g5⟩ none 0 0)[o]?))
    (first
      | (with_reducible exact HSd)
      | (with_reducible exact HSc)
      | (with_reducible exact HSb)
      | (with_reducible exact HS1)
      | (with_reducible exact HS0))
    (first
      | (go_at_call 56; refine (ended_any ⟨g1, g2, g3, g4, g5⟩ none 0 0 p2 (some ⟨gg, 0, none⟩) (kf.len + 1) cap' _).mono ?_; rintro e w9 ⟨rfl, hb9⟩; have L9 := Lib.hid (M7.out.other hb9); have HSc := (And.intro (L9.out.row 0 rfl).cell (L9.out.row 1 rfl).cell); have L10 := Lib.hid (L9.out.put6 2 rfl rfl (.int .i64 g1) (.int .i64 g2) (.int .i64 p2) (.string g4) (.int .i64 g5) (.slice (some ⟨gg, 0, none⟩) (kf.len + 1) cap')); have HSd := (And.intro (L10.out.row 0 rfl).cell (L10.out.row 1 rfl).cell); have z1 := (L9.out.row 2 rfl).cell; have z2 := (L9.out.row 2 rfl).thaw)
      | (refine step_append_lies _ (by rfl) (.tmp 149) (.tmp 151) 23 (by rfl) w.heap.size 25 i0 _ 6 72 Try.underlying23 hi0 hz0 hz1 hz2 rfl (by omega) _ kf.len cs (by rfl) O1.out ⟨w6.heap.size, 0, none⟩ 1 1 [.int .i64 u1, .int .i64 u2, .int .i64 u3, .string u4, .int .i64 u5, .slice A5 k5.len c5] (by rfl) (by rfl) (fun j u hj => cells_nd w6 _ _ _ _ _ _ j u hj) (one_nd ⟨u1, u2, u3, u4, u5⟩ _ _ _) (by omega) b3 b4 b5 (w6.heap.size + 1) (by simp) ?_; intro gg cap' w7 hown3 hgrow hat hlt3; have M7 := Lib.hid (M6.out.push ⟨O1.out, O2.out⟩ (k := .one ⟨u1, u2, u3, u4, u5⟩ k5) (FC.one (M6.out.kidP 0 rfl)) hown3 hgrow (hat_of hat (by simp))); have HSb := (And.intro (M7.out.row 0 rfl).cell (M7.out.row 1 rfl).cell))
      | fail)
  go_wp2
  have hkl : (kf.app (.one ⟨u1, u2, u3, u4, u5⟩ k5)).len = kf.len + 1 := by rw [Fo.len_app]; rfl
  refine bodyPost_ret ?_ rfl ⟨⟨g1, g2, p2, g4, g5⟩, kf.app (.one ⟨u1, u2, u3, u4, u5⟩ k5), some ⟨gg, 0, none⟩, cap', rfl, rfl, L10.out.kv, L10.out.st, L10.out.fr, hl6⟩
  simp [results, Try.results99, go_sem, z1, hkl]
end Ps
end Go.Proofs.Ytnefnnoleeeedaa
namespace Go.Proofs.Ytnefnnoleeeedaa
open Go.RowKit
namespace Ps
theorem stmt_ok (X : Cx) : StmtOk X := fun f hf IE IB b i w r hr hS hi => by
  cases q0 : isM X.l i kIf
  · cases q1 : isM X.l i kWhile
    · exact stmt_rest X f hf (IE f (Nat.le_refl _)) b i w r hr hS hi q0 q1
    · exact stmt_while X f (IE f (Nat.le_refl _)) (IB f (Nat.le_refl _)) b i w r hr hS hi q0 q1
  · exact stmt_if X f (IE f (Nat.le_refl _)) (IB f (Nat.le_refl _)) b i w r hr hS hi q0
theorem items_endD {l : List Tok} {f : Nat} {b : Int} {i : Nat} {r : Fo × Nat × Int} (h : itemsM l f b i = some r) (hc : ¬ (b < 0 ∧ kindAt l i ≠ 0)) : r = (.nil, i, b) := by
  cases f with
  | zero => rw [itemsM] at h; cases h
  | succ f => rw [itemsM, if_neg hc] at h; injection h with h; exact h.symm
theorem items_goD {l : List Tok} {f : Nat} {b : Int} {i : Nat} {r : Fo × Nat × Int} (h : itemsM l f b i = some r) (hc : b < 0 ∧ kindAt l i ≠ 0) :
    ∃ f' t, f = f' + 1 ∧ (if isM l i kUse = true then t = useM l b i else defM l f' b i = some t) ∧ ∃ r', itemsM l f' t.2.2 t.2.1 = some r' ∧ r = (t.1.app r'.1, r'.2) := by
  cases f with
  | zero => rw [itemsM] at h; cases h
  | succ f =>
    rw [itemsM, if_pos hc] at h
    split at h
    · rename_i hq
      obtain ⟨r', h1, h2⟩ := Option.map_eq_some_iff.1 h
      exact ⟨f, _, rfl, by rw [if_pos hq], r', h1, h2.symm⟩
    · rename_i hq
      obtain ⟨t, ht, h⟩ := Option.bind_eq_some_iff.1 h
      obtain ⟨r', h1, h2⟩ := Option.map_eq_some_iff.1 h
      exact ⟨f, t, rfl, by rw [if_neg hq]; exact ht, r', h1, h2.symm⟩
set_option maxHeartbeats 8000000 in
set_option maxRecDepth 100000 in
theorem rfile_any (X : Cx) (f : Nat) (hf : f ≤ 1000000) (w : World) (xf : Fo) (xi : Nat) (xb : Int) (hx : itemsM X.l f (-1) 0 = some (xf, xi, xb)) (hS : St X w (-1)) :
    Calls Try.prog 33 #[X.p] w fun e w' => ∃ A cap, e = .returned (nv ⟨1, 0, xi, e0, 0⟩ A xf.len cap) ∧ KV w' (fun g => w.heap.size ≤ g) xf A cap ∧ St X w' xb ∧ Fr X.rb w.heap.size w w' ∧ xi < X.l.length ∧ (xb < 0 → kindAt X.l xi = 0) := by
  have L0 := Lib.hid ((LS.start hS).alloc w.heap.size rfl 25 zc)
  have hle := hS.wf.le
  have hpos := hS.wf.pos
  have WF := Lib.hid hS.wf
  have hrb := hS.row.lt
  have HX := Lib.hid hx
  clear hS hx
  go_enter Try.func33, Try.ntmps33
  go_wp2_with fail
  go_loopg [3, 4] (f + 1) (fun kx s6 s9 wr => ∃ (fk ik : Nat) (bk : Int) (Kk : Fo) (rk : Fo × Nat × Int) (u : Value), u = s9 ∧ s6 = .int .i64 ik ∧ fk ≤ kx ∧ Kk.len + fk ≤ f ∧ ik < X.l.length ∧ Hid (itemsM X.l fk bk ik = some rk) ∧ Hid (xf = Kk.app rk.1 ∧ xi = rk.2.1 ∧ xb = rk.2.2) ∧ Hid (LS X w wr bk [(w.heap.size, 25, zc)] [] s9 Kk))
  case atStart => exact ⟨f, 0, -1, .nil, (xf, xi, xb), _, rfl, by go_num, by omega, by simp [Fo.len], hpos, HX.out, ⟨rfl, rfl, rfl⟩, L0.out⟩
  case round =>
    obtain ⟨fk, ik, bk, Kk, rk, u, rfl, rfl, hkx, hfk, hik, HG, HE, LK⟩ := hrel
    obtain ⟨z, hz⟩ : ∃ z : Bool, (z = true ↔ (bk < 0 ∧ kindAt X.l ik ≠ 0)) := by
      by_cases h : bk < 0 ∧ kindAt X.l ik ≠ 0
      · exact ⟨true, fun _ => h, fun _ => rfl⟩
      · exact ⟨false, by simp only [Bool.false_eq_true, false_iff]; exact h⟩
    have HZ := Lib.hid hz
    obtain ⟨AK, cK, eK, hcK, _⟩ := LK.out.list
    obtain rfl := eK
    have hkg := kindAt_get hik
    obtain ⟨gt, eg, lg, hct⟩ := LK.out.st.toks
    obtain ⟨k0, _, _, _⟩ := hct ik hik
    have rr := LK.out.st.row.cell
    rw [eg] at rr
    have hcap := LK.out.st.cap
    have hil : (ik : Int) < (X.l.length : Int) := by omega
    rw [← hkg] at k0
    clear hz hct hkg
    go_upto_region 3 with fail
    go_cut [21] from 6 to 40 (fun s64 wx => s64 = .bool z ∧ Hid (LS X w wx bk [(w.heap.size, 25, zc)] [] (.slice AK Kk.len cK) Kk))
    case first =>
      by_cases h1 : bk < 0
      · by_cases h2 : kindAt X.l ik = 0
        · obtain rfl : z = false := by
            cases z
            · rfl
            · exact absurd h2 (HZ.out.1 rfl).2
          have dk : ((kindAt X.l ik : Int) != 0) = false := by rw [h2]; rfl
          generalize kindAt X.l ik = kk at *
          clear h2
          go_wp2_with fail
          go_meet
          exact ⟨rfl, LK.out⟩
        · obtain rfl : z = true := HZ.out.2 ⟨h1, h2⟩
          have dk : ((kindAt X.l ik : Int) != 0) = true := by rw [bne_iff_ne]; omega
          generalize kindAt X.l ik = kk at *
          clear h2
          go_wp2_with fail
          go_meet
          exact ⟨rfl, LK.out⟩
      · obtain rfl : z = false := by
          cases z
          · rfl
          · exact absurd (HZ.out.1 rfl).1 h1
        clear k0
        go_wp2_with fail
        go_meet
        exact ⟨rfl, LK.out⟩
    case rest =>
    obtain ⟨rfl, LC⟩ := hcut
    clear LK rr k0 eg lg hil
    cases z
    · have hnz : ¬ (bk < 0 ∧ kindAt X.l ik ≠ 0) := fun hh => by have := HZ.out.2 hh; cases this
      have hrk := items_endD HG.out hnz
      obtain ⟨h1, h2, h3⟩ := HE.out
      rw [hrk, Fo.app_nil] at h1
      rw [hrk] at h2 h3
      dsimp only at h1 h2 h3
      have HN : Hid (bk < 0 → kindAt X.l ik = 0) := fun hb => by
        by_cases h : kindAt X.l ik = 0
        · exact h
        · exact absurd ⟨hb, h⟩ hnz
      subst h1 h2 h3
      have hxl := hik
      clear HG HE HZ hrk hnz
      go_wp2_with fail
      refine (ended_any ⟨1, 0, 0, e0, 0⟩ none 0 0 xi AK xf.len cK _).mono ?_
      rintro e wb ⟨rfl, hbb⟩
      have Lb := Lib.hid ((LC.out.other hbb).put6 0 rfl rfl (.int .i64 1) (.int .i64 0) (.int .i64 xi) (.string e0) (.int .i64 0) (.slice AK xf.len cK))
      have r7 := ((LC.out.other hbb).row 0 rfl).cell
      have t7 := ((LC.out.other hbb).row 0 rfl).thaw
      clear hbb
      go_wp2
      refine bodyPost_ret ?_ rfl ⟨AK, cK, rfl, Lb.out.kv, Lb.out.st, Lb.out.fr, hxl, HN.out⟩
      simp [results, Try.results33, go_sem, e0, r7]
    · obtain ⟨f', t, hf', hty, r', hG', hrk⟩ := items_goD HG.out (HZ.out.1 rfl)
      obtain ⟨tf, a3, b3⟩ := t
      dsimp only at hG' hrk
      have HF' := Lib.hid hf'
      obtain ⟨h1, h2, h3⟩ := HE.out
      rw [hrk] at h1 h2 h3
      dsimp only at h1 h2 h3
      have HH1 := Lib.hid h1
      have HH2 := Lib.hid h2
      have HH3 := Lib.hid h3
      have HG1 := Lib.hid hG'
      have HTY := Lib.hid hty
      have LU0 := Lib.hid (LC.out.alloc wc.heap.size rfl 25 zc)
      have cU := is_any X bk ik ⟨#[117, 115, 101]⟩ _ LU0.out.st hik
      clear hrk HG HZ HE hf' h1 h2 h3 hG' hty
      cases qU : isM X.l ik kUse
      · rw [show isM X.l ik (⟨#[117, 115, 101]⟩ : ByteArray).data.toList = false from qU] at cU
        have CU := Lib.hid cU
        have hd := HTY.out
        rw [if_neg (by rw [qU]; simp)] at hd
        have C3 : Hid (∀ w', St X w' bk → Calls Try.prog 55 #[X.p, .int .i64 ik] w' fun e w'' => NodeP X w' (tf, a3, b3) e w'') := fun w' h => def_c X f' (all_c X (stmt_ok X) f' (by have := HF'.out; omega)).lam bk ik w' _ hd h hik
        clear cU hd qU HTY
        go_wp2_with fail
        refine CU.out.mono ?_
        rintro e wu ⟨rfl, hbu⟩
        have LU := Lib.hid (LU0.out.other hbu)
        clear hbu CU LU0
        go_wp2_with fail
        refine (C3.out _ LU.out.st).mono ?_
        rintro e w5 ⟨h5, k5, A5, c5, e5, rfl, hK5, hS5, hF5, hl5⟩
        dsimp only at e5 hS5 hl5
        have HE5 := Lib.hid e5
        obtain ⟨hk1, hk2, hk3, hk4, hk5⟩ := h5
        have L5 := Lib.hid ((LU.out.kid hS5 hF5 hK5).put6 0 rfl rfl (.int .i64 hk1) (.int .i64 hk2) (.int .i64 hk3) (.string hk4) (.int .i64 hk5) (.slice A5 k5.len c5))
        have m8 := ((LU.out.kid hS5 hF5 hK5).row 0 rfl).cell
        have t8 := ((LU.out.kid hS5 hF5 hK5).row 0 rfl).thaw
        have M6 := Lib.hid (L5.out.other (bel1 _ (.cells (nc ⟨hk1, hk2, hk3, hk4, hk5⟩ A5 k5.len c5) 25)))
        have m9 := (L5.out.row 0 rfl).cell
        clear hS5 hF5 hK5 e5
        obtain ⟨cs, o1, o2⟩ := M6.out.own
        have O1 := Lib.hid o1
        have O2 := Lib.hid o2
        obtain ⟨i0, hi0, hz0, hz1, hz2⟩ := info_parts info25
        have b5 := Lib.hid M6.out.size
        have b3' : Kk.len + 1 ≤ maxLen := by unfold maxLen; omega
        have b4' : (Kk.len + 1) * 72 ≤ 140737488355328 := by omega
        have CN := Lib.hid (cells_nd ((((((w5.setCell ⟨wc.heap.size, 0, none⟩ (.int .i64 hk1)).setCell ⟨wc.heap.size, 1, none⟩ (.int .i64 hk2)).setCell ⟨wc.heap.size, 2, none⟩ (.int .i64 hk3)).setCell ⟨wc.heap.size, 3, none⟩ (.string hk4)).setCell ⟨wc.heap.size, 4, none⟩ (.int .i64 hk5)).setCell ⟨wc.heap.size, 5, none⟩ (.slice A5 k5.len c5)) (.int .i64 hk1) (.int .i64 hk2) (.int .i64 hk3) (.string hk4) (.int .i64 hk5) (.slice A5 k5.len c5))
        clear o1 o2
        go_wp2_with (at_builtin; refine wpList_append_at rfl (.tmp 37) (.tmp 39) 23 rfl w.heap.size 25 i0 (.agg #[.int .i64 0, .int .i64 0, .int .i64 0, .string ⟨#[]⟩, .int .i64 0, .slice none 0 0]) 6 72 Try.underlying23 hi0 hz0 hz1 hz2 rfl (by decide) _ Kk.len cs rfl O1.out ⟨w5.heap.size, 0, none⟩ 1 1 [.int .i64 hk1, .int .i64 hk2, .int .i64 hk3, .string hk4, .int .i64 hk5, .slice A5 k5.len c5] rfl rfl (by simpa [World.setCell] using CN.out) (one_nd ⟨hk1, hk2, hk3, hk4, hk5⟩ _ _ _) b3' b4' b5.out ?_)
        intro v' w7 hown' hgrow hat
        have M7 := Lib.hid (M6.out.push ⟨O1.out, O2.out⟩ (k := .one ⟨hk1, hk2, hk3, hk4, hk5⟩ k5) (FC.one (M6.out.kidP 0 rfl)) hown' hgrow (fun j hj => by
          rcases hat j hj with h | h
          · exact .inl h
          · exact .inr (by simpa [World.setCell] using h)))
        clear hown' hgrow hat b3' b4' b5 CN O1 O2
        have M7 := Lib.hid M7.out.drop.noK
        have hkl : (Kk.app (.one ⟨hk1, hk2, hk3, hk4, hk5⟩ k5)).len = Kk.len + 1 := by rw [Fo.len_app]; rfl
        have HE2 := Lib.hid (show xf = (Kk.app (.one ⟨hk1, hk2, hk3, hk4, hk5⟩ k5)).app r'.1 ∧ xi = r'.2.1 ∧ xb = r'.2.2 from ⟨by rw [HH1.out, Fo.app_assoc, HE5.out], HH2.out, HH3.out⟩)
        have hf'' := HF'.out
        clear m8 t8 m9
        go_wp2_with fail
        go_roundg f'
        case measure => omega
        case rel => exact ⟨f', a3, b3, _, r', _, rfl, by go_num, by omega, by omega, hl5, HG1.out, HE2.out, M7.out⟩
      · rw [show isM X.l ik (⟨#[117, 115, 101]⟩ : ByteArray).data.toList = true from qU] at cU
        have CU := Lib.hid cU
        have hd := HTY.out
        rw [if_pos qU] at hd
        have hnx := isM_next WF.out qU
        have C3 : Hid (∀ w', St X w' bk → Calls Try.prog 54 #[X.p, .int .i64 ik] w' fun e w'' => NodeP X w' (tf, a3, b3) e w'') := fun w' h => by rw [hd]; exact use_any X bk ik w' h hnx
        clear cU hd qU HTY
        go_wp2_with fail
        refine CU.out.mono ?_
        rintro e wu ⟨rfl, hbu⟩
        have LU := Lib.hid (LU0.out.other hbu)
        clear hbu CU LU0
        go_wp2_with fail
        refine (C3.out _ LU.out.st).mono ?_
        rintro e w5 ⟨h5, k5, A5, c5, e5, rfl, hK5, hS5, hF5, hl5⟩
        dsimp only at e5 hS5 hl5
        have HE5 := Lib.hid e5
        obtain ⟨hk1, hk2, hk3, hk4, hk5⟩ := h5
        have L5 := Lib.hid ((LU.out.kid hS5 hF5 hK5).put6 0 rfl rfl (.int .i64 hk1) (.int .i64 hk2) (.int .i64 hk3) (.string hk4) (.int .i64 hk5) (.slice A5 k5.len c5))
        have m8 := ((LU.out.kid hS5 hF5 hK5).row 0 rfl).cell
        have t8 := ((LU.out.kid hS5 hF5 hK5).row 0 rfl).thaw
        have M6 := Lib.hid (L5.out.other (bel1 _ (.cells (nc ⟨hk1, hk2, hk3, hk4, hk5⟩ A5 k5.len c5) 25)))
        have m9 := (L5.out.row 0 rfl).cell
        clear hS5 hF5 hK5 e5
        obtain ⟨cs, o1, o2⟩ := M6.out.own
        have O1 := Lib.hid o1
        have O2 := Lib.hid o2
        obtain ⟨i0, hi0, hz0, hz1, hz2⟩ := info_parts info25
        have b5 := Lib.hid M6.out.size
        have b3' : Kk.len + 1 ≤ maxLen := by unfold maxLen; omega
        have b4' : (Kk.len + 1) * 72 ≤ 140737488355328 := by omega
        have CN := Lib.hid (cells_nd ((((((w5.setCell ⟨wc.heap.size, 0, none⟩ (.int .i64 hk1)).setCell ⟨wc.heap.size, 1, none⟩ (.int .i64 hk2)).setCell ⟨wc.heap.size, 2, none⟩ (.int .i64 hk3)).setCell ⟨wc.heap.size, 3, none⟩ (.string hk4)).setCell ⟨wc.heap.size, 4, none⟩ (.int .i64 hk5)).setCell ⟨wc.heap.size, 5, none⟩ (.slice A5 k5.len c5)) (.int .i64 hk1) (.int .i64 hk2) (.int .i64 hk3) (.string hk4) (.int .i64 hk5) (.slice A5 k5.len c5))
        clear o1 o2
        go_wp2_with (at_builtin; refine wpList_append_at rfl (.tmp 37) (.tmp 39) 23 rfl w.heap.size 25 i0 (.agg #[.int .i64 0, .int .i64 0, .int .i64 0, .string ⟨#[]⟩, .int .i64 0, .slice none 0 0]) 6 72 Try.underlying23 hi0 hz0 hz1 hz2 rfl (by decide) _ Kk.len cs rfl O1.out ⟨w5.heap.size, 0, none⟩ 1 1 [.int .i64 hk1, .int .i64 hk2, .int .i64 hk3, .string hk4, .int .i64 hk5, .slice A5 k5.len c5] rfl rfl (by simpa [World.setCell] using CN.out) (one_nd ⟨hk1, hk2, hk3, hk4, hk5⟩ _ _ _) b3' b4' b5.out ?_)
        intro v' w7 hown' hgrow hat
        have M7 := Lib.hid (M6.out.push ⟨O1.out, O2.out⟩ (k := .one ⟨hk1, hk2, hk3, hk4, hk5⟩ k5) (FC.one (M6.out.kidP 0 rfl)) hown' hgrow (fun j hj => by
          rcases hat j hj with h | h
          · exact .inl h
          · exact .inr (by simpa [World.setCell] using h)))
        clear hown' hgrow hat b3' b4' b5 CN O1 O2
        have M7 := Lib.hid M7.out.drop.noK
        have hkl : (Kk.app (.one ⟨hk1, hk2, hk3, hk4, hk5⟩ k5)).len = Kk.len + 1 := by rw [Fo.len_app]; rfl
        have HE2 := Lib.hid (show xf = (Kk.app (.one ⟨hk1, hk2, hk3, hk4, hk5⟩ k5)).app r'.1 ∧ xi = r'.2.1 ∧ xb = r'.2.2 from ⟨by rw [HH1.out, Fo.app_assoc, HE5.out], HH2.out, HH3.out⟩)
        have hf'' := HF'.out
        clear m8 t8 m9
        go_wp2_with fail
        go_roundg f'
        case measure => omega
        case rel => exact ⟨f', a3, b3, _, r', _, rfl, by go_num, by omega, by omega, hl5, HG1.out, HE2.out, M7.out⟩
end Ps
end Go.Proofs.Ytnefnnoleeeedaa
namespace Go.Proofs.Ytnefnnoleeeedaa
open Go.RowKit
namespace Ps
def Fo.drop : Fo → Nat → Fo
  | k, 0 => k
  | .nil, _ + 1 => .nil
  | .cons _ _ r, i + 1 => r.drop i
theorem Fo.drop_zero (k : Fo) : k.drop 0 = k := by cases k <;> rfl
theorem Fo.drop_end : ∀ (k : Fo) (i : Nat), k.len ≤ i → k.drop i = .nil
  | .nil, 0, _ => rfl
  | .nil, i + 1, _ => rfl
  | .cons h k r, 0, hh => by simp [Fo.len] at hh
  | .cons h k r, i + 1, hh => by rw [Fo.drop]; exact Fo.drop_end r i (by rw [Fo.len] at hh; omega)
theorem Fo.drop_cons : ∀ (k : Fo) (i : Nat), i < k.len → ∃ h kk, k.drop i = .cons h kk (k.drop (i + 1))
  | .nil, i, hh => by simp [Fo.len] at hh
  | .cons h k r, 0, hh => ⟨h, k, by rw [Fo.drop, Fo.drop, Fo.drop_zero]⟩
  | .cons h k r, i + 1, hh => by
    obtain ⟨h', kk, e⟩ := Fo.drop_cons r i (by rw [Fo.len] at hh; omega)
    exact ⟨h', kk, by rw [Fo.drop, Fo.drop]; exact e⟩
theorem Fo.drop_len : ∀ (k : Fo) (i : Nat), (k.drop i).len = k.len - i
  | k, 0 => by rw [Fo.drop_zero]; rfl
  | .nil, i + 1 => by simp [Fo.drop, Fo.len]
  | .cons h k r, i + 1 => by rw [Fo.drop, Fo.drop_len r i, Fo.len]; omega
theorem FC.nth {w : World} {P : Nat → Prop} : ∀ (k : Fo) (cs : List Value) (i : Nat) (h : Hd) (kk r : Fo), FC w P k cs → k.drop i = .cons h kk r →
    ∃ A cap, KV w P kk A cap ∧ ∀ j u, [Value.int .i64 h.kind, .int .i64 h.fro, .int .i64 h.til, .string h.word, .int .i64 h.at_, .slice A kk.len cap][j]? = some u → cs[i * 6 + j]? = some u
  | .nil, cs, i, h, kk, r, hf, e => by cases i <;> simp [Fo.drop] at e
  | .cons h' k' r', cs, 0, h, kk, r, hf, e => by
    rw [Fo.drop] at e
    injection e with e1 e2 e3
    subst e1 e2 e3
    rw [FC] at hf
    obtain ⟨A, cap, cs', rfl, hc, hk, hr⟩ := hf
    refine ⟨A, cap, ⟨hc, hk⟩, fun j u hu => ?_⟩
    rw [Nat.zero_mul, Nat.zero_add, List.getElem?_append_left (List.getElem?_eq_some_iff.1 hu).1]
    exact hu
  | .cons h' k' r', cs, i + 1, h, kk, r, hf, e => by
    rw [Fo.drop] at e
    rw [FC] at hf
    obtain ⟨A, cap, cs', rfl, hc, hk, hr⟩ := hf
    obtain ⟨A2, c2, h1, h2⟩ := FC.nth r' cs' i h kk r hr e
    refine ⟨A2, c2, h1, fun j u hu => ?_⟩
    have := h2 j u hu
    rw [List.getElem?_append_right (by simp; omega)]
    rw [← this]
    congr 1
    simp only [List.length_cons, List.length_nil]
    omega
theorem KV.nth {w : World} {P : Nat → Prop} {k : Fo} {A : Option Addr} {cap i : Nat} {h : Hd} {kk r : Fo} (hk : KV w P k A cap) (e : k.drop i = .cons h kk r) :
    ∃ g o A2 c2, A = some ⟨g, o, none⟩ ∧ P g ∧ g < w.heap.size ∧ KV w P kk A2 c2 ∧ w.cell? ⟨g, o + i * 6, none⟩ = some (.int .i64 h.kind) ∧ w.cell? ⟨g, o + i * 6 + 1, none⟩ = some (.int .i64 h.fro) ∧ w.cell? ⟨g, o + i * 6 + 2, none⟩ = some (.int .i64 h.til) ∧
      w.cell? ⟨g, o + i * 6 + 3, none⟩ = some (.string h.word) ∧ w.cell? ⟨g, o + i * 6 + 4, none⟩ = some (.int .i64 h.at_) ∧ w.cell? ⟨g, o + i * 6 + 5, none⟩ = some (.slice A2 kk.len c2) := by
  have hl : 0 < k.len := by
    have := Fo.drop_len k i
    rw [e, Fo.len] at this
    omega
  obtain ⟨g, o, ck, hA, hP, hg, hc, hf⟩ := hk.2 hl
  obtain ⟨A2, c2, h1, h2⟩ := FC.nth k ck i h kk r hf e
  have key := fun j u hu => hc _ _ (h2 j u hu)
  exact ⟨g, o, A2, c2, hA, hP, hg, h1, key 0 _ rfl, key 1 _ rfl, key 2 _ rfl, key 3 _ rfl, key 4 _ rfl, key 5 _ rfl⟩
theorem KV.below {w w' : World} {P : Nat → Prop} {k : Fo} {A : Option Addr} {cap : Nat} (h : KV w P k A cap) (hb : Below w.heap.size w w') : KV w' P k A cap :=
  h.keep hb.size (fun g hg hl => ⟨hb.block g hl, hg⟩)
theorem Fo.drop_bounds : ∀ (k : Fo) (i : Nat) (h : Hd) (kk r : Fo), k.drop i = .cons h kk r → kk.len ≤ k.wide ∧ kk.wide ≤ k.wide ∧ 1 + kk.deep ≤ k.deep
  | .nil, i, h, kk, r, e => by cases i <;> simp [Fo.drop] at e
  | .cons h' k' r', 0, h, kk, r, e => by
    rw [Fo.drop] at e
    injection e with e1 e2 e3
    subst e1 e2 e3
    rw [Fo.wide, Fo.deep]
    omega
  | .cons h' k' r', i + 1, h, kk, r, e => by
    rw [Fo.drop] at e
    have := Fo.drop_bounds r' i h kk r e
    rw [Fo.wide, Fo.deep]
    omega
end Ps
namespace Pg
open Ps
theorem fo_deep_cons (h : Hd) (k r : Fo) : (Fo.cons h k r).deep = max (1 + k.deep) r.deep := rfl
end Pg
end Go.Proofs.Ytnefnnoleeeedaa
namespace Go.Proofs.Ytnefnnoleeeedaa
open Go.RowKit
namespace Pg
open Ps
set_option maxHeartbeats 4000000 in
set_option maxRecDepth 100000 in
theorem rdepth_any : ∀ (n : Nat) (h : Hd) (k : Fo) (A : Option Addr) (cap : Nat) (P : Nat → Prop) (w : World), k.deep ≤ n → n ≤ 1000000000001 → k.len ≤ 1000001 → k.wide ≤ 1000001 → KV w P k A cap →
    Calls Try.prog 34 #[nvv h A k.len cap] w fun e w' => e = .returned (.int .i64 ((1 + k.deep : Nat) : Int)) ∧ Below w.heap.size w w' := by
  intro n
  induction n using Nat.strongRecOn with
  | _ n ih =>
  intro h k A cap P w hd hn hl hw hk
  have HK := Lib.hid hk
  have IH := Lib.hid ih
  have B0 := Lib.hid (bel1 w (.cells #[.int .i64 h.kind, .int .i64 h.fro, .int .i64 h.til, .string h.word, .int .i64 h.at_, .slice A k.len cap] 25))
  have R0 := Lib.hid (RowB.new w 25 (ncc h A k.len cap))
  obtain ⟨n0, hn0⟩ : ∃ n0, n0 = k.len := ⟨_, rfl⟩
  obtain ⟨d0, hd0⟩ : ∃ d0, d0 = k.deep := ⟨_, rfl⟩
  have HN := Lib.hid hn0
  have HD := Lib.hid hd0
  have HW := Lib.hid hw
  rw [← hd0] at hd ⊢
  rw [← hn0] at hl B0 R0 ⊢
  clear hk hn0 hd0 hw ih
  go_enter Try.func34, Try.ntmps34
  go_wp2_with fail
  go_loopg [3, 4] (n0 + 1) (fun kx s3 s4 wr => ∃ (i m : Nat), s4 = .int .i64 i ∧ s3 = .int .i64 ((m : Nat) : Int) ∧ n0 - i ≤ kx ∧ i ≤ n0 ∧ 1 ≤ m ∧ m ≤ 1 + d0 ∧ Hid (max m (1 + (k.drop i).deep) = 1 + d0) ∧ Hid (Below w.heap.size w wr) ∧ Hid (RowB wr w.heap.size 25 (ncc h A n0 cap)))
  case atStart => exact ⟨0, 1, rfl, rfl, by omega, by omega, by omega, by omega, by unfold Hid; rw [Fo.drop_zero, HD.out]; omega, B0.out, R0.out⟩
  case round =>
    obtain ⟨i, m, rfl, rfl, hkx, hin, hm1, hmd, HM, HB, RA⟩ := hrel
    have ra := RA.out.cell
    by_cases hi : i < n0
    · have hil : (i : Int) < (n0 : Int) := by omega
      have hil2 : decide ((i : Int) < (n0 : Int)) = true := decide_eq_true hil
      obtain ⟨h', kk, e⟩ := Fo.drop_cons k i (by rw [← HN.out]; exact hi)
      obtain ⟨g, o, A2, c2, rfl, hP, hg, hkk, c0, c1, c2', c3, c4, c5⟩ := KV.nth (HK.out.below HB.out) e
      obtain ⟨b1, b2, b3⟩ := Fo.drop_bounds k i _ _ _ e
      have hdd : (k.drop i).deep = max (1 + kk.deep) (k.drop (i + 1)).deep := by rw [e, fo_deep_cons]
      obtain ⟨dk, hdk⟩ : ∃ dk, dk = 1 + kk.deep := ⟨_, rfl⟩
      obtain ⟨d2, hd2⟩ : ∃ d2, d2 = dk + 1 := ⟨_, rfl⟩
      obtain ⟨j, hj⟩ : ∃ j, j = i + 1 := ⟨_, rfl⟩
      have hdk2 : dk ≤ d0 := by rw [← HD.out] at b3; omega
      have e1 : IntKind.i64.wrap ((i : Int) + 1) = (j : Int) := by rw [IntKind.wrap_i64]; omega
      have e2 : IntKind.i64.wrap ((dk : Int) + 1) = (d2 : Int) := by rw [IntKind.wrap_i64]; omega
      have CC := Lib.hid (show Calls Try.prog 34 #[nvv h' A2 kk.len c2] wr fun e w'' => e = .returned (.int .i64 (dk : Int)) ∧ Below wr.heap.size wr w'' by
        rw [hdk]
        exact IH.out kk.deep (by rw [← HD.out] at b3; omega) h' kk A2 c2 P wr (Nat.le_refl _) (by rw [← HD.out] at b3; omega) (by have := HW.out; omega) (by have := HW.out; omega) hkk)
      have HM2 : Hid (max (max m d2) (1 + (k.drop j).deep) = 1 + d0) := by
        have := HM.out
        rw [hdd, ← hdk, ← hj] at this
        unfold Hid
        omega
      have hd2b : d2 ≤ 1 + d0 := by omega
      have HJ := Lib.hid hj
      clear e hkk b1 b2 b3 hdd hdk hj HM hd2 hdk2
      go_wp2_with fail
      refine CC.out.mono ?_
      rintro e2 w2 ⟨rfl, hb2⟩
      have B2 := Lib.hid (HB.out.trans (hb2.mono HB.out.size))
      have R2 := Lib.hid (RA.out.below hb2 RA.out.lt)
      clear hb2 CC HB RA ra
      by_cases hgt : m < d2
      · have g1 : (m : Int) < (d2 : Int) := by omega
        have g2 : decide ((d2 : Int) > (m : Int)) = true := decide_eq_true g1
        have g3 : decide (m < d2) = true := decide_eq_true hgt
        go_wp2_with fail
        have hj := HJ.out
        go_roundg (n0 - j)
        case measure => omega
        case rel => exact ⟨j, d2, rfl, rfl, by omega, by omega, by omega, by omega, by have := HM2.out; unfold Hid; omega, B2.out, R2.out⟩
      · have g2 : decide ((d2 : Int) > (m : Int)) = false := decide_eq_false (by omega)
        have g3 : decide (m < d2) = false := decide_eq_false hgt
        go_wp2_with fail
        have hj := HJ.out
        go_roundg (n0 - j)
        case measure => omega
        case rel => exact ⟨j, m, rfl, rfl, by omega, by omega, by omega, by omega, by have := HM2.out; unfold Hid; omega, B2.out, R2.out⟩
    · have hi2 : i = n0 := by omega
      have hm : m = 1 + d0 := by
        have := HM.out
        rw [Fo.drop_end k i (by rw [← HN.out]; omega)] at this
        simp only [Fo.deep] at this
        omega
      have hd1 : decide ((i : Int) < (n0 : Int)) = false := decide_eq_false (by omega)
      have hd2 : decide (i < n0) = false := decide_eq_false (by omega)
      have HE := Lib.hid hm
      clear hi hi2 HM hm
      go_wp2_with fail
      go_ret
      exact ⟨by rw [HE.out]; rfl, HB.out⟩
end Pg
end Go.Proofs.Ytnefnnoleeeedaa
namespace Go.Proofs.Ytnefnnoleeeedaa
open Go.RowKit
namespace Pg
open Ps
theorem sumL_end {l : List Tok} {f : Nat} {a : Fo} {b : Int} {i : Nat} {r : Fo × Nat × Int} (h : exM l f (.sumL a) b i = some r) (h16 : isM l i sPlus = false) (h17 : isM l i sMinus = false) : r = (a, i, b) := by
  cases f with
  | zero => rw [exM] at h; cases h
  | succ f =>
    rw [exM, if_neg (by simp [h16, h17])] at h
    injection h with h; exact h.symm
theorem termL_end {l : List Tok} {f : Nat} {a : Fo} {b : Int} {i : Nat} {r : Fo × Nat × Int} (h : exM l f (.termL a) b i = some r) (h18 : isM l i sStar = false) : r = (a, i, b) := by
  cases f with
  | zero => rw [exM] at h; cases h
  | succ f =>
    rw [exM, if_neg (by simp [h18])] at h
    injection h with h; exact h.symm
end Pg
end Go.Proofs.Ytnefnnoleeeedaa
namespace Go.Proofs.Ytnefnnoleeeedaa
open Go.RowKit
namespace Pg
open Ps
theorem RuleQ.any {X : Cx} {M M' : Sd → Res} {fn : Nat} (h : RuleQ X False M fn) : RuleQ X False M' fn := fun s w r h1 h2 hS => h s w r (fun hs => absurd (h1 hs).1 id) h2 hS
end Pg
end Go.Proofs.Ytnefnnoleeeedaa
namespace Go.Proofs.Ytnefnnoleeeedaa
open Go.RowKit
namespace Pg
open Ps
inductive Out where
  | ok (h : Hd) (k : Fo)
  | bad (e a : Nat)
def wholeM (l : List Tok) (r : Fo × Sd) : Out :=
  if 0 ≤ r.2.2 then .bad 24 r.2.2.toNat
  else if r.2.1 + 1 < l.length then .bad 24 r.2.1
  else match r.1 with
    | .nil => .bad 0 0
    | .cons h k _ => if 60 < 1 + k.deep then .bad 25 0 else .ok h k
end Pg
end Go.Proofs.Ytnefnnoleeeedaa
namespace Go.Proofs.Ytnefnnoleeeedaa
open Go.RowKit
namespace Pg
open Ps
def parseM (l : List Tok) : Out := match itemsM l fuel (-1) 0 with
  | none => .bad 0 0
  | some q => wholeM l (.one ⟨1, 0, q.2.1, e0, 0⟩ q.1, q.2)
def OutQ (n : Nat) (w : World) (o : Out) (e : Ending) (w' : World) : Prop :=
  Below w.heap.size w w' ∧ match o with
    | .ok h k => ∃ A cap, e = .returned (.tuple #[nvv h A k.len cap, .int .i64 0, .int .i64 0]) ∧ KV w' (fun g => w.heap.size ≤ g) k A cap
    | .bad er a => e = .returned (.tuple #[nv0, .int .i64 er, .int .i64 a]) ∧ a < n
theorem PSt.new {w w' : World} {A : Option Addr} {l : List Tok} {c B : Nat} (hT : TokAt w A l) (W : Wf2 l) (hc : l.length ≤ c) (hB : w.heap.size ≤ B) (hb : Below w.heap.size w w') (hr : RowB w' B 0 #[.slice A l.length c, .int .i64 0, .bool false, .int .i64 0]) : PSt ⟨B, A, l, c⟩ w' (0, -1) := by
  obtain ⟨g, e, hg, ht⟩ := hT W.pos
  refine ⟨hr, ⟨g, e, by dsimp only; omega, fun i hi => ?_⟩, W, hc, fun _ => W.pos, by dsimp only; omega⟩
  obtain ⟨c0, c1, c2, c3⟩ := ht i hi
  exact ⟨(hb.cell (p := ⟨g, i * 4, none⟩) hg).trans c0, (hb.cell (p := ⟨g, i * 4 + 1, none⟩) hg).trans c1, (hb.cell (p := ⟨g, i * 4 + 2, none⟩) hg).trans c2, (hb.cell (p := ⟨g, i * 4 + 3, none⟩) hg).trans c3⟩
end Pg
end Go.Proofs.Ytnefnnoleeeedaa
namespace Go.Proofs.Ytnefnnoleeeedaa
open Go.RowKit
theorem Tabs.step {w w' : World} (h : Tabs w) (hb : Below w.heap.size w w') : Tabs w' := Utf8Tabs_below h hb
end Go.Proofs.Ytnefnnoleeeedaa
namespace Go.Proofs.Ytnefnnoleeeedaa
open Go.RowKit
def jl (l : List Tok) : List UInt8 := l.flatMap fun t => t.lead.data.toList ++ t.text.data.toList
end Go.Proofs.Ytnefnnoleeeedaa
namespace Go.Proofs.Ytnefnnoleeeedaa
open Go.RowKit
def Good (s : ByteArray) (k : Nat) (l : List Tok) : Prop :=
  jl l = tl s k ∧ 0 < l.length ∧ ∀ i (h : i < l.length), l[i].at_ = k + (jl (l.take i)).length + l[i].lead.size ∧ (l[i].kind = 0 ↔ i + 1 = l.length) ∧ (l[i].text.size = 0 ↔ l[i].kind = 0)
theorem cut_tl (s : ByteArray) (a b : Nat) (h : a ≤ b) (_hb : b ≤ s.size) : tl s a = (s.extract a b).data.toList ++ tl s b := by
  unfold tl
  rw [ByteArray.data_extract, Array.toList_extract, List.extract_eq_take_drop]
  have e := List.take_append_drop (b - a) (s.data.toList.drop a)
  rw [List.drop_drop, show a + (b - a) = b by omega] at e
  exact e.symm
theorem tok_bytes (s : ByteArray) (k : Nat) (h : k ≤ s.size) : tl s k = ((tokK s k).lead.data.toList ++ (tokK s k).text.data.toList) ++ tl s (endK s k) := by
  have h1 := atK_le s k h
  have h2 := endK_le s k h
  rw [cut_tl s k (atK s k) h1.1 h1.2, cut_tl s (atK s k) (endK s k) h2.1 h2.2, List.append_assoc]
  rfl
theorem tok_lead (s : ByteArray) (k : Nat) (h : k ≤ s.size) : (tokK s k).at_ = k + (tokK s k).lead.size := by
  have h1 := atK_le s k h
  show atK s k = k + (s.extract k (atK s k)).size
  rw [ByteArray.size_extract]
  omega
theorem tok_none (s : ByteArray) (k : Nat) (h : k ≤ s.size) (he : errK s k = 0) : ((tokK s k).text.size = 0 ↔ (tokK s k).kind = 0) ∧ ((tokK s k).kind = 0 → endK s k = s.size) := by
  obtain ⟨h1, h2⟩ := first_kind (tl s (atK s k)) he
  have h3 := tok_size s k h
  have h4 : endK s k = (tokK s k).at_ + (firstL (tl s (atK s k))).2.1 := rfl
  have h5 : (tokK s k).kind = (firstL (tl s (atK s k))).1 := rfl
  have h6 := tl_len s (atK s k)
  have h7 := atK_le s k h
  have h8 := endK_le s k h
  rw [h5]
  refine ⟨⟨fun hz => h1.2 (h2.1 (by omega)), fun hz => ?_⟩, fun hz => ?_⟩
  · have := h2.2 (h1.1 hz)
    omega
  · have := h1.1 hz
    rw [this] at h6
    simp at h6
    omega
theorem lexF_good (s : ByteArray) : ∀ (f k n : Nat) (l : List Tok), k ≤ s.size → lexF s f k n = .good l → Good s k l
  | 0, k, n, l, hk, h => by simp [lexF] at h
  | f + 1, k, n, l, hk, h => by
    by_cases he : errK s k = 0
    · by_cases hn : n = 4000
      · subst hn; rw [lexF_many he] at h; cases h
      · have hb := tok_bytes s k hk
        have hl := tok_lead s k hk
        obtain ⟨hx, hz⟩ := tok_none s k hk he
        by_cases h0 : (tokK s k).kind = 0
        · rw [lexF_end he hn h0] at h
          cases h
          rw [hz h0, tl_end s s.size (Nat.le_refl _), List.append_nil] at hb
          refine ⟨by rw [hb]; simp [jl], by simp, fun i hi => ?_⟩
          obtain rfl : i = 0 := by simp at hi; omega
          simp only [List.getElem_cons_zero, List.take_zero, List.length_cons, List.length_nil]
          exact ⟨by simpa [jl] using hl, by simp [h0], hx⟩
        · rw [lexF_next he hn h0] at h
          cases hr : lexF s f (endK s k) (n + 1) with
          | bad e a => rw [hr] at h; cases h
          | good l' =>
            rw [hr] at h
            cases h
            obtain ⟨g1, g2, g3⟩ := lexF_good s f (endK s k) (n + 1) l' (endK_le s k hk).2 hr
            have hts := tok_size s k hk
            refine ⟨by rw [hb, ← g1]; simp [jl], by simp, fun i hi => ?_⟩
            cases i with
            | zero =>
              simp only [List.cons_append, List.nil_append, List.getElem_cons_zero, List.take_zero, List.length_cons]
              exact ⟨by simpa [jl] using hl, ⟨fun e => absurd e h0, fun e => by omega⟩, hx⟩
            | succ j =>
              simp only [List.cons_append, List.nil_append, List.length_cons] at hi ⊢
              obtain ⟨a1, a2, a3⟩ := g3 j (by omega)
              simp only [List.getElem_cons_succ, List.take_succ_cons]
              refine ⟨?_, by rw [a2]; omega, a3⟩
              rw [a1]
              have : (jl (tokK s k :: l'.take j)).length = (tokK s k).lead.size + (tokK s k).text.size + (jl (l'.take j)).length := by
                simp [jl, Nat.add_assoc]
              rw [this]
              omega
    · rw [lexF_err he] at h; cases h
theorem lexF_bad (s : ByteArray) : ∀ (f k n : Nat) (e a : Int), lexF s f k n = .bad e a → e ≠ 0
  | 0, k, n, e, a, h => by
    simp [lexF] at h
    omega
  | f + 1, k, n, e, a, h => by
    by_cases he : errK s k = 0
    · by_cases hn : n = 4000
      · subst hn; rw [lexF_many he] at h; injection h; omega
      · by_cases h0 : (tokK s k).kind = 0
        · rw [lexF_end he hn h0] at h; cases h
        · rw [lexF_next he hn h0] at h
          cases hr : lexF s f (endK s k) (n + 1) with
          | bad e' a' =>
            rw [hr] at h
            injection h with h1 h2
            have := lexF_bad s f (endK s k) (n + 1) e' a' hr
            omega
          | good l' => rw [hr] at h; cases h
    · rw [lexF_err he] at h
      injection h with h1 h2
      omega
theorem lexR_bad {s : ByteArray} {e a : Int} (h : lexR s = .bad e a) : e ≠ 0 := by
  unfold lexR at h
  split at h
  · injection h; omega
  · split at h
    · injection h; omega
    · exact lexF_bad s _ _ _ _ _ h
theorem lexR_good {s : ByteArray} {l : List Tok} (h : lexR s = .good l) : Good s 0 l ∧ s.size ≤ 16384 := by
  unfold lexR at h
  split at h
  · cases h
  · split at h
    · cases h
    · exact ⟨lexF_good s _ _ _ _ (by omega) h, by omega⟩
end Go.Proofs.Ytnefnnoleeeedaa
namespace Go.Proofs.Ytnefnnoleeeedaa
open Ps
theorem tok_text (s : ByteArray) (k : Nat) : (tokK s k).text.data.toList = (tl s (atK s k)).take (firstL (tl s (atK s k))).2.1 := by
  unfold tokK tl
  dsimp only
  rw [ByteArray.data_extract, Array.toList_extract, List.extract_eq_take_drop]
  congr 1
  omega
theorem lexF_mem (s : ByteArray) : ∀ (f k n : Nat) (l : List Tok), lexF s f k n = .good l → ∀ t ∈ l, ∃ k, t = tokK s k ∧ errK s k = 0
  | 0, k, n, l, h => by simp [lexF] at h
  | f + 1, k, n, l, h => by
    by_cases he : errK s k = 0
    · by_cases hn : n = 4000
      · subst hn; rw [lexF_many he] at h; cases h
      · by_cases h0 : (tokK s k).kind = 0
        · rw [lexF_end he hn h0] at h
          cases h
          exact fun t ht => ⟨k, by simpa using ht, he⟩
        · rw [lexF_next he hn h0] at h
          cases hr : lexF s f (endK s k) (n + 1) with
          | bad e a => rw [hr] at h; cases h
          | good B =>
            rw [hr] at h
            cases h
            have h2 := lexF_mem s f _ _ B hr
            intro t ht
            rcases List.mem_cons.1 ht with rfl | ht
            · exact ⟨k, rfl, he⟩
            · exact h2 t ht
    · rw [lexF_err he] at h; cases h
theorem lits_parts : ∀ x ∈ lits, x ≠ [] ∧ digN (x.getD 0 0).toNat = false ∧ (x.getD 0 0).toNat ≠ 34 ∧ (letN (x.getD 0 0).toNat = true → x ∈ keys) := by decide
theorem tok_lits {s : ByteArray} {k : Nat} (he : errK s k = 0) (h0 : (tokK s k).kind ≠ 0) (h2 : (tokK s k).kind ≠ 2) (h5 : (tokK s k).kind ≠ 5) : ∀ x ∈ lits, (tokK s k).text.data.toList ≠ x := by
  intro x hx e
  obtain ⟨p1, p2, p3, p4⟩ := lits_parts x hx
  rw [tok_text] at e
  have hk : (tokK s k).kind = (firstL (tl s (atK s k))).1 := rfl
  rw [hk] at h0 h2 h5
  unfold errK at he
  generalize tl s (atK s k) = l at *
  have hl : l ≠ [] := by
    rintro rfl
    exact h0 rfl
  have hd : x.getD 0 0 = l.getD 0 0 := by
    cases l with
    | nil => exact absurd rfl hl
    | cons b t =>
      cases hn : (firstL (b :: t)).2.1 with
      | zero => rw [hn, List.take_zero] at e; exact absurd e.symm p1
      | succ n => rw [hn, List.take_succ_cons] at e; rw [← e]; rfl
  rw [hd] at p2 p3 p4
  unfold firstL at h0 h2 h5 he e
  rw [if_neg hl] at h0 h2 h5 he e
  by_cases hlet : letN (l.getD 0 0).toNat = true
  · rw [if_pos hlet] at h0 h2 h5 he e
    unfold wordL at h0 h2 h5 he e
    by_cases hkey : keyL (l.take (wLen l)) = true
    · rw [if_pos hkey] at h2; exact h2 rfl
    · rw [if_neg hkey] at h0 e he
      split at e
      · rename_i hw; rw [if_pos hw] at h0; exact h0 rfl
      · have hm := p4 hlet
        dsimp only at e
        rw [← e] at hm
        exact hkey (by unfold keyL; simpa using hm)
  · rw [if_neg hlet] at h0 h2 h5 he e
    by_cases hdig : digN (l.getD 0 0).toNat = true
    · rw [hdig] at p2; cases p2
    · rw [if_neg hdig] at h0 h2 h5 he e
      by_cases hq : (l.getD 0 0).toNat = 34
      · exact p3 hq
      · rw [if_neg hq] at h0 h5
        unfold signL at h0 h5
        split at h5
        · exact h5 rfl
        · rename_i hp
          rw [if_neg hp] at h0
          split at h5
          · exact h5 rfl
          · rename_i hi
            rw [if_neg hi] at h0
            exact h0 rfl
theorem lexR_wf {s : ByteArray} {l : List Tok} (h : lexR s = .good l) (hle : l.length ≤ 4000) : Wf2 l := by
  have hg := (lexR_good h).1
  obtain ⟨_, hpos, hi⟩ := hg
  have hm : ∀ t ∈ l, ∃ k, t = tokK s k ∧ errK s k = 0 := by
    unfold lexR at h
    split at h
    · cases h
    · split at h
      · cases h
      · exact lexF_mem s _ _ _ _ h
  refine ⟨⟨hpos, fun i hl hk => ?_, hle⟩, fun i hl hn hk => ?_, fun i hl h2 h5 hn => ?_⟩
  · have := (hi i hl).2.1
    by_cases e : i + 1 = l.length
    · exact absurd (this.2 e) hk
    · omega
  · have := (hi i hl).2.1.1 hk
    omega
  · obtain ⟨k, e, he⟩ := hm l[i] (List.getElem_mem hl)
    rw [e] at h2 h5 ⊢
    refine tok_lits he ?_ h2 h5
    rw [← e]
    intro hk
    have := (hi i hl).2.1.1 hk
    omega
end Go.Proofs.Ytnefnnoleeeedaa
namespace Go.Proofs.Ytnefnnoleeeedaa
open Go.RowKit
namespace Pg
open Ps
inductive OfR where
  | ok (l : List Tok) (h : Hd) (k : Fo)
  | bad (e a : Int)
def atOf (l : List Tok) (a : Nat) : Nat := ((l[a]?).map Tok.at_).getD 0
def ofM (s : ByteArray) : OfR := match lexR s with
  | .bad e a => .bad e a
  | .good l => match parseM l with
    | .ok h k => .ok l h k
    | .bad e a => .bad e (atOf l a : Int)
def OfQ (w : World) (o : OfR) (e : Ending) (w' : World) : Prop :=
  Below w.heap.size w w' ∧ match o with
    | .ok l h k => ∃ A c A' c', e = .returned (.tuple #[.slice A l.length c, nvv h A' k.len c', .int .i64 0, .int .i64 0]) ∧ TokAt w' A l ∧ l.length ≤ c ∧ KV w' (fun g => w.heap.size ≤ g) k A' c'
    | .bad er a => e = .returned (.tuple #[.slice none 0 0, nv0, .int .i64 er, .int .i64 a])
theorem whole_bad {l : List Tok} {h : Hd} {k : Fo} {s : Sd} {e a : Nat} (hx : wholeM l (.one h k, s) = .bad e a) : e = 24 ∨ e = 25 := by
  unfold wholeM at hx
  split at hx
  · cases hx; exact .inl rfl
  · split at hx
    · cases hx; exact .inl rfl
    · simp only [Fo.one] at hx
      split at hx
      · cases hx; exact .inr rfl
      · cases hx
theorem parse_bad {l : List Tok} (W : Wf2 l) {e a : Nat} (h : parseM l = .bad e a) : e = 24 ∨ e = 25 := by
  obtain ⟨q, hq, _⟩ := items_some W.toWf
  unfold parseM at h
  rw [hq] at h
  exact whole_bad h
theorem frame6 (w : World) (g : Nat) (u0 u1 u2 u3 u4 u5 : Value) (o : Obj) : Fr g w.heap.size w (((((((w.setCell ⟨g, 0, none⟩ u0).setCell ⟨g, 1, none⟩ u1).setCell ⟨g, 2, none⟩ u2).setCell ⟨g, 3, none⟩ u3).setCell ⟨g, 4, none⟩ u4).setCell ⟨g, 5, none⟩ u5).alloc o).drew :=
  (((((((((Fr.refl g w.heap.size w).put 0 u0).put 1 u1).put 2 u2).put 3 u3).put 4 u4).put 5 u5).alloc (by simp [World.setCell]) o).trans (Fr.of (Below.refl _ _).drew))
theorem row6 {w : World} {g : Nat} {cs : Array Value} (h : RowB w g 25 cs) (hc : cs.size = 6) (u0 u1 u2 u3 u4 u5 : Value) (o : Obj) : ∀ i, (((((((w.setCell ⟨g, 0, none⟩ u0).setCell ⟨g, 1, none⟩ u1).setCell ⟨g, 2, none⟩ u2).setCell ⟨g, 3, none⟩ u3).setCell ⟨g, 4, none⟩ u4).setCell ⟨g, 5, none⟩ u5).alloc o).cell? ⟨g, i, none⟩ = #[u0, u1, u2, u3, u4, u5][i]? := by
  have := ((((((h.put 0 u0).put 1 u1).put 2 u2).put 3 u3).put 4 u4).put 5 u5).alloc o
  rw [six hc] at this
  exact this.cell
theorem TokAt.frame {w w' : World} {A : Option Addr} {l : List Tok} {rb : Nat} (h : TokAt w A l) (hF : Fr rb w.heap.size w w') (hne : ∀ g, A = some ⟨g, 0, none⟩ → g ≠ rb) : TokAt w' A l := fun hn => by
  obtain ⟨g, e, hg, ht⟩ := h hn
  have hr := hne g e
  have := hF.size
  refine ⟨g, e, by omega, fun i hi => ?_⟩
  obtain ⟨c0, c1, c2, c3⟩ := ht i hi
  exact ⟨(hF.cell (p := ⟨g, i * 4, none⟩) hg hr).trans c0, (hF.cell (p := ⟨g, i * 4 + 1, none⟩) hg hr).trans c1, (hF.cell (p := ⟨g, i * 4 + 2, none⟩) hg hr).trans c2, (hF.cell (p := ⟨g, i * 4 + 3, none⟩) hg hr).trans c3⟩
end Pg
end Go.Proofs.Ytnefnnoleeeedaa
namespace Go.Proofs.Ytnefnnoleeeedaa
open Go.RowKit
set_option maxHeartbeats 1000000 in
theorem rletter_any (n : Int) (w : World) : Calls Try.prog 30 #[.int .u8 n] w fun e w' => e = .returned (.bool (letN n)) ∧ w = w' := by
  go_enter Try.func30, Try.ntmps30
  go_wp2
  all_goals
    go_ret
    exact ⟨rb (by simp [letN] <;> omega), rfl⟩
set_option maxHeartbeats 1000000 in
theorem rdigit_any (n : Int) (w : World) : Calls Try.prog 29 #[.int .u8 n] w fun e w' => e = .returned (.bool (digN n)) ∧ w = w' := by
  go_enter Try.func29, Try.ntmps29
  go_wp2
  all_goals
    go_ret
    exact ⟨rb (by simp [digN] <;> omega), rfl⟩
def rkeys : List ByteArray := [⟨#[117, 115, 101]⟩, ⟨#[100, 101, 102]⟩, ⟨#[108, 101, 116]⟩, ⟨#[105, 102]⟩, ⟨#[101, 108, 115, 101]⟩, ⟨#[119, 104, 105, 108, 101]⟩, ⟨#[112, 114, 105, 110, 116]⟩, ⟨#[114, 101, 116, 117, 114, 110]⟩, ⟨#[102, 110]⟩, ⟨#[105, 110, 112, 117, 116]⟩, ⟨#[105, 110, 116]⟩, ⟨#[115, 116, 114]⟩, ⟨#[100, 121, 110]⟩]
def rk (k : Nat) : ByteArray := rkeys.getD k ⟨#[]⟩
theorem key_of (l : List UInt8) : keyL l = rkeys.any (fun x => x.data.toList == l) := by
  rw [Bool.eq_iff_iff]
  simp only [keyL, keys, rkeys, List.contains_cons, List.contains_nil, List.any_cons, List.any_nil, Bool.or_false, Bool.or_eq_true, beq_iff_eq]
  constructor
  · intro h
    rcases h with rfl | rfl | rfl | rfl | rfl | rfl | rfl | rfl | rfl | rfl | rfl | rfl | rfl <;> simp
  · intro h
    rcases h with h | h | h | h | h | h | h | h | h | h | h | h | h <;> (subst h; simp)
theorem key_hit {s : ByteArray} {k : Nat} (hk : k < 13) (h : (rk k).toList = s.toList) : keyL s.data.toList = true := by
  rw [key_of, List.any_eq_true]
  refine ⟨rkeys[k]'(by simp [rkeys]; omega), List.getElem_mem _, ?_⟩
  have e : rk k = rkeys[k]'(by simp [rkeys]; omega) := by unfold rk; rw [List.getD_eq_getElem?_getD, List.getElem?_eq_getElem]; rfl
  rw [beq_iff_eq, ← e, ← ByteArray.toList_eq, ← ByteArray.toList_eq, h]
theorem key_none {s : ByteArray} (h : ∀ k, k < 13 → (rk k).toList ≠ s.toList) : keyL s.data.toList = false := by
  rw [key_of, List.any_eq_false]
  intro x hx
  obtain ⟨k, hk, rfl⟩ := List.getElem_of_mem hx
  have hk' : k < 13 := by simpa [rkeys] using hk
  have e : rk k = rkeys[k] := by unfold rk; rw [List.getD_eq_getElem?_getD, List.getElem?_eq_getElem hk]; rfl
  have := h k hk'
  rw [ByteArray.toList_eq, ByteArray.toList_eq, e] at this
  intro h
  exact this (beq_iff_eq.1 h)
set_option maxHeartbeats 2000000 in
theorem rkey_any (s : ByteArray) (w : World) : Calls Try.prog 28 #[.string s] w fun e w' => e = .returned (.bool (keyL s.data.toList)) ∧ Below w.heap.size w w' := by
  have hc : ∀ k, k < 13 → (w.alloc (.cells #[.string ⟨#[117, 115, 101]⟩, .string ⟨#[100, 101, 102]⟩, .string ⟨#[108, 101, 116]⟩, .string ⟨#[105, 102]⟩, .string ⟨#[101, 108, 115, 101]⟩, .string ⟨#[119, 104, 105, 108, 101]⟩, .string ⟨#[112, 114, 105, 110, 116]⟩, .string ⟨#[114, 101, 116, 117, 114, 110]⟩, .string ⟨#[102, 110]⟩, .string ⟨#[105, 110, 112, 117, 116]⟩, .string ⟨#[105, 110, 116]⟩, .string ⟨#[115, 116, 114]⟩, .string ⟨#[100, 121, 110]⟩] 9)).cell? ⟨w.heap.size, k, none⟩ = some (.string (rk k)) := by
    intro k hk
    rw [(RowB.new w 9 #[.string ⟨#[117, 115, 101]⟩, .string ⟨#[100, 101, 102]⟩, .string ⟨#[108, 101, 116]⟩, .string ⟨#[105, 102]⟩, .string ⟨#[101, 108, 115, 101]⟩, .string ⟨#[119, 104, 105, 108, 101]⟩, .string ⟨#[112, 114, 105, 110, 116]⟩, .string ⟨#[114, 101, 116, 117, 114, 110]⟩, .string ⟨#[102, 110]⟩, .string ⟨#[105, 110, 112, 117, 116]⟩, .string ⟨#[105, 110, 116]⟩, .string ⟨#[115, 116, 114]⟩, .string ⟨#[100, 121, 110]⟩]).cell k]
    rcases (by omega : k = 0 ∨ k = 1 ∨ k = 2 ∨ k = 3 ∨ k = 4 ∨ k = 5 ∨ k = 6 ∨ k = 7 ∨ k = 8 ∨ k = 9 ∨ k = 10 ∨ k = 11 ∨ k = 12) with rfl | rfl | rfl | rfl | rfl | rfl | rfl | rfl | rfl | rfl | rfl | rfl | rfl <;> rfl
  have HB : Hid (Below w.heap.size w (w.alloc (.cells #[.string ⟨#[117, 115, 101]⟩, .string ⟨#[100, 101, 102]⟩, .string ⟨#[108, 101, 116]⟩, .string ⟨#[105, 102]⟩, .string ⟨#[101, 108, 115, 101]⟩, .string ⟨#[119, 104, 105, 108, 101]⟩, .string ⟨#[112, 114, 105, 110, 116]⟩, .string ⟨#[114, 101, 116, 117, 114, 110]⟩, .string ⟨#[102, 110]⟩, .string ⟨#[105, 110, 112, 117, 116]⟩, .string ⟨#[105, 110, 116]⟩, .string ⟨#[115, 116, 114]⟩, .string ⟨#[100, 121, 110]⟩] 9))) := (Below.refl _ w).alloc (Nat.le_refl _) _
  have HC := Lib.hid hc
  clear hc
  go_enter Try.func28, Try.ntmps28
  go_wp2_with fail
  obtain ⟨W, hW⟩ : ∃ W, w.alloc (.cells #[.string ⟨#[117, 115, 101]⟩, .string ⟨#[100, 101, 102]⟩, .string ⟨#[108, 101, 116]⟩, .string ⟨#[105, 102]⟩, .string ⟨#[101, 108, 115, 101]⟩, .string ⟨#[119, 104, 105, 108, 101]⟩, .string ⟨#[112, 114, 105, 110, 116]⟩, .string ⟨#[114, 101, 116, 117, 114, 110]⟩, .string ⟨#[102, 110]⟩, .string ⟨#[105, 110, 112, 117, 116]⟩, .string ⟨#[105, 110, 116]⟩, .string ⟨#[115, 116, 114]⟩, .string ⟨#[100, 121, 110]⟩] 9) = W := ⟨_, rfl⟩
  rw [hW] at HC HB
  rw [hW]
  clear hW
  go_loopg [4] 13 (fun kx a wr => ∃ k : Nat, a = .int .i64 k ∧ k ≤ 13 ∧ 13 - k ≤ kx ∧ Hid (∀ j, j < k → (rk j).toList ≠ s.toList) ∧ Hid (W = wr))
  case atStart => exact ⟨0, rfl, by omega, by omega, fun j hj => by omega, rfl⟩
  case round =>
    obtain ⟨k, rfl, hk, hkx, HN, HW⟩ := hrel
    obtain rfl := HW.out
    by_cases hlt : k < 13
    · have hlz : (k : Int) < 13 := by omega
      have hcell := HC.out k hlt
      obtain ⟨r, hr⟩ : ∃ r, r = rk k := ⟨_, rfl⟩
      rw [← hr] at hcell
      by_cases he : r.toList = s.toList
      · have HT : Hid (true = keyL s.data.toList) := by show _ = _; exact (key_hit hlt (by rw [← hr]; exact he)).symm
        have q : (r.toList == s.toList) = true := by simpa using he
        clear hr he
        go_wp2_with fail
        go_ret
        exact ⟨rb (by rw [← HT.out]), HB.out⟩
      · have HN2 : Hid (∀ j, j < k + 1 → (rk j).toList ≠ s.toList) := by
          intro j hj
          by_cases e : j = k
          · subst e; rw [← hr]; exact he
          · exact HN.out j (by omega)
        have q : (r.toList == s.toList) = false := by simpa using he
        clear hr he
        go_wp2_with fail
        go_roundg (13 - (k + 1))
        case measure => omega
        case rel => exact ⟨k + 1, by go_num, by omega, by omega, HN2, rfl⟩
    · obtain rfl : k = 13 := by omega
      have HT : Hid (false = keyL s.data.toList) := by show _ = _; exact (key_none HN.out).symm
      clear hlt
      go_wp2_with fail
      go_ret
      exact ⟨rb (by rw [← HT.out]), HB.out⟩
end Go.Proofs.Ytnefnnoleeeedaa
namespace Go.Proofs.Ytnefnnoleeeedaa
open Go.RowKit
def refN : Nat → List UInt8 → Bool
  | _, [] => true
  | acc, c :: r => if 48 ≤ c.toNat ∧ c.toNat ≤ 57 then (if 9223372036854775807 < acc * 10 + (c.toNat - 48) then false else refN (acc * 10 + (c.toNat - 48)) r) else false
def finN : Lib.NumEnd Nat → Bool
  | .ok u => decide (u < 9223372036854775808)
  | _ => false
theorem uintM_big : ∀ (l : List UInt8) (acc : Nat), 9223372036854775808 ≤ acc → finN (Lib.parseUintM 18446744073709551615 acc l) = false
  | [], acc, h => by
    unfold Lib.parseUintM finN
    exact decide_eq_false (by omega)
  | c :: r, acc, h => by
    unfold Lib.parseUintM
    split
    · rw [if_pos (by omega)]; rfl
    · rfl
theorem uintM_ref : ∀ (l : List UInt8) (acc : Nat), acc < 9223372036854775808 → finN (Lib.parseUintM 18446744073709551615 acc l) = refN acc l
  | [], acc, h => by
    unfold Lib.parseUintM finN refN
    exact decide_eq_true h
  | c :: r, acc, h => by
    unfold Lib.parseUintM refN
    by_cases hd : 48 ≤ c.toNat ∧ c.toNat ≤ 57
    · rw [if_pos hd, if_pos hd]
      by_cases hb : 9223372036854775807 < acc * 10 + (c.toNat - 48)
      · rw [if_pos hb]
        split
        · rfl
        · split
          · rfl
          · exact uintM_big r _ (by omega)
      · rw [if_neg hb, if_neg (by omega), if_neg (by omega)]
        exact uintM_ref r _ (by omega)
    · rw [if_neg hd, if_neg hd]
      rfl
theorem numOk_ref {c : UInt8} {r : List UInt8} (hd : 48 ≤ c.toNat ∧ c.toNat ≤ 57) : numOk (c :: r) = refN 0 (c :: r) := by
  have h := uintM_ref (c :: r) 0 (by omega)
  rw [← h]
  unfold numOk Lib.parseIntB Lib.parseUintB
  have e1 : (if c.toNat = 43 ∨ c.toNat = 45 then r else c :: r) = c :: r := if_neg (by omega)
  dsimp only
  rw [e1, if_neg (by simp), show (2 : Nat) ^ 64 - 1 = 18446744073709551615 by decide]
  rcases Lib.parseUintM 18446744073709551615 0 (c :: r) with u | _ | _
  · dsimp only [finN]
    by_cases hu : u < 9223372036854775808
    · rw [decide_eq_true hu, if_neg (by omega), if_neg (by omega)]
    · rw [decide_eq_false hu, if_pos (by omega)]
  · rfl
  · rfl
theorem um_mem : ∀ (c : List UInt8) (sl : Bool) (o : List UInt8), um c sl = some o → ∀ x ∈ c, x ≠ 10
  | [], sl, o, h => by simp
  | b :: t, true, o, h => by
    rw [um] at h
    split at h
    · rename_i hm
      obtain ⟨o', h1, _⟩ := Option.map_eq_some_iff.1 h
      intro x hx
      rcases List.mem_cons.1 hx with rfl | hx
      · intro e; subst e; revert hm; decide
      · exact um_mem t false o' h1 x hx
    · cases h
  | b :: t, false, o, h => by
    rw [um] at h
    split at h
    · rename_i hb
      intro x hx
      rcases List.mem_cons.1 hx with rfl | hx
      · rw [hb]; decide
      · exact um_mem t true o h x hx
    · split at h
      · cases h
      · rename_i hb
        obtain ⟨o', h1, _⟩ := Option.map_eq_some_iff.1 h
        intro x hx
        rcases List.mem_cons.1 hx with rfl | hx
        · intro e; subst e; exact hb (.inl (by decide))
        · exact um_mem t false o' h1 x hx
theorem unq_lf {L : List UInt8} {i : Nat} (h : L[i]? = some 10) : unq L = none := by
  unfold unq
  by_cases hc : L.length < 2 ∨ L.getD 0 0 ≠ 34 ∨ L.getD (L.length - 1) 0 ≠ 34
  · rw [if_pos hc]
  · rw [if_neg hc]
    have h1 : ¬ L.length < 2 := fun h => hc (.inl h)
    have h2 : L.getD 0 0 = 34 := Classical.byContradiction fun h => hc (.inr (.inl h))
    have h3 : L.getD (L.length - 1) 0 = 34 := Classical.byContradiction fun h => hc (.inr (.inr h))
    have hi : i < L.length := (List.getElem?_eq_some_iff.1 h).1
    have n0 : i ≠ 0 := by
      intro e; subst e
      rw [List.getD_eq_getElem?_getD, h] at h2
      exact absurd h2 (by decide)
    have n1 : i ≠ L.length - 1 := by
      intro e; subst e
      rw [List.getD_eq_getElem?_getD, h] at h3
      exact absurd h3 (by decide)
    cases hu : um ((L.drop 1).take (L.length - 2)) false with
    | none => rfl
    | some o =>
      refine absurd rfl (um_mem _ _ _ hu 10 (List.mem_of_getElem? (i := i - 1) ?_))
      rw [List.getElem?_take, if_pos (by omega), List.getElem?_drop, show 1 + (i - 1) = i by omega, h]
theorem um_open : ∀ (c : List UInt8) (st : Bool), runM sls qGo st (c ++ [34]) = c.length + 1 → um c st = none
  | [], st, h => by
    cases st with
    | true => rfl
    | false => revert h; decide
  | b :: t, st, h => by
    rw [List.cons_append, runM] at h
    split at h
    · simp only [List.length_cons] at h
      have h1 : runM sls qGo (sls st b.toNat) (t ++ [34]) = t.length + 1 := by omega
      have h2 := um_open t _ h1
      cases st with
      | true =>
        have e : sls true (b.toNat : Int) = false := by unfold sls; simp
        rw [e] at h2
        rw [um, h2]
        split <;> rfl
      | false =>
        rw [um]
        by_cases hb : b = 92
        · have e : sls false (b.toNat : Int) = true := by subst hb; decide
          rw [e] at h2
          rw [if_pos hb, h2]
        · have e : sls false (b.toNat : Int) = false := by
            unfold sls
            have : ¬ ((b.toNat : Int) = 92) := fun h => hb (UInt8.toNat_inj.1 (by
              have : b.toNat = 92 := by omega
              rw [this]; rfl))
            simp [this]
          rw [e] at h2
          rw [if_neg hb, h2]
          split <;> rfl
    · omega
theorem unq_open {m : List UInt8} (h : runM sls qGo false m = m.length) : unq (34 :: m) = none := by
  unfold unq
  by_cases hc : (34 :: m).length < 2 ∨ (34 :: m).getD 0 0 ≠ 34 ∨ (34 :: m).getD ((34 :: m).length - 1) 0 ≠ 34
  · rw [if_pos hc]
  · rw [if_neg hc]
    have h1 : ¬ (34 :: m).length < 2 := fun h => hc (.inl h)
    have h3 : (34 :: m).getD ((34 :: m).length - 1) 0 = 34 := Classical.byContradiction fun h => hc (.inr (.inr h))
    have hne : m ≠ [] := fun e => by subst e; simp at h1
    simp only [List.length_cons] at h1 h3 ⊢
    have hl : m.getLast hne = 34 := by
      rw [List.getLast_eq_getElem]
      have hp : 0 < m.length := List.length_pos_iff.2 hne
      rw [show m.length + 1 - 1 = (m.length - 1) + 1 by omega, List.getD_cons_succ, List.getD_eq_getElem?_getD, List.getElem?_eq_getElem (by omega)] at h3
      exact h3
    have hm : m = m.dropLast ++ [34] := by rw [← hl]; exact (List.dropLast_concat_getLast hne).symm
    have e : ((34 :: m).drop 1).take (m.length + 1 - 2) = m.dropLast := by
      rw [List.drop_one, List.tail_cons, List.dropLast_eq_take]
      congr 1
    rw [e]
    refine um_open _ _ ?_
    rw [← hm, h]
    have hp : 0 < m.length := List.length_pos_iff.2 hne
    rw [List.length_dropLast]
    omega
end Go.Proofs.Ytnefnnoleeeedaa
