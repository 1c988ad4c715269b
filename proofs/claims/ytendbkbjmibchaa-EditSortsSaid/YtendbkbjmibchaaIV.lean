/- Contracts: edit.growth, edit.Grows, edit.Invert. -/
import Derived.Test.YtendbkbjmibchaaInv
import Derived.Test.YtendbkbjmibchaaShelf
import Derived.OwnWalk
import Derived.Deep.RegionHeld3
import Derived.Deep.AppendLies
namespace Go.Proofs.Ytendbkbjmibchaa
open Go.RowKit

abbrev ev (e : Ed) : Value := .agg #[.int .i64 e.f, .int .i64 e.t, .string e.x]
def ecs (es : List Ed) : List Value := es.flatMap fun e => [.int .i64 e.f, .int .i64 e.t, .string e.x]
theorem ecs_app (a b : List Ed) : ecs (a ++ b) = ecs a ++ ecs b := by unfold ecs; simp
theorem ecs_one (e : Ed) : ecs [e] = [.int .i64 e.f, .int .i64 e.t, .string e.x] := by unfold ecs; simp
theorem ecs_len (es : List Ed) : (ecs es).length = es.length * 3 := by
  induction es with
  | nil => rfl
  | cons e r ih => rw [show e :: r = [e] ++ r from rfl, ecs_app, List.length_append, ih, ecs_one]; simp; omega
theorem ecs_at (es : List Ed) (i : Nat) (hi : i < es.length) : (ecs es)[i * 3]? = some (.int .i64 es[i].f) ∧ (ecs es)[i * 3 + 1]? = some (.int .i64 es[i].t) ∧ (ecs es)[i * 3 + 2]? = some (.string es[i].x) := by
  have h1 : ecs es = ecs (es.take i) ++ ([.int .i64 es[i].f, .int .i64 es[i].t, .string es[i].x] ++ ecs (es.drop (i + 1))) := by
    rw [← ecs_one, ← ecs_app, ← ecs_app, List.singleton_append, ← List.drop_eq_getElem_cons hi, List.take_append_drop]
  have h2 : (ecs (es.take i)).length = i * 3 := by rw [ecs_len, List.length_take, Nat.min_eq_left (by omega)]
  rw [h1]
  refine ⟨?_, ?_, ?_⟩
  all_goals
    rw [List.getElem?_append_right (by omega), h2]
    simp
theorem eds_own {w : World} {base n c : Nat} {A : Option Addr} {es : List Ed} (h : w.ownsRow base 68 3 (.slice A n c) n (ecs es)) (hn : n = es.length) : Eds w w.heap.size A es := fun h0 => by
  subst hn
  rcases h.2 with ⟨hv, hx⟩ | ⟨g, cap, cur, hv, _, hh, _⟩
  · omega
  · injection hv with hA _ _
    subst hA
    refine ⟨g, 0, rfl, (h.lt g rfl).2, fun i hi => ?_⟩
    obtain ⟨a0, a1, a2⟩ := ecs_at es i hi
    have b0 := h.cells (g := g) rfl _ _ a0
    have b1 := h.cells (g := g) rfl _ _ a1
    have b2 := h.cells (g := g) rfl _ _ a2
    have hadd : ∀ j, (⟨g, 0, none⟩ : Addr).add j = ⟨g, 0 + j, none⟩ := fun j => by unfold Addr.add; split <;> simp_all
    rw [hadd] at b0 b1 b2
    exact ⟨b0, by rw [← Nat.add_assoc] at b1; exact b1, by rw [← Nat.add_assoc] at b2; exact b2⟩
theorem own_form3 {w : World} {base e n : Nat} {v : Value} {xs : List Value} (h : w.ownsRow base e 3 v n xs) : ∃ A cap, v = .slice A n cap := by
  rcases h.2 with ⟨hv, hx⟩ | ⟨g, cap, cur, hv, _⟩
  · subst hx; exact ⟨none, 0, hv⟩
  · exact ⟨_, cap, hv⟩

theorem snd_all (n : Int) : ∀ (es : List Ed) (p : Option Int), sndGo n p es = 0 → ∀ e ∈ es, 0 ≤ e.f ∧ e.f ≤ e.t ∧ e.t ≤ n
  | [], _, _, e, he => by simp at he
  | y :: r, p, h, e, he => by
    obtain ⟨g0, g1, g2, g3, g4, g5⟩ := sndGo_cons h
    rcases List.mem_cons.1 he with rfl | he
    · exact ⟨g0, g1, g2⟩
    · exact snd_all n r _ g5 e he
theorem snd_go {es : List Ed} {n : Int} (h : snd es n = 0) : es.length ≤ 512 ∧ sndGo n none es = 0 := by
  unfold snd at h
  split at h
  · omega
  · exact ⟨by omega, h⟩

theorem own_below {w w' : World} {base e sz n : Nat} {v : Value} {xs : List Value} (h : w.ownsRow base e sz v n xs) (hb : Below w.heap.size w w') : w'.ownsRow base e sz v n xs := by
  refine ⟨h.1, ?_⟩
  rcases h.2 with hx | ⟨g, cap, cur, hv, hg, hh, r⟩
  · exact .inl hx
  · exact .inr ⟨g, cap, cur, hv, hg, (hb.block g (h.lt g (by rw [hv]; rfl)).2).trans hh, r⟩

set_option maxHeartbeats 1000000 in
theorem growth_any (e : Ed) (w : World) (h0 : 0 ≤ e.f) (h1 : e.f ≤ e.t) (h2 : e.t ≤ 1000000000000000) (hx : e.x.size ≤ 1000000000000000) :
    Calls Try.prog 50 #[ev e] w fun r w' => r = .returned (.int .i64 (grow e)) ∧ Below w.heap.size w w' := by
  go_enter Try.func50, Try.ntmps50
  go_wp2_with fail
  go_ret
  exact ⟨ri (by unfold grow; omega), (Below.refl _ _).alloc (Nat.le_refl _) _⟩

theorem grows_drop (es : List Ed) (k : Nat) (hk : k < es.length) : grows (es.drop k) = grow es[k] + grows (es.drop (k + 1)) := by
  rw [List.drop_eq_getElem_cons hk, grows]

set_option maxHeartbeats 2000000 in
set_option maxRecDepth 100000 in
theorem grows_any (A : Option Addr) (cap : Nat) (es : List Ed) (n : Int) (w : World) (hes : Eds w w.heap.size A es) (hlm : es.length ≤ 600) (hs : ∀ e ∈ es, 0 ≤ e.f ∧ e.f ≤ e.t ∧ e.t ≤ n) (hn : n ≤ 1000000000000000) (hx : ∀ e ∈ es, e.x.size ≤ 1000000000000000) :
    Calls Try.prog 38 #[.slice A es.length cap] w fun e w' => e = .returned (.int .i64 (grows es)) ∧ Below w.heap.size w w' := by
  have HES := Lib.hid hes
  have HX := Lib.hid hx
  have HS := Lib.hid hs
  clear hes hx hs
  go_enter Try.func38, Try.ntmps38
  go_wp2_with fail
  go_loopw [3, 5, 8] (fun nv _ i wr => ∃ (k : Nat) (m : Int), k ≤ es.length ∧ i = .int .i64 k ∧ nv = .int .i64 m ∧ m + grows (es.drop k) = grows es ∧ -(k * 1000000000000000 : Int) ≤ m ∧ m ≤ (k * 1000000000000000 : Int) ∧ Below w.heap.size w wr) (fun _ _ i _ => es.length - (intOf i).toNat)
  case atStart => exact ⟨0, 0, by omega, rfl, rfl, by simp, by omega, by omega, Below.refl _ _⟩
  case round =>
    obtain ⟨k, m, hk, rfl, rfl, ht, h3, hmm, hb⟩ := hrel
    have HT := Lib.hid ht
    have HB := Lib.hid hb
    clear ht hb
    by_cases hlt : k < es.length
    · obtain ⟨bb, off, rfl, hbl, hcell⟩ := (HES.out.below HB.out) (by omega)
      obtain ⟨q0, q1, q2⟩ := hcell k hlt
      have hbw : bb < wr.heap.size := Nat.lt_of_lt_of_le hbl HB.out.size
      have hxs := HX.out es[k] (List.getElem_mem hlt)
      obtain ⟨s0, s1, s2⟩ := HS.out es[k] (List.getElem_mem hlt)
      have HD := Lib.hid (grows_drop es k hlt)
      obtain ⟨y, hy⟩ : ∃ y, y = es[k] := ⟨_, rfl⟩
      rw [← hy] at q0 q1 q2 hxs s0 s1 s2
      have HY := Lib.hid hy
      clear hcell hy
      have g0 : -1000000000000000 ≤ grow y := by unfold grow; omega
      have g1 : grow y ≤ 1000000000000000 := by unfold grow; omega
      go_wp2_with fail
      refine (growth_any y _ s0 s1 (by omega) (by omega)).mono ?_
      rintro r w2 ⟨rfl, hb⟩
      have HB2 := Lib.hid ((HB.out.alloc HB.out.size (.cells #[.int .i64 y.f, .int .i64 y.t, .string y.x] 68)).trans (hb.mono (by have := HB.out.size; simp; omega)))
      clear hb
      go_wp2_with fail
      go_roundw
      case rel => exact ⟨k + 1, m + grow y, by omega, by go_num, rfl, by have := HT.out; rw [HD.out, ← HY.out] at this; omega, by omega, by omega, HB2.out⟩
      case measure => simp [intOf]; omega
    · obtain rfl : k = es.length := by omega
      have R : Hid (m = grows es) := by
        unfold Hid
        have h1 := HT.out
        rw [List.drop_length, grows] at h1
        omega
      go_wp2_with fail
      go_ret
      exact ⟨ri R.out, HB.out⟩

theorem info68 : (Try.prog.info? 68).map (fun i => (i.zero, i.size, i.bytes)) = some (some (.agg #[.int .i64 0, .int .i64 0, .string ⟨#[]⟩]), 3, 32) := by kernel_rfl

theorem invert_no (s : ByteArray) (A : Option Addr) (cap : Nat) (es : List Ed) (w : World) (hes : Eds w w.heap.size A es) (hlm : es.length ≤ 100000) (hs : snd es s.size ≠ 0) :
    Calls Try.prog 37 #[.string s, .slice A es.length cap] w fun e w' => e = .returned (.tuple #[.slice none 0 0, .int .i64 (snd es s.size)]) ∧ Below w.heap.size w w' := by
  have HES := Lib.hid hes
  clear hes
  go_enter Try.func37, Try.ntmps37
  go_wp2_with fail
  refine (sound_edits A cap es s.size _ HES.out hlm).mono ?_
  rintro e w1 ⟨rfl, hb⟩
  have HB := Lib.hid hb
  clear hb
  have g : (snd es s.size == 0) = false := by simpa using hs
  go_wp2_with fail
  go_ret2
  exact ⟨rfl, HB.out⟩

theorem inv_drop (s : ByteArray) (m : Int) (es : List Ed) (k : Nat) (hk : k < es.length) : inv s m (es.drop k) = ⟨es[k].f + m, es[k].f + m + es[k].x.size, s.extract es[k].f.toNat es[k].t.toNat⟩ :: inv s (m + grow es[k]) (es.drop (k + 1)) := by
  rw [List.drop_eq_getElem_cons hk, inv]

set_option maxHeartbeats 4000000 in
set_option maxRecDepth 100000 in
theorem invert_ok (s : ByteArray) (A : Option Addr) (cap : Nat) (es : List Ed) (w : World) (hes : Eds w w.heap.size A es) (hs : snd es s.size = 0) (hsm : s.size ≤ 140737488355328) (hx : ∀ e ∈ es, e.x.size ≤ 1000000000000000) :
    Calls Try.prog 37 #[.string s, .slice A es.length cap] w fun e w' => ∃ A' cap', e = .returned (.tuple #[.slice A' es.length cap', .int .i64 0]) ∧ Eds w' w'.heap.size A' (inv s 0 es) ∧ Below w.heap.size w w' := by
  obtain ⟨i0, hi0, hz0, hz1, hz2⟩ := info_parts info68
  have HES := Lib.hid hes
  have HX := Lib.hid hx
  have hl5 := (snd_go hs).1
  have HS := Lib.hid (snd_all _ es _ (snd_go hs).2)
  have g := Lib.hid hs
  clear hes hx hs
  go_enter Try.func37, Try.ntmps37
  go_wp2_with fail
  refine (sound_edits A cap es s.size _ HES.out (by omega)).mono ?_
  rintro e w1 ⟨rfl, hb⟩
  have HB := Lib.hid hb
  have HE1 := Lib.hid ((HES.out.below hb).more hb.size)
  clear hb
  rw [g.out]
  go_wp2_with fail
  go_loopw [7, 8, 10, 11, 21] (fun ov nv _ _ i wr => ∃ (k : Nat) (m : Int) (done : List Ed), k ≤ es.length ∧ i = .int .i64 k ∧ nv = .int .i64 m ∧ done.length = k ∧ done ++ inv s m (es.drop k) = inv s 0 es ∧ wr.ownsRow w.heap.size 68 3 ov k (ecs done) ∧ -(k * 1000000000000000 : Int) ≤ m ∧ m ≤ (k * 1000000000000000 : Int) ∧ Below w.heap.size w wr) (fun _ _ _ _ i _ => es.length - (intOf i).toNat)
  case atStart => exact ⟨0, 0, [], by omega, rfl, rfl, rfl, by simp, ⟨rfl, .inl ⟨rfl, rfl⟩⟩, by omega, by omega, HB.out⟩
  case round =>
    obtain ⟨k, m, done, hk, rfl, rfl, hdl, hd, hown, h3, hmm, hb⟩ := hrel
    have HD := Lib.hid hd
    have HO := Lib.hid hown
    have HB2 := Lib.hid hb
    obtain ⟨AO, co, rfl⟩ := own_form3 hown
    clear hd hown hb
    by_cases hlt : k < es.length
    · obtain ⟨bb, off, rfl, hbl, hcell⟩ := (HES.out.below HB2.out) (by omega)
      obtain ⟨q0, q1, q2⟩ := hcell k hlt
      have hbw : bb < wr.heap.size := Nat.lt_of_lt_of_le hbl HB2.out.size
      have hxs := HX.out es[k] (List.getElem_mem hlt)
      obtain ⟨s0, s1, s2⟩ := HS.out es[k] (List.getElem_mem hlt)
      have HI := Lib.hid (inv_drop s m es k hlt)
      obtain ⟨y, hy⟩ : ∃ y, y = es[k] := ⟨_, rfl⟩
      rw [← hy] at q0 q1 q2 hxs s0 s1 s2
      have HY := Lib.hid hy
      clear hcell hy
      have g0 : -1000000000000000 ≤ grow y := by unfold grow; omega
      have g1 : grow y ≤ 1000000000000000 := by unfold grow; omega
      have hHs := HB2.out.size
      go_wp2_with fail
      have c0 : (wr.alloc (.cells #[.int .i64 y.f, .int .i64 y.t, .string y.x] 68)).cell? ⟨wr.heap.size, 0, none⟩ = some (.int .i64 y.f) := (RowB.new _ _ _).cell 0
      have c1 : (wr.alloc (.cells #[.int .i64 y.f, .int .i64 y.t, .string y.x] 68)).cell? ⟨wr.heap.size, 1, none⟩ = some (.int .i64 y.t) := (RowB.new _ _ _).cell 1
      have c2 : (wr.alloc (.cells #[.int .i64 y.f, .int .i64 y.t, .string y.x] 68)).cell? ⟨wr.heap.size, 2, none⟩ = some (.string y.x) := (RowB.new _ _ _).cell 2
      have hne : some wr.heap.size ≠ (Value.slice AO k co).ownBlock := fun e => by have := (HO.out.lt _ e.symm).2; omega
      have hwr : IntKind.i64.wrap (y.f + m + y.x.size) = y.f + m + y.x.size := by rw [IntKind.wrap_i64]; omega
      have HWR := Lib.hid hwr
      have hnb : ∀ o, ((wr.alloc (.cells #[.int .i64 y.f, .int .i64 y.t, .string y.x] 68)).alloc o).drew.heap[wr.heap.size + 1]? = some o := fun o => by
        have := heap_alloc_new (wr.alloc (.cells #[.int .i64 y.f, .int .i64 y.t, .string y.x] 68)) o
        rw [show (wr.alloc (.cells #[.int .i64 y.f, .int .i64 y.t, .string y.x] 68)).heap.size = wr.heap.size + 1 by simp] at this
        exact this
      have HNB := Lib.hid hnb
      clear hnb
      clear hwr
      have hk1 : k + 1 ≤ maxLen := by unfold maxLen; omega
      go_region_held3 (fun w' => w'.cell? ⟨wr.heap.size, 0, none⟩ = some (.int .i64 y.f) ∧ w'.cell? ⟨wr.heap.size, 1, none⟩ = some (.int .i64 y.t) ∧ w'.cell? ⟨wr.heap.size, 2, none⟩ = some (.string y.x))
        (first
          | go_keep
          | (go_split_ands
             refine ⟨?_, ?_, ?_⟩
             · (rw [hgrow.cell_far _ (by simp; omega) hne]; assumption)
             · (rw [hgrow.cell_far _ (by simp; omega) hne]; assumption)
             · (rw [hgrow.cell_far _ (by simp; omega) hne]; assumption)))
        ((refine step_append_lies _ (by rfl) (.tmp 29) (.tmp 43) 53 (by rfl) w.heap.size 68 i0 _ 3 32 Try.underlying53 hi0 hz0 hz1 hz2 rfl (by omega) (.slice AO k co) k (ecs done) (by rfl) (((HO.out.alloc _).alloc _).drew)
            ⟨wr.heap.size + 1, 0, none⟩ 1 1 [.int .i64 (y.f + m), .int .i64 (IntKind.i64.wrap (y.f + m + y.x.size)), .string (s.extract y.f.toNat y.t.toNat)] (by rfl) (by rfl) (World.news_of_block (cs := #[.int .i64 (y.f + m), .int .i64 (IntKind.i64.wrap (y.f + m + y.x.size)), .string (s.extract y.f.toNat y.t.toNat)]) (t := 68) (fr := (0, 0)) (HNB.out _)) (by simp [Value.oneCell'])
            (by omega) hk1 (by omega) (by simp; omega) (wr.heap.size + 2) (by simp) ?_; intro gg cap' w3 hown3 hgrow hat hlt3))
      rw [HWR.out] at hown3
      obtain ⟨E, hE⟩ : ∃ E : Ed, E = ⟨y.f + m, y.f + m + y.x.size, s.extract y.f.toNat y.t.toNat⟩ := ⟨_, rfl⟩
      have HO3 : Hid (w3.ownsRow w.heap.size 68 3 (.slice (some ⟨gg, 0, none⟩) (k + 1) cap') (k + 1) (ecs (done ++ [E]))) := by
        unfold Hid; rw [ecs_app, ecs_one, hE]; exact hown3
      have HD3 : Hid (done ++ [E] ++ inv s (m + grow y) (es.drop (k + 1)) = inv s 0 es) := by
        unfold Hid; rw [← HD.out, HI.out, ← HY.out, hE, List.append_assoc]; rfl
      have hw3 : wr.heap.size + 2 ≤ w3.heap.size := by have := hgrow.size; simp at this; omega
      have HB3 : Hid (Below w.heap.size w w3) := by
        have a1 := ((HB2.out.alloc hHs (.cells #[.int .i64 y.f, .int .i64 y.t, .string y.x] 68)).alloc (by simp; omega) (.cells #[.int .i64 (y.f + m), .int .i64 (IntKind.i64.wrap (y.f + m + y.x.size)), .string (s.extract y.f.toNat y.t.toNat)] 68))
        exact (below_drewN a1 1).grown hgrow (by simp; omega) (fun k hk => (HO.out.lt k hk).1)
      have HLen : Hid ((done ++ [E]).length = k + 1) := by unfold Hid; rw [List.length_append, hdl]; rfl
      clear hown3 hgrow hat hE
      go_wp2_with fail
      refine (growth_any y _ s0 s1 (by omega) (by omega)).mono ?_
      rintro r w4 ⟨rfl, hb⟩
      have HO4 := Lib.hid (own_below HO3.out hb)
      have HB4 := Lib.hid (HB3.out.trans (hb.mono (by omega)))
      clear hb
      go_wp2_with fail
      go_roundw
      case rel => exact ⟨k + 1, m + grow y, done ++ [E], by omega, by go_num, rfl, HLen.out, HD3.out, HO4.out, by omega, by omega, HB4.out⟩
      case measure => simp [intOf]; omega
    · obtain rfl : k = es.length := by omega
      have R : Hid (done = inv s 0 es) := by
        unfold Hid
        have h1 := HD.out
        rw [List.drop_length, inv, List.append_nil] at h1
        exact h1
      go_wp2_with fail
      go_ret2
      exact ⟨_, _, rfl, by rw [← R.out]; exact eds_own HO.out hdl.symm, HB2.out⟩
end Go.Proofs.Ytendbkbjmibchaa
