/- Contracts: the closure that keeps pieces in a slice; walk with it. -/
import Derived.Test.YtendbkbjmibchaaZB
import Derived.Test.YtendbkbjmibchaaCM
import Derived.Deep.AppendLies
namespace Go.Proofs.Ytendbkbjmibchaa
open Go.RowKit

theorem info79 : (Try.prog.info? 79).map (fun i => (i.zero, i.size, i.bytes)) = some (some (.agg #[.int .i64 0, .int .i64 0, .string ⟨#[]⟩]), 3, 32) := by kernel_rfl

def pcl (ps : List Pc) : List Value := ps.flatMap fun p => [.int .i64 p.f, .int .i64 p.t, .string p.x]
theorem pcl_app (a b : List Pc) : pcl (a ++ b) = pcl a ++ pcl b := by unfold pcl; simp
theorem pcl_one (e : Pc) : pcl [e] = [.int .i64 e.f, .int .i64 e.t, .string e.x] := by unfold pcl; simp
theorem pcl_len (es : List Pc) : (pcl es).length = es.length * 3 := by
  induction es with
  | nil => rfl
  | cons e r ih => rw [show e :: r = [e] ++ r from rfl, pcl_app, List.length_append, ih, pcl_one]; simp; omega
theorem pcl_at (es : List Pc) (i : Nat) (hi : i < es.length) : (pcl es)[i * 3]? = some (.int .i64 es[i].f) ∧ (pcl es)[i * 3 + 1]? = some (.int .i64 es[i].t) ∧ (pcl es)[i * 3 + 2]? = some (.string es[i].x) := by
  have h1 : pcl es = pcl (es.take i) ++ ([.int .i64 es[i].f, .int .i64 es[i].t, .string es[i].x] ++ pcl (es.drop (i + 1))) := by
    rw [← pcl_one, ← pcl_app, ← pcl_app, List.singleton_append, ← List.drop_eq_getElem_cons hi, List.take_append_drop]
  have h2 : (pcl (es.take i)).length = i * 3 := by rw [pcl_len, List.length_take, Nat.min_eq_left (by omega)]
  rw [h1]
  refine ⟨?_, ?_, ?_⟩
  all_goals
    rw [List.getElem?_append_right (by omega), h2]
    simp

theorem own_others {w w' : World} {base e sz n ex : Nat} {v : Value} {xs : List Value} {o : Option Nat} (h : w.ownsRow base e sz v n xs) (ho : Lib.OthersKept ex o w w') (he : e ≠ ex) (hv : v.ownBlock = none ∨ v.ownBlock ≠ o) : w'.ownsRow base e sz v n xs := by
  refine ⟨h.1, ?_⟩
  rcases h.2 with hx | ⟨g, cap, cur, hv', hb, hh, r⟩
  · exact .inl hx
  · refine .inr ⟨g, cap, cur, hv', hb, ho g _ hh (fun hc => ?_) (fun c fz hc => he (by injection hc)), r⟩
    subst hv'
    rcases hv with hv | hv
    · simp [Value.ownBlock] at hv
    · exact hv hc
theorem others_grownE {w w' : World} {b base n e sz : Nat} {v : Value} {xs : List Value} (hown : w.ownsRow base e sz v n xs) (hg : w.grownBy w' v.ownBlock) : Lib.OthersKept e (some b) w w' := fun k o hk hb ho => by
  have hlt : k < w.heap.size := by
    rcases Nat.lt_or_ge k w.heap.size with h | h
    · exact h
    · rw [Array.getElem?_eq_none h] at hk; cases hk
  rw [hg.block k hlt ?_]
  · exact hk
  · intro h
    rcases hown.2 with ⟨rfl, _⟩ | ⟨g, cap, cur, rfl, _, hh, _⟩
    · simp [Value.ownBlock] at h
    · simp only [Value.ownBlock, Option.some.injEq] at h
      subst h
      rw [hk] at hh
      injection hh with hh
      exact ho _ _ hh
theorem others_set (e : Nat) (w : World) (b : Nat) (j : Nat) (v : Value) : Lib.OthersKept e (some b) w (w.setCell ⟨b, j, none⟩ v) := fun k o hk hb _ => by
  rw [Below.heap_setCell w ⟨b, j, none⟩ v k (fun e => hb (by simp at e; rw [e]))]
  exact hk

/-- The variable in block rb holds a slice of its own: these pieces. -/
def PI (B rb : Nat) (ps : List Pc) (w : World) : Prop := B ≤ rb ∧ ∃ v, RowB w rb 96 #[v] ∧ w.ownsRow B 79 3 v ps.length (pcl ps) ∧ v.ownBlock ≠ some rb
theorem PI_keep {B rb : Nat} {ps : List Pc} {w w' : World} (h : PI B rb ps w) (ho : Lib.OthersKept 3 none w w') : PI B rb ps w' := by
  obtain ⟨hB, v, h1, h2, h3⟩ := h
  refine ⟨hB, v, ho rb _ h1 (by simp) (fun c fz hc => by injection hc with _ hc; exact absurd hc (by decide)), own_others h2 ho (by decide) ?_, h3⟩
  cases hv : v.ownBlock
  · exact .inl rfl
  · exact .inr (by simp)

set_option maxHeartbeats 2000000 in
set_option maxRecDepth 100000 in
theorem lay63 (B rb : Nat) (ps : List Pc) (p : Pc) (w : World) (hI : PI B rb ps w) (hG : ps.length ≤ 1000000) (hBw : B ≤ w.heap.size) :
    Calls Try.prog 63 #[pv p, .pointer (some ⟨rb, 0, none⟩)] w fun en w' => en = .returned (.tuple #[]) ∧ PI B rb (ps ++ [p]) w' ∧ Below B w w' ∧ Lib.OthersKept 79 (some rb) w w' := by
  obtain ⟨i0, hi, hz0, hz1, hz2⟩ := info_parts info79
  obtain ⟨hB, v, hr, hown, hne⟩ := hI
  have hlt := hr.lt
  have c0 : (w.alloc (.cells #[.int .i64 p.f, .int .i64 p.t, .string p.x] 79)).cell? ⟨rb, 0, none⟩ = some v := (hr.alloc _).cell 0
  have HR := Lib.hid hr
  have HO := Lib.hid hown
  have HN := Lib.hid hne
  have hml : ps.length + 1 ≤ maxLen := by unfold maxLen; omega
  obtain ⟨AO, co, rfl⟩ := own_form3 hown
  have hnb : ∀ o, ((w.alloc (.cells #[.int .i64 p.f, .int .i64 p.t, .string p.x] 79)).alloc o).heap[w.heap.size + 1]? = some o := fun o => by
    have := heap_alloc_new (w.alloc (.cells #[.int .i64 p.f, .int .i64 p.t, .string p.x] 79)) o
    rw [show (w.alloc (.cells #[.int .i64 p.f, .int .i64 p.t, .string p.x] 79)).heap.size = w.heap.size + 1 by simp] at this
    exact this
  have HNB := Lib.hid hnb
  clear hr hown hne hnb
  go_enter Try.func63, Try.ntmps63
  go_wp2_with (at_builtin; refine wpList_append_lies _ rfl (.tmp 3) (.tmp 5) 96 rfl B 79 i0 _ 3 32 Try.underlying96 hi hz0 hz1 hz2 rfl (by omega) (.slice AO ps.length co) ps.length (pcl ps) rfl ((HO.out.alloc _).alloc _) ⟨w.heap.size + 1, 0, none⟩ 1 1 [.int .i64 p.f, .int .i64 p.t, .string p.x] rfl rfl (World.news_of_block (cs := #[.int .i64 p.f, .int .i64 p.t, .string p.x]) (t := 79) (fr := (0, 0)) (HNB.out _)) (by simp [Value.oneCell']) (by omega) hml (by omega) (by simp; omega) (w.heap.size + 2) (by simp) ?_)
  intro g cap w1 hown1 hgrow hat hg1
  have hrb : RowB w1 rb 96 #[.slice AO ps.length co] := ((HR.out.alloc _).alloc _).grown hgrow (Ne.symm HN.out)
  have hgr : g ≠ rb := by
    rcases hat with h | h
    · intro e; rw [e] at h; exact HN.out h
    · omega
  have f1 : w1.frozen? ⟨rb, 0, none⟩ = false := hrb.thaw 0
  have f2 : w1.cell? ⟨rb, 0, none⟩ = some (.slice AO ps.length co) := hrb.cell 0
  have R1 : Hid (PI B rb (ps ++ [p]) (w1.setCell ⟨rb, 0, none⟩ (.slice (some ⟨g, 0, none⟩) (ps.length + 1) cap))) := by
    refine ⟨hB, .slice (some ⟨g, 0, none⟩) (ps.length + 1) cap, hrb.put 0 _, own_others (ex := 3) ?_ (others_set 3 w1 rb 0 _) (by decide) (.inr (by simp [Value.ownBlock]; exact hgr)), by simp [Value.ownBlock]; exact hgr⟩
    rw [List.length_append, pcl_app, pcl_one]
    exact hown1
  have R2 := Lib.hid (((((Below.refl B w).alloc hBw (.cells #[.int .i64 p.f, .int .i64 p.t, .string p.x] 79)).alloc (by simp; omega) (.cells #[.int .i64 p.f, .int .i64 p.t, .string p.x] 79)).grown hgrow (by simp; omega) (fun k hk => (HO.out.lt k hk).1)).setCell (p := ⟨rb, 0, none⟩) hB (.slice (some ⟨g, 0, none⟩) (ps.length + 1) cap))
  have R3 := Lib.hid ((((Lib_kept_alloc w 79 (some rb) (.cells #[.int .i64 p.f, .int .i64 p.t, .string p.x] 79)).trans (Lib_kept_alloc _ 79 (some rb) (.cells #[.int .i64 p.f, .int .i64 p.t, .string p.x] 79))).trans (others_grownE (b := rb) ((HO.out.alloc _).alloc _) hgrow)).trans (others_set 79 w1 rb 0 (.slice (some ⟨g, 0, none⟩) (ps.length + 1) cap)))
  clear hown1 hgrow hat hrb
  go_wp2
  go_end0
  exact ⟨rfl, R1.out, R2.out, R3.out⟩

theorem lays63 (B rb : Nat) : Lays 63 [.pointer (some ⟨rb, 0, none⟩)] B rb 79 (PI B rb) (fun _ ps => ps.length ≤ 1000000) where
  call := fun ps p w hI hG hB => lay63 B rb ps p w hI hG hB
  keep := fun ps w w' h hs ho => PI_keep h ho
end Go.Proofs.Ytendbkbjmibchaa
