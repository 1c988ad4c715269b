/- Contracts: the document's reader: an import. -/
import Derived.Test.YthlkjfkgdijfdaaGreatDoorXD
import Derived.Test.YthlkjfkgdijfdaaGreatDoorNS
import Derived.Deep.AppendLies
namespace Go.Proofs.YthlkjfkgdijfdaaGreatDoor
open Go.RowKit
namespace Ps

/-- What a call of the reader that answers a node comes to. -/
def NodeP (X : Cx) (w : World) (r : Fo × Nat × Int) (e : Ending) (w' : World) : Prop :=
  ∃ h k A cap, r.1 = .one h k ∧ e = .returned (.tuple #[nv h A k.len cap, .int .i64 r.2.1]) ∧ KV w' (fun g => w.heap.size ≤ g) k A cap ∧ St X w' r.2.2 ∧ Fr X.rb w.heap.size w w' ∧ r.2.1 < X.l.length
abbrev zc : Array Value := #[.int .i64 0, .int .i64 0, .int .i64 0, .string ⟨#[]⟩, .int .i64 0, .slice none 0 0]
abbrev nc (h : Hd) (A : Option Addr) (n cap : Nat) : Array Value := #[.int .i64 h.kind, .int .i64 h.fro, .int .i64 h.til, .string h.word, .int .i64 h.at_, .slice A n cap]

set_option maxHeartbeats 4000000 in
set_option maxRecDepth 100000 in
theorem use_any (X : Cx) (b : Int) (i : Nat) (w : World) (hS : St X w b) (hi : i + 1 < X.l.length) :
    Calls Tryz.prog 57 #[X.p, .int .i64 i] w fun e w' => NodeP X w (useM X.l b i) e w' := by
  have hrb := hS.row.lt
  have hle := hS.wf.le
  obtain ⟨j, hj⟩ : ∃ j, j = i + 1 := ⟨_, rfl⟩
  obtain ⟨⟨⟨k1, f1, t1, wd1, q1⟩, a1, b1⟩, h1⟩ : ∃ r, r = wordM X.l b ⟨23, j, 0, e0, 0⟩ j := ⟨_, rfl⟩
  obtain ⟨⟨a2, b2⟩, h2⟩ : ∃ r, r = wantM X.l b1 a1 sDot := ⟨_, rfl⟩
  obtain ⟨⟨⟨k3, f3, t3, wd3, q3⟩, a3, b3⟩, h3⟩ : ∃ r, r = wordM X.l b2 ⟨2, i, 0, e0, 0⟩ a2 := ⟨_, rfl⟩
  obtain ⟨⟨a4, b4⟩, h4⟩ : ∃ r, r = wantM X.l b3 a3 sSem := ⟨_, rfl⟩
  have hres : useM X.l b i = (.one ⟨k3, f3, a4, wd3, q3⟩ (.one ⟨k1, f1, a1, wd1, q1⟩ .nil), a4, b4) := by
    unfold useM
    simp only [← hj, ← h1, ← h2, ← h3, ← h4]
  rw [hres]
  have C1 : Hid (∀ w', St X w' b → Calls Tryz.prog 44 #[X.p, nv ⟨23, j, 0, e0, 0⟩ none 0 0, .int .i64 j] w' fun e w'' => WordP X w' (⟨k1, f1, t1, wd1, q1⟩, a1, b1) none 0 0 e w'') := fun w' h => by rw [h1]; exact word_any X b _ none 0 0 j w' h (by omega)
  have C2 : Hid (a1 < X.l.length → ∀ w', St X w' b1 → Calls Tryz.prog 45 #[X.p, .int .i64 a1, .string ⟨#[46]⟩] w' fun e w'' => AtP X w' (a2, b2) e w'') := fun hl w' h => by rw [h2]; exact want_any X b1 a1 ⟨#[46]⟩ w' h hl
  have C3 : Hid (a2 < X.l.length → ∀ w', St X w' b2 → Calls Tryz.prog 44 #[X.p, nv ⟨2, i, 0, e0, 0⟩ none 0 0, .int .i64 a2] w' fun e w'' => WordP X w' (⟨k3, f3, t3, wd3, q3⟩, a3, b3) none 0 0 e w'') := fun hl w' h => by rw [h3]; exact word_any X b2 _ none 0 0 a2 w' h hl
  have C4 : Hid (a3 < X.l.length → ∀ w', St X w' b3 → Calls Tryz.prog 45 #[X.p, .int .i64 a3, .string ⟨#[59]⟩] w' fun e w'' => AtP X w' (a4, b4) e w'') := fun hl w' h => by rw [h4]; exact want_any X b3 a3 ⟨#[59]⟩ w' h hl
  have L0 := Lib.hid ((LS.start hS).alloc w.heap.size rfl 25 zc)
  have e1 : IntKind.i64.wrap ((i : Int) + 1) = (j : Int) := by rw [IntKind.wrap_i64]; omega
  clear hS h1 h2 h3 h4 hres hj
  go_enter Tryz.func57, Tryz.ntmps57
  go_wp2_with fail
  refine (C1.out _ L0.out.st).mono ?_
  rintro e w1 ⟨rfl, hS1, hF1, hl1⟩
  have L1 := Lib.hid (((L0.out.step hS1 hF1).alloc w1.heap.size rfl 25 (nc ⟨k1, f1, a1, wd1, q1⟩ none 0 0)).alloc (w1.heap.size + 1) (by simp) 25 (nc ⟨2, i, 0, e0, 0⟩ none 0 0))
  clear hS1 hF1
  go_wp2_with fail
  refine (C2.out hl1 _ L1.out.st).mono ?_
  rintro e w2 ⟨rfl, hS2, hF2, hl2⟩
  have L2 := Lib.hid (L1.out.step hS2 hF2)
  have r2 := (L2.out.row 0 rfl).cell
  clear hS2 hF2
  go_wp2_with fail
  refine (C3.out hl2 _ L2.out.st).mono ?_
  rintro e w3 ⟨rfl, hS3, hF3, hl3⟩
  have L3 := Lib.hid ((L2.out.step hS3 hF3).put6 0 rfl rfl (.int .i64 k3) (.int .i64 f3) (.int .i64 t3) (.string wd3) (.int .i64 q3) (.slice none 0 0))
  have r3 := ((L2.out.step hS3 hF3).row 0 rfl).cell
  have t3' := ((L2.out.step hS3 hF3).row 0 rfl).thaw
  clear hS3 hF3 r2
  go_wp2_with fail
  refine (C4.out hl3 _ L3.out.st).mono ?_
  rintro e w4 ⟨rfl, hS4, hF4, hl4⟩
  have L4 := Lib.hid (L3.out.step hS4 hF4)
  have r4 := (L4.out.row 0 rfl).cell
  have r5 := (L4.out.row 1 rfl).cell
  have r6 := (L4.out.row 2 rfl).cell
  have t6 := (L4.out.row 2 rfl).thaw
  clear hS4 hF4 r3 t3'
  go_wp2_with fail
  have L5 := Lib.hid (L4.out.slice w4.heap.size rfl (k := .one ⟨k1, f1, a1, wd1, q1⟩ .nil) (cs := nc ⟨k1, f1, a1, wd1, q1⟩ none 0 0) (FC.one (KV.nil _ _ _ _)))
  refine (ended_any ⟨k3, f3, t3, wd3, q3⟩ none 0 0 a4 (some ⟨w4.heap.size, 0, none⟩) 1 1 _).mono ?_
  rintro e w5 ⟨rfl, hb5⟩
  have L6 := Lib.hid ((L5.out.other hb5).put6 2 rfl rfl (.int .i64 k3) (.int .i64 f3) (.int .i64 a4) (.string wd3) (.int .i64 q3) (.slice (some ⟨w4.heap.size, 0, none⟩) 1 1))
  have r7 := ((L5.out.other hb5).row 2 rfl).cell
  have t7 := ((L5.out.other hb5).row 2 rfl).thaw
  have r8 := (L6.out.row 2 rfl).cell
  clear hb5 r4 r5 r6 t6
  go_wp2
  refine bodyPost_ret ?_ rfl ⟨⟨k3, f3, a4, wd3, q3⟩, .one ⟨k1, f1, a1, wd1, q1⟩ .nil, some ⟨w4.heap.size, 0, none⟩, 1, rfl, rfl, ?_, L6.out.st, L6.out.fr, hl4⟩
  · simp [results, Tryz.results57, go_sem, r8]
    rfl
  · exact (L6.out.kidP 0 rfl).new_ (fun g h => h.1)
end Ps
end Go.Proofs.YthlkjfkgdijfdaaGreatDoor
