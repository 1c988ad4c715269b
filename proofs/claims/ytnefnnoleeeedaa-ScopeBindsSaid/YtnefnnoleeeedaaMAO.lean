import Derived.Test.YtnefnnoleeeedaaMAN
import Derived.Test.YtnefnnoleeeedaaMAJ
namespace Go.Proofs.Ytnefnnoleeeedaa
open Go.RowKit Go.Op
namespace Sc
open Vm
structure Mr (b B : Nat) (w : World) (K : Nat → Prop) (R : Rm) (N : Nat) (v1 v2 v3 : Value) : Prop where
  row : RowB w b 40 #[v1, v2, v3]
  o1 : w.ownsRow B 64 4 v1 R.bs.length (R.bs.flatMap bdC)
  o2 : w.ownsRow B 65 4 v2 R.ms.length (R.ms.flatMap mnC)
  o3 : w.ownsRow B 67 2 v3 R.bad.length (R.bad.flatMap baC)
  sum : R.bs.length + R.ms.length + R.bad.length ≤ N
  kb : K b
  k1 : ∀ g, v1.ownBlock = some g → K g
  k2 : ∀ g, v2.ownBlock = some g → K g
  k3 : ∀ g, v3.ownBlock = some g → K g
  lt : ∀ g, K g → B ≤ g ∧ g < w.heap.size
variable {b B : Nat} {w w' : World} {K : Nat → Prop} {R : Rm} {N : Nat} {v1 v2 v3 : Value}
theorem Mr.keep (h : Mr b B w K R N v1 v2 v3) (hs : w.heap.size ≤ w'.heap.size) (hb : ∀ g, K g → w'.heap[g]? = w.heap[g]?) : Mr b B w' K R N v1 v2 v3 :=
  ⟨(hb _ h.kb).trans h.row, own_block h.o1 fun g e => hb g (h.k1 g e), own_block h.o2 fun g e => hb g (h.k2 g e), own_block h.o3 fun g e => hb g (h.k3 g e), h.sum, h.kb, h.k1, h.k2, h.k3, fun g hg => ⟨(h.lt g hg).1, Nat.lt_of_lt_of_le (h.lt g hg).2 hs⟩⟩
theorem Mr.alloc (h : Mr b B w K R N v1 v2 v3) (o : Obj) : Mr b B (w.alloc o) K R N v1 v2 v3 := h.keep (by simp) fun g hg => Below.heap_alloc w o g (h.lt g hg).2
theorem Mr.drew (h : Mr b B w K R N v1 v2 v3) : Mr b B w.drew K R N v1 v2 v3 := h.keep (Nat.le_refl _) fun _ _ => rfl
theorem Mr.set (h : Mr b B w K R N v1 v2 v3) {p : Addr} (hp : ¬ K p.block) (u : Value) : Mr b B (w.setCell p u) K R N v1 v2 v3 :=
  h.keep (by simp [World.setCell]) fun g hg => Below.heap_setCell w p u g (fun e => hp (e ▸ hg))
theorem Mr.below (h : Mr b B w K R N v1 v2 v3) (hb : Below w.heap.size w w') : Mr b B w' K R N v1 v2 v3 := h.keep hb.size fun g hg => hb.block g (h.lt g hg).2
theorem Mr.mono (h : Mr b B w K R N v1 v2 v3) {N' : Nat} (hN : N ≤ N') : Mr b B w K R N' v1 v2 v3 := { h with sum := Nat.le_trans h.sum hN }
theorem Mr.inv (h : Mr b B w K R N v1 v2 v3) : ¬ K w.heap.size := fun hk => by have := (h.lt _ hk).2; omega
theorem Mr.app1 (h : Mr b B w K R N v1 v2 v3) {w1 : World} {v' : Value} {x : Bd} (ho : w1.ownsRow B 64 4 v' (R.bs.length + 1) (R.bs.flatMap bdC ++ bdC x)) (hg : w.grownBy w1 v1.ownBlock) (hl : v'.ownBlock = v1.ownBlock ∨ v'.ownBlock = some w.heap.size) :
    Mr b B (w1.setCell ⟨b, 0, none⟩ v') (KU K v') ⟨R.bs ++ [x], R.ms, R.bad⟩ (N + 1) v' v2 v3 ∧ Gx K w (KU K v') (w1.setCell ⟨b, 0, none⟩ v') := by
  have hrow1 : RowB w1 b 40 #[v1, v2, v3] := (hg.block _ h.row.lt (fun e => own_ne_row h.o1 h.row (by decide) e.symm)).trans h.row
  have hS : ∀ g, g ≠ b → (w1.setCell ⟨b, 0, none⟩ v').heap[g]? = w1.heap[g]? := fun g hn => Below.heap_setCell w1 ⟨b, 0, none⟩ v' g hn
  have hB : ∀ g, K g → g ≠ b → some g ≠ v1.ownBlock → (w1.setCell ⟨b, 0, none⟩ v').heap[g]? = w.heap[g]? := fun g hk hn hne => (hS g hn).trans (hg.block g (h.lt g hk).2 hne)
  have hGx := put_gx (grown_gx hg h.k1 hl) (p := ⟨b, 0, none⟩) h.kb v'
  have hl1 : (R.bs ++ [x]).length = R.bs.length + 1 := by simp
  have hf1 : (R.bs ++ [x]).flatMap bdC = R.bs.flatMap bdC ++ bdC x := by rw [List.flatMap_append]; simp
  refine ⟨⟨hrow1.put 0 v', ?o1, ?o2, ?o3, ?sum, .inl h.kb, fun g e => .inr e, fun g e => .inl (h.k2 g e), fun g e => .inl (h.k3 g e), ?lt⟩, hGx⟩
  case sum => have := h.sum; simp only [List.length_append, List.length_cons, List.length_nil]; omega
  case lt =>
    intro g hk
    rcases hk with hk | hk
    · exact ⟨(h.lt g hk).1, Nat.lt_of_lt_of_le (h.lt g hk).2 (by simpa [World.setCell] using hg.size)⟩
    · have := ho.lt g hk
      exact ⟨this.1, by simpa [World.setCell] using this.2⟩
  case o1 =>
    show World.ownsRow _ B 64 4 v' (R.bs ++ [x]).length ((R.bs ++ [x]).flatMap bdC)
    rw [hl1, hf1]
    exact own_block ho fun g e => hS g (fun e2 => own_ne_row ho hrow1 (by decide) (e2 ▸ e))
  case o2 =>
    refine own_block h.o2 fun g e => hB g (h.k2 g e) (fun e2 => own_ne_row h.o2 h.row (by decide) (e2 ▸ e)) (fun e2 => ?_)
    rcases own_apart h.o1 h.o2 (by decide) with a | a
    · rw [a] at e2; cases e2
    · exact a (e2.symm.trans e.symm)
  case o3 =>
    refine own_block h.o3 fun g e => hB g (h.k3 g e) (fun e2 => own_ne_row h.o3 h.row (by decide) (e2 ▸ e)) (fun e2 => ?_)
    rcases own_apart h.o1 h.o3 (by decide) with a | a
    · rw [a] at e2; cases e2
    · exact a (e2.symm.trans e.symm)
theorem Mr.app2 (h : Mr b B w K R N v1 v2 v3) {w1 : World} {v' : Value} {x : Mn} (ho : w1.ownsRow B 65 4 v' (R.ms.length + 1) (R.ms.flatMap mnC ++ mnC x)) (hg : w.grownBy w1 v2.ownBlock) (hl : v'.ownBlock = v2.ownBlock ∨ v'.ownBlock = some w.heap.size) :
    Mr b B (w1.setCell ⟨b, 1, none⟩ v') (KU K v') ⟨R.bs, R.ms ++ [x], R.bad⟩ (N + 1) v1 v' v3 ∧ Gx K w (KU K v') (w1.setCell ⟨b, 1, none⟩ v') := by
  have hrow1 : RowB w1 b 40 #[v1, v2, v3] := (hg.block _ h.row.lt (fun e => own_ne_row h.o2 h.row (by decide) e.symm)).trans h.row
  have hS : ∀ g, g ≠ b → (w1.setCell ⟨b, 1, none⟩ v').heap[g]? = w1.heap[g]? := fun g hn => Below.heap_setCell w1 ⟨b, 1, none⟩ v' g hn
  have hB : ∀ g, K g → g ≠ b → some g ≠ v2.ownBlock → (w1.setCell ⟨b, 1, none⟩ v').heap[g]? = w.heap[g]? := fun g hk hn hne => (hS g hn).trans (hg.block g (h.lt g hk).2 hne)
  have hGx := put_gx (grown_gx hg h.k2 hl) (p := ⟨b, 1, none⟩) h.kb v'
  have hl1 : (R.ms ++ [x]).length = R.ms.length + 1 := by simp
  have hf1 : (R.ms ++ [x]).flatMap mnC = R.ms.flatMap mnC ++ mnC x := by rw [List.flatMap_append]; simp
  refine ⟨⟨hrow1.put 1 v', ?o1, ?o2, ?o3, ?sum, .inl h.kb, fun g e => .inl (h.k1 g e), fun g e => .inr e, fun g e => .inl (h.k3 g e), ?lt⟩, hGx⟩
  case sum => have := h.sum; simp only [List.length_append, List.length_cons, List.length_nil]; omega
  case lt =>
    intro g hk
    rcases hk with hk | hk
    · exact ⟨(h.lt g hk).1, Nat.lt_of_lt_of_le (h.lt g hk).2 (by simpa [World.setCell] using hg.size)⟩
    · have := ho.lt g hk
      exact ⟨this.1, by simpa [World.setCell] using this.2⟩
  case o2 =>
    show World.ownsRow _ B 65 4 v' (R.ms ++ [x]).length ((R.ms ++ [x]).flatMap mnC)
    rw [hl1, hf1]
    exact own_block ho fun g e => hS g (fun e2 => own_ne_row ho hrow1 (by decide) (e2 ▸ e))
  case o1 =>
    refine own_block h.o1 fun g e => hB g (h.k1 g e) (fun e2 => own_ne_row h.o1 h.row (by decide) (e2 ▸ e)) (fun e2 => ?_)
    rcases own_apart h.o2 h.o1 (by decide) with a | a
    · rw [a] at e2; cases e2
    · exact a (e2.symm.trans e.symm)
  case o3 =>
    refine own_block h.o3 fun g e => hB g (h.k3 g e) (fun e2 => own_ne_row h.o3 h.row (by decide) (e2 ▸ e)) (fun e2 => ?_)
    rcases own_apart h.o2 h.o3 (by decide) with a | a
    · rw [a] at e2; cases e2
    · exact a (e2.symm.trans e.symm)
theorem Mr.app3 (h : Mr b B w K R N v1 v2 v3) {w1 : World} {v' : Value} {x : Int × Int} (ho : w1.ownsRow B 67 2 v' (R.bad.length + 1) (R.bad.flatMap baC ++ baC x)) (hg : w.grownBy w1 v3.ownBlock) (hl : v'.ownBlock = v3.ownBlock ∨ v'.ownBlock = some w.heap.size) :
    Mr b B (w1.setCell ⟨b, 2, none⟩ v') (KU K v') ⟨R.bs, R.ms, R.bad ++ [x]⟩ (N + 1) v1 v2 v' ∧ Gx K w (KU K v') (w1.setCell ⟨b, 2, none⟩ v') := by
  have hrow1 : RowB w1 b 40 #[v1, v2, v3] := (hg.block _ h.row.lt (fun e => own_ne_row h.o3 h.row (by decide) e.symm)).trans h.row
  have hS : ∀ g, g ≠ b → (w1.setCell ⟨b, 2, none⟩ v').heap[g]? = w1.heap[g]? := fun g hn => Below.heap_setCell w1 ⟨b, 2, none⟩ v' g hn
  have hB : ∀ g, K g → g ≠ b → some g ≠ v3.ownBlock → (w1.setCell ⟨b, 2, none⟩ v').heap[g]? = w.heap[g]? := fun g hk hn hne => (hS g hn).trans (hg.block g (h.lt g hk).2 hne)
  have hGx := put_gx (grown_gx hg h.k3 hl) (p := ⟨b, 2, none⟩) h.kb v'
  have hl1 : (R.bad ++ [x]).length = R.bad.length + 1 := by simp
  have hf1 : (R.bad ++ [x]).flatMap baC = R.bad.flatMap baC ++ baC x := by rw [List.flatMap_append]; simp
  refine ⟨⟨hrow1.put 2 v', ?o1, ?o2, ?o3, ?sum, .inl h.kb, fun g e => .inl (h.k1 g e), fun g e => .inl (h.k2 g e), fun g e => .inr e, ?lt⟩, hGx⟩
  case sum => have := h.sum; simp only [List.length_append, List.length_cons, List.length_nil]; omega
  case lt =>
    intro g hk
    rcases hk with hk | hk
    · exact ⟨(h.lt g hk).1, Nat.lt_of_lt_of_le (h.lt g hk).2 (by simpa [World.setCell] using hg.size)⟩
    · have := ho.lt g hk
      exact ⟨this.1, by simpa [World.setCell] using this.2⟩
  case o3 =>
    show World.ownsRow _ B 67 2 v' (R.bad ++ [x]).length ((R.bad ++ [x]).flatMap baC)
    rw [hl1, hf1]
    exact own_block ho fun g e => hS g (fun e2 => own_ne_row ho hrow1 (by decide) (e2 ▸ e))
  case o1 =>
    refine own_block h.o1 fun g e => hB g (h.k1 g e) (fun e2 => own_ne_row h.o1 h.row (by decide) (e2 ▸ e)) (fun e2 => ?_)
    rcases own_apart h.o3 h.o1 (by decide) with a | a
    · rw [a] at e2; cases e2
    · exact a (e2.symm.trans e.symm)
  case o2 =>
    refine own_block h.o2 fun g e => hB g (h.k2 g e) (fun e2 => own_ne_row h.o2 h.row (by decide) (e2 ▸ e)) (fun e2 => ?_)
    rcases own_apart h.o3 h.o2 (by decide) with a | a
    · rw [a] at e2; cases e2
    · exact a (e2.symm.trans e.symm)
end Sc
end Go.Proofs.Ytnefnnoleeeedaa
namespace Go.Proofs.Ytnefnnoleeeedaa
open Go.RowKit Go.Op
namespace Sc
open Vm
open Sb
def NK (w : World) (K : Nat → Prop) (lo : Nat) (A : Option Addr) (c : Nat) (L : List Nm) : Prop := NL w lo A c L ∧ (0 < L.length → ∀ g, A = some ⟨g, 0, none⟩ → ¬ K g)
theorem NK.gx {w w' : World} {K K' : Nat → Prop} {lo : Nat} {A : Option Addr} {c : Nat} {L : List Nm} (h : NK w K lo A c L) (g : Gx K w K' w') : NK w' K' lo A c L := by
  refine ⟨⟨fun h0 => ?_, h.1.2⟩, fun h0 a e hk => ?_⟩
  · obtain ⟨a, e, h1, h2, h3⟩ := h.1.1 h0
    have hn := h.2 (by simpa using h0) a e
    exact ⟨a, e, h1, Nat.lt_of_lt_of_le h2 g.size, fun i x hx j u hj => (World.cell?_of_block (w := w) (g.block a h2 hn)).trans (h3 i x hx j u hj)⟩
  · obtain ⟨a', e', _, h2, _⟩ := h.1.1 (by simpa using h0)
    rw [e] at e'
    injection e' with e'
    injection e' with e'
    subst e'
    rcases g.own a hk with h1 | h1
    · exact h.2 h0 a e h1
    · omega
def Named (b B : Nat) (w : World) (K : Nat → Prop) (x : Rm × List Nm) (N : Nat) (e : Ending) (w' : World) : Prop :=
  ∃ A c K' v1 v2 v3 lo, e = .returned (.slice A x.2.length c) ∧ Mr b B w' K' x.1 N v1 v2 v3 ∧ Gx K w K' w' ∧ NK w' K' lo A c x.2
theorem bl_iff {x y : ByteArray} : x.toList = y.toList ↔ x = y := by
  rw [ByteArray.toList_eq, ByteArray.toList_eq]
  constructor
  · intro h
    have h4 : x.data = y.data := Array.toList_inj.1 h
    obtain ⟨⟨xx⟩⟩ := x
    obtain ⟨⟨yy⟩⟩ := y
    simp only at h4
    rw [h4]
  · rintro rfl
    rfl
theorem wi_get {wn : List Int} {m : Nat} : ∀ {L : List Nm} {p : Nat} {y : Nm}, Wi wn m L → L[p]? = some y → y.begins = false → y.tgt < m
  | [], p, y, _, h, _ => by simp at h
  | x :: r, 0, y, ⟨h1, _⟩, h, hb => by
    simp only [List.getElem?_cons_zero, Option.some.injEq] at h
    subst h
    rcases h1 with h1 | h1
    · rw [hb] at h1; cases h1
    · exact h1.1
  | x :: r, p + 1, y, ⟨_, h2⟩, h, hb => wi_get h2 (by simpa using h) hb
theorem dup_drop {bs : List Bd} {x : ByteArray} {L : List Nm} {p : Nat} {y : Nm} (h : L[p]? = some y) : dup bs x (L.drop p) = if y.begins = true then false else if wordOf bs y.tgt = x then true else dup bs x (L.drop (p + 1)) := by
  obtain ⟨hp, rfl⟩ := List.getElem?_eq_some_iff.1 h
  rw [List.drop_eq_getElem_cons hp, dup]
set_option maxHeartbeats 40000000 in
set_option maxRecDepth 100000 in
theorem bindr_any {b B : Nat} {w : World} {K : Nat → Prop} {R : Rm} {N : Nat} {v1 v2 v3 : Value} (h : Mr b B w K R N v1 v2 v3) {lo : Nat} {AL : Option Addr} {cL : Nat} {L : List Nm} (hl : NK w K lo AL cL L) (hn : L.length ≤ 10000000) (wn : List Int) (hw : Wi wn R.bs.length L) (n : Hi) (A : Option Addr) (k c : Nat) (kd it : Int) (hN : N ≤ 100000000) :
    Calls Try.prog 25 #[.pointer (some ⟨b, 0, none⟩), .slice AL L.length cL, hvv n A k c, .int .i64 kd, .int .i64 it] w (Named b B w K (bindR n.at_ n.word kd it (R, L)) (N + 2)) := by
  have H1 := Lib.hid (h.alloc (.cells (hcc n A k c) 25))
  have G1 := Lib.hid (Gx.alloc K w (.cells (hcc n A k c) 25))
  have HR := Lib.hid (RowB.new w 25 (hcc n A k c))
  have HNK0 := Lib.hid hl
  have HNE0 : Hid (w.heap.size ≠ b) := by have := (h.lt _ h.kb).2; unfold Hid; omega
  have HW := Lib.hid hw
  obtain ⟨n0, hn0⟩ : ∃ n0, n0 = L.length := ⟨_, rfl⟩
  have HN0 := Lib.hid hn0
  rw [← hn0] at hn ⊢
  simp only [hcc] at *
  clear h hl hw hn0
  have ek0 : IntKind.i64.wrap ((n0 : Int) - 1) = (n0 : Int) - 1 := by rw [IntKind.wrap_i64]; omega
  go_enter Try.func25, Try.ntmps25
  go_wp2_with fail
  obtain ⟨W1, hW1⟩ : ∃ W1, W1 = w.alloc (.cells #[.int .i64 n.kind, .int .i64 n.fro, .int .i64 n.til, .string n.word, .int .i64 n.at_, .slice A k c] 25) := ⟨_, rfl⟩
  rw [← hW1] at H1 G1 HR ⊢
  clear hW1
  obtain ⟨bx, hbx⟩ : ∃ bx, bx = w.heap.size := ⟨_, rfl⟩
  rw [← hbx] at HR HNE0 ⊢
  have HBX := Lib.hid hbx
  clear hbx
  go_loopg [11] (n0 + 1) (fun kx s11 W1 => ∃ (p : Nat), s11 = .int .i64 ((n0 : Int) - 1 - (p : Int)) ∧ n0 - p ≤ kx ∧ p ≤ n0 ∧ Hid (Mr b B W1 K R N v1 v2 v3) ∧ Hid (Gx K w K W1) ∧ Hid (RowB W1 bx 25 #[.int .i64 n.kind, .int .i64 n.fro, .int .i64 n.til, .string n.word, .int .i64 n.at_, .slice A k c]) ∧ Hid (dup R.bs n.word L = dup R.bs n.word (L.drop p)))
  case atStart => exact ⟨0, by simp, by omega, by omega, H1.out, G1.out, HR.out, by rw [List.drop_zero]; rfl⟩
  case round =>
    clear H1 G1 HR
    obtain ⟨p, rfl, hkx, hpn, H1, G1, HR, HD⟩ := hrel
    obtain ⟨W1, hW1⟩ : ∃ W1, W1 = wr := ⟨_, rfl⟩
    rw [← hW1] at H1 G1 HR ⊢
    clear hW1
    by_cases hp : p < n0
    · obtain ⟨y, hy⟩ : ∃ y, L[p]? = some y := ⟨L[p]'(by rw [← HN0.out]; exact hp), List.getElem?_eq_getElem _⟩
      obtain ⟨q, hq⟩ : ∃ q : Nat, q = n0 - 1 - p := ⟨_, rfl⟩
      have hqi : (n0 : Int) - 1 - (p : Int) = (q : Int) := by omega
      rw [hqi]
      have hql : (q : Int) < (n0 : Int) := by omega
      have hrev : L.reverse[q]? = some y := by
        have hln := HN0.out
        rw [List.getElem?_reverse (by omega), show L.length - 1 - q = p by omega]
        exact hy
      obtain ⟨gl, eA, _, hgl, hcl⟩ := (HNK0.out.gx G1.out).1.1 (by rw [List.length_reverse, ← HN0.out]; omega)
      subst eA
      have z0 : W1.cell? ⟨gl, q * 3, none⟩ = some (.int .i64 (y.tgt : Int)) := hcl q y hrev 0 _ rfl
      have z1 : W1.cell? ⟨gl, q * 3 + 1, none⟩ = some (.bool y.begins) := hcl q y hrev 1 _ rfl
      have z2 : W1.cell? ⟨gl, q * 3 + 2, none⟩ = some (.bool y.lambda) := hcl q y hrev 2 _ rfl
      have hdd := dup_drop (bs := R.bs) (x := n.word) hy
      obtain ⟨ytg, yb, yl⟩ := y
      simp only at z0 z1 z2 hdd
      have hg0 : decide ((0 : Int) ≤ (q : Int)) = true := decide_eq_true (by omega)
      have HQ := Lib.hid hq
      have HQI := Lib.hid hqi
      clear hq hqi
      cases yb with
      | true =>
        rw [if_pos rfl] at hdd
        have HDF : Hid (dup R.bs n.word L = false) := by unfold Hid; rw [HD.out, hdd]
        clear hdd HD hy hrev hcl
        go_wp2_with fail
        refine wp_region_G (S := SG (fun _ => True) 16 (fun w' => RowB w' b 40 #[v1, v2, v3] ∧ RowB w' bx 25 #[.int .i64 n.kind, .int .i64 n.fro, .int .i64 n.til, .string n.word, .int .i64 n.at_, .slice A k c]) 99 (fun _ => True)) (by kernel_rfl) ⟨trivial, fun _ => ⟨H1.out.row, HR.out⟩, fun _ => trivial⟩ (fun hS => ?_)
        obtain ⟨WD, hWD⟩ : ∃ WD, WD = W1.drew := ⟨_, rfl⟩
        have H1 := Lib.hid (H1.out.drew)
        have G1 := Lib.hid (G1.out.trans (Gx.drew _ W1))
        replace HR := Lib.hid (show RowB W1.drew _ _ _ from HR.out)
        rw [← hWD] at hS H1 G1 HR ⊢
        clear hWD
        refine wpG_t1 (i := 0) (v := ?v1) rfl (by kernel_rfl) (fun _ _ _ h => h) hS (Or.inl ⟨by rfl, ?hy1⟩) ?rest1
        case hy1 => (intro w' hw; obtain ⟨_, q1, q2⟩ := hw; have u0 := q1.cell; have u1 := q2.cell; go_simp; try with_reducible rfl)
        replace hS := SG.set (i := 0) (by decide) (by decide) hS
        try simp only [pL]
        refine wpG_t1 (i := 1) (v := ?v2) rfl (by kernel_rfl) (fun _ _ _ h => h) hS (Or.inl ⟨by rfl, ?hy2⟩) ?rest2
        case hy2 => (intro w' hw; obtain ⟨_, q1, q2⟩ := hw; have u0 := q1.cell; have u1 := q2.cell; go_simp; try with_reducible rfl)
        replace hS := SG.set (i := 1) (by decide) (by decide) hS
        try simp only [pL]
        refine wpG_t1 (i := 2) (v := ?v3) rfl (by kernel_rfl) (fun _ _ _ h => h) hS (Or.inl ⟨by rfl, ?hy3⟩) ?rest3
        case hy3 => (intro w' hw; obtain ⟨_, q1, q2⟩ := hw; have u0 := q1.cell; have u1 := q2.cell; go_simp; try with_reducible rfl)
        replace hS := SG.set (i := 2) (by decide) (by decide) hS
        try simp only [pL]
        refine wpG_t1 (i := 3) (v := ?v4) rfl (by kernel_rfl) (fun _ _ _ h => h) hS (Or.inl ⟨by rfl, ?hy4⟩) ?rest4
        case hy4 => (intro w' hw; obtain ⟨_, q1, q2⟩ := hw; have u0 := q1.cell; have u1 := q2.cell; go_simp; try with_reducible rfl)
        replace hS := SG.set (i := 3) (by decide) (by decide) hS
        try simp only [pL]
        refine wpG_t1 (i := 4) (v := ?v5) rfl (by kernel_rfl) (fun _ _ _ h => h) hS (Or.inl ⟨by rfl, ?hy5⟩) ?rest5
        case hy5 => (intro w' hw; obtain ⟨_, q1, q2⟩ := hw; have u0 := q1.cell; have u1 := q2.cell; go_simp; try with_reducible rfl)
        replace hS := SG.set (i := 4) (by decide) (by decide) hS
        try simp only [pL]
        refine wpG_t1 (i := 5) (v := ?v6) rfl (by kernel_rfl) (fun _ _ _ h => h) hS (Or.inl ⟨by rfl, ?hy6⟩) ?rest6
        case hy6 => (intro w' hw; obtain ⟨_, q1, q2⟩ := hw; have u0 := q1.cell; have u1 := q2.cell; go_simp; try with_reducible rfl)
        replace hS := SG.set (i := 5) (by decide) (by decide) hS
        try simp only [pL]
        refine wpG_t1 (i := 6) (v := ?v7) rfl (by kernel_rfl) (fun _ _ _ h => h) hS (Or.inl ⟨by rfl, ?hy7⟩) ?rest7
        case hy7 => (intro w' hw; obtain ⟨_, q1, q2⟩ := hw; have u0 := q1.cell; have u1 := q2.cell; go_simp; try with_reducible rfl)
        replace hS := SG.set (i := 6) (by decide) (by decide) hS
        try simp only [pL]
        refine wpG_t1 (i := 7) (v := ?v8) rfl (by kernel_rfl) (fun _ _ _ h => h) hS (Or.inl ⟨by rfl, ?hy8⟩) ?rest8
        case hy8 => (intro w' hw; obtain ⟨_, q1, q2⟩ := hw; have u0 := q1.cell; have u1 := q2.cell; go_simp; try with_reducible rfl)
        replace hS := SG.set (i := 7) (by decide) (by decide) hS
        try simp only [pL]
        refine wpG_t1 (i := 8) (v := ?v9) rfl (by kernel_rfl) (fun _ _ _ h => h) hS (Or.inl ⟨by rfl, ?hy9⟩) ?rest9
        case hy9 => (intro w' hw; obtain ⟨_, q1, q2⟩ := hw; have u0 := q1.cell; have u1 := q2.cell; go_simp; try with_reducible rfl)
        replace hS := SG.set (i := 8) (by decide) (by decide) hS
        try simp only [pL]
        refine wpG_t1 (i := 9) (v := ?v10) rfl (by kernel_rfl) (fun _ _ _ h => h) hS (Or.inl ⟨by rfl, ?hy10⟩) ?rest10
        case hy10 => (intro w' hw; obtain ⟨_, q1, q2⟩ := hw; have u0 := q1.cell; have u1 := q2.cell; go_simp; try with_reducible rfl)
        replace hS := SG.set (i := 9) (by decide) (by decide) hS
        try simp only [pL]
        refine wpG_t1 (i := 10) (v := ?v11) rfl (by kernel_rfl) (fun _ _ _ h => h) hS (Or.inl ⟨by rfl, ?hy11⟩) ?rest11
        case hy11 => (intro w' hw; obtain ⟨_, q1, q2⟩ := hw; have u0 := q1.cell; have u1 := q2.cell; go_simp; try with_reducible rfl)
        replace hS := SG.set (i := 10) (by decide) (by decide) hS
        try simp only [pL]
        refine wpG_t1 (i := 11) (v := ?v12) rfl (by kernel_rfl) (fun _ _ _ h => h) hS (Or.inl ⟨by rfl, ?hy12⟩) ?rest12
        case hy12 => (intro w' hw; obtain ⟨_, q1, q2⟩ := hw; have u0 := q1.cell; have u1 := q2.cell; go_simp; try with_reducible rfl)
        replace hS := SG.set (i := 11) (by decide) (by decide) hS
        try simp only [pL]
        clear hS
        have H2 := Lib.hid (H1.out.alloc (.cells #[.int .i64 n.at_, .int .i64 kd, .string n.word, .int .i64 it] 64))
        have G2 := Lib.hid (G1.out.trans (Gx.alloc _ WD (.cells #[.int .i64 n.at_, .int .i64 kd, .string n.word, .int .i64 it] 64)))
        have RN := Lib.hid (RowB.new WD 64 #[.int .i64 n.at_, .int .i64 kd, .string n.word, .int .i64 it])
        have HR2 := Lib.hid (HR.out.alloc (.cells #[.int .i64 n.at_, .int .i64 kd, .string n.word, .int .i64 it] 64))
        refine wpG_ready (rs := [12]) (by kernel_rfl) (by simp) ?_
        refine RG.cons rfl rfl (fun K' hK => ?_) RG.nil
        go_simp
        refine hK.out _ _ ⟨trivial, fun _ => ⟨H2.out.row, HR2.out⟩, fun _ => trivial⟩ (fun hS => ?_)
        clear hK K'
        try simp only [pL]
        clear hS
        obtain ⟨W2, hW2⟩ : ∃ W2, W2 = WD.alloc (.cells #[.int .i64 n.at_, .int .i64 kd, .string n.word, .int .i64 it] 64) := ⟨_, rfl⟩
        rw [← hW2] at H2 G2 RN HR2 ⊢
        obtain ⟨v', W3, hr, ho, hg, hl⟩ := app_at (w := W2) (t := 36) (e := 64) (size := 4) (bytes := 40) (z := .agg #[.int .i64 0, .int .i64 0, .string ⟨#[]⟩, .int .i64 0]) Try.underlying36 (by kernel_rfl) rfl (by decide) (by decide) B v1 _ _ H2.out.o1 _ _ RN.out rfl (by intro u hu; simp at hu; rcases hu with rfl | rfl | rfl | rfl <;> rfl) (by have := H2.out.sum; omega) (by have := (H2.out.lt _ H2.out.kb); (try simp only at this); omega) 36
        have r3 : RowB W3 b 40 #[v1, v2, v3] := (hg.block _ H2.out.row.lt (fun e => own_ne_row H2.out.o1 H2.out.row (by decide) e.symm)).trans H2.out.row
        have b3 : RowB W3 bx 25 #[.int .i64 n.kind, .int .i64 n.fro, .int .i64 n.til, .string n.word, .int .i64 n.at_, .slice A k c] := (hg.block _ HR2.out.lt (fun e => own_ne_row H2.out.o1 HR2.out (by decide) e.symm)).trans HR2.out
        have FIN := Lib.hid (H2.out.app1 (x := ⟨n.at_, kd, n.word, it⟩) ho hg hl)
        obtain ⟨A', c', rfl, _⟩ := own_shape ho
        have R3 := Lib.hid r3
        have B3 := Lib.hid b3
        clear ho hg hl r3 b3 hW2 H2 HR2 RN
        refine wpG_ready (rs := [13]) (by kernel_rfl) (by simp) ?_
        refine RG.cons rfl rfl (fun K' hK => ?_) RG.nil
        refine wp_append_run (.tmp 59) (.tmp 67) 36 (by rfl) (by rfl) (by rfl) hr ?_
        refine hK.out _ _ ⟨trivial, fun _ => ⟨R3.out, B3.out⟩, fun _ => trivial⟩ (fun hS => ?_)
        clear hK K'
        try simp only [pL]
        clear hr
        refine wpG_t0 (i := 14) (v := ?v13) rfl (by kernel_rfl) (fun _ _ _ h => h) hS (Or.inl ⟨by rfl, ?hy13⟩) ?rest13
        case hy13 => (intro w' hw; go_simp; try with_reducible rfl)
        replace hS := SG.set (i := 14) (by decide) (by decide) hS
        try simp only [pL]
        refine wpG_t0 (i := 15) (v := ?v14) rfl (by kernel_rfl) (fun _ _ _ h => h) hS (Or.inl ⟨by rfl, ?hy14⟩) ?rest14
        case hy14 => (intro w' hw; go_simp; try with_reducible rfl)
        replace hS := SG.set (i := 15) (by decide) (by decide) hS
        try simp only [pL]
        clear hS
        have yc := R3.out.cell
        have yt := R3.out.thaw
        refine wpG_ready (rs := [16]) (by kernel_rfl) (by simp) ?_
        refine RG.cons rfl rfl (fun K' hK => ?_) RG.nil
        go_simp
        refine hK.out _ _ ⟨trivial, fun h => absurd (h : true = false) (by decide), fun _ => trivial⟩ (fun hS => ?_)
        clear hK K'
        try simp only [pL]
        clear hS yc yt R3
        refine wpG_done (by kernel_rfl) ?_ _
        obtain ⟨W4, hW4⟩ : ∃ W4, W4 = W3.setCell ⟨b, 0, none⟩ (.slice A' (R.bs.length + 1) c') := ⟨_, rfl⟩
        rw [← hW4] at FIN ⊢
        clear hW4 B3
        have G4 := Lib.hid (G2.out.trans FIN.out.2)
        have M4 := Lib.hid FIN.out.1
        have NK4 := Lib.hid (HNK0.out.gx G4.out)
        clear FIN G1 G2 HR
        obtain ⟨va, w5, hr5, ho5, hg5⟩ := names_copy NK4.out.1 (by have := HN0.out; omega) 79
        have b45 : Below W4.heap.size W4 w5 := ⟨hg5.os, hg5.tape, hg5.output, hg5.size, fun g hg => hg5.block g hg (by simp)⟩
        obtain ⟨W6, hW6⟩ : ∃ W6, W6 = w5.alloc (.cells #[.int .i64 (R.bs.length : Int), .bool false, .bool false] 103) := ⟨_, rfl⟩
        have ho6 : W6.ownsRow W4.heap.size 103 3 va L.length (L.reverse.flatMap nmC) := by rw [hW6]; exact own_block ho5 fun g e => Below.heap_alloc w5 _ g (ho5.lt g e).2
        have RN6 : RowB W6 w5.heap.size 103 #[.int .i64 (R.bs.length : Int), .bool false, .bool false] := by rw [hW6]; exact RowB.new w5 103 _
        have b46 : Below W4.heap.size W4 W6 := by rw [hW6]; exact b45.alloc b45.size _
        obtain ⟨v2', w7, hr7, ho7, hg7, hl7⟩ := app_at (w := W6) (t := 79) (e := 103) (size := 3) (bytes := 16) (by kernel_rfl) info103 rfl (by decide) (by decide) W4.heap.size va _ _ ho6 _ _ RN6 rfl (by intro u hu; simp at hu; rcases hu with rfl | rfl | rfl <;> rfl) (by have := HN0.out; omega) b46.size 79
        have b47 : Below W4.heap.size W4 w7 := ⟨hg7.os.trans b46.os, hg7.tape.trans b46.tape, hg7.output.trans b46.output, Nat.le_trans b46.size hg7.size, fun g hg => (hg7.block g (Nat.lt_of_lt_of_le hg b46.size) (fun e => by have := (ho6.lt g e.symm).1; omega)).trans (b46.block g hg)⟩
        obtain ⟨A7, c7, rfl, hc7⟩ := own_shape ho7
        have e7 : (L.reverse ++ [(⟨R.bs.length, false, false⟩ : Nm)]).flatMap nmC = L.reverse.flatMap nmC ++ (#[Value.int .i64 (R.bs.length : Int), .bool false, .bool false] : Array Value).toList := by rw [List.flatMap_append]; rfl
        have hrow7 : RowAt w7 W4.heap.size w7.heap.size nmC 3 A7 ((⟨R.bs.length, false, false⟩ : Nm) :: L).reverse := by rw [List.reverse_cons]; rw [← e7] at ho7; exact RowAt.of_own ho7 (fun _ => rfl) (by simp)
        have hnone : A7 = none → c7 = 0 := fun e => by
          subst e
          rcases ho7.2 with ⟨_, e2⟩ | ⟨g, cap, cur, e2, _⟩
          · exact absurd e2 (by omega)
          · cases e2
        have hpart : ∀ g, A7 = some ⟨g, 0, none⟩ → W4.heap.size ≤ g := fun g e => by
          obtain ⟨g', e2, h2, _⟩ := hrow7 (by simp)
          rw [e] at e2
          injection e2 with e2
          injection e2 with e2
          omega
        have FE := Lib.hid (show Named b B w K (bindR n.at_ n.word kd it (R, L)) (N + 2) (.returned (.slice A7 (L.length + 1) c7)) w7 from by
          have em : bindR n.at_ n.word kd it (R, L) = (⟨R.bs ++ [⟨n.at_, kd, n.word, it⟩], R.ms, R.bad⟩, ⟨R.bs.length, false, false⟩ :: L) := by unfold bindR; dsimp only; rw [HDF.out]; rfl
          rw [em]
          refine ⟨A7, c7, _, _, _, _, W4.heap.size, rfl, (M4.out.below b47).mono (by omega), G4.out.trans (Gx.of b47), ⟨⟨hrow7, hc7, hnone⟩, fun _ g e hk => ?_⟩⟩
          have h1 := hpart g e
          have h2 := (M4.out.lt g hk).2
          omega)
        rw [← HN0.out] at hr5 hr7 FE
        have HR5 := Lib.hid hr5
        have HR7 := Lib.hid hr7
        have HW6 := Lib.hid hW6
        have y5 := (M4.out.below b45).row.cell
        obtain ⟨nb1, hnb1⟩ : ∃ v, v = R.bs.length + 1 := ⟨_, rfl⟩
        rw [← hnb1] at y5
        have ek1 : IntKind.i64.wrap ((nb1 : Int) - 1) = (R.bs.length : Int) := by rw [IntKind.wrap_i64]; have := M4.out.sum; simp only [List.length_append, List.length_cons, List.length_nil] at this; omega
        clear hnb1
        clear hr5 hr7 hW6 ho5 hg5 b45 ho6 RN6 b46 ho7 hg7 hl7 b47 hc7 e7 hrow7 hnone hpart NK4
        go_wp2_with (at_builtin; first | refine Lib.wpList_append_run _ rfl _ _ _ _ rfl _ _ rfl rfl _ _ HR5.out ?_ | (rw [← HW6.out]; refine Lib.wpList_append_run _ rfl _ _ _ _ rfl _ _ rfl rfl _ _ HR7.out ?_))
        (first | go_ret | go_ret2)
        exact FE.out
      | false =>
        rw [if_neg (by simp)] at hdd
        have hyt : ytg < R.bs.length := wi_get HW.out hy rfl
        obtain ⟨z, hz⟩ : ∃ z, R.bs[ytg]? = some z := ⟨R.bs[ytg], List.getElem?_eq_getElem hyt⟩
        have hwz : wordOf R.bs ytg = z.word := by unfold wordOf; rw [hz]; rfl
        rw [hwz] at hdd
        obtain ⟨g1, c1, hv1, hc1, hg1, hob1, hcell⟩ := row_get H1.out.o1 (fun _ => rfl) hz rfl
        subst hv1
        have d2 : W1.cell? ⟨g1, ytg * 4 + 2, none⟩ = some (.string z.word) := hcell 2 _ rfl
        obtain ⟨zw, hzw⟩ : ∃ zw, zw = z.word := ⟨_, rfl⟩
        rw [← hzw] at d2 hdd
        have hyl : (ytg : Int) < (R.bs.length : Int) := by omega
        obtain ⟨be, hbe⟩ : ∃ be, be = (zw.toList == n.word.toList) := ⟨_, rfl⟩
        have hbe2 : be = true ↔ zw = n.word := by rw [hbe, beq_iff_eq]; exact bl_iff
        have HBE := Lib.hid hbe2
        have HEQ := Lib.hid hbe.symm
        have HDD := Lib.hid hdd
        clear hdd hbe hbe2 hzw hwz hz hcell hob1 hc1 hy hrev hcl
        go_wp2_with fail
        refine wp_region_G (S := SG (fun w' => RowB w' b 40 #[.slice (some ⟨g1, 0, none⟩) R.bs.length c1, v2, v3] ∧ RowB w' bx 25 #[.int .i64 n.kind, .int .i64 n.fro, .int .i64 n.til, .string n.word, .int .i64 n.at_, .slice A k c] ∧ w'.cell? ⟨gl, q * 3, none⟩ = some (.int .i64 (ytg : Int)) ∧ w'.cell? ⟨g1, ytg * 4 + 2, none⟩ = some (.string zw)) 98 (fun _ => True) 99 (fun _ => True)) (by kernel_rfl) ⟨⟨H1.out.row, HR.out, z0, d2⟩, fun _ => trivial, fun _ => trivial⟩ (fun hS => ?_)
        obtain ⟨WD, hWD⟩ : ∃ WD, WD = W1.drew := ⟨_, rfl⟩
        have H1 := Lib.hid (H1.out.drew)
        have G1 := Lib.hid (G1.out.trans (Gx.drew _ W1))
        replace HR := Lib.hid (show RowB W1.drew _ _ _ from HR.out)
        rw [← hWD] at hS H1 G1 HR ⊢
        clear hWD z0 z1 z2 d2
        refine wpG_t0 (i := 0) (v := ?v15) rfl (by kernel_rfl) (fun _ _ _ h => h) hS (Or.inl ⟨by rfl, ?hy15⟩) ?rest15
        case hy15 => (intro w' hw; obtain ⟨q1, q2, q3, q4⟩ := hw; have u0 := q1.cell; have u1 := q2.cell; go_simp; try with_reducible rfl)
        replace hS := SG.set (i := 0) (by decide) (by decide) hS
        try simp only [pL]
        refine wpG_t0 (i := 1) (v := ?v16) rfl (by kernel_rfl) (fun _ _ _ h => h) hS (Or.inl ⟨by rfl, ?hy16⟩) ?rest16
        case hy16 => (intro w' hw; obtain ⟨q1, q2, q3, q4⟩ := hw; have u0 := q1.cell; have u1 := q2.cell; go_simp; try with_reducible rfl)
        replace hS := SG.set (i := 1) (by decide) (by decide) hS
        try simp only [pL]
        refine wpG_t0 (i := 2) (v := ?v17) rfl (by kernel_rfl) (fun _ _ _ h => h) hS (Or.inl ⟨by rfl, ?hy17⟩) ?rest17
        case hy17 => (intro w' hw; obtain ⟨q1, q2, q3, q4⟩ := hw; have u0 := q1.cell; have u1 := q2.cell; go_simp; try with_reducible rfl)
        replace hS := SG.set (i := 2) (by decide) (by decide) hS
        try simp only [pL]
        refine wpG_t0 (i := 3) (v := ?v18) rfl (by kernel_rfl) (fun _ _ _ h => h) hS (Or.inl ⟨by rfl, ?hy18⟩) ?rest18
        case hy18 => (intro w' hw; obtain ⟨q1, q2, q3, q4⟩ := hw; have u0 := q1.cell; have u1 := q2.cell; go_simp; try with_reducible rfl)
        replace hS := SG.set (i := 3) (by decide) (by decide) hS
        try simp only [pL]
        refine wpG_t0 (i := 4) (v := ?v19) rfl (by kernel_rfl) (fun _ _ _ h => h) hS (Or.inl ⟨by rfl, ?hy19⟩) ?rest19
        case hy19 => (intro w' hw; obtain ⟨q1, q2, q3, q4⟩ := hw; have u0 := q1.cell; have u1 := q2.cell; go_simp; try with_reducible rfl)
        replace hS := SG.set (i := 4) (by decide) (by decide) hS
        try simp only [pL]
        refine wpG_t0 (i := 5) (v := ?v20) rfl (by kernel_rfl) (fun _ _ _ h => h) hS (Or.inl ⟨by rfl, ?hy20⟩) ?rest20
        case hy20 => (intro w' hw; obtain ⟨q1, q2, q3, q4⟩ := hw; have u0 := q1.cell; have u1 := q2.cell; go_simp; try with_reducible rfl)
        replace hS := SG.set (i := 5) (by decide) (by decide) hS
        try simp only [pL]
        refine wpG_t0 (i := 6) (v := ?v21) rfl (by kernel_rfl) (fun _ _ _ h => h) hS (Or.inl ⟨by rfl, ?hy21⟩) ?rest21
        case hy21 => (intro w' hw; obtain ⟨q1, q2, q3, q4⟩ := hw; have u0 := q1.cell; have u1 := q2.cell; go_simp; try with_reducible rfl)
        replace hS := SG.set (i := 6) (by decide) (by decide) hS
        try simp only [pL]
        refine wpG_t0 (i := 7) (v := ?v22) rfl (by kernel_rfl) (fun _ _ _ h => h) hS (Or.inl ⟨by rfl, ?hy22⟩) ?rest22
        case hy22 => (intro w' hw; obtain ⟨q1, q2, q3, q4⟩ := hw; have u0 := q1.cell; have u1 := q2.cell; go_simp; try with_reducible rfl)
        replace hS := SG.set (i := 7) (by decide) (by decide) hS
        try simp only [pL]
        refine wpG_t0 (i := 8) (v := ?v23) rfl (by kernel_rfl) (fun _ _ _ h => h) hS (Or.inl ⟨by rfl, ?hy23⟩) ?rest23
        case hy23 => (intro w' hw; obtain ⟨q1, q2, q3, q4⟩ := hw; have u0 := q1.cell; have u1 := q2.cell; go_simp; try with_reducible rfl)
        replace hS := SG.set (i := 8) (by decide) (by decide) hS
        try simp only [pL]
        refine wpG_t0 (i := 9) (v := ?v24) rfl (by kernel_rfl) (fun _ _ _ h => h) hS (Or.inl ⟨by rfl, ?hy24⟩) ?rest24
        case hy24 => (intro w' hw; obtain ⟨q1, q2, q3, q4⟩ := hw; have u0 := q1.cell; have u1 := q2.cell; go_simp; try with_reducible rfl)
        replace hS := SG.set (i := 9) (by decide) (by decide) hS
        try simp only [pL]
        refine wpG_t0 (i := 10) (v := ?v25) rfl (by kernel_rfl) (fun _ _ _ h => h) hS (Or.inl ⟨by rfl, ?hy25⟩) ?rest25
        case hy25 => (intro w' hw; obtain ⟨q1, q2, q3, q4⟩ := hw; have u0 := q1.cell; have u1 := q2.cell; go_simp; try with_reducible rfl)
        replace hS := SG.set (i := 10) (by decide) (by decide) hS
        try simp only [pL]
        refine wpG_t0 (i := 11) (v := ?v26) rfl (by kernel_rfl) (fun _ _ _ h => h) hS (Or.inl ⟨by rfl, ?hy26⟩) ?rest26
        case hy26 => (intro w' hw; obtain ⟨q1, q2, q3, q4⟩ := hw; have u0 := q1.cell; have u1 := q2.cell; go_simp; try with_reducible rfl)
        replace hS := SG.set (i := 11) (by decide) (by decide) hS
        try simp only [pL]
        refine wpG_t0 (i := 12) (v := ?v27) rfl (by kernel_rfl) (fun _ _ _ h => h) hS (Or.inl ⟨by rfl, ?hy27⟩) ?rest27
        case hy27 => (intro w' hw; obtain ⟨q1, q2, q3, q4⟩ := hw; have u0 := q1.cell; have u1 := q2.cell; go_simp; try with_reducible rfl)
        replace hS := SG.set (i := 12) (by decide) (by decide) hS
        try simp only [pL]
        refine wpG_t0 (i := 13) (v := ?v28) rfl (by kernel_rfl) (fun _ _ _ h => h) hS (Or.inl ⟨by rfl, ?hy28⟩) ?rest28
        case hy28 => (intro w' hw; obtain ⟨q1, q2, q3, q4⟩ := hw; have u0 := q1.cell; have u1 := q2.cell; go_simp; try with_reducible rfl)
        replace hS := SG.set (i := 13) (by decide) (by decide) hS
        try simp only [pL]
        have heq0 := HEQ.out
        refine wpG_t0 (i := 14) (v := ?v29) rfl (by kernel_rfl) (fun _ _ _ h => h) hS (Or.inl ⟨by rfl, ?hy29⟩) ?rest29
        case hy29 => (intro w' hw; obtain ⟨q1, q2, q3, q4⟩ := hw; have u0 := q1.cell; have u1 := q2.cell; go_simp; try with_reducible rfl)
        replace hS := SG.set (i := 14) (by decide) (by decide) hS
        try simp only [pL]
        clear heq0
        have heq := HEQ.out
        clear hS
        refine wpG_done (by kernel_rfl) ?_ _
        obtain ⟨W1, hW1⟩ : ∃ W1, W1 = WD := ⟨_, rfl⟩
        rw [← hW1] at H1 G1 HR ⊢
        clear hW1
        obtain ⟨v1, hv1⟩ : ∃ v1, v1 = Value.slice (some ⟨g1, 0, none⟩) R.bs.length c1 := ⟨_, rfl⟩
        rw [← hv1] at H1
        have HV1 := Lib.hid hv1
        clear hv1 heq
        cases be with
        | true =>
          have hzz := HBE.out.1 rfl
          have HDF : Hid (dup R.bs n.word L = true) := by unfold Hid; rw [HD.out, HDD.out, if_pos hzz]
          clear hzz
          go_wp2_with fail
          refine wp_region_G (S := SG (fun _ => True) 12 (fun w' => RowB w' b 40 #[v1, v2, v3] ∧ RowB w' bx 25 #[.int .i64 n.kind, .int .i64 n.fro, .int .i64 n.til, .string n.word, .int .i64 n.at_, .slice A k c]) 99 (fun _ => True)) (by kernel_rfl) ⟨trivial, fun _ => ⟨H1.out.row, HR.out⟩, fun _ => trivial⟩ (fun hS => ?_)
          obtain ⟨WD, hWD⟩ : ∃ WD, WD = W1.drew := ⟨_, rfl⟩
          have H1 := Lib.hid (H1.out.drew)
          have G1 := Lib.hid (G1.out.trans (Gx.drew _ W1))
          replace HR := Lib.hid (show RowB W1.drew _ _ _ from HR.out)
          rw [← hWD] at hS H1 G1 HR ⊢
          clear hWD
          refine wpG_t1 (i := 0) (v := ?v30) rfl (by kernel_rfl) (fun _ _ _ h => h) hS (Or.inl ⟨by rfl, ?hy30⟩) ?rest30
          case hy30 => (intro w' hw; obtain ⟨_, q1, q2⟩ := hw; have u0 := q1.cell; have u1 := q2.cell; go_simp; try with_reducible rfl)
          replace hS := SG.set (i := 0) (by decide) (by decide) hS
          try simp only [pL]
          refine wpG_t1 (i := 1) (v := ?v31) rfl (by kernel_rfl) (fun _ _ _ h => h) hS (Or.inl ⟨by rfl, ?hy31⟩) ?rest31
          case hy31 => (intro w' hw; obtain ⟨_, q1, q2⟩ := hw; have u0 := q1.cell; have u1 := q2.cell; go_simp; try with_reducible rfl)
          replace hS := SG.set (i := 1) (by decide) (by decide) hS
          try simp only [pL]
          refine wpG_t1 (i := 2) (v := ?v32) rfl (by kernel_rfl) (fun _ _ _ h => h) hS (Or.inl ⟨by rfl, ?hy32⟩) ?rest32
          case hy32 => (intro w' hw; obtain ⟨_, q1, q2⟩ := hw; have u0 := q1.cell; have u1 := q2.cell; go_simp; try with_reducible rfl)
          replace hS := SG.set (i := 2) (by decide) (by decide) hS
          try simp only [pL]
          refine wpG_t1 (i := 3) (v := ?v33) rfl (by kernel_rfl) (fun _ _ _ h => h) hS (Or.inl ⟨by rfl, ?hy33⟩) ?rest33
          case hy33 => (intro w' hw; obtain ⟨_, q1, q2⟩ := hw; have u0 := q1.cell; have u1 := q2.cell; go_simp; try with_reducible rfl)
          replace hS := SG.set (i := 3) (by decide) (by decide) hS
          try simp only [pL]
          refine wpG_t1 (i := 4) (v := ?v34) rfl (by kernel_rfl) (fun _ _ _ h => h) hS (Or.inl ⟨by rfl, ?hy34⟩) ?rest34
          case hy34 => (intro w' hw; obtain ⟨_, q1, q2⟩ := hw; have u0 := q1.cell; have u1 := q2.cell; go_simp; try with_reducible rfl)
          replace hS := SG.set (i := 4) (by decide) (by decide) hS
          try simp only [pL]
          refine wpG_t1 (i := 5) (v := ?v35) rfl (by kernel_rfl) (fun _ _ _ h => h) hS (Or.inl ⟨by rfl, ?hy35⟩) ?rest35
          case hy35 => (intro w' hw; obtain ⟨_, q1, q2⟩ := hw; have u0 := q1.cell; have u1 := q2.cell; go_simp; try with_reducible rfl)
          replace hS := SG.set (i := 5) (by decide) (by decide) hS
          try simp only [pL]
          refine wpG_t1 (i := 6) (v := ?v36) rfl (by kernel_rfl) (fun _ _ _ h => h) hS (Or.inl ⟨by rfl, ?hy36⟩) ?rest36
          case hy36 => (intro w' hw; obtain ⟨_, q1, q2⟩ := hw; have u0 := q1.cell; have u1 := q2.cell; go_simp; try with_reducible rfl)
          replace hS := SG.set (i := 6) (by decide) (by decide) hS
          try simp only [pL]
          refine wpG_t1 (i := 7) (v := ?v37) rfl (by kernel_rfl) (fun _ _ _ h => h) hS (Or.inl ⟨by rfl, ?hy37⟩) ?rest37
          case hy37 => (intro w' hw; obtain ⟨_, q1, q2⟩ := hw; have u0 := q1.cell; have u1 := q2.cell; go_simp; try with_reducible rfl)
          replace hS := SG.set (i := 7) (by decide) (by decide) hS
          try simp only [pL]
          clear hS
          have H2 := Lib.hid (H1.out.alloc (.cells #[.int .i64 n.at_, .int .i64 31] 67))
          have G2 := Lib.hid (G1.out.trans (Gx.alloc _ WD (.cells #[.int .i64 n.at_, .int .i64 31] 67)))
          have RN := Lib.hid (RowB.new WD 67 #[.int .i64 n.at_, .int .i64 31])
          have HR2 := Lib.hid (HR.out.alloc (.cells #[.int .i64 n.at_, .int .i64 31] 67))
          refine wpG_ready (rs := [8]) (by kernel_rfl) (by simp) ?_
          refine RG.cons rfl rfl (fun K' hK => ?_) RG.nil
          go_simp
          refine hK.out _ _ ⟨trivial, fun _ => ⟨H2.out.row, HR2.out⟩, fun _ => trivial⟩ (fun hS => ?_)
          clear hK K'
          try simp only [pL]
          clear hS
          obtain ⟨W2, hW2⟩ : ∃ W2, W2 = WD.alloc (.cells #[.int .i64 n.at_, .int .i64 31] 67) := ⟨_, rfl⟩
          rw [← hW2] at H2 G2 RN HR2 ⊢
          obtain ⟨v', W3, hr, ho, hg, hl⟩ := app_at (w := W2) (t := 38) (e := 67) (size := 2) (bytes := 16) (z := .agg #[.int .i64 0, .int .i64 0]) Try.underlying38 (by kernel_rfl) rfl (by decide) (by decide) B v3 _ _ H2.out.o3 _ _ RN.out rfl (by intro u hu; simp at hu; rcases hu with rfl | rfl <;> rfl) (by have := H2.out.sum; omega) (by have := (H2.out.lt _ H2.out.kb); (try simp only at this); omega) 38
          have r3 : RowB W3 b 40 #[v1, v2, v3] := (hg.block _ H2.out.row.lt (fun e => own_ne_row H2.out.o3 H2.out.row (by decide) e.symm)).trans H2.out.row
          have b3 : RowB W3 bx 25 #[.int .i64 n.kind, .int .i64 n.fro, .int .i64 n.til, .string n.word, .int .i64 n.at_, .slice A k c] := (hg.block _ HR2.out.lt (fun e => own_ne_row H2.out.o3 HR2.out (by decide) e.symm)).trans HR2.out
          have FIN := Lib.hid (H2.out.app3 (x := (n.at_, 31)) ho hg hl)
          obtain ⟨A', c', rfl, _⟩ := own_shape ho
          have R3 := Lib.hid r3
          have B3 := Lib.hid b3
          clear ho hg hl r3 b3 hW2 H2 HR2 RN
          refine wpG_ready (rs := [9]) (by kernel_rfl) (by simp) ?_
          refine RG.cons rfl rfl (fun K' hK => ?_) RG.nil
          refine wp_append_run (.tmp 47) (.tmp 51) 38 (by rfl) (by rfl) (by rfl) hr ?_
          refine hK.out _ _ ⟨trivial, fun _ => ⟨R3.out, B3.out⟩, fun _ => trivial⟩ (fun hS => ?_)
          clear hK K'
          try simp only [pL]
          clear hr
          refine wpG_t0 (i := 10) (v := ?v38) rfl (by kernel_rfl) (fun _ _ _ h => h) hS (Or.inl ⟨by rfl, ?hy38⟩) ?rest38
          case hy38 => (intro w' hw; go_simp; try with_reducible rfl)
          replace hS := SG.set (i := 10) (by decide) (by decide) hS
          try simp only [pL]
          refine wpG_t0 (i := 11) (v := ?v39) rfl (by kernel_rfl) (fun _ _ _ h => h) hS (Or.inl ⟨by rfl, ?hy39⟩) ?rest39
          case hy39 => (intro w' hw; go_simp; try with_reducible rfl)
          replace hS := SG.set (i := 11) (by decide) (by decide) hS
          try simp only [pL]
          clear hS
          have yc := R3.out.cell
          have yt := R3.out.thaw
          refine wpG_ready (rs := [12]) (by kernel_rfl) (by simp) ?_
          refine RG.cons rfl rfl (fun K' hK => ?_) RG.nil
          go_simp
          refine hK.out _ _ ⟨trivial, fun h => absurd (h : true = false) (by decide), fun _ => trivial⟩ (fun hS => ?_)
          clear hK K'
          try simp only [pL]
          clear hS yc yt R3
          refine wpG_done (by kernel_rfl) ?_ _
          obtain ⟨R1, hR1⟩ : ∃ R1 : Rm, R1 = ⟨R.bs, R.ms, R.bad ++ [(n.at_, 31)]⟩ := ⟨_, rfl⟩
          rw [← hR1] at FIN
          have HR1 := Lib.hid hR1
          clear hR1
          obtain ⟨v3, hv3'⟩ : ∃ v3, v3 = Value.slice A' (R.bad.length + 1) c' := ⟨_, rfl⟩
          obtain ⟨W1, hW1⟩ : ∃ W1, W1 = W3.setCell ⟨b, 2, none⟩ (.slice A' (R.bad.length + 1) c') := ⟨_, rfl⟩
          have HR := Lib.hid (B3.out.far (p := ⟨b, 2, none⟩) HNE0.out (.slice A' (R.bad.length + 1) c'))
          rw [← hW1] at FIN HR ⊢
          rw [← hv3'] at FIN
          have H1 := Lib.hid FIN.out.1
          have G1 := Lib.hid (G2.out.trans FIN.out.2)
          clear FIN G2 B3 hW1 hv3'
          go_wp2_with fail
          refine wp_region_G (S := SG (fun _ => True) 16 (fun w' => RowB w' b 40 #[v1, v2, v3] ∧ RowB w' bx 25 #[.int .i64 n.kind, .int .i64 n.fro, .int .i64 n.til, .string n.word, .int .i64 n.at_, .slice A k c]) 99 (fun _ => True)) (by kernel_rfl) ⟨trivial, fun _ => ⟨H1.out.row, HR.out⟩, fun _ => trivial⟩ (fun hS => ?_)
          obtain ⟨WD, hWD⟩ : ∃ WD, WD = W1.drew := ⟨_, rfl⟩
          have H1 := Lib.hid (H1.out.drew)
          have G1 := Lib.hid (G1.out.trans (Gx.drew _ W1))
          replace HR := Lib.hid (show RowB W1.drew _ _ _ from HR.out)
          rw [← hWD] at hS H1 G1 HR ⊢
          clear hWD
          refine wpG_t1 (i := 0) (v := ?v40) rfl (by kernel_rfl) (fun _ _ _ h => h) hS (Or.inl ⟨by rfl, ?hy40⟩) ?rest40
          case hy40 => (intro w' hw; obtain ⟨_, q1, q2⟩ := hw; have u0 := q1.cell; have u1 := q2.cell; go_simp; try with_reducible rfl)
          replace hS := SG.set (i := 0) (by decide) (by decide) hS
          try simp only [pL]
          refine wpG_t1 (i := 1) (v := ?v41) rfl (by kernel_rfl) (fun _ _ _ h => h) hS (Or.inl ⟨by rfl, ?hy41⟩) ?rest41
          case hy41 => (intro w' hw; obtain ⟨_, q1, q2⟩ := hw; have u0 := q1.cell; have u1 := q2.cell; go_simp; try with_reducible rfl)
          replace hS := SG.set (i := 1) (by decide) (by decide) hS
          try simp only [pL]
          refine wpG_t1 (i := 2) (v := ?v42) rfl (by kernel_rfl) (fun _ _ _ h => h) hS (Or.inl ⟨by rfl, ?hy42⟩) ?rest42
          case hy42 => (intro w' hw; obtain ⟨_, q1, q2⟩ := hw; have u0 := q1.cell; have u1 := q2.cell; go_simp; try with_reducible rfl)
          replace hS := SG.set (i := 2) (by decide) (by decide) hS
          try simp only [pL]
          refine wpG_t1 (i := 3) (v := ?v43) rfl (by kernel_rfl) (fun _ _ _ h => h) hS (Or.inl ⟨by rfl, ?hy43⟩) ?rest43
          case hy43 => (intro w' hw; obtain ⟨_, q1, q2⟩ := hw; have u0 := q1.cell; have u1 := q2.cell; go_simp; try with_reducible rfl)
          replace hS := SG.set (i := 3) (by decide) (by decide) hS
          try simp only [pL]
          refine wpG_t1 (i := 4) (v := ?v44) rfl (by kernel_rfl) (fun _ _ _ h => h) hS (Or.inl ⟨by rfl, ?hy44⟩) ?rest44
          case hy44 => (intro w' hw; obtain ⟨_, q1, q2⟩ := hw; have u0 := q1.cell; have u1 := q2.cell; go_simp; try with_reducible rfl)
          replace hS := SG.set (i := 4) (by decide) (by decide) hS
          try simp only [pL]
          refine wpG_t1 (i := 5) (v := ?v45) rfl (by kernel_rfl) (fun _ _ _ h => h) hS (Or.inl ⟨by rfl, ?hy45⟩) ?rest45
          case hy45 => (intro w' hw; obtain ⟨_, q1, q2⟩ := hw; have u0 := q1.cell; have u1 := q2.cell; go_simp; try with_reducible rfl)
          replace hS := SG.set (i := 5) (by decide) (by decide) hS
          try simp only [pL]
          refine wpG_t1 (i := 6) (v := ?v46) rfl (by kernel_rfl) (fun _ _ _ h => h) hS (Or.inl ⟨by rfl, ?hy46⟩) ?rest46
          case hy46 => (intro w' hw; obtain ⟨_, q1, q2⟩ := hw; have u0 := q1.cell; have u1 := q2.cell; go_simp; try with_reducible rfl)
          replace hS := SG.set (i := 6) (by decide) (by decide) hS
          try simp only [pL]
          refine wpG_t1 (i := 7) (v := ?v47) rfl (by kernel_rfl) (fun _ _ _ h => h) hS (Or.inl ⟨by rfl, ?hy47⟩) ?rest47
          case hy47 => (intro w' hw; obtain ⟨_, q1, q2⟩ := hw; have u0 := q1.cell; have u1 := q2.cell; go_simp; try with_reducible rfl)
          replace hS := SG.set (i := 7) (by decide) (by decide) hS
          try simp only [pL]
          refine wpG_t1 (i := 8) (v := ?v48) rfl (by kernel_rfl) (fun _ _ _ h => h) hS (Or.inl ⟨by rfl, ?hy48⟩) ?rest48
          case hy48 => (intro w' hw; obtain ⟨_, q1, q2⟩ := hw; have u0 := q1.cell; have u1 := q2.cell; go_simp; try with_reducible rfl)
          replace hS := SG.set (i := 8) (by decide) (by decide) hS
          try simp only [pL]
          refine wpG_t1 (i := 9) (v := ?v49) rfl (by kernel_rfl) (fun _ _ _ h => h) hS (Or.inl ⟨by rfl, ?hy49⟩) ?rest49
          case hy49 => (intro w' hw; obtain ⟨_, q1, q2⟩ := hw; have u0 := q1.cell; have u1 := q2.cell; go_simp; try with_reducible rfl)
          replace hS := SG.set (i := 9) (by decide) (by decide) hS
          try simp only [pL]
          refine wpG_t1 (i := 10) (v := ?v50) rfl (by kernel_rfl) (fun _ _ _ h => h) hS (Or.inl ⟨by rfl, ?hy50⟩) ?rest50
          case hy50 => (intro w' hw; obtain ⟨_, q1, q2⟩ := hw; have u0 := q1.cell; have u1 := q2.cell; go_simp; try with_reducible rfl)
          replace hS := SG.set (i := 10) (by decide) (by decide) hS
          try simp only [pL]
          refine wpG_t1 (i := 11) (v := ?v51) rfl (by kernel_rfl) (fun _ _ _ h => h) hS (Or.inl ⟨by rfl, ?hy51⟩) ?rest51
          case hy51 => (intro w' hw; obtain ⟨_, q1, q2⟩ := hw; have u0 := q1.cell; have u1 := q2.cell; go_simp; try with_reducible rfl)
          replace hS := SG.set (i := 11) (by decide) (by decide) hS
          try simp only [pL]
          clear hS
          have H2 := Lib.hid (H1.out.alloc (.cells #[.int .i64 n.at_, .int .i64 kd, .string n.word, .int .i64 it] 64))
          have G2 := Lib.hid (G1.out.trans (Gx.alloc _ WD (.cells #[.int .i64 n.at_, .int .i64 kd, .string n.word, .int .i64 it] 64)))
          have RN := Lib.hid (RowB.new WD 64 #[.int .i64 n.at_, .int .i64 kd, .string n.word, .int .i64 it])
          have HR2 := Lib.hid (HR.out.alloc (.cells #[.int .i64 n.at_, .int .i64 kd, .string n.word, .int .i64 it] 64))
          refine wpG_ready (rs := [12]) (by kernel_rfl) (by simp) ?_
          refine RG.cons rfl rfl (fun K' hK => ?_) RG.nil
          go_simp
          refine hK.out _ _ ⟨trivial, fun _ => ⟨H2.out.row, HR2.out⟩, fun _ => trivial⟩ (fun hS => ?_)
          clear hK K'
          try simp only [pL]
          clear hS
          obtain ⟨W2, hW2⟩ : ∃ W2, W2 = WD.alloc (.cells #[.int .i64 n.at_, .int .i64 kd, .string n.word, .int .i64 it] 64) := ⟨_, rfl⟩
          rw [← hW2] at H2 G2 RN HR2 ⊢
          obtain ⟨v', W3, hr, ho, hg, hl⟩ := app_at (w := W2) (t := 36) (e := 64) (size := 4) (bytes := 40) (z := .agg #[.int .i64 0, .int .i64 0, .string ⟨#[]⟩, .int .i64 0]) Try.underlying36 (by kernel_rfl) rfl (by decide) (by decide) B v1 _ _ H2.out.o1 _ _ RN.out rfl (by intro u hu; simp at hu; rcases hu with rfl | rfl | rfl | rfl <;> rfl) (by have := H2.out.sum; omega) (by have := (H2.out.lt _ H2.out.kb); (try simp only at this); omega) 36
          have r3 : RowB W3 b 40 #[v1, v2, v3] := (hg.block _ H2.out.row.lt (fun e => own_ne_row H2.out.o1 H2.out.row (by decide) e.symm)).trans H2.out.row
          have b3 : RowB W3 bx 25 #[.int .i64 n.kind, .int .i64 n.fro, .int .i64 n.til, .string n.word, .int .i64 n.at_, .slice A k c] := (hg.block _ HR2.out.lt (fun e => own_ne_row H2.out.o1 HR2.out (by decide) e.symm)).trans HR2.out
          have FIN := Lib.hid (H2.out.app1 (x := ⟨n.at_, kd, n.word, it⟩) ho hg hl)
          obtain ⟨A', c', rfl, _⟩ := own_shape ho
          have R3 := Lib.hid r3
          have B3 := Lib.hid b3
          clear ho hg hl r3 b3 hW2 H2 HR2 RN
          refine wpG_ready (rs := [13]) (by kernel_rfl) (by simp) ?_
          refine RG.cons rfl rfl (fun K' hK => ?_) RG.nil
          refine wp_append_run (.tmp 59) (.tmp 67) 36 (by rfl) (by rfl) (by rfl) hr ?_
          refine hK.out _ _ ⟨trivial, fun _ => ⟨R3.out, B3.out⟩, fun _ => trivial⟩ (fun hS => ?_)
          clear hK K'
          try simp only [pL]
          clear hr
          refine wpG_t0 (i := 14) (v := ?v52) rfl (by kernel_rfl) (fun _ _ _ h => h) hS (Or.inl ⟨by rfl, ?hy52⟩) ?rest52
          case hy52 => (intro w' hw; go_simp; try with_reducible rfl)
          replace hS := SG.set (i := 14) (by decide) (by decide) hS
          try simp only [pL]
          refine wpG_t0 (i := 15) (v := ?v53) rfl (by kernel_rfl) (fun _ _ _ h => h) hS (Or.inl ⟨by rfl, ?hy53⟩) ?rest53
          case hy53 => (intro w' hw; go_simp; try with_reducible rfl)
          replace hS := SG.set (i := 15) (by decide) (by decide) hS
          try simp only [pL]
          clear hS
          have yc := R3.out.cell
          have yt := R3.out.thaw
          refine wpG_ready (rs := [16]) (by kernel_rfl) (by simp) ?_
          refine RG.cons rfl rfl (fun K' hK => ?_) RG.nil
          go_simp
          refine hK.out _ _ ⟨trivial, fun h => absurd (h : true = false) (by decide), fun _ => trivial⟩ (fun hS => ?_)
          clear hK K'
          try simp only [pL]
          clear hS yc yt R3
          refine wpG_done (by kernel_rfl) ?_ _
          obtain ⟨W4, hW4⟩ : ∃ W4, W4 = W3.setCell ⟨b, 0, none⟩ (.slice A' (R1.bs.length + 1) c') := ⟨_, rfl⟩
          rw [← hW4] at FIN ⊢
          clear hW4 B3
          have G4 := Lib.hid (G2.out.trans FIN.out.2)
          have M4 := Lib.hid FIN.out.1
          have NK4 := Lib.hid (HNK0.out.gx G4.out)
          clear FIN G1 G2 HR
          obtain ⟨va, w5, hr5, ho5, hg5⟩ := names_copy NK4.out.1 (by have := HN0.out; omega) 79
          have b45 : Below W4.heap.size W4 w5 := ⟨hg5.os, hg5.tape, hg5.output, hg5.size, fun g hg => hg5.block g hg (by simp)⟩
          obtain ⟨W6, hW6⟩ : ∃ W6, W6 = w5.alloc (.cells #[.int .i64 (R1.bs.length : Int), .bool false, .bool false] 103) := ⟨_, rfl⟩
          have ho6 : W6.ownsRow W4.heap.size 103 3 va L.length (L.reverse.flatMap nmC) := by rw [hW6]; exact own_block ho5 fun g e => Below.heap_alloc w5 _ g (ho5.lt g e).2
          have RN6 : RowB W6 w5.heap.size 103 #[.int .i64 (R1.bs.length : Int), .bool false, .bool false] := by rw [hW6]; exact RowB.new w5 103 _
          have b46 : Below W4.heap.size W4 W6 := by rw [hW6]; exact b45.alloc b45.size _
          obtain ⟨v2', w7, hr7, ho7, hg7, hl7⟩ := app_at (w := W6) (t := 79) (e := 103) (size := 3) (bytes := 16) (by kernel_rfl) info103 rfl (by decide) (by decide) W4.heap.size va _ _ ho6 _ _ RN6 rfl (by intro u hu; simp at hu; rcases hu with rfl | rfl | rfl <;> rfl) (by have := HN0.out; omega) b46.size 79
          have b47 : Below W4.heap.size W4 w7 := ⟨hg7.os.trans b46.os, hg7.tape.trans b46.tape, hg7.output.trans b46.output, Nat.le_trans b46.size hg7.size, fun g hg => (hg7.block g (Nat.lt_of_lt_of_le hg b46.size) (fun e => by have := (ho6.lt g e.symm).1; omega)).trans (b46.block g hg)⟩
          obtain ⟨A7, c7, rfl, hc7⟩ := own_shape ho7
          have e7 : (L.reverse ++ [(⟨R1.bs.length, false, false⟩ : Nm)]).flatMap nmC = L.reverse.flatMap nmC ++ (#[Value.int .i64 (R1.bs.length : Int), .bool false, .bool false] : Array Value).toList := by rw [List.flatMap_append]; rfl
          have hrow7 : RowAt w7 W4.heap.size w7.heap.size nmC 3 A7 ((⟨R1.bs.length, false, false⟩ : Nm) :: L).reverse := by rw [List.reverse_cons]; rw [← e7] at ho7; exact RowAt.of_own ho7 (fun _ => rfl) (by simp)
          have hnone : A7 = none → c7 = 0 := fun e => by
            subst e
            rcases ho7.2 with ⟨_, e2⟩ | ⟨g, cap, cur, e2, _⟩
            · exact absurd e2 (by omega)
            · cases e2
          have hpart : ∀ g, A7 = some ⟨g, 0, none⟩ → W4.heap.size ≤ g := fun g e => by
            obtain ⟨g', e2, h2, _⟩ := hrow7 (by simp)
            rw [e] at e2
            injection e2 with e2
            injection e2 with e2
            omega
          have FE := Lib.hid (show Named b B w K (bindR n.at_ n.word kd it (R, L)) (N + 2) (.returned (.slice A7 (L.length + 1) c7)) w7 from by
            have em : bindR n.at_ n.word kd it (R, L) = (⟨R1.bs ++ [⟨n.at_, kd, n.word, it⟩], R1.ms, R1.bad⟩, ⟨R1.bs.length, false, false⟩ :: L) := by unfold bindR; dsimp only; rw [HDF.out, HR1.out]; rfl
            rw [em]
            refine ⟨A7, c7, _, _, _, _, W4.heap.size, rfl, (M4.out.below b47).mono (by omega), G4.out.trans (Gx.of b47), ⟨⟨hrow7, hc7, hnone⟩, fun _ g e hk => ?_⟩⟩
            have h1 := hpart g e
            have h2 := (M4.out.lt g hk).2
            omega)
          rw [← HN0.out] at hr5 hr7 FE
          have HR5 := Lib.hid hr5
          have HR7 := Lib.hid hr7
          have HW6 := Lib.hid hW6
          have y5 := (M4.out.below b45).row.cell
          obtain ⟨nb1, hnb1⟩ : ∃ v, v = R1.bs.length + 1 := ⟨_, rfl⟩
          rw [← hnb1] at y5
          have ek1 : IntKind.i64.wrap ((nb1 : Int) - 1) = (R1.bs.length : Int) := by rw [IntKind.wrap_i64]; have := M4.out.sum; simp only [List.length_append, List.length_cons, List.length_nil] at this; omega
          clear hnb1
          clear hr5 hr7 hW6 ho5 hg5 b45 ho6 RN6 b46 ho7 hg7 hl7 b47 hc7 e7 hrow7 hnone hpart NK4
          go_wp2_with (at_builtin; first | refine Lib.wpList_append_run _ rfl _ _ _ _ rfl _ _ rfl rfl _ _ HR5.out ?_ | (rw [← HW6.out]; refine Lib.wpList_append_run _ rfl _ _ _ _ rfl _ _ rfl rfl _ _ HR7.out ?_))
          (first | go_ret | go_ret2)
          exact FE.out
        | false =>
          have hzz : ¬ zw = n.word := fun e => by have := HBE.out.2 e; cases this
          have HD2 : Hid (dup R.bs n.word L = dup R.bs n.word (L.drop (p + 1))) := by unfold Hid; rw [HD.out, HDD.out, if_neg hzz]
          clear hzz
          obtain ⟨p1, hp1⟩ : ∃ p1, p1 = p + 1 := ⟨_, rfl⟩
          have ekq : IntKind.i64.wrap ((q : Int) - 1) = (n0 : Int) - 1 - (p1 : Int) := by rw [IntKind.wrap_i64]; have := HQ.out; omega
          rw [← hp1] at HD2
          have HP1 := Lib.hid hp1
          clear hp1
          go_wp2_with fail
          have hp1 := HP1.out
          go_roundg (n0 - p1)
          case measure => omega
          case rel => exact ⟨p1, rfl, by omega, by omega, by rw [← HV1.out]; exact H1.out, G1.out, HR.out, HD2.out⟩
    · have hpe : p = n0 := by omega
      have hqi : (n0 : Int) - 1 - (p : Int) = -1 := by omega
      rw [hqi]
      have HDF : Hid (dup R.bs n.word L = false) := by
        unfold Hid
        rw [HD.out, hpe, HN0.out, List.drop_length]
        rfl
      clear HD hqi hpe
      go_wp2_with fail
      refine wp_region_G (S := SG (fun _ => True) 16 (fun w' => RowB w' b 40 #[v1, v2, v3] ∧ RowB w' bx 25 #[.int .i64 n.kind, .int .i64 n.fro, .int .i64 n.til, .string n.word, .int .i64 n.at_, .slice A k c]) 99 (fun _ => True)) (by kernel_rfl) ⟨trivial, fun _ => ⟨H1.out.row, HR.out⟩, fun _ => trivial⟩ (fun hS => ?_)
      obtain ⟨WD, hWD⟩ : ∃ WD, WD = W1.drew := ⟨_, rfl⟩
      have H1 := Lib.hid (H1.out.drew)
      have G1 := Lib.hid (G1.out.trans (Gx.drew _ W1))
      replace HR := Lib.hid (show RowB W1.drew _ _ _ from HR.out)
      rw [← hWD] at hS H1 G1 HR ⊢
      clear hWD
      refine wpG_t1 (i := 0) (v := ?v54) rfl (by kernel_rfl) (fun _ _ _ h => h) hS (Or.inl ⟨by rfl, ?hy54⟩) ?rest54
      case hy54 => (intro w' hw; obtain ⟨_, q1, q2⟩ := hw; have u0 := q1.cell; have u1 := q2.cell; go_simp; try with_reducible rfl)
      replace hS := SG.set (i := 0) (by decide) (by decide) hS
      try simp only [pL]
      refine wpG_t1 (i := 1) (v := ?v55) rfl (by kernel_rfl) (fun _ _ _ h => h) hS (Or.inl ⟨by rfl, ?hy55⟩) ?rest55
      case hy55 => (intro w' hw; obtain ⟨_, q1, q2⟩ := hw; have u0 := q1.cell; have u1 := q2.cell; go_simp; try with_reducible rfl)
      replace hS := SG.set (i := 1) (by decide) (by decide) hS
      try simp only [pL]
      refine wpG_t1 (i := 2) (v := ?v56) rfl (by kernel_rfl) (fun _ _ _ h => h) hS (Or.inl ⟨by rfl, ?hy56⟩) ?rest56
      case hy56 => (intro w' hw; obtain ⟨_, q1, q2⟩ := hw; have u0 := q1.cell; have u1 := q2.cell; go_simp; try with_reducible rfl)
      replace hS := SG.set (i := 2) (by decide) (by decide) hS
      try simp only [pL]
      refine wpG_t1 (i := 3) (v := ?v57) rfl (by kernel_rfl) (fun _ _ _ h => h) hS (Or.inl ⟨by rfl, ?hy57⟩) ?rest57
      case hy57 => (intro w' hw; obtain ⟨_, q1, q2⟩ := hw; have u0 := q1.cell; have u1 := q2.cell; go_simp; try with_reducible rfl)
      replace hS := SG.set (i := 3) (by decide) (by decide) hS
      try simp only [pL]
      refine wpG_t1 (i := 4) (v := ?v58) rfl (by kernel_rfl) (fun _ _ _ h => h) hS (Or.inl ⟨by rfl, ?hy58⟩) ?rest58
      case hy58 => (intro w' hw; obtain ⟨_, q1, q2⟩ := hw; have u0 := q1.cell; have u1 := q2.cell; go_simp; try with_reducible rfl)
      replace hS := SG.set (i := 4) (by decide) (by decide) hS
      try simp only [pL]
      refine wpG_t1 (i := 5) (v := ?v59) rfl (by kernel_rfl) (fun _ _ _ h => h) hS (Or.inl ⟨by rfl, ?hy59⟩) ?rest59
      case hy59 => (intro w' hw; obtain ⟨_, q1, q2⟩ := hw; have u0 := q1.cell; have u1 := q2.cell; go_simp; try with_reducible rfl)
      replace hS := SG.set (i := 5) (by decide) (by decide) hS
      try simp only [pL]
      refine wpG_t1 (i := 6) (v := ?v60) rfl (by kernel_rfl) (fun _ _ _ h => h) hS (Or.inl ⟨by rfl, ?hy60⟩) ?rest60
      case hy60 => (intro w' hw; obtain ⟨_, q1, q2⟩ := hw; have u0 := q1.cell; have u1 := q2.cell; go_simp; try with_reducible rfl)
      replace hS := SG.set (i := 6) (by decide) (by decide) hS
      try simp only [pL]
      refine wpG_t1 (i := 7) (v := ?v61) rfl (by kernel_rfl) (fun _ _ _ h => h) hS (Or.inl ⟨by rfl, ?hy61⟩) ?rest61
      case hy61 => (intro w' hw; obtain ⟨_, q1, q2⟩ := hw; have u0 := q1.cell; have u1 := q2.cell; go_simp; try with_reducible rfl)
      replace hS := SG.set (i := 7) (by decide) (by decide) hS
      try simp only [pL]
      refine wpG_t1 (i := 8) (v := ?v62) rfl (by kernel_rfl) (fun _ _ _ h => h) hS (Or.inl ⟨by rfl, ?hy62⟩) ?rest62
      case hy62 => (intro w' hw; obtain ⟨_, q1, q2⟩ := hw; have u0 := q1.cell; have u1 := q2.cell; go_simp; try with_reducible rfl)
      replace hS := SG.set (i := 8) (by decide) (by decide) hS
      try simp only [pL]
      refine wpG_t1 (i := 9) (v := ?v63) rfl (by kernel_rfl) (fun _ _ _ h => h) hS (Or.inl ⟨by rfl, ?hy63⟩) ?rest63
      case hy63 => (intro w' hw; obtain ⟨_, q1, q2⟩ := hw; have u0 := q1.cell; have u1 := q2.cell; go_simp; try with_reducible rfl)
      replace hS := SG.set (i := 9) (by decide) (by decide) hS
      try simp only [pL]
      refine wpG_t1 (i := 10) (v := ?v64) rfl (by kernel_rfl) (fun _ _ _ h => h) hS (Or.inl ⟨by rfl, ?hy64⟩) ?rest64
      case hy64 => (intro w' hw; obtain ⟨_, q1, q2⟩ := hw; have u0 := q1.cell; have u1 := q2.cell; go_simp; try with_reducible rfl)
      replace hS := SG.set (i := 10) (by decide) (by decide) hS
      try simp only [pL]
      refine wpG_t1 (i := 11) (v := ?v65) rfl (by kernel_rfl) (fun _ _ _ h => h) hS (Or.inl ⟨by rfl, ?hy65⟩) ?rest65
      case hy65 => (intro w' hw; obtain ⟨_, q1, q2⟩ := hw; have u0 := q1.cell; have u1 := q2.cell; go_simp; try with_reducible rfl)
      replace hS := SG.set (i := 11) (by decide) (by decide) hS
      try simp only [pL]
      clear hS
      have H2 := Lib.hid (H1.out.alloc (.cells #[.int .i64 n.at_, .int .i64 kd, .string n.word, .int .i64 it] 64))
      have G2 := Lib.hid (G1.out.trans (Gx.alloc _ WD (.cells #[.int .i64 n.at_, .int .i64 kd, .string n.word, .int .i64 it] 64)))
      have RN := Lib.hid (RowB.new WD 64 #[.int .i64 n.at_, .int .i64 kd, .string n.word, .int .i64 it])
      have HR2 := Lib.hid (HR.out.alloc (.cells #[.int .i64 n.at_, .int .i64 kd, .string n.word, .int .i64 it] 64))
      refine wpG_ready (rs := [12]) (by kernel_rfl) (by simp) ?_
      refine RG.cons rfl rfl (fun K' hK => ?_) RG.nil
      go_simp
      refine hK.out _ _ ⟨trivial, fun _ => ⟨H2.out.row, HR2.out⟩, fun _ => trivial⟩ (fun hS => ?_)
      clear hK K'
      try simp only [pL]
      clear hS
      obtain ⟨W2, hW2⟩ : ∃ W2, W2 = WD.alloc (.cells #[.int .i64 n.at_, .int .i64 kd, .string n.word, .int .i64 it] 64) := ⟨_, rfl⟩
      rw [← hW2] at H2 G2 RN HR2 ⊢
      obtain ⟨v', W3, hr, ho, hg, hl⟩ := app_at (w := W2) (t := 36) (e := 64) (size := 4) (bytes := 40) (z := .agg #[.int .i64 0, .int .i64 0, .string ⟨#[]⟩, .int .i64 0]) Try.underlying36 (by kernel_rfl) rfl (by decide) (by decide) B v1 _ _ H2.out.o1 _ _ RN.out rfl (by intro u hu; simp at hu; rcases hu with rfl | rfl | rfl | rfl <;> rfl) (by have := H2.out.sum; omega) (by have := (H2.out.lt _ H2.out.kb); (try simp only at this); omega) 36
      have r3 : RowB W3 b 40 #[v1, v2, v3] := (hg.block _ H2.out.row.lt (fun e => own_ne_row H2.out.o1 H2.out.row (by decide) e.symm)).trans H2.out.row
      have b3 : RowB W3 bx 25 #[.int .i64 n.kind, .int .i64 n.fro, .int .i64 n.til, .string n.word, .int .i64 n.at_, .slice A k c] := (hg.block _ HR2.out.lt (fun e => own_ne_row H2.out.o1 HR2.out (by decide) e.symm)).trans HR2.out
      have FIN := Lib.hid (H2.out.app1 (x := ⟨n.at_, kd, n.word, it⟩) ho hg hl)
      obtain ⟨A', c', rfl, _⟩ := own_shape ho
      have R3 := Lib.hid r3
      have B3 := Lib.hid b3
      clear ho hg hl r3 b3 hW2 H2 HR2 RN
      refine wpG_ready (rs := [13]) (by kernel_rfl) (by simp) ?_
      refine RG.cons rfl rfl (fun K' hK => ?_) RG.nil
      refine wp_append_run (.tmp 59) (.tmp 67) 36 (by rfl) (by rfl) (by rfl) hr ?_
      refine hK.out _ _ ⟨trivial, fun _ => ⟨R3.out, B3.out⟩, fun _ => trivial⟩ (fun hS => ?_)
      clear hK K'
      try simp only [pL]
      clear hr
      refine wpG_t0 (i := 14) (v := ?v66) rfl (by kernel_rfl) (fun _ _ _ h => h) hS (Or.inl ⟨by rfl, ?hy66⟩) ?rest66
      case hy66 => (intro w' hw; go_simp; try with_reducible rfl)
      replace hS := SG.set (i := 14) (by decide) (by decide) hS
      try simp only [pL]
      refine wpG_t0 (i := 15) (v := ?v67) rfl (by kernel_rfl) (fun _ _ _ h => h) hS (Or.inl ⟨by rfl, ?hy67⟩) ?rest67
      case hy67 => (intro w' hw; go_simp; try with_reducible rfl)
      replace hS := SG.set (i := 15) (by decide) (by decide) hS
      try simp only [pL]
      clear hS
      have yc := R3.out.cell
      have yt := R3.out.thaw
      refine wpG_ready (rs := [16]) (by kernel_rfl) (by simp) ?_
      refine RG.cons rfl rfl (fun K' hK => ?_) RG.nil
      go_simp
      refine hK.out _ _ ⟨trivial, fun h => absurd (h : true = false) (by decide), fun _ => trivial⟩ (fun hS => ?_)
      clear hK K'
      try simp only [pL]
      clear hS yc yt R3
      refine wpG_done (by kernel_rfl) ?_ _
      obtain ⟨W4, hW4⟩ : ∃ W4, W4 = W3.setCell ⟨b, 0, none⟩ (.slice A' (R.bs.length + 1) c') := ⟨_, rfl⟩
      rw [← hW4] at FIN ⊢
      clear hW4 B3
      have G4 := Lib.hid (G2.out.trans FIN.out.2)
      have M4 := Lib.hid FIN.out.1
      have NK4 := Lib.hid (HNK0.out.gx G4.out)
      clear FIN G1 G2 HR
      obtain ⟨va, w5, hr5, ho5, hg5⟩ := names_copy NK4.out.1 (by have := HN0.out; omega) 79
      have b45 : Below W4.heap.size W4 w5 := ⟨hg5.os, hg5.tape, hg5.output, hg5.size, fun g hg => hg5.block g hg (by simp)⟩
      obtain ⟨W6, hW6⟩ : ∃ W6, W6 = w5.alloc (.cells #[.int .i64 (R.bs.length : Int), .bool false, .bool false] 103) := ⟨_, rfl⟩
      have ho6 : W6.ownsRow W4.heap.size 103 3 va L.length (L.reverse.flatMap nmC) := by rw [hW6]; exact own_block ho5 fun g e => Below.heap_alloc w5 _ g (ho5.lt g e).2
      have RN6 : RowB W6 w5.heap.size 103 #[.int .i64 (R.bs.length : Int), .bool false, .bool false] := by rw [hW6]; exact RowB.new w5 103 _
      have b46 : Below W4.heap.size W4 W6 := by rw [hW6]; exact b45.alloc b45.size _
      obtain ⟨v2', w7, hr7, ho7, hg7, hl7⟩ := app_at (w := W6) (t := 79) (e := 103) (size := 3) (bytes := 16) (by kernel_rfl) info103 rfl (by decide) (by decide) W4.heap.size va _ _ ho6 _ _ RN6 rfl (by intro u hu; simp at hu; rcases hu with rfl | rfl | rfl <;> rfl) (by have := HN0.out; omega) b46.size 79
      have b47 : Below W4.heap.size W4 w7 := ⟨hg7.os.trans b46.os, hg7.tape.trans b46.tape, hg7.output.trans b46.output, Nat.le_trans b46.size hg7.size, fun g hg => (hg7.block g (Nat.lt_of_lt_of_le hg b46.size) (fun e => by have := (ho6.lt g e.symm).1; omega)).trans (b46.block g hg)⟩
      obtain ⟨A7, c7, rfl, hc7⟩ := own_shape ho7
      have e7 : (L.reverse ++ [(⟨R.bs.length, false, false⟩ : Nm)]).flatMap nmC = L.reverse.flatMap nmC ++ (#[Value.int .i64 (R.bs.length : Int), .bool false, .bool false] : Array Value).toList := by rw [List.flatMap_append]; rfl
      have hrow7 : RowAt w7 W4.heap.size w7.heap.size nmC 3 A7 ((⟨R.bs.length, false, false⟩ : Nm) :: L).reverse := by rw [List.reverse_cons]; rw [← e7] at ho7; exact RowAt.of_own ho7 (fun _ => rfl) (by simp)
      have hnone : A7 = none → c7 = 0 := fun e => by
        subst e
        rcases ho7.2 with ⟨_, e2⟩ | ⟨g, cap, cur, e2, _⟩
        · exact absurd e2 (by omega)
        · cases e2
      have hpart : ∀ g, A7 = some ⟨g, 0, none⟩ → W4.heap.size ≤ g := fun g e => by
        obtain ⟨g', e2, h2, _⟩ := hrow7 (by simp)
        rw [e] at e2
        injection e2 with e2
        injection e2 with e2
        omega
      have FE := Lib.hid (show Named b B w K (bindR n.at_ n.word kd it (R, L)) (N + 2) (.returned (.slice A7 (L.length + 1) c7)) w7 from by
        have em : bindR n.at_ n.word kd it (R, L) = (⟨R.bs ++ [⟨n.at_, kd, n.word, it⟩], R.ms, R.bad⟩, ⟨R.bs.length, false, false⟩ :: L) := by unfold bindR; dsimp only; rw [HDF.out]; rfl
        rw [em]
        refine ⟨A7, c7, _, _, _, _, W4.heap.size, rfl, (M4.out.below b47).mono (by omega), G4.out.trans (Gx.of b47), ⟨⟨hrow7, hc7, hnone⟩, fun _ g e hk => ?_⟩⟩
        have h1 := hpart g e
        have h2 := (M4.out.lt g hk).2
        omega)
      rw [← HN0.out] at hr5 hr7 FE
      have HR5 := Lib.hid hr5
      have HR7 := Lib.hid hr7
      have HW6 := Lib.hid hW6
      have y5 := (M4.out.below b45).row.cell
      obtain ⟨nb1, hnb1⟩ : ∃ v, v = R.bs.length + 1 := ⟨_, rfl⟩
      rw [← hnb1] at y5
      have ek1 : IntKind.i64.wrap ((nb1 : Int) - 1) = (R.bs.length : Int) := by rw [IntKind.wrap_i64]; have := M4.out.sum; simp only [List.length_append, List.length_cons, List.length_nil] at this; omega
      clear hnb1
      clear hr5 hr7 hW6 ho5 hg5 b45 ho6 RN6 b46 ho7 hg7 hl7 b47 hc7 e7 hrow7 hnone hpart NK4
      go_wp2_with (at_builtin; first | refine Lib.wpList_append_run _ rfl _ _ _ _ rfl _ _ rfl rfl _ _ HR5.out ?_ | (rw [← HW6.out]; refine Lib.wpList_append_run _ rfl _ _ _ _ rfl _ _ rfl rfl _ _ HR7.out ?_))
      (first | go_ret | go_ret2)
      exact FE.out
end Sc
end Go.Proofs.Ytnefnnoleeeedaa
