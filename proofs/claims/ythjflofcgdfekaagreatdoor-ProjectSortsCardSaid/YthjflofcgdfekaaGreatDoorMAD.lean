import Derived.Maps.AppendAt
import Derived.Test.YthjflofcgdfekaaGreatDoorSB
import Derived.Outline
import Derived.OwnWalk
import Derived.RegionTactic
namespace Go.Proofs.YthjflofcgdfekaaGreatDoor
open Go.RowKit Go.Op
namespace Sc
structure Wc where
  b : Nat
  mb : Nat
  B : Nat
abbrev Wc.p (X : Wc) : Value := .pointer (some ⟨X.b, 0, none⟩)
abbrev bdC (x : Bd) : List Value := [.int .i64 x.at_, .int .i64 x.kind, .string x.word, .int .i64 x.item]
abbrev mnC (x : Mn) : List Value := [.int .i64 x.at_, .int .i64 x.to, .bool x.write, .int .i64 x.far]
abbrev baC (x : Int × Int) : List Value := [.int .i64 x.1, .int .i64 x.2]
abbrev wiC (x : Int) : List Value := [.int .i64 x]
def HM (w : World) (hv : Option Nat) (n : Nat) (f : ByteArray → Option Int) : Prop :=
  match hv with
  | none => n = 0 ∧ f = fun _ => none
  | some h => MF w h n f
def MM (w : World) (b n : Nat) (f : ByteArray → Int) : Prop := ∃ g, MF w b n g ∧ ∀ x, (g x).getD (-1) = f x
theorem HM.of_block {w w' : World} {hv : Option Nat} {n : Nat} {f : ByteArray → Option Int} (h : HM w hv n f) (hb : ∀ g, hv = some g → w'.heap[g]? = w.heap[g]?) : HM w' hv n f := by
  cases hv with
  | none => exact h
  | some g => exact MF.of_block (w := w) h (hb g rfl)
theorem MM.of_block {w w' : World} {b n : Nat} {f : ByteArray → Int} (h : MM w b n f) (hb : w'.heap[b]? = w.heap[b]?) : MM w' b n f := by
  obtain ⟨g, h1, h2⟩ := h
  exact ⟨g, h1.of_block hb, h2⟩
abbrev wcc (v1 v2 v3 v4 : Value) (mb : Nat) (hv : Option Nat) (lam item : Int) : Array Value := #[v1, v2, v3, .map (some mb), .map hv, .int .i64 lam, v4, .int .i64 item]
structure WSr (X : Wc) (w : World) (K : Nat → Prop) (hv : Option Nat) (s : St) (N : Nat) (v1 v2 v3 v4 : Value) (nm nh : Nat) : Prop where
  row : RowB w X.b 189 (wcc v1 v2 v3 v4 X.mb hv s.lam s.item)
  o1 : w.ownsRow X.B 60 4 v1 s.bs.length (s.bs.flatMap bdC)
  o2 : w.ownsRow X.B 207 4 v2 s.ms.length (s.ms.flatMap mnC)
  o3 : w.ownsRow X.B 174 2 v3 s.bad.length (s.bad.flatMap baC)
  o4 : w.ownsRow X.B 3 1 v4 s.within.length (s.within.flatMap wiC)
  mm : MM w X.mb nm s.means
  mh : HM w hv nh s.here
  ne : hv ≠ some X.mb
  sum : s.bs.length + s.ms.length + s.bad.length + s.within.length + nm + nh ≤ N
  kb : K X.b
  km : K X.mb
  kh : ∀ h, hv = some h → K h
  k1 : ∀ g, v1.ownBlock = some g → K g
  k2 : ∀ g, v2.ownBlock = some g → K g
  k3 : ∀ g, v3.ownBlock = some g → K g
  k4 : ∀ g, v4.ownBlock = some g → K g
  lt : ∀ g, K g → X.B ≤ g ∧ g < w.heap.size
structure Gx (K : Nat → Prop) (w : World) (K' : Nat → Prop) (w' : World) : Prop where
  os : w'.os = w.os
  tape : w'.tape = w.tape
  output : w'.output = w.output
  size : w.heap.size ≤ w'.heap.size
  block : ∀ g, g < w.heap.size → ¬ K g → w'.heap[g]? = w.heap[g]?
  own : ∀ g, K' g → K g ∨ w.heap.size ≤ g
theorem Gx.refl (K : Nat → Prop) (w : World) : Gx K w K w := ⟨rfl, rfl, rfl, Nat.le_refl _, fun _ _ _ => rfl, fun _ h => .inl h⟩
theorem Gx.trans {K1 K2 K3 : Nat → Prop} {a b c : World} (h : Gx K1 a K2 b) (k : Gx K2 b K3 c) : Gx K1 a K3 c :=
  ⟨k.os.trans h.os, k.tape.trans h.tape, k.output.trans h.output, Nat.le_trans h.size k.size, fun g hg hn => (k.block g (Nat.lt_of_lt_of_le hg h.size) (fun hk => by
    rcases h.own g hk with h1 | h1
    · exact hn h1
    · omega)).trans (h.block g hg hn), fun g hg => by
    rcases k.own g hg with h1 | h1
    · exact h.own g h1
    · exact .inr (Nat.le_trans h.size h1)⟩
theorem Gx.of {K : Nat → Prop} {w w' : World} (h : Below w.heap.size w w') : Gx K w K w' := ⟨h.os, h.tape, h.output, h.size, fun g hg _ => h.block g hg, fun _ h => .inl h⟩
theorem Gx.alloc (K : Nat → Prop) (w : World) (o : Obj) : Gx K w K (w.alloc o) := .of ((Below.refl _ _).alloc (Nat.le_refl _) o)
theorem Gx.drew (K : Nat → Prop) (w : World) : Gx K w K w.drew := .of (Below.drew (Below.refl _ _))
theorem Gx.drewN (K : Nat → Prop) (w : World) (n : Nat) : Gx K w K (w.drewN n) := ⟨rfl, rfl, rfl, Nat.le_refl _, fun _ _ _ => rfl, fun _ h => .inl h⟩
theorem Gx.row {K K' : Nat → Prop} {w w' : World} (h : Gx K w K' w') {g t : Nat} {cs : Array Value} (hr : RowB w g t cs) (hn : ¬ K g) : RowB w' g t cs := (h.block g hr.lt hn).trans hr
theorem Gx.old {K K' : Nat → Prop} {w w' : World} {B : Nat} (h : Gx K w K' w') (hB : ∀ g, K g → B ≤ g ∧ g < w.heap.size) (hw : B ≤ w.heap.size) : Old B w w' := fun g hg => h.block g (by omega) (fun hk => by have := hB g hk; omega)
variable {X : Wc} {w w' : World} {K : Nat → Prop} {hv : Option Nat} {s : St} {N nm nh : Nat} {v1 v2 v3 v4 : Value}
theorem WSr.keep (h : WSr X w K hv s N v1 v2 v3 v4 nm nh) (hs : w.heap.size ≤ w'.heap.size) (hb : ∀ g, K g → w'.heap[g]? = w.heap[g]?) : WSr X w' K hv s N v1 v2 v3 v4 nm nh :=
  ⟨(hb _ h.kb).trans h.row, own_block h.o1 fun g e => hb g (h.k1 g e), own_block h.o2 fun g e => hb g (h.k2 g e), own_block h.o3 fun g e => hb g (h.k3 g e), own_block h.o4 fun g e => hb g (h.k4 g e),
   h.mm.of_block (hb _ h.km), h.mh.of_block fun g e => hb g (h.kh g e), h.ne, h.sum, h.kb, h.km, h.kh, h.k1, h.k2, h.k3, h.k4, fun g hg => ⟨(h.lt g hg).1, Nat.lt_of_lt_of_le (h.lt g hg).2 hs⟩⟩
theorem WSr.alloc (h : WSr X w K hv s N v1 v2 v3 v4 nm nh) (o : Obj) : WSr X (w.alloc o) K hv s N v1 v2 v3 v4 nm nh :=
  h.keep (by simp) fun g hg => Below.heap_alloc w o g (h.lt g hg).2
theorem WSr.drew (h : WSr X w K hv s N v1 v2 v3 v4 nm nh) : WSr X w.drew K hv s N v1 v2 v3 v4 nm nh := h.keep (Nat.le_refl _) fun _ _ => rfl
theorem WSr.set (h : WSr X w K hv s N v1 v2 v3 v4 nm nh) {p : Addr} (hp : ¬ K p.block) (u : Value) : WSr X (w.setCell p u) K hv s N v1 v2 v3 v4 nm nh :=
  h.keep (by simp [World.setCell]) fun g hg => Below.heap_setCell w p u g (fun e => hp (e ▸ hg))
theorem WSr.mono (h : WSr X w K hv s N v1 v2 v3 v4 nm nh) {N' : Nat} (hN : N ≤ N') : WSr X w K hv s N' v1 v2 v3 v4 nm nh := { h with sum := Nat.le_trans h.sum hN }
theorem WSr.inv (h : WSr X w K hv s N v1 v2 v3 v4 nm nh) : ¬ K w.heap.size := fun hk => by have := (h.lt _ hk).2; omega
theorem own_ne_row {w : World} {base e s n t g : Nat} {v : Value} {xs : List Value} {cs : Array Value} (h : w.ownsRow base e s v n xs) (hr : RowB w g t cs) (he : e ≠ t) : v.ownBlock ≠ some g := fun hg => by
  obtain ⟨cs', e1⟩ := own_cells h hg
  unfold RowB at hr
  rw [hr] at e1
  simp at e1
  exact he e1.2.symm
theorem own_ne_map {w : World} {base e s n g m : Nat} {v : Value} {xs : List Value} {f : ByteArray → Option Int} (h : w.ownsRow base e s v n xs) (hr : MF w g m f) : v.ownBlock ≠ some g := fun hg => by
  obtain ⟨cs', e1⟩ := own_cells h hg
  obtain ⟨es, cl, e2⟩ := hr.block
  rw [e2] at e1
  cases e1
theorem row_ne_map {w : World} {g b t m : Nat} {cs : Array Value} {f : ByteArray → Option Int} (h : RowB w b t cs) (hr : MF w g m f) : g ≠ b := fun hg => by
  subst hg
  obtain ⟨es, cl, e2⟩ := hr.block
  unfold RowB at h
  rw [e2] at h
  cases h
theorem WSr.hv_ne (h : WSr X w K hv s N v1 v2 v3 v4 nm nh) {g : Nat} (e : hv = some g) : MF w g nh s.here := by
  have := h.mh
  rw [e] at this
  exact this
def KU (K : Nat → Prop) (v : Value) (g : Nat) : Prop := K g ∨ v.ownBlock = some g
theorem grown_gx {w1 : World} {v v' : Value} (hg : w.grownBy w1 v.ownBlock) (hk : ∀ g, v.ownBlock = some g → K g) (hl : v'.ownBlock = v.ownBlock ∨ v'.ownBlock = some w.heap.size) : Gx K w (KU K v') w1 :=
  ⟨hg.os, hg.tape, hg.output, hg.size, fun g hg' hn => hg.block g hg' (fun e => hn (hk g e.symm)), fun g h => by
    rcases h with h | h
    · exact .inl h
    · rcases hl with e | e
      · exact .inl (hk g (by rw [← e]; exact h))
      · rw [e] at h
        injection h with h
        exact .inr (by omega)⟩
theorem put_gx {K' : Nat → Prop} {w1 : World} (hg : Gx K w K' w1) {p : Addr} (hb : K p.block) (u : Value) : Gx K w K' (w1.setCell p u) :=
  ⟨hg.os, hg.tape, hg.output, by simpa [World.setCell] using hg.size, fun g h1 hn => (Below.heap_setCell w1 p u g (fun e => hn (e ▸ hb))).trans (hg.block g h1 hn), hg.own⟩
theorem WSr.app1 (h : WSr X w K hv s N v1 v2 v3 v4 nm nh) {w1 : World} {v' : Value} {x : Bd} (ho : w1.ownsRow X.B 60 4 v' (s.bs.length + 1) (s.bs.flatMap bdC ++ bdC x)) (hg : w.grownBy w1 v1.ownBlock) (hl : v'.ownBlock = v1.ownBlock ∨ v'.ownBlock = some w.heap.size) :
    WSr X (w1.setCell ⟨X.b, 0, none⟩ v') (KU K v') hv { s with bs := s.bs ++ [x] } (N + 1) v' v2 v3 v4 nm nh ∧ Gx K w (KU K v') (w1.setCell ⟨X.b, 0, none⟩ v') := by
  have hrow1 : RowB w1 X.b 189 (wcc v1 v2 v3 v4 X.mb hv s.lam s.item) := (hg.block _ h.row.lt (fun e => own_ne_row h.o1 h.row (by decide) e.symm)).trans h.row
  have hS : ∀ g, g ≠ X.b → (w1.setCell ⟨X.b, 0, none⟩ v').heap[g]? = w1.heap[g]? := fun g hn => Below.heap_setCell w1 ⟨X.b, 0, none⟩ v' g hn
  have hB : ∀ g, K g → g ≠ X.b → some g ≠ v1.ownBlock → (w1.setCell ⟨X.b, 0, none⟩ v').heap[g]? = w.heap[g]? := fun g hk hn hne => (hS g hn).trans (hg.block g (h.lt g hk).2 hne)
  have hM : (w1.setCell ⟨X.b, 0, none⟩ v').heap[X.mb]? = w.heap[X.mb]? := by
    obtain ⟨f, m1, _⟩ := h.mm
    exact hB _ h.km (row_ne_map h.row m1) (fun e => own_ne_map h.o1 m1 e.symm)
  have hH : ∀ g, hv = some g → (w1.setCell ⟨X.b, 0, none⟩ v').heap[g]? = w.heap[g]? := fun g e => by
    have m1 := h.hv_ne e
    exact hB _ (h.kh g e) (row_ne_map h.row m1) (fun e => own_ne_map h.o1 m1 e.symm)
  have hGx := put_gx (grown_gx hg h.k1 hl) (p := ⟨X.b, 0, none⟩) h.kb v'
  have hl1 : (s.bs ++ [x]).length = s.bs.length + 1 := by simp
  have hf1 : (s.bs ++ [x]).flatMap bdC = s.bs.flatMap bdC ++ bdC x := by rw [List.flatMap_append]; simp
  refine ⟨⟨hrow1.put 0 v', ?o1, ?o2, ?o3, ?o4, h.mm.of_block hM, h.mh.of_block hH, h.ne, ?sum, .inl h.kb, .inl h.km, fun g e => .inl (h.kh g e), fun g e => .inr e, fun g e => .inl (h.k2 g e), fun g e => .inl (h.k3 g e), fun g e => .inl (h.k4 g e), ?lt⟩, hGx⟩
  case sum => have := h.sum; show _ + nm + nh ≤ N + 1; simp only [List.length_append, List.length_cons, List.length_nil]; omega
  case lt =>
    intro g hk
    rcases hk with hk | hk
    · exact ⟨(h.lt g hk).1, Nat.lt_of_lt_of_le (h.lt g hk).2 (by simpa [World.setCell] using hg.size)⟩
    · have := ho.lt g hk
      exact ⟨this.1, by simpa [World.setCell] using this.2⟩
  case o1 =>
    show World.ownsRow _ X.B 60 4 v' (s.bs ++ [x]).length ((s.bs ++ [x]).flatMap bdC)
    rw [hl1, hf1]
    exact own_block ho fun g e => hS g (fun e2 => own_ne_row ho hrow1 (by decide) (e2 ▸ e))
  case o2 =>
    refine own_block h.o2 fun g e => hB g (h.k2 g e) (fun e2 => own_ne_row h.o2 h.row (by decide) (e2 ▸ e)) (fun e2 => ?_)
    rcases own_apart h.o1 h.o2 (by decide) with a | a
    · rw [a] at e2; cases e2
    · exact a (e2.symm.trans e.symm)
  case o3 =>
    refine own_block h.o3 fun g e => hB g (h.k3 g e) (fun e2 => own_ne_row h.o3 h.row (by decide) (e2 ▸ e)) (fun e2 => ?_)
    rcases own_apart h.o1 h.o3 (by decide) with a | a
    · rw [a] at e2; cases e2
    · exact a (e2.symm.trans e.symm)
  case o4 =>
    refine own_block h.o4 fun g e => hB g (h.k4 g e) (fun e2 => own_ne_row h.o4 h.row (by decide) (e2 ▸ e)) (fun e2 => ?_)
    rcases own_apart h.o1 h.o4 (by decide) with a | a
    · rw [a] at e2; cases e2
    · exact a (e2.symm.trans e.symm)
theorem WSr.app2 (h : WSr X w K hv s N v1 v2 v3 v4 nm nh) {w1 : World} {v' : Value} {x : Mn} (ho : w1.ownsRow X.B 207 4 v' (s.ms.length + 1) (s.ms.flatMap mnC ++ mnC x)) (hg : w.grownBy w1 v2.ownBlock) (hl : v'.ownBlock = v2.ownBlock ∨ v'.ownBlock = some w.heap.size) :
    WSr X (w1.setCell ⟨X.b, 1, none⟩ v') (KU K v') hv { s with ms := s.ms ++ [x] } (N + 1) v1 v' v3 v4 nm nh ∧ Gx K w (KU K v') (w1.setCell ⟨X.b, 1, none⟩ v') := by
  have hrow1 : RowB w1 X.b 189 (wcc v1 v2 v3 v4 X.mb hv s.lam s.item) := (hg.block _ h.row.lt (fun e => own_ne_row h.o2 h.row (by decide) e.symm)).trans h.row
  have hS : ∀ g, g ≠ X.b → (w1.setCell ⟨X.b, 1, none⟩ v').heap[g]? = w1.heap[g]? := fun g hn => Below.heap_setCell w1 ⟨X.b, 1, none⟩ v' g hn
  have hB : ∀ g, K g → g ≠ X.b → some g ≠ v2.ownBlock → (w1.setCell ⟨X.b, 1, none⟩ v').heap[g]? = w.heap[g]? := fun g hk hn hne => (hS g hn).trans (hg.block g (h.lt g hk).2 hne)
  have hM : (w1.setCell ⟨X.b, 1, none⟩ v').heap[X.mb]? = w.heap[X.mb]? := by
    obtain ⟨f, m1, _⟩ := h.mm
    exact hB _ h.km (row_ne_map h.row m1) (fun e => own_ne_map h.o2 m1 e.symm)
  have hH : ∀ g, hv = some g → (w1.setCell ⟨X.b, 1, none⟩ v').heap[g]? = w.heap[g]? := fun g e => by
    have m1 := h.hv_ne e
    exact hB _ (h.kh g e) (row_ne_map h.row m1) (fun e => own_ne_map h.o2 m1 e.symm)
  have hGx := put_gx (grown_gx hg h.k2 hl) (p := ⟨X.b, 1, none⟩) h.kb v'
  have hl1 : (s.ms ++ [x]).length = s.ms.length + 1 := by simp
  have hf1 : (s.ms ++ [x]).flatMap mnC = s.ms.flatMap mnC ++ mnC x := by rw [List.flatMap_append]; simp
  refine ⟨⟨hrow1.put 1 v', ?o1, ?o2, ?o3, ?o4, h.mm.of_block hM, h.mh.of_block hH, h.ne, ?sum, .inl h.kb, .inl h.km, fun g e => .inl (h.kh g e), fun g e => .inl (h.k1 g e), fun g e => .inr e, fun g e => .inl (h.k3 g e), fun g e => .inl (h.k4 g e), ?lt⟩, hGx⟩
  case sum => have := h.sum; show _ + nm + nh ≤ N + 1; simp only [List.length_append, List.length_cons, List.length_nil]; omega
  case lt =>
    intro g hk
    rcases hk with hk | hk
    · exact ⟨(h.lt g hk).1, Nat.lt_of_lt_of_le (h.lt g hk).2 (by simpa [World.setCell] using hg.size)⟩
    · have := ho.lt g hk
      exact ⟨this.1, by simpa [World.setCell] using this.2⟩
  case o1 =>
    refine own_block h.o1 fun g e => hB g (h.k1 g e) (fun e2 => own_ne_row h.o1 h.row (by decide) (e2 ▸ e)) (fun e2 => ?_)
    rcases own_apart h.o2 h.o1 (by decide) with a | a
    · rw [a] at e2; cases e2
    · exact a (e2.symm.trans e.symm)
  case o2 =>
    show World.ownsRow _ X.B 207 4 v' (s.ms ++ [x]).length ((s.ms ++ [x]).flatMap mnC)
    rw [hl1, hf1]
    exact own_block ho fun g e => hS g (fun e2 => own_ne_row ho hrow1 (by decide) (e2 ▸ e))
  case o3 =>
    refine own_block h.o3 fun g e => hB g (h.k3 g e) (fun e2 => own_ne_row h.o3 h.row (by decide) (e2 ▸ e)) (fun e2 => ?_)
    rcases own_apart h.o2 h.o3 (by decide) with a | a
    · rw [a] at e2; cases e2
    · exact a (e2.symm.trans e.symm)
  case o4 =>
    refine own_block h.o4 fun g e => hB g (h.k4 g e) (fun e2 => own_ne_row h.o4 h.row (by decide) (e2 ▸ e)) (fun e2 => ?_)
    rcases own_apart h.o2 h.o4 (by decide) with a | a
    · rw [a] at e2; cases e2
    · exact a (e2.symm.trans e.symm)
theorem WSr.app3 (h : WSr X w K hv s N v1 v2 v3 v4 nm nh) {w1 : World} {v' : Value} {x : Int × Int} (ho : w1.ownsRow X.B 174 2 v' (s.bad.length + 1) (s.bad.flatMap baC ++ baC x)) (hg : w.grownBy w1 v3.ownBlock) (hl : v'.ownBlock = v3.ownBlock ∨ v'.ownBlock = some w.heap.size) :
    WSr X (w1.setCell ⟨X.b, 2, none⟩ v') (KU K v') hv { s with bad := s.bad ++ [x] } (N + 1) v1 v2 v' v4 nm nh ∧ Gx K w (KU K v') (w1.setCell ⟨X.b, 2, none⟩ v') := by
  have hrow1 : RowB w1 X.b 189 (wcc v1 v2 v3 v4 X.mb hv s.lam s.item) := (hg.block _ h.row.lt (fun e => own_ne_row h.o3 h.row (by decide) e.symm)).trans h.row
  have hS : ∀ g, g ≠ X.b → (w1.setCell ⟨X.b, 2, none⟩ v').heap[g]? = w1.heap[g]? := fun g hn => Below.heap_setCell w1 ⟨X.b, 2, none⟩ v' g hn
  have hB : ∀ g, K g → g ≠ X.b → some g ≠ v3.ownBlock → (w1.setCell ⟨X.b, 2, none⟩ v').heap[g]? = w.heap[g]? := fun g hk hn hne => (hS g hn).trans (hg.block g (h.lt g hk).2 hne)
  have hM : (w1.setCell ⟨X.b, 2, none⟩ v').heap[X.mb]? = w.heap[X.mb]? := by
    obtain ⟨f, m1, _⟩ := h.mm
    exact hB _ h.km (row_ne_map h.row m1) (fun e => own_ne_map h.o3 m1 e.symm)
  have hH : ∀ g, hv = some g → (w1.setCell ⟨X.b, 2, none⟩ v').heap[g]? = w.heap[g]? := fun g e => by
    have m1 := h.hv_ne e
    exact hB _ (h.kh g e) (row_ne_map h.row m1) (fun e => own_ne_map h.o3 m1 e.symm)
  have hGx := put_gx (grown_gx hg h.k3 hl) (p := ⟨X.b, 2, none⟩) h.kb v'
  have hl1 : (s.bad ++ [x]).length = s.bad.length + 1 := by simp
  have hf1 : (s.bad ++ [x]).flatMap baC = s.bad.flatMap baC ++ baC x := by rw [List.flatMap_append]; simp
  refine ⟨⟨hrow1.put 2 v', ?o1, ?o2, ?o3, ?o4, h.mm.of_block hM, h.mh.of_block hH, h.ne, ?sum, .inl h.kb, .inl h.km, fun g e => .inl (h.kh g e), fun g e => .inl (h.k1 g e), fun g e => .inl (h.k2 g e), fun g e => .inr e, fun g e => .inl (h.k4 g e), ?lt⟩, hGx⟩
  case sum => have := h.sum; show _ + nm + nh ≤ N + 1; simp only [List.length_append, List.length_cons, List.length_nil]; omega
  case lt =>
    intro g hk
    rcases hk with hk | hk
    · exact ⟨(h.lt g hk).1, Nat.lt_of_lt_of_le (h.lt g hk).2 (by simpa [World.setCell] using hg.size)⟩
    · have := ho.lt g hk
      exact ⟨this.1, by simpa [World.setCell] using this.2⟩
  case o1 =>
    refine own_block h.o1 fun g e => hB g (h.k1 g e) (fun e2 => own_ne_row h.o1 h.row (by decide) (e2 ▸ e)) (fun e2 => ?_)
    rcases own_apart h.o3 h.o1 (by decide) with a | a
    · rw [a] at e2; cases e2
    · exact a (e2.symm.trans e.symm)
  case o2 =>
    refine own_block h.o2 fun g e => hB g (h.k2 g e) (fun e2 => own_ne_row h.o2 h.row (by decide) (e2 ▸ e)) (fun e2 => ?_)
    rcases own_apart h.o3 h.o2 (by decide) with a | a
    · rw [a] at e2; cases e2
    · exact a (e2.symm.trans e.symm)
  case o3 =>
    show World.ownsRow _ X.B 174 2 v' (s.bad ++ [x]).length ((s.bad ++ [x]).flatMap baC)
    rw [hl1, hf1]
    exact own_block ho fun g e => hS g (fun e2 => own_ne_row ho hrow1 (by decide) (e2 ▸ e))
  case o4 =>
    refine own_block h.o4 fun g e => hB g (h.k4 g e) (fun e2 => own_ne_row h.o4 h.row (by decide) (e2 ▸ e)) (fun e2 => ?_)
    rcases own_apart h.o3 h.o4 (by decide) with a | a
    · rw [a] at e2; cases e2
    · exact a (e2.symm.trans e.symm)
theorem WSr.app4 (h : WSr X w K hv s N v1 v2 v3 v4 nm nh) {w1 : World} {v' : Value} {x : Int} (ho : w1.ownsRow X.B 3 1 v' (s.within.length + 1) (s.within.flatMap wiC ++ wiC x)) (hg : w.grownBy w1 v4.ownBlock) (hl : v'.ownBlock = v4.ownBlock ∨ v'.ownBlock = some w.heap.size) :
    WSr X (w1.setCell ⟨X.b, 6, none⟩ v') (KU K v') hv { s with within := s.within ++ [x] } (N + 1) v1 v2 v3 v' nm nh ∧ Gx K w (KU K v') (w1.setCell ⟨X.b, 6, none⟩ v') := by
  have hrow1 : RowB w1 X.b 189 (wcc v1 v2 v3 v4 X.mb hv s.lam s.item) := (hg.block _ h.row.lt (fun e => own_ne_row h.o4 h.row (by decide) e.symm)).trans h.row
  have hS : ∀ g, g ≠ X.b → (w1.setCell ⟨X.b, 6, none⟩ v').heap[g]? = w1.heap[g]? := fun g hn => Below.heap_setCell w1 ⟨X.b, 6, none⟩ v' g hn
  have hB : ∀ g, K g → g ≠ X.b → some g ≠ v4.ownBlock → (w1.setCell ⟨X.b, 6, none⟩ v').heap[g]? = w.heap[g]? := fun g hk hn hne => (hS g hn).trans (hg.block g (h.lt g hk).2 hne)
  have hM : (w1.setCell ⟨X.b, 6, none⟩ v').heap[X.mb]? = w.heap[X.mb]? := by
    obtain ⟨f, m1, _⟩ := h.mm
    exact hB _ h.km (row_ne_map h.row m1) (fun e => own_ne_map h.o4 m1 e.symm)
  have hH : ∀ g, hv = some g → (w1.setCell ⟨X.b, 6, none⟩ v').heap[g]? = w.heap[g]? := fun g e => by
    have m1 := h.hv_ne e
    exact hB _ (h.kh g e) (row_ne_map h.row m1) (fun e => own_ne_map h.o4 m1 e.symm)
  have hGx := put_gx (grown_gx hg h.k4 hl) (p := ⟨X.b, 6, none⟩) h.kb v'
  have hl1 : (s.within ++ [x]).length = s.within.length + 1 := by simp
  have hf1 : (s.within ++ [x]).flatMap wiC = s.within.flatMap wiC ++ wiC x := by rw [List.flatMap_append]; simp
  refine ⟨⟨hrow1.put 6 v', ?o1, ?o2, ?o3, ?o4, h.mm.of_block hM, h.mh.of_block hH, h.ne, ?sum, .inl h.kb, .inl h.km, fun g e => .inl (h.kh g e), fun g e => .inl (h.k1 g e), fun g e => .inl (h.k2 g e), fun g e => .inl (h.k3 g e), fun g e => .inr e, ?lt⟩, hGx⟩
  case sum => have := h.sum; show _ + nm + nh ≤ N + 1; simp only [List.length_append, List.length_cons, List.length_nil]; omega
  case lt =>
    intro g hk
    rcases hk with hk | hk
    · exact ⟨(h.lt g hk).1, Nat.lt_of_lt_of_le (h.lt g hk).2 (by simpa [World.setCell] using hg.size)⟩
    · have := ho.lt g hk
      exact ⟨this.1, by simpa [World.setCell] using this.2⟩
  case o1 =>
    refine own_block h.o1 fun g e => hB g (h.k1 g e) (fun e2 => own_ne_row h.o1 h.row (by decide) (e2 ▸ e)) (fun e2 => ?_)
    rcases own_apart h.o4 h.o1 (by decide) with a | a
    · rw [a] at e2; cases e2
    · exact a (e2.symm.trans e.symm)
  case o2 =>
    refine own_block h.o2 fun g e => hB g (h.k2 g e) (fun e2 => own_ne_row h.o2 h.row (by decide) (e2 ▸ e)) (fun e2 => ?_)
    rcases own_apart h.o4 h.o2 (by decide) with a | a
    · rw [a] at e2; cases e2
    · exact a (e2.symm.trans e.symm)
  case o3 =>
    refine own_block h.o3 fun g e => hB g (h.k3 g e) (fun e2 => own_ne_row h.o3 h.row (by decide) (e2 ▸ e)) (fun e2 => ?_)
    rcases own_apart h.o4 h.o3 (by decide) with a | a
    · rw [a] at e2; cases e2
    · exact a (e2.symm.trans e.symm)
  case o4 =>
    show World.ownsRow _ X.B 3 1 v' (s.within ++ [x]).length ((s.within ++ [x]).flatMap wiC)
    rw [hl1, hf1]
    exact own_block ho fun g e => hS g (fun e2 => own_ne_row ho hrow1 (by decide) (e2 ▸ e))
theorem WSr.means_put (h : WSr X w K hv s N v1 v2 v3 v4 nm nh) {w1 : World} {f : ByteArray → Int} (hm : MM w1 X.mb (nm + 1) f) (hg : w.grownBy w1 (some X.mb)) :
    WSr X w1 K hv { s with means := f } (N + 1) v1 v2 v3 v4 (nm + 1) nh ∧ Gx K w K w1 := by
  have hB : ∀ g, K g → g ≠ X.mb → w1.heap[g]? = w.heap[g]? := fun g hk hn => hg.block g (h.lt g hk).2 (fun e => hn (by injection e))
  obtain ⟨f0, m1, _⟩ := h.mm
  refine ⟨⟨(hB _ h.kb (fun e => row_ne_map h.row m1 e.symm)).trans h.row, own_block h.o1 fun g e => hB g (h.k1 g e) (fun e2 => own_ne_map h.o1 m1 (e2 ▸ e)), own_block h.o2 fun g e => hB g (h.k2 g e) (fun e2 => own_ne_map h.o2 m1 (e2 ▸ e)),
    own_block h.o3 fun g e => hB g (h.k3 g e) (fun e2 => own_ne_map h.o3 m1 (e2 ▸ e)), own_block h.o4 fun g e => hB g (h.k4 g e) (fun e2 => own_ne_map h.o4 m1 (e2 ▸ e)), hm, h.mh.of_block fun g e => hB g (h.kh g e) (fun e2 => h.ne (e2 ▸ e)), h.ne, ?_, h.kb, h.km, h.kh, h.k1, h.k2, h.k3, h.k4, ?_⟩, ?_⟩
  · have := h.sum; show s.bs.length + s.ms.length + s.bad.length + s.within.length + (nm + 1) + nh ≤ N + 1; omega
  · exact fun g hk => ⟨(h.lt g hk).1, Nat.lt_of_lt_of_le (h.lt g hk).2 hg.size⟩
  · exact ⟨hg.os, hg.tape, hg.output, hg.size, fun g h1 hn => hg.block g h1 (fun e => hn (by injection e with e; rw [e]; exact h.km)), fun g h => .inl h⟩
theorem WSr.here_put {hb : Nat} (h : WSr X w K (some hb) s N v1 v2 v3 v4 nm nh) {w1 : World} {f : ByteArray → Option Int} (hm : MF w1 hb (nh + 1) f) (hg : w.grownBy w1 (some hb)) :
    WSr X w1 K (some hb) { s with here := f } (N + 1) v1 v2 v3 v4 nm (nh + 1) ∧ Gx K w K w1 := by
  have hB : ∀ g, K g → g ≠ hb → w1.heap[g]? = w.heap[g]? := fun g hk hn => hg.block g (h.lt g hk).2 (fun e => hn (by injection e))
  have m1 : MF w hb nh s.here := h.mh
  refine ⟨⟨(hB _ h.kb (fun e => row_ne_map h.row m1 e.symm)).trans h.row, own_block h.o1 fun g e => hB g (h.k1 g e) (fun e2 => own_ne_map h.o1 m1 (e2 ▸ e)), own_block h.o2 fun g e => hB g (h.k2 g e) (fun e2 => own_ne_map h.o2 m1 (e2 ▸ e)),
    own_block h.o3 fun g e => hB g (h.k3 g e) (fun e2 => own_ne_map h.o3 m1 (e2 ▸ e)), own_block h.o4 fun g e => hB g (h.k4 g e) (fun e2 => own_ne_map h.o4 m1 (e2 ▸ e)), h.mm.of_block (hB _ h.km (fun e => h.ne (by rw [e]))), hm, h.ne, ?_, h.kb, h.km, h.kh, h.k1, h.k2, h.k3, h.k4, ?_⟩, ?_⟩
  · have := h.sum; show s.bs.length + s.ms.length + s.bad.length + s.within.length + nm + (nh + 1) ≤ N + 1; omega
  · exact fun g hk => ⟨(h.lt g hk).1, Nat.lt_of_lt_of_le (h.lt g hk).2 hg.size⟩
  · exact ⟨hg.os, hg.tape, hg.output, hg.size, fun g h1 hn => hg.block g h1 (fun e => hn (by injection e with e; rw [e]; exact h.kh hb rfl)), fun g h => .inl h⟩
theorem WSr.put_any (h : WSr X w K hv s N v1 v2 v3 v4 nm nh) {j : Nat} {u : Value} {t : St} (hr : RowB (w.setCell ⟨X.b, j, none⟩ u) X.b 189 (wcc v1 v2 v3 v4 X.mb hv t.lam t.item)) (e1 : t.bs = s.bs) (e2 : t.ms = s.ms) (e3 : t.bad = s.bad) (e4 : t.within = s.within) (e5 : t.means = s.means) (e6 : t.here = s.here) :
    WSr X (w.setCell ⟨X.b, j, none⟩ u) K hv t N v1 v2 v3 v4 nm nh ∧ Gx K w K (w.setCell ⟨X.b, j, none⟩ u) := by
  have hB : ∀ g, g ≠ X.b → (w.setCell ⟨X.b, j, none⟩ u).heap[g]? = w.heap[g]? := fun g hn => Below.heap_setCell w ⟨X.b, j, none⟩ u g hn
  obtain ⟨f0, m1, _⟩ := h.mm
  refine ⟨⟨hr, ?_, ?_, ?_, ?_, ?_, ?_, h.ne, by rw [e1, e2, e3, e4]; exact h.sum, h.kb, h.km, h.kh, h.k1, h.k2, h.k3, h.k4, fun g hk => ⟨(h.lt g hk).1, by simpa [World.setCell] using (h.lt g hk).2⟩⟩, put_gx (Gx.refl K w) (p := ⟨X.b, j, none⟩) h.kb u⟩
  · rw [e1]; exact own_block h.o1 fun g e => hB g (fun e2 => own_ne_row h.o1 h.row (by decide) (e2 ▸ e))
  · rw [e2]; exact own_block h.o2 fun g e => hB g (fun e2 => own_ne_row h.o2 h.row (by decide) (e2 ▸ e))
  · rw [e3]; exact own_block h.o3 fun g e => hB g (fun e2 => own_ne_row h.o3 h.row (by decide) (e2 ▸ e))
  · rw [e4]; exact own_block h.o4 fun g e => hB g (fun e2 => own_ne_row h.o4 h.row (by decide) (e2 ▸ e))
  · rw [e5]; exact h.mm.of_block (hB _ (row_ne_map h.row m1))
  · rw [e6]; exact h.mh.of_block fun g e => hB g (row_ne_map h.row (h.hv_ne e))
theorem WSr.put_lam (h : WSr X w K hv s N v1 v2 v3 v4 nm nh) (l : Int) : WSr X (w.setCell ⟨X.b, 5, none⟩ (.int .i64 l)) K hv { s with lam := l } N v1 v2 v3 v4 nm nh ∧ Gx K w K (w.setCell ⟨X.b, 5, none⟩ (.int .i64 l)) :=
  h.put_any (t := { s with lam := l }) (h.row.put 5 _) rfl rfl rfl rfl rfl rfl
theorem WSr.put_item (h : WSr X w K hv s N v1 v2 v3 v4 nm nh) (l : Int) : WSr X (w.setCell ⟨X.b, 7, none⟩ (.int .i64 l)) K hv { s with item := l } N v1 v2 v3 v4 nm nh ∧ Gx K w K (w.setCell ⟨X.b, 7, none⟩ (.int .i64 l)) :=
  h.put_any (t := { s with item := l }) (h.row.put 7 _) rfl rfl rfl rfl rfl rfl
theorem WSr.put_here (h : WSr X w K hv s N v1 v2 v3 v4 nm nh) {hv' : Option Nat} {n' N' : Nat} {f : ByteArray → Option Int} {K' : Nat → Prop} (hH : HM w hv' n' f) (hne : hv' ≠ some X.mb) (hK : ∀ g, K g → some g ≠ hv → K' g) (hK' : ∀ g, hv' = some g → K' g) (hKl : ∀ g, K' g → K g ∨ hv' = some g) (hl : ∀ g, hv' = some g → X.B ≤ g ∧ g < w.heap.size)
    (hN : s.bs.length + s.ms.length + s.bad.length + s.within.length + nm + n' ≤ N') :
    WSr X (w.setCell ⟨X.b, 4, none⟩ (.map hv')) K' hv' { s with here := f } N' v1 v2 v3 v4 nm n' ∧ ∀ g, g ≠ X.b → (w.setCell ⟨X.b, 4, none⟩ (.map hv')).heap[g]? = w.heap[g]? := by
  have hB : ∀ g, g ≠ X.b → (w.setCell ⟨X.b, 4, none⟩ (.map hv')).heap[g]? = w.heap[g]? := fun g hn => Below.heap_setCell w ⟨X.b, 4, none⟩ (.map hv') g hn
  obtain ⟨f0, m1, _⟩ := h.mm
  refine ⟨⟨h.row.put 4 _, own_block h.o1 fun g e => hB g (fun e2 => own_ne_row h.o1 h.row (by decide) (e2 ▸ e)), own_block h.o2 fun g e => hB g (fun e2 => own_ne_row h.o2 h.row (by decide) (e2 ▸ e)), own_block h.o3 fun g e => hB g (fun e2 => own_ne_row h.o3 h.row (by decide) (e2 ▸ e)),
    own_block h.o4 fun g e => hB g (fun e2 => own_ne_row h.o4 h.row (by decide) (e2 ▸ e)), h.mm.of_block (hB _ (row_ne_map h.row m1)), hH.of_block fun g e => hB g ?_, hne, hN, hK _ h.kb ?_, hK _ h.km (fun e => h.ne e.symm), hK', ?_, ?_, ?_, ?_, ?_⟩, hB⟩
  · have m2 : MF w g n' f := by have := hH; rw [e] at this; exact this
    exact row_ne_map h.row m2
  · exact fun e => row_ne_map h.row (h.hv_ne e.symm) rfl
  · exact fun g e => hK g (h.k1 g e) (fun e2 => own_ne_map h.o1 (h.hv_ne e2.symm) e)
  · exact fun g e => hK g (h.k2 g e) (fun e2 => own_ne_map h.o2 (h.hv_ne e2.symm) e)
  · exact fun g e => hK g (h.k3 g e) (fun e2 => own_ne_map h.o3 (h.hv_ne e2.symm) e)
  · exact fun g e => hK g (h.k4 g e) (fun e2 => own_ne_map h.o4 (h.hv_ne e2.symm) e)
  · intro g hg
    rcases hKl g hg with h1 | h1
    · exact ⟨(h.lt g h1).1, by simpa [World.setCell] using (h.lt g h1).2⟩
    · exact ⟨(hl g h1).1, by simpa [World.setCell] using (hl g h1).2⟩
theorem app_at {w : World} {t e size bytes : Nat} {z : Value} (ht : Tryz.prog.underlying t = some (.slice e)) (hi : (Tryz.prog.info? e).map (fun i => (i.zero, i.size, i.bytes)) = some (some z, size, bytes)) (hzs : z.cells.size = size) (hsz : 0 < size) (hby : bytes ≤ 64)
    (base : Nat) (v : Value) (n : Nat) (xs : List Value) (hown : w.ownsRow base e size v n xs) (blk : Nat) (cs : Array Value) (hr : RowB w blk e cs) (hl : cs.size = size) (h1 : ∀ u ∈ cs.toList, u.oneCell' = true) (hn : n ≤ 1000000000) (hbase : base ≤ w.heap.size) (ty : TypeId) :
    ∃ v' w', (Builtin.append_ #[t, t] ty #[v, .slice (some ⟨blk, 0, none⟩) 1 1]).run Tryz.prog w = .ok v' w' ∧ w'.ownsRow base e size v' (n + 1) (xs ++ cs.toList) ∧ w.grownBy w' v.ownBlock ∧ (v'.ownBlock = v.ownBlock ∨ v'.ownBlock = some w.heap.size) := by
  cases hi' : Tryz.prog.info? e with
  | none => rw [hi'] at hi; cases hi
  | some i =>
    rw [hi'] at hi
    simp only [Option.map_some, Option.some.injEq, Prod.mk.injEq] at hi
    have hb2 : (n + 1) * bytes ≤ 140737488355328 := Nat.le_trans (Nat.mul_le_mul_left _ hby) (by omega)
    obtain ⟨v', w', a1, a2, a3, _, a5⟩ := run_append_own_at (P := Tryz.prog) w base t ty e i z size bytes ht hi' hi.1 hi.2.1 hi.2.2 hzs hsz v n xs hown ⟨blk, 0, none⟩ 1 1 cs.toList (by simpa using hl) (fun j u hj => by
      have : (⟨blk, 0, none⟩ : Addr).add j = ⟨blk, j, none⟩ := by unfold Addr.add; split <;> simp_all
      rw [this, hr.cell j, ← Array.getElem?_toList]
      exact hj) h1 (by simp only [maxLen]; omega) hb2 hbase
    exact ⟨v', w', a1, a2, a3, a5⟩
end Sc
end Go.Proofs.YthjflofcgdfekaaGreatDoor
namespace Go.Proofs.YthjflofcgdfekaaGreatDoor
open Go.RowKit Go.Op
namespace Sc
set_option maxHeartbeats 4000000 in
set_option maxRecDepth 100000 in
theorem meant_any {X : Wc} {w : World} {K : Nat → Prop} {hv : Option Nat} {s : St} {N nm nh : Nat} {v1 v2 v3 v4 : Value} (h : WSr X w K hv s N v1 v2 v3 v4 nm nh) {x : ByteArray} (hx : x.size ≤ maxLen) :
    Calls Tryz.prog 174 #[X.p, .string x] w fun e w' => e = .returned (.int .i64 (s.means x)) ∧ w' = w := by
  obtain ⟨g, m1, hg⟩ := h.mm
  have hgx := hg x
  have hlk := m1.look Tryz.underlying186 hx
  have c1 : w.cell? ⟨X.b, 3, none⟩ = some (.map (some X.mb)) := by rw [h.row.cell 3]; simp [wcc]
  obtain ⟨b, mb, B⟩ := X
  simp only at *
  obtain ⟨r, hr⟩ : ∃ r, r = s.means x := ⟨_, rfl⟩
  rw [← hr] at hgx ⊢
  clear h m1 hg hr
  cases e : g x with
  | none =>
    rw [e] at hlk hgx
    simp only [Option.getD_none, Option.isSome_none] at hlk hgx
    subst hgx
    clear e
    go_enter Tryz.func174, Tryz.ntmps174
    go_wp2
    (first | go_ret | go_ret2)
    exact ⟨rfl, rfl⟩
  | some v =>
    rw [e] at hlk hgx
    simp only [Option.getD_some, Option.isSome_some] at hlk hgx
    subst hgx
    clear e
    go_enter Tryz.func174, Tryz.ntmps174
    go_wp2
    (first | go_ret | go_ret2)
    exact ⟨rfl, rfl⟩
end Sc
end Go.Proofs.YthjflofcgdfekaaGreatDoor
