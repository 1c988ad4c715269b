/- Values: QL. -/
import Derived.Test.YtbjlhdjcdinmhaaDoorQK
import Derived.OwnWalk
namespace Go.Proofs.YtbjlhdjcdinmhaaDoor
open Go.RowKit
namespace Vm
/-- Labels and parts as far as they have been laid; W: the world ahead of them; T: the one old block that turns. -/
structure RS (W wa : World) (T : Nat) (P : Nat → Prop) (v1 v2 : Value) (nl : List ByteArray) (tl : List Vl) (cs : List Value) : Prop where
  o1 : wa.ownsRow W.heap.size 9 1 v1 nl.length (nl.map Value.string)
  o2 : wa.ownsRow W.heap.size 34 5 v2 tl.length cs
  tl : VL wa (fun g => P g ∧ g < W.heap.size ∧ g ≠ T) tl cs
  fr : Fr T W.heap.size W wa
theorem RS.alloc {W wa : World} {T : Nat} {P : Nat → Prop} {v1 v2 : Value} {nl : List ByteArray} {tl : List Vl} {cs : List Value} (h : RS W wa T P v1 v2 nl tl cs) (o : Obj) : RS W (wa.alloc o) T P v1 v2 nl tl cs :=
  ⟨h.o1.alloc o, h.o2.alloc o, h.tl.below (bel1 wa o), h.fr.alloc h.fr.size o⟩
theorem RS.drew {W wa : World} {T : Nat} {P : Nat → Prop} {v1 v2 : Value} {nl : List ByteArray} {tl : List Vl} {cs : List Value} (h : RS W wa T P v1 v2 nl tl cs) : RS W wa.drew T P v1 v2 nl tl cs :=
  ⟨h.o1.drew, h.o2.drew, h.tl.keep1 (Nat.le_refl _) (fun _ _ _ => rfl), h.fr.trans (.of (Below.drew (Below.refl _ _)))⟩
theorem RS.drewN {W wa : World} {T : Nat} {P : Nat → Prop} {v1 v2 : Value} {nl : List ByteArray} {tl : List Vl} {cs : List Value} (h : RS W wa T P v1 v2 nl tl cs) (n : Nat) : RS W (wa.drewN n) T P v1 v2 nl tl cs :=
  ⟨h.o1, h.o2, h.tl.keep1 (Nat.le_refl _) (fun _ _ _ => rfl), h.fr.trans (.of (below_drewN (Below.refl _ _) n))⟩
theorem RS.app1 {W wa w1 : World} {T : Nat} {P : Nat → Prop} {v1 v2 v1' : Value} {nl : List ByteArray} {tl : List Vl} {cs : List Value} (h : RS W wa T P v1 v2 nl tl cs) {s : ByteArray}
    (hown : w1.ownsRow W.heap.size 9 1 v1' (nl.length + 1) (nl.map Value.string ++ [.string s])) (hg : wa.grownBy w1 v1.ownBlock) : RS W w1 T P v1' v2 (nl ++ [s]) tl cs := by
  refine ⟨by simpa using hown, own_keep h.o2 hg (own_apart h.o2 h.o1 (by omega)), h.tl.keep1 hg.size (fun g hp hl => hg.block g hl fun e => ?_), h.fr.grown hg h.fr.size (fun k hk => (h.o1.lt k hk).1)⟩
  have := (h.o1.lt g e.symm).1
  omega
theorem RS.app2 {W wa w1 : World} {T : Nat} {P : Nat → Prop} {v1 v2 v2' : Value} {nl : List ByteArray} {tl : List Vl} {cs : List Value} (h : RS W wa T P v1 v2 nl tl cs) {t : Vl} {An : Option Addr} {cn : Nat} {A : Option Addr} {c : Nat}
    (hown : w1.ownsRow W.heap.size 34 5 v2' (tl.length + 1) (cs ++ vcs t An cn A c)) (hg : wa.grownBy w1 v2.ownBlock) (ht : VI W (fun g => P g ∧ g < W.heap.size ∧ g ≠ T) t An cn A c) : RS W w1 T P v1 v2' nl (tl ++ [t]) (cs ++ vcs t An cn A c) := by
  have hf := h.fr.grown hg h.fr.size (fun k hk => (h.o2.lt k hk).1)
  refine ⟨own_keep h.o1 hg (own_apart h.o1 h.o2 (by omega)), by simpa using hown, VL.app _ _ (h.tl.keep1 hg.size (fun g hp hl => hg.block g hl fun e => ?_)) (VL.one (ht.keep hf.size fun g hp _ => ⟨hf.block g hp.2.1 hp.2.2, hp⟩)), hf⟩
  have := (h.o2.lt g e.symm).1
  omega
theorem RS.put {W wa : World} {T : Nat} {P : Nat → Prop} {v1 v2 : Value} {nl : List ByteArray} {tl : List Vl} {cs : List Value} (h : RS W wa T P v1 v2 nl tl cs) (hT : T < W.heap.size) (j : Nat) (u : Value) : RS W (wa.setCell ⟨T, j, none⟩ u) T P v1 v2 nl tl cs := by
  have hf : Fr T wa.heap.size wa (wa.setCell ⟨T, j, none⟩ u) := (Fr.refl T wa.heap.size wa).put j u
  exact ⟨hf.own h.o1 hT, hf.own h.o2 hT, h.tl.keep1 hf.size (fun g hp hl => hf.block g hl hp.2.2), h.fr.put j u⟩
theorem RS.start (W : World) (T : Nat) (P : Nat → Prop) : RS W W T P (.slice none 0 0) (.slice none 0 0) [] [] [] :=
  ⟨World.ownsRow_nil W _ 9 1, World.ownsRow_nil W _ 34 5, by rw [VL], Fr.refl _ _ _⟩
/-- What Record answers. -/
def RecQ (P : Nat → Prop) (ns : List ByteArray) (ps : List Vl) (w : World) (e : Ending) (w' : World) : Prop :=
  ∃ (t : Vl) (An : Option Addr) (cn : Nat) (A : Option Addr) (c : Nat) (z : Int), e = .returned (.tuple #[vv t An cn A c, .int .i64 z]) ∧ VI w' (fun g => P g ∨ w.heap.size ≤ g) t An cn A c ∧ Below w.heap.size w w' ∧
    ((z = 1 ∧ ns.length ≠ ps.length ∧ t = zero) ∨ (z = 40 ∧ ns.length = ps.length ∧ ¬ ns.Nodup ∧ t = zero) ∨ (z = 0 ∧ ns.length = ps.length ∧ ns.Nodup ∧ IsRec ns ps t))
theorem RecQ.none {P : Nat → Prop} {ns : List ByteArray} {ps : List Vl} {w w' : World} {z : Int} (hb : Below w.heap.size w w') (h : (z = 1 ∧ ns.length ≠ ps.length) ∨ (z = 40 ∧ ns.length = ps.length ∧ ¬ ns.Nodup)) : RecQ P ns ps w (.returned (.tuple #[zv, .int .i64 z])) w' := by
  refine ⟨zero, Option.none, 0, Option.none, 0, z, rfl, VI_iff.2 ⟨NV.nil _ _ _ _, VV.nil _ _ _ _⟩, hb, ?_⟩
  rcases h with h | h
  · exact .inl ⟨h.1, h.2, rfl⟩
  · exact .inr (.inl ⟨h.1, h.2.1, h.2.2, rfl⟩)
/-- All is laid. -/
theorem RS.fin {W wa : World} {T : Nat} {P : Nat → Prop} {v1 v2 : Value} {nl : List ByteArray} {tl : List Vl} {cs : List Value} (h : RS W wa T P v1 v2 nl tl cs) (hz : ∀ s ∈ nl, s.size ≤ 140737488351232) (B : Nat) (hB : B ≤ W.heap.size) (k : VH) :
    ∃ An cn A c, v1 = .slice An nl.length cn ∧ v2 = .slice A tl.length c ∧ ∀ w', (∀ g, g < wa.heap.size → g ≠ T → B ≤ g ∨ P g → w'.heap[g]? = wa.heap[g]?) → wa.heap.size ≤ w'.heap.size → T < W.heap.size → VI w' (fun g => P g ∨ B ≤ g) (.mk k nl tl) An cn A c := by
  obtain ⟨An, cn, e1, c1⟩ := own_shape h.o1
  obtain ⟨A, c, e2, c2⟩ := own_shape h.o2
  refine ⟨An, cn, A, c, e1, e2, fun w' hk hs hT => VI_iff.2 ?_⟩
  have o1 := h.o1
  have o2 := h.o2
  rw [e1] at o1
  rw [e2] at o2
  have hn : NV wa (fun g => (P g ∨ B ≤ g) ∧ g ≠ T) nl An cn := NV.of_own o1 rfl hz (fun g hg _ => ⟨.inr (by omega), by omega⟩) c1
  have ht : VV wa (fun g => (P g ∨ B ≤ g) ∧ g ≠ T) tl A c := VV.of_own o2 rfl h.tl (fun g hg => ⟨.inl hg.1, hg.2.2⟩) (fun g hg _ => ⟨.inr (by omega), by omega⟩) c2
  exact ⟨hn.keep hs fun g hg hl => ⟨hk g hl hg.2 (by rcases hg.1 with h | h; exact .inr h; exact .inl h), hg.1⟩, ht.keep hs fun g hg hl => ⟨hk g hl hg.2 (by rcases hg.1 with h | h; exact .inr h; exact .inl h), hg.1⟩⟩

end Vm
end Go.Proofs.YtbjlhdjcdinmhaaDoor
