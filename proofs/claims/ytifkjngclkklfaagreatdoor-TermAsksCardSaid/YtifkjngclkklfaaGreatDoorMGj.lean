/- Contracts: the record of labels and parts: what it is; rows that grow beside one another. -/
import Derived.Test.YtifkjngclkklfaaGreatDoorMGi
import Derived.Deep.AppendLies
import Derived.OwnWalk
import Derived.Test.YtifkjngclkklfaaGreatDoorMGe
import Derived.Test.YtifkjngclkklfaaGreatDoorMGf
import Derived.BigQuiet
import Derived.Test.YtifkjngclkklfaaGreatDoorMGc
import Derived.Test.YtifkjngclkklfaaGreatDoorTie
import Derived.Test.YtifkjngclkklfaaGreatDoorCards
import Derived.PinnedBridge
import Derived.Lib.LaidU8
import Derived.Lay
import Derived.SevenTiedAt
namespace Go.Proofs.YtifkjngclkklfaaGreatDoor
open Go.RowKit
namespace Tm
theorem info9 : (Tryz.prog.info? 9).map (fun i => (i.zero, i.size, i.bytes)) = some (some (.string ⟨#[]⟩), 1, 16) := by kernel_rfl
theorem infoT : (Tryz.prog.info? 25).map (fun i => (i.zero, i.size, i.bytes)) = some (some tz, 3, 56) := by kernel_rfl
/-- Two rows of cells of two types lie apart. -/
theorem own_apart {w : World} {b1 b2 e1 e2 s1 s2 n m : Nat} {u v : Value} {xs ys : List Value} (h1 : w.ownsRow b1 e1 s1 u n xs) (h2 : w.ownsRow b2 e2 s2 v m ys) (he : e1 ≠ e2) : u.ownBlock = none ∨ u.ownBlock ≠ v.ownBlock := by
  rcases h1.2 with ⟨rfl, _⟩ | ⟨g, cap, cur, rfl, _, hg, _⟩
  · exact .inl rfl
  · refine .inr fun e => ?_
    rcases h2.2 with ⟨rfl, _⟩ | ⟨g', cap', cur', rfl, _, hg', _⟩
    · simp [Value.ownBlock] at e
    · simp only [Value.ownBlock, Option.some.injEq] at e
      subst e
      rw [hg] at hg'
      simp at hg'
      exact he hg'.2
theorem own_keep {w w' : World} {b e s n : Nat} {v : Value} {xs : List Value} {k : Option Nat} (h : w.ownsRow b e s v n xs) (hg : w.grownBy w' k) (hne : v.ownBlock = none ∨ v.ownBlock ≠ k) : w'.ownsRow b e s v n xs := by
  refine ⟨h.1, ?_⟩
  rcases h.2 with ⟨hv, hn⟩ | ⟨g, cap, cur, rfl, h1, h2, h3⟩
  · exact .inl ⟨hv, hn⟩
  · have hlt : g < w.heap.size := (h.lt g rfl).2
    refine .inr ⟨g, cap, cur, rfl, h1, (hg.block g hlt ?_).trans h2, h3⟩
    rcases hne with e | e
    · simp [Value.ownBlock] at e
    · exact e
/-- What is the record of some labels and parts. -/
structure IsRec (ns : List ByteArray) (ps : List Ty) (t : Ty) : Prop where
  kind : t.kind = 3
  rise : riseB t.names = true
  len : t.names.length = t.parts.length
  mem : ∀ x p, (x, p) ∈ t.names.zip t.parts ↔ (x, p) ∈ ns.zip ps
theorem zip_fst {ns : List ByteArray} {ps : List Ty} (h : ns.length = ps.length) : (ns.zip ps).map Prod.fst = ns := List.map_fst_zip (by omega)
theorem zip_snd {ns : List ByteArray} {ps : List Ty} (h : ns.length = ps.length) : (ns.zip ps).map Prod.snd = ps := List.map_snd_zip (by omega)
theorem IsRec.uniq {ns : List ByteArray} {ps : List Ty} {t u : Ty} (h : IsRec ns ps t) (k : IsRec ns ps u) : t = u := by
  have e := pairs_ext (l := t.names.zip t.parts) (m := u.names.zip u.parts) (by rw [zip_fst h.len]; exact h.rise) (by rw [zip_fst k.len]; exact k.rise) fun x r => (h.mem x r).trans (k.mem x r).symm
  refine Ty.ext (h.kind.trans k.kind.symm) ?_ ?_
  · rw [← zip_fst h.len, e, zip_fst k.len]
  · rw [← zip_snd h.len, e, zip_snd k.len]
def nth (ns : List ByteArray) (i : Nat) : ByteArray := ns.getD i ⟨#[]⟩
def nthT (ps : List Ty) (i : Nat) : Ty := ps.getD i dyn
theorem nth_some {ns : List ByteArray} {i : Nat} (h : i < ns.length) : ns[i]? = some (nth ns i) := by
  unfold nth
  rw [List.getD_eq_getElem?_getD, List.getElem?_eq_getElem h]; rfl
theorem nthT_some {ps : List Ty} {i : Nat} (h : i < ps.length) : ps[i]? = some (nthT ps i) := by
  unfold nthT
  rw [List.getD_eq_getElem?_getD, List.getElem?_eq_getElem h]; rfl
/-- Names that rise as far as they have been looked at. -/
theorem ris_next {ns : List ByteArray} {pl : List Nat} (R : Ris ns pl) {i p q : Nat} (hp : pl[i]? = some p) (hq : pl[i + 1]? = some q) (hne : nth ns p ≠ nth ns q) : lt (nth ns p) (nth ns q) = true := by
  have h1 := (R.mem p).1 (List.mem_of_getElem? hp)
  have h2 := (R.mem q).1 (List.mem_of_getElem? hq)
  have h := R.ord i (i + 1) _ _ (by omega) ⟨p, hp, nth_some h1⟩ ⟨q, hq, nth_some h2⟩
  cases k : lt (nth ns p) (nth ns q)
  · exact absurd (lt_tri k h) hne
  · rfl
theorem rise_snoc {l : List ByteArray} {x : ByteArray} (h : riseB l = true) (k : ∀ y, l.getLast? = some y → lt y x = true) : riseB (l ++ [x]) = true := by
  induction l with
  | nil => rfl
  | cons a l ih =>
    cases l with
    | nil => simp only [List.cons_append, List.nil_append, riseB, Bool.and_true]; exact k a (by simp)
    | cons b l =>
      rw [riseB, Bool.and_eq_true] at h
      rw [List.cons_append, List.cons_append, riseB, Bool.and_eq_true]
      exact ⟨h.1, ih h.2 fun y hy => k y (by simpa using hy)⟩
/-- What all places give is the record. -/
theorem ris_rec {ns : List ByteArray} {ps : List Ty} {pl : List Nat} (R : Ris ns pl) (hl : ns.length = ps.length) (hr : riseB (pl.map (nth ns)) = true) : IsRec ns ps (.mk 3 (pl.map (nth ns)) (pl.map (nthT ps))) := by
  refine ⟨rfl, hr, by simp, fun x p => ?_⟩
  simp only [names_mk, parts_mk]
  rw [List.zip_map', List.mem_map]
  constructor
  · rintro ⟨i, hi, e⟩
    injection e with e1 e2
    have hlt := (R.mem i).1 hi
    refine List.mem_of_getElem? (i := i) ?_
    rw [List.getElem?_zip_eq_some]
    exact ⟨by rw [nth_some hlt, e1], by rw [nthT_some (by omega), e2]⟩
  · intro hm
    obtain ⟨i, hi⟩ := List.getElem?_of_mem hm
    rw [List.getElem?_zip_eq_some] at hi
    have hlt := (List.getElem?_eq_some_iff.1 hi.1).1
    refine ⟨i, (R.mem i).2 hlt, ?_⟩
    have e1 := nth_some hlt
    have e2 := nthT_some (ps := ps) (i := i) (by omega)
    rw [hi.1] at e1
    rw [hi.2] at e2
    injection e1 with e1
    injection e2 with e2
    rw [← e1, ← e2]
theorem nodup_at {α : Type} {l : List α} (h : l.Nodup) {i j : Nat} {x : α} (e : l[i]? = some x) (e' : l[j]? = some x) : i = j := by
  obtain ⟨h1, h2⟩ := List.getElem?_eq_some_iff.1 e
  obtain ⟨h3, h4⟩ := List.getElem?_eq_some_iff.1 e'
  exact (List.getElem_inj h).1 (h2.trans h4.symm)
theorem ris_nodup {ns : List ByteArray} {pl : List Nat} (R : Ris ns pl) (hr : riseB (pl.map (nth ns)) = true) : ns.Nodup := by
  have h1 := rise_nodup hr
  refine List.pairwise_iff_getElem.2 fun i j hi hj hij e => ?_
  obtain ⟨a, ha⟩ := List.getElem?_of_mem ((R.mem i).2 hi)
  obtain ⟨b, hb⟩ := List.getElem?_of_mem ((R.mem j).2 hj)
  have x1 := nth_some hi
  have x2 := nth_some hj
  rw [List.getElem?_eq_getElem hi] at x1
  rw [List.getElem?_eq_getElem hj, ← e] at x2
  have en : nth ns i = nth ns j := by
    injection x1 with x1
    injection x2 with x2
    rw [← x1, ← x2]
  have ea : (pl.map (nth ns))[a]? = some (nth ns i) := by simp [ha]
  have eb : (pl.map (nth ns))[b]? = some (nth ns i) := by simp [hb, en]
  have := nodup_at h1 ea eb
  subst this
  rw [ha] at hb
  injection hb with hb
  omega
theorem ris_dup {ns : List ByteArray} {pl : List Nat} (R : Ris ns pl) {i p q : Nat} (hp : pl[i]? = some p) (hq : pl[i + 1]? = some q) (he : nth ns p = nth ns q) : ¬ ns.Nodup := by
  intro hn
  have h1 := (R.mem p).1 (List.mem_of_getElem? hp)
  have h2 := (R.mem q).1 (List.mem_of_getElem? hq)
  have e := nodup_at hn (nth_some h1) (by rw [nth_some h2, he])
  subst e
  have := nodup_at R.nodup hp hq
  omega
end Tm
end Go.Proofs.YtifkjngclkklfaaGreatDoor
/- Two rows that grow beside one another: labels, parts. -/
namespace Go.Proofs.YtifkjngclkklfaaGreatDoor
open Go.RowKit
namespace Tm
/-- Labels and parts as far as they have been laid; W: the world ahead of them; T: the one old block that turns. -/
structure RS (W wa : World) (T : Nat) (P : Nat → Prop) (v1 v2 : Value) (nl : List ByteArray) (tl : List Ty) (cs : List Value) : Prop where
  o1 : wa.ownsRow W.heap.size 9 1 v1 nl.length (nl.map Value.string)
  o2 : wa.ownsRow W.heap.size 25 3 v2 tl.length cs
  tl : TL wa (fun g => P g ∧ g < W.heap.size ∧ g ≠ T) tl cs
  fr : Fr T W.heap.size W wa
theorem TL.keep1 {w w' : World} {P : Nat → Prop} {ts : List Ty} {cs : List Value} (h : TL w P ts cs) (hs : w.heap.size ≤ w'.heap.size) (hb : ∀ g, P g → g < w.heap.size → w'.heap[g]? = w.heap[g]?) : TL w' P ts cs :=
  TL.keep hs (fun g hg hl => ⟨hb g hg hl, hg⟩) ts cs h
theorem RS.alloc {W wa : World} {T : Nat} {P : Nat → Prop} {v1 v2 : Value} {nl : List ByteArray} {tl : List Ty} {cs : List Value} (h : RS W wa T P v1 v2 nl tl cs) (o : Obj) : RS W (wa.alloc o) T P v1 v2 nl tl cs :=
  ⟨h.o1.alloc o, h.o2.alloc o, h.tl.below (bel1 wa o), h.fr.alloc h.fr.size o⟩
theorem RS.drew {W wa : World} {T : Nat} {P : Nat → Prop} {v1 v2 : Value} {nl : List ByteArray} {tl : List Ty} {cs : List Value} (h : RS W wa T P v1 v2 nl tl cs) : RS W wa.drew T P v1 v2 nl tl cs :=
  ⟨h.o1.drew, h.o2.drew, h.tl.keep1 (Nat.le_refl _) (fun _ _ _ => rfl), h.fr.trans (.of (Below.drew (Below.refl _ _)))⟩
theorem RS.drewN {W wa : World} {T : Nat} {P : Nat → Prop} {v1 v2 : Value} {nl : List ByteArray} {tl : List Ty} {cs : List Value} (h : RS W wa T P v1 v2 nl tl cs) (n : Nat) : RS W (wa.drewN n) T P v1 v2 nl tl cs :=
  ⟨h.o1, h.o2, h.tl.keep1 (Nat.le_refl _) (fun _ _ _ => rfl), h.fr.trans (.of (below_drewN (Below.refl _ _) n))⟩
theorem RS.app1 {W wa w1 : World} {T : Nat} {P : Nat → Prop} {v1 v2 v1' : Value} {nl : List ByteArray} {tl : List Ty} {cs : List Value} (h : RS W wa T P v1 v2 nl tl cs) {s : ByteArray}
    (hown : w1.ownsRow W.heap.size 9 1 v1' (nl.length + 1) (nl.map Value.string ++ [.string s])) (hg : wa.grownBy w1 v1.ownBlock) : RS W w1 T P v1' v2 (nl ++ [s]) tl cs := by
  refine ⟨by simpa using hown, own_keep h.o2 hg (own_apart h.o2 h.o1 (by omega)), h.tl.keep1 hg.size (fun g hp hl => hg.block g hl fun e => ?_), h.fr.grown hg h.fr.size (fun k hk => (h.o1.lt k hk).1)⟩
  have := (h.o1.lt g e.symm).1
  omega
theorem RS.app2 {W wa w1 : World} {T : Nat} {P : Nat → Prop} {v1 v2 v2' : Value} {nl : List ByteArray} {tl : List Ty} {cs : List Value} (h : RS W wa T P v1 v2 nl tl cs) {t : Ty} {An : Option Addr} {cn : Nat} {A : Option Addr} {c : Nat}
    (hown : w1.ownsRow W.heap.size 25 3 v2' (tl.length + 1) (cs ++ tcs t An cn A c)) (hg : wa.grownBy w1 v2.ownBlock) (ht : TI W (fun g => P g ∧ g < W.heap.size ∧ g ≠ T) t An cn A c) : RS W w1 T P v1 v2' nl (tl ++ [t]) (cs ++ tcs t An cn A c) := by
  have hf := h.fr.grown hg h.fr.size (fun k hk => (h.o2.lt k hk).1)
  refine ⟨own_keep h.o1 hg (own_apart h.o1 h.o2 (by omega)), by simpa using hown, TL.app _ _ (h.tl.keep1 hg.size (fun g hp hl => hg.block g hl fun e => ?_)) (TL.one (ht.keep hf.size fun g hp _ => ⟨hf.block g hp.2.1 hp.2.2, hp⟩)), hf⟩
  have := (h.o2.lt g e.symm).1
  omega
theorem RS.put {W wa : World} {T : Nat} {P : Nat → Prop} {v1 v2 : Value} {nl : List ByteArray} {tl : List Ty} {cs : List Value} (h : RS W wa T P v1 v2 nl tl cs) (hT : T < W.heap.size) (j : Nat) (u : Value) : RS W (wa.setCell ⟨T, j, none⟩ u) T P v1 v2 nl tl cs := by
  have hf : Fr T wa.heap.size wa (wa.setCell ⟨T, j, none⟩ u) := (Fr.refl T wa.heap.size wa).put j u
  exact ⟨hf.own h.o1 hT, hf.own h.o2 hT, h.tl.keep1 hf.size (fun g hp hl => hf.block g hl hp.2.2), h.fr.put j u⟩
theorem RS.start (W : World) (T : Nat) (P : Nat → Prop) : RS W W T P (.slice none 0 0) (.slice none 0 0) [] [] [] :=
  ⟨World.ownsRow_nil W _ 9 1, World.ownsRow_nil W _ 25 3, by rw [TL], Fr.refl _ _ _⟩
theorem own_shape {w : World} {base e s n : Nat} {v : Value} {xs : List Value} (h : w.ownsRow base e s v n xs) : ∃ A cap, v = .slice A n cap ∧ n ≤ cap := by
  rcases h.2 with ⟨hv, rfl⟩ | ⟨g, cap, cur, hv, _, _, h1, _⟩
  · exact ⟨none, 0, hv, Nat.le_refl _⟩
  · exact ⟨_, cap, hv, h1⟩
theorem take_next {α β : Type} (f : α → β) {l : List α} {i : Nat} {p : α} (h : l[i]? = some p) : (l.take (i + 1)).map f = (l.take i).map f ++ [f p] := by
  rw [List.take_add_one, h]; simp
/-- What Record answers. -/
def RecQ (P : Nat → Prop) (ns : List ByteArray) (ps : List Ty) (w : World) (e : Ending) (w' : World) : Prop :=
  ∃ (t : Ty) (An : Option Addr) (cn : Nat) (A : Option Addr) (c : Nat) (z : Int), e = .returned (.tuple #[tv t An cn A c, .int .i64 z]) ∧ TI w' (fun g => P g ∨ w.heap.size ≤ g) t An cn A c ∧ Below w.heap.size w w' ∧
    ((z = 1 ∧ ns.length ≠ ps.length ∧ t = .mk 0 [] []) ∨ (z = 40 ∧ ns.length = ps.length ∧ ¬ ns.Nodup ∧ t = .mk 0 [] []) ∨ (z = 0 ∧ ns.length = ps.length ∧ ns.Nodup ∧ IsRec ns ps t))
theorem RecQ.none {P : Nat → Prop} {ns : List ByteArray} {ps : List Ty} {w w' : World} {z : Int} (hb : Below w.heap.size w w') (h : (z = 1 ∧ ns.length ≠ ps.length) ∨ (z = 40 ∧ ns.length = ps.length ∧ ¬ ns.Nodup)) : RecQ P ns ps w (.returned (.tuple #[tz, .int .i64 z])) w' := by
  refine ⟨.mk 0 [] [], Option.none, 0, Option.none, 0, z, rfl, TI_iff.2 ⟨NV.nil _ _ _ _, TV.nil _ _ _ _⟩, hb, ?_⟩
  rcases h with h | h
  · exact .inl ⟨h.1, h.2, rfl⟩
  · exact .inr (.inl ⟨h.1, h.2.1, h.2.2, rfl⟩)
/-- All is laid. -/
theorem RS.fin {W wa : World} {T : Nat} {P : Nat → Prop} {v1 v2 : Value} {nl : List ByteArray} {tl : List Ty} {cs : List Value} (h : RS W wa T P v1 v2 nl tl cs) (hz : ∀ s ∈ nl, s.size ≤ 140737488351232) (B : Nat) (hB : B ≤ W.heap.size) (k : Int) :
    ∃ An cn A c, v1 = .slice An nl.length cn ∧ v2 = .slice A tl.length c ∧ ∀ w', (∀ g, g < wa.heap.size → g ≠ T → B ≤ g ∨ P g → w'.heap[g]? = wa.heap[g]?) → wa.heap.size ≤ w'.heap.size → T < W.heap.size → TI w' (fun g => P g ∨ B ≤ g) (.mk k nl tl) An cn A c := by
  obtain ⟨An, cn, e1, c1⟩ := own_shape h.o1
  obtain ⟨A, c, e2, c2⟩ := own_shape h.o2
  refine ⟨An, cn, A, c, e1, e2, fun w' hk hs hT => TI_iff.2 ?_⟩
  have o1 := h.o1
  have o2 := h.o2
  rw [e1] at o1
  rw [e2] at o2
  have hn : NV wa (fun g => (P g ∨ B ≤ g) ∧ g ≠ T) nl An cn := NV.of_own o1 rfl hz (fun g hg _ => ⟨.inr (by omega), by omega⟩) c1
  have ht : TV wa (fun g => (P g ∨ B ≤ g) ∧ g ≠ T) tl A c := TV.of_own o2 rfl h.tl (fun g hg => ⟨.inl hg.1, hg.2.2⟩) (fun g hg _ => ⟨.inr (by omega), by omega⟩) c2
  exact ⟨hn.keep hs fun g hg hl => ⟨hk g hl hg.2 (by rcases hg.1 with h | h; exact .inr h; exact .inl h), hg.1⟩, ht.keep hs fun g hg hl => ⟨hk g hl hg.2 (by rcases hg.1 with h | h; exact .inr h; exact .inl h), hg.1⟩⟩
end Tm
end Go.Proofs.YtifkjngclkklfaaGreatDoor
/- Mathematics: what is wrong stays so; where a node begins; lists, one rule for all of them. -/
namespace Go.Proofs.YtifkjngclkklfaaGreatDoor
namespace Ps
variable {l : List Tok}

theorem wantM_bad {b : Int} {i : Nat} {x : List UInt8} (h : 0 ≤ b) : wantM l b i x = (i, b) := by unfold wantM; rw [if_pos h]
theorem wordM_bad {b : Int} {i : Nat} {hd : Hd} (h : 0 ≤ b) : wordM l b hd i = (hd, i, b) := by unfold wordM; rw [if_pos h]
theorem wantM_good {b : Int} {i : Nat} {x : List UInt8} (h : (wantM l b i x).2 < 0) : b < 0 ∧ isM l i x = true ∧ wantM l b i x = (i + 1, b) := by
  unfold wantM at h ⊢
  split at h
  · exact absurd h (by dsimp only; omega)
  · split at h
    · rename_i h1 h2
      rw [if_neg h1, if_pos h2]
      exact ⟨by omega, h2, rfl⟩
    · exact absurd h (by dsimp only; omega)
theorem wordM_good {b : Int} {i : Nat} {hd : Hd} (h : (wordM l b hd i).2.2 < 0) : b < 0 ∧ kindAt l i = 1 ∧ wordM l b hd i = ({ hd with word := textAt l i, at_ := i }, i + 1, b) := by
  unfold wordM at h ⊢
  split at h
  · exact absurd h (by dsimp only; omega)
  · split at h
    · rename_i h1 h2
      rw [if_neg h1, if_pos h2]
      exact ⟨by omega, h2, rfl⟩
    · exact absurd h (by dsimp only; omega)
theorem tyM_bad {f : Nat} {t : TT} {b : Int} {i : Nat} {r : Fo × Nat × Int} (hb : 0 ≤ b) (h : tyM l f t b i = some r) : r.2.2 = b := by
  have hb' : ¬ b < 0 := by omega
  cases f with
  | zero => rw [tyM] at h; cases h
  | succ f =>
    cases t with
    | kind => rw [tyM, if_pos hb] at h; injection h with h; rw [← h]
    | recL first => rw [tyM, if_neg (fun hh => hb' hh.1)] at h; injection h with h; rw [← h]
    | fnL first => rw [tyM, if_neg (fun hh => hb' hh.1)] at h; injection h with h; rw [← h]
theorem typedM_bad {f : Nat} {b : Int} {i : Nat} {r : Fo × Nat × Int} (hb : 0 ≤ b) (h : typedM l f b i = some r) : r.2.2 = b := by
  unfold typedM at h
  rw [if_pos (.inl hb)] at h
  injection h with h; rw [← h]
theorem parL_bad {f : Nat} {first : Bool} {b : Int} {i : Nat} {r : Fo × Nat × Int} (hb : 0 ≤ b) (h : parL l f first b i = some r) : r.2.2 = b := by
  have hb' : ¬ b < 0 := by omega
  cases f with
  | zero => rw [parL] at h; cases h
  | succ f => rw [parL, if_neg (fun hh => hb' hh.1)] at h; injection h with h; rw [← h]
theorem paramsM_bad {f : Nat} {b : Int} {i : Nat} {r : Fo × Nat × Int} (hb : 0 ≤ b) (h : paramsM l f b i = some r) : r.2.2 = b := by
  unfold paramsM at h
  dsimp only at h
  rw [wantM_bad hb] at h
  obtain ⟨x, h1, h2⟩ := Option.bind_eq_some_iff.1 h
  have h3 := parL_bad hb h1
  rw [wantM_bad (by omega)] at h2
  injection h2 with h2
  rw [← h2]; exact h3
/-- No rule turns what is wrong. -/
theorem exM_bad : ∀ (f : Nat) (t : XT) (b : Int) (i : Nat) (r : Fo × Nat × Int), 0 ≤ b → exM l f t b i = some r → r.2.2 = b := by
  intro f
  induction f with
  | zero => intro t b i r _ h; rw [exM] at h; cases h
  | succ f ih =>
    intro t b i r hb h
    have hb' : ¬ b < 0 := by omega
    cases t with
    | lambda =>
      rw [exM] at h
      obtain ⟨p, h1, h⟩ := Option.bind_eq_some_iff.1 h
      obtain ⟨t, h2, h⟩ := Option.bind_eq_some_iff.1 h
      obtain ⟨k, h3, h⟩ := Option.bind_eq_some_iff.1 h
      have e1 := paramsM_bad hb h1
      have e2 := typedM_bad (by omega) h2
      have e3 := ih _ _ _ _ (by omega) h3
      injection h with h; rw [← h]; dsimp only; omega
    | block =>
      rw [exM] at h
      dsimp only at h
      rw [wantM_bad hb] at h
      obtain ⟨x, h1, h⟩ := Option.bind_eq_some_iff.1 h
      have e1 := ih _ _ _ _ hb h1
      rw [wantM_bad (by omega)] at h
      injection h with h; rw [← h]; exact e1
    | stmts => rw [exM, if_neg (fun hh => hb' hh.1)] at h; injection h with h; rw [← h]
    | stmt =>
      rw [exM] at h
      split at h
      · obtain ⟨c, h1, h⟩ := Option.bind_eq_some_iff.1 h
        obtain ⟨k, h2, h⟩ := Option.bind_eq_some_iff.1 h
        have e1 := ih _ _ _ _ hb h1
        have e2 := ih _ _ _ _ (by omega) h2
        rw [if_neg (fun hh => by have := hh.1; omega)] at h
        injection h with h; rw [← h]; dsimp only; omega
      · split at h
        · obtain ⟨c, h1, h⟩ := Option.bind_eq_some_iff.1 h
          obtain ⟨k, h2, h⟩ := Option.bind_eq_some_iff.1 h
          have e1 := ih _ _ _ _ hb h1
          have e2 := ih _ _ _ _ (by omega) h2
          injection h with h; rw [← h]; dsimp only; omega
        · split at h
          · dsimp only at h
            rw [wordM_bad hb] at h
            obtain ⟨t, h1, h⟩ := Option.bind_eq_some_iff.1 h
            have e1 := typedM_bad hb h1
            rw [wantM_bad (by omega)] at h
            obtain ⟨v, h2, h⟩ := Option.bind_eq_some_iff.1 h
            have e2 := ih _ _ _ _ (by omega) h2
            rw [wantM_bad (by omega)] at h
            injection h with h; rw [← h]; dsimp only; omega
          · dsimp only at h
            rw [wordM_bad hb] at h
            obtain ⟨v, h2, h⟩ := Option.bind_eq_some_iff.1 h
            have key : ∀ (c1 c2 c3 : Prop) [Decidable c1] [Decidable c2] [Decidable c3] (u1 u2 u3 u4 : Hd × Nat), (if c1 then (u1.1, u1.2, b) else if c2 then (u2.1, u2.2, b) else if c3 then (u3.1, u3.2, b) else (u4.1, u4.2, b)).2.2 = b := by
              intro c1 c2 c3 _ _ _ u1 u2 u3 u4
              split
              · rfl
              · split
                · rfl
                · split <;> rfl
            have k1 := key (isM l i kPrint = true) (isM l i kReturn = true) (kindAt l i = 1 ∧ isM l (i + 1) sEq = true) (⟨11, i, 0, e0, 0⟩, i + 1) (⟨12, i, 0, e0, 0⟩, i + 1) (⟨8, i, 0, e0, 0⟩, i + 1) (⟨13, i, 0, e0, 0⟩, i)
            dsimp only at k1
            have e2 := ih _ _ _ _ (by rw [k1]; exact hb) h2
            rw [k1] at e2
            rw [wantM_bad (by omega)] at h
            injection h with h; rw [← h]; dsimp only; omega
    | expr =>
      rw [exM] at h
      obtain ⟨a, h1, h⟩ := Option.bind_eq_some_iff.1 h
      have e1 := ih _ _ _ _ hb h1
      rw [if_pos (.inl (by omega))] at h
      injection h with h; rw [← h]; exact e1
    | sum =>
      rw [exM] at h
      obtain ⟨a, h1, h⟩ := Option.bind_eq_some_iff.1 h
      have e1 := ih _ _ _ _ hb h1
      have e2 := ih _ _ _ _ (by omega) h
      omega
    | sumL a => rw [exM, if_neg (fun hh => hb' hh.1)] at h; injection h with h; rw [← h]
    | term =>
      rw [exM] at h
      obtain ⟨a, h1, h⟩ := Option.bind_eq_some_iff.1 h
      have e1 := ih _ _ _ _ hb h1
      have e2 := ih _ _ _ _ (by omega) h
      omega
    | termL a => rw [exM, if_neg (fun hh => hb' hh.1)] at h; injection h with h; rw [← h]
    | post =>
      rw [exM] at h
      obtain ⟨a, h1, h⟩ := Option.bind_eq_some_iff.1 h
      have e1 := ih _ _ _ _ hb h1
      have e2 := ih _ _ _ _ (by omega) h
      omega
    | postL a => rw [exM, if_neg (fun hh => hb' hh.1)] at h; injection h with h; rw [← h]
    | args first => rw [exM, if_neg (fun hh => hb' hh.1)] at h; injection h with h; rw [← h]
    | atom => rw [exM, if_pos hb] at h; injection h with h; rw [← h]
    | entries first => rw [exM, if_neg (fun hh => hb' hh.1)] at h; injection h with h; rw [← h]
theorem exM_was {f : Nat} {t : XT} {b : Int} {i : Nat} {r : Fo × Nat × Int} (h : exM l f t b i = some r) (hr : r.2.2 < 0) : b < 0 := by
  by_cases hb : 0 ≤ b
  · have := exM_bad f t b i r hb h; omega
  · omega

/-- Where the node begins that a rule reads. -/
def fromOf : XT → Nat → Option Nat
  | .expr, i | .sum, i | .term, i | .post, i | .atom, i => some i
  | .sumL a, _ | .termL a, _ | .postL a, _ => some a.from_
  | _, _ => none
theorem Fo.from_one (h : Hd) (k : Fo) : (Fo.one h k).from_ = h.fro := rfl
theorem exM_from : ∀ (f : Nat) (t : XT) (b : Int) (i : Nat) (r : Fo × Nat × Int) (n : Nat), fromOf t i = some n → exM l f t b i = some r → r.2.2 < 0 → r.1.from_ = n := by
  intro f
  induction f with
  | zero => intro t b i r n _ h; rw [exM] at h; cases h
  | succ f ih =>
    intro t b i r n hn h hr
    cases t with
    | expr =>
      injection hn with hn
      rw [exM] at h
      obtain ⟨a, h1, h⟩ := Option.bind_eq_some_iff.1 h
      split at h
      · injection h with h; subst h; exact ih .sum _ _ _ n (by rw [← hn]; rfl) h1 hr
      · rename_i hc
        obtain ⟨c, h2, h⟩ := Option.bind_eq_some_iff.1 h
        injection h with h
        have := ih .sum _ _ _ n (by rw [← hn]; rfl) h1 (by omega)
        rw [← h]; exact this
    | sum =>
      injection hn with hn
      rw [exM] at h
      obtain ⟨a, h1, h⟩ := Option.bind_eq_some_iff.1 h
      have h0 := exM_was h hr
      rw [ih _ _ _ _ _ rfl h hr]
      exact ih .term _ _ _ n (by rw [← hn]; rfl) h1 h0
    | term =>
      injection hn with hn
      rw [exM] at h
      obtain ⟨a, h1, h⟩ := Option.bind_eq_some_iff.1 h
      have h0 := exM_was h hr
      rw [ih _ _ _ _ _ rfl h hr]
      exact ih .post _ _ _ n (by rw [← hn]; rfl) h1 h0
    | post =>
      injection hn with hn
      rw [exM] at h
      obtain ⟨a, h1, h⟩ := Option.bind_eq_some_iff.1 h
      have h0 := exM_was h hr
      rw [ih _ _ _ _ _ rfl h hr]
      exact ih .atom _ _ _ n (by rw [← hn]; rfl) h1 h0
    | sumL a =>
      injection hn with hn
      rw [exM] at h
      split at h
      · obtain ⟨c, h1, h⟩ := Option.bind_eq_some_iff.1 h
        rw [ih _ _ _ _ _ rfl h hr, Fo.from_one]; exact hn
      · injection h with h; rw [← h]; exact hn
    | termL a =>
      injection hn with hn
      rw [exM] at h
      split at h
      · obtain ⟨c, h1, h⟩ := Option.bind_eq_some_iff.1 h
        rw [ih _ _ _ _ _ rfl h hr, Fo.from_one]; exact hn
      · injection h with h; rw [← h]; exact hn
    | postL a =>
      injection hn with hn
      rw [exM] at h
      split at h
      · split at h
        · dsimp only at h
          have h0 := exM_was h hr
          rw [ih _ _ _ _ _ rfl h hr, Fo.from_one]
          dsimp only
          rw [(wordM_good h0).2.2]
          exact hn
        · obtain ⟨k, h1, h⟩ := Option.bind_eq_some_iff.1 h
          dsimp only at h
          rw [ih _ _ _ _ _ rfl h hr, Fo.from_one]; exact hn
      · injection h with h; rw [← h]; exact hn
    | atom =>
      injection hn with hn
      rw [exM] at h
      split at h
      · injection h with h; rw [← h] at hr; exact absurd hr (by dsimp only; omega)
      · split at h
        · injection h with h; rw [← h]; exact hn
        · split at h
          · injection h with h; rw [← h]; exact hn
          · split at h
            · injection h with h; rw [← h]; exact hn
            · split at h
              · injection h with h; rw [← h]; exact hn
              · split at h
                · obtain ⟨k, h1, h⟩ := Option.bind_eq_some_iff.1 h
                  injection h with h; rw [← h]; exact hn
                · split at h
                  · obtain ⟨k, h1, h⟩ := Option.bind_eq_some_iff.1 h
                    injection h with h; rw [← h]; exact hn
                  · dsimp only at h
                    obtain ⟨k, h1, h⟩ := Option.bind_eq_some_iff.1 h
                    injection h with h; rw [← h]; exact hn
    | lambda => cases hn
    | block => cases hn
    | stmts => cases hn
    | stmt => cases hn
    | args first => cases hn
    | entries first => cases hn

/-! Lists. -/
abbrev RT := Nat → Int → Nat → Res
def listM (l : List Tok) (R : RT) (last : List UInt8) : Nat → Bool → Int → Nat → Res
  | 0, _, _, _ => none
  | f + 1, first, b, at_ =>
    if b < 0 ∧ ¬ (first = true ∧ isM l at_ last = true) then
      (R f b at_).bind fun t =>
        if 0 ≤ t.2.2 ∨ isM l t.2.1 last = true then some (t.1, t.2.1, t.2.2)
        else
          let y2 := wantM l t.2.2 t.2.1 sCom
          (listM l R last f false y2.2 y2.1).pre t.1
    else some (.nil, at_, b)
/-- What begins with a word and a colon. -/
def labR (l : List Tok) (kd : Nat) (Q : RT) : RT := fun f b at_ =>
  let x := wordM l b ⟨kd, at_, 0, e0, 0⟩ at_
  let y := wantM l x.2.2 x.2.1 sCol
  (Q f y.2 y.1).bind fun t => some (.one { x.1 with til := t.2.1 } t.1, t.2.1, t.2.2)
def parR (l : List Tok) : RT := fun f b at_ =>
  let x := wordM l b ⟨5, at_, 0, e0, 0⟩ at_
  (typedM l f x.2.2 x.2.1).bind fun t => some (.one { x.1 with til := t.2.1 } t.1, t.2.1, t.2.2)
theorem args_list : ∀ (f : Nat) (first : Bool) (b : Int) (i : Nat), exM l f (.args first) b i = listM l (fun f => exM l f .expr) sParS f first b i
  | 0, _, _, _ => by rw [exM, listM]
  | f + 1, first, b, i => by
    rw [exM, listM]
    simp only [args_list f]
theorem entries_list : ∀ (f : Nat) (first : Bool) (b : Int) (i : Nat), exM l f (.entries first) b i = listM l (labR l 27 (fun f => exM l f .expr)) sShut f first b i
  | 0, _, _, _ => by rw [exM, listM]
  | f + 1, first, b, i => by
    rw [exM, listM]
    simp only [entries_list f, labR, Option.bind_assoc, Option.bind_some]
theorem par_list : ∀ (f : Nat) (first : Bool) (b : Int) (i : Nat), parL l f first b i = listM l (parR l) sParS f first b i
  | 0, _, _, _ => by rw [parL, listM]
  | f + 1, first, b, i => by
    rw [parL, listM]
    simp only [par_list f, parR, Option.bind_assoc, Option.bind_some]
theorem rec_list : ∀ (f : Nat) (first : Bool) (b : Int) (i : Nat), tyM l f (.recL first) b i = listM l (labR l 33 (fun f => tyM l f .kind)) sShut f first b i
  | 0, _, _, _ => by rw [tyM, listM]
  | f + 1, first, b, i => by
    rw [tyM, listM]
    simp only [rec_list f, labR, Option.bind_assoc, Option.bind_some]
theorem fn_list : ∀ (f : Nat) (first : Bool) (b : Int) (i : Nat), tyM l f (.fnL first) b i = listM l (fun f => tyM l f .kind) sParS f first b i
  | 0, _, _, _ => by rw [tyM, listM]
  | f + 1, first, b, i => by
    rw [tyM, listM]
    simp only [fn_list f]
/-- What is left of a list behind one of it. -/
def restM (l : List Tok) (R : RT) (last : List UInt8) (f : Nat) (b : Int) (i : Nat) : Res :=
  if 0 ≤ b ∨ isM l i last = true then some (.nil, i, b)
  else listM l R last f false (wantM l b i sCom).2 (wantM l b i sCom).1
theorem list_step {R : RT} {last : List UInt8} {f : Nat} {first : Bool} {b : Int} {i : Nat} {r : Fo × Nat × Int} (h : listM l R last f first b i = some r) (hb : b < 0) (hl : ¬ (first = true ∧ isM l i last = true)) :
    ∃ f' t r', f = f' + 1 ∧ R f' b i = some t ∧ restM l R last f' t.2.2 t.2.1 = some r' ∧ r = (t.1.app r'.1, r'.2) := by
  cases f with
  | zero => rw [listM] at h; cases h
  | succ f =>
    rw [listM, if_pos ⟨hb, hl⟩] at h
    obtain ⟨t, h1, h2⟩ := Option.bind_eq_some_iff.1 h
    unfold restM
    by_cases hc : 0 ≤ t.2.2 ∨ isM l t.2.1 last = true
    · rw [if_pos hc] at h2
      injection h2 with h2
      exact ⟨f, t, (.nil, t.2.1, t.2.2), rfl, h1, by rw [if_pos hc], by rw [← h2, Fo.app_nil]⟩
    · rw [if_neg hc] at h2
      obtain ⟨r', h3, h4⟩ := Option.map_eq_some_iff.1 h2
      exact ⟨f, t, r', rfl, h1, by rw [if_neg hc]; exact h3, h4.symm⟩
theorem list_first {R : RT} {last : List UInt8} {f : Nat} {b : Int} {i : Nat} {r : Fo × Nat × Int} (h : listM l R last f true b i = some r) (hl : isM l i last = true) : r = (.nil, i, b) := by
  cases f with
  | zero => rw [listM] at h; cases h
  | succ f => rw [listM, if_neg (fun hh => hh.2 ⟨rfl, hl⟩)] at h; injection h with h; exact h.symm
theorem list_bad {R : RT} {last : List UInt8} {f : Nat} {first : Bool} {b : Int} {i : Nat} {r : Fo × Nat × Int} (h : listM l R last f first b i = some r) (hb : 0 ≤ b) : r = (.nil, i, b) := by
  cases f with
  | zero => rw [listM] at h; cases h
  | succ f => rw [listM, if_neg (fun hh => by omega)] at h; injection h with h; exact h.symm
theorem isM_ne {i : Nat} {x y : List UInt8} (h : isM l i x = true) (hn : x ≠ y) : isM l i y = false := by
  unfold isM at h ⊢
  cases hl : l[i]? with
  | none => rfl
  | some t =>
    rw [hl] at h
    simp only [Bool.and_eq_true, beq_iff_eq] at h
    have : (t.text.data.toList == y) = false := by rw [beq_eq_false_iff_ne, h.2]; exact hn
    simp only [this, Bool.and_false]
/-- No comma: the list is at its end. -/
theorem rest_stop {R : RT} {last : List UInt8} {f : Nat} {b : Int} {i : Nat} {r : Fo × Nat × Int} (h : restM l R last f b i = some r) (hc : 0 ≤ b ∨ isM l i sCom = false) : r.1 = .nil ∧ wantM l r.2.2 r.2.1 last = wantM l b i last := by
  unfold restM at h
  split at h
  · injection h with h; rw [← h]; exact ⟨rfl, rfl⟩
  · rename_i h1
    have hb : ¬ 0 ≤ b := fun hh => h1 (.inl hh)
    have hl : ¬ isM l i last = true := fun hh => h1 (.inr hh)
    have hcc : isM l i sCom = false := hc.resolve_left hb
    have hw : wantM l b i sCom = (i, (i : Int)) := by unfold wantM; rw [if_neg hb, hcc, if_neg (by simp)]
    rw [hw] at h
    have := list_bad h (by dsimp only; omega)
    rw [this]
    refine ⟨rfl, ?_⟩
    dsimp only
    rw [wantM_bad (by omega)]
    unfold wantM
    rw [if_neg hb, if_neg hl]
theorem rest_go {R : RT} {last : List UInt8} {f : Nat} {b : Int} {i : Nat} {r : Fo × Nat × Int} (h : restM l R last f b i = some r) (hb : b < 0) (hc : isM l i sCom = true) (hn : sCom ≠ last) :
    ∃ f' t r', f = f' + 1 ∧ R f' b (i + 1) = some t ∧ restM l R last f' t.2.2 t.2.1 = some r' ∧ r = (t.1.app r'.1, r'.2) := by
  unfold restM at h
  rw [if_neg (fun hh => by rcases hh with hh | hh; omega; rw [isM_ne hc hn] at hh; cases hh)] at h
  have hw : wantM l b i sCom = (i + 1, b) := by unfold wantM; rw [if_neg (by omega), if_pos hc]
  rw [hw] at h
  exact list_step h hb (by simp)
end Ps
end Go.Proofs.YtifkjngclkklfaaGreatDoor
/- The program's reader in memory: its tokens, where it is, what is wrong. -/
namespace Go.Proofs.YtifkjngclkklfaaGreatDoor
open Go.RowKit
namespace Ps

/-- The texts that the grammar asks for. -/
def lits : List (List UInt8) := [kInt, kStr, kDyn, kFn, kUse, kDef, kIf, kElse, kWhile, kLet, kPrint, kReturn, kInput, sOpen, sShut, sParO, sParS, sCol, sCom, sSem, sDot, sEq, sEqEq, sLess, sPlus, sMinus, sStar]
structure Wf2 (l : List Tok) : Prop extends Wf l where
  conv : ∀ i (h : i < l.length), i + 1 < l.length → l[i].kind ≠ 0
  keys : ∀ i (h : i < l.length), l[i].kind ≠ 2 → l[i].kind ≠ 5 → i + 1 < l.length → ∀ x ∈ lits, l[i].text.data.toList ≠ x
theorem isM_text {l : List Tok} (W : Wf2 l) {i : Nat} (h : i < l.length) {x : List UInt8} (hx : x ∈ lits) : isM l i x = (decide (i + 1 < l.length) && (l[i].text.data.toList == x)) := by
  unfold isM
  rw [List.getElem?_eq_getElem h]
  dsimp only
  by_cases h1 : i + 1 < l.length
  · rw [decide_eq_true h1, Bool.true_and]
    by_cases h2 : l[i].kind = 2
    · simp [h2]
    · by_cases h5 : l[i].kind = 5
      · simp [h5]
      · have := W.keys i h h2 h5 h1 x hx
        simp [h2, h5, this]
  · have h0 : l[i].kind = 0 := by
      by_cases hk : l[i].kind = 0
      · exact hk
      · exact absurd (W.next i h hk) h1
    simp [h0, h1]

theorem bel_put {B : Nat} {w w' : World} (h : Below B w w') (i : Nat) (u : Value) : Below B w (w'.setCell ⟨B, i, none⟩ u) := h.setCell (p := ⟨B, i, none⟩) (Nat.le_refl _) u
/-- Where a reader is, and what is wrong (less than 0: nothing). -/
abbrev Sd := Nat × Int
def lastI (X : Cx) : Nat := X.l.length - 1
def pos (X : Cx) (s : Sd) : Nat := if 0 ≤ s.2 then lastI X else s.1
def wrong (s : Sd) : Int := if 0 ≤ s.2 then s.2 else 0
def failS (s : Sd) : Sd := if 0 ≤ s.2 then s else (s.1, (s.1 : Int))
def tk (X : Cx) (s : Sd) (x : List UInt8) : Bool := decide (s.2 < 0) && isM X.l s.1 x
def hasK (X : Cx) (s : Sd) (k : Nat) : Bool := decide (s.2 < 0) && decide (kindAt X.l s.1 = k)
structure PSt (X : Cx) (w : World) (s : Sd) : Prop where
  row : RowB w X.rb 100 #[.slice X.A X.l.length X.c, .int .i64 (pos X s), .bool (decide (0 ≤ s.2)), .int .i64 (wrong s)]
  toks : ∃ g, X.A = some ⟨g, 0, none⟩ ∧ g < X.rb ∧ ∀ i (h : i < X.l.length),
    w.cell? ⟨g, i * 4, none⟩ = some (.int .i64 X.l[i].kind) ∧ w.cell? ⟨g, i * 4 + 1, none⟩ = some (.int .i64 X.l[i].at_) ∧ w.cell? ⟨g, i * 4 + 2, none⟩ = some (.string X.l[i].lead) ∧ w.cell? ⟨g, i * 4 + 3, none⟩ = some (.string X.l[i].text)
  wf : Wf2 X.l
  cap : X.l.length ≤ X.c
  ib : s.2 < 0 → s.1 < X.l.length
  bb : s.2 < X.l.length
variable {X : Cx} {w w' : World} {s s' : Sd}
theorem PSt.toks_below (h : PSt X w s) (hb : Below (X.rb) w w') : ∃ g, X.A = some ⟨g, 0, none⟩ ∧ g < X.rb ∧ ∀ i (h : i < X.l.length),
    w'.cell? ⟨g, i * 4, none⟩ = some (.int .i64 X.l[i].kind) ∧ w'.cell? ⟨g, i * 4 + 1, none⟩ = some (.int .i64 X.l[i].at_) ∧ w'.cell? ⟨g, i * 4 + 2, none⟩ = some (.string X.l[i].lead) ∧ w'.cell? ⟨g, i * 4 + 3, none⟩ = some (.string X.l[i].text) := by
  obtain ⟨g, e, hg, hc⟩ := h.toks
  refine ⟨g, e, hg, fun i hi => ?_⟩
  obtain ⟨c0, c1, c2, c3⟩ := hc i hi
  exact ⟨(hb.cell (p := ⟨g, i * 4, none⟩) hg).trans c0, (hb.cell (p := ⟨g, i * 4 + 1, none⟩) hg).trans c1, (hb.cell (p := ⟨g, i * 4 + 2, none⟩) hg).trans c2, (hb.cell (p := ⟨g, i * 4 + 3, none⟩) hg).trans c3⟩
theorem PSt.lt (h : PSt X w s) : X.rb < w.heap.size := h.row.lt
theorem PSt.below (h : PSt X w s) (hb : Below w.heap.size w w') : PSt X w' s :=
  ⟨h.row.below hb h.row.lt, h.toks_below (hb.mono (by have := h.row.lt; omega)), h.wf, h.cap, h.ib, h.bb⟩
theorem PSt.alloc (h : PSt X w s) (o : Obj) : PSt X (w.alloc o) s := h.below ((Below.refl _ _).alloc (Nat.le_refl _) o)
theorem PSt.far (h : PSt X w s) {p : Addr} (hp : X.rb < p.block) (u : Value) : PSt X (w.setCell p u) s :=
  ⟨h.row.far (by omega) u, h.toks_below ((Below.refl _ _).setCell (by omega) u), h.wf, h.cap, h.ib, h.bb⟩
theorem PSt.grown {row : Option Nat} (h : PSt X w s) (hg : w.grownBy w' row) (hr : ∀ k, row = some k → X.rb < k) : PSt X w' s := by
  have hl := h.row.lt
  have hb : Below (X.rb + 1) w w' := (Below.refl _ _).grown hg (by omega) (fun k hk => hr k hk)
  exact ⟨h.row.below hb (by omega), h.toks_below (hb.mono (by omega)), h.wf, h.cap, h.ib, h.bb⟩
theorem PSt.len (h : PSt X w s) : 0 < X.l.length ∧ X.l.length ≤ 4000 := ⟨h.wf.pos, h.wf.le⟩
theorem PSt.last (h : PSt X w s) : lastI X + 1 = X.l.length := by have := h.len; unfold lastI; omega
theorem PSt.pos_lt (h : PSt X w s) : pos X s < X.l.length := by
  unfold pos
  split
  · have := h.last; omega
  · exact h.ib (by omega)
theorem PSt.wrong_le (h : PSt X w s) : 0 ≤ wrong s ∧ wrong s < 4000 := by
  have := h.bb
  have := h.len
  unfold wrong
  split <;> omega
/-- One token on. -/
theorem PSt.go (h : PSt X w s) (hs : s.2 < 0) (hi : s.1 + 1 < X.l.length) : PSt X (w.setCell ⟨X.rb, 1, none⟩ (.int .i64 ((s.1 + 1 : Nat) : Int))) (s.1 + 1, s.2) := by
  have hr := h.row.put 1 (.int .i64 ((s.1 + 1 : Nat) : Int))
  refine ⟨?_, h.toks_below (bel_put (Below.refl _ _) _ _), h.wf, h.cap, fun _ => hi, h.bb⟩
  have e : pos X (s.1 + 1, s.2) = s.1 + 1 := by unfold pos; rw [if_neg (by dsimp only; omega)]
  rw [e]
  exact hr
/-- The reader can't go on. -/
theorem PSt.stop (h : PSt X w s) (hs : s.2 < 0) : PSt X (((w.setCell ⟨X.rb, 2, none⟩ (.bool true)).setCell ⟨X.rb, 3, none⟩ (.int .i64 (s.1 : Int))).setCell ⟨X.rb, 1, none⟩ (.int .i64 (lastI X : Int))) (failS s) := by
  have hr := ((h.row.put 2 (.bool true)).put 3 (.int .i64 (s.1 : Int))).put 1 (.int .i64 (lastI X : Int))
  have hf : failS s = (s.1, (s.1 : Int)) := by unfold failS; rw [if_neg (by omega)]
  have hi := h.ib hs
  refine ⟨?_, h.toks_below (bel_put (bel_put (bel_put (Below.refl _ _) _ _) _ _) _ _), h.wf, h.cap, fun hh => ?_, ?_⟩
  · rw [hf]
    have e : pos X (s.1, (s.1 : Int)) = lastI X := by unfold pos; rw [if_pos (by dsimp only; omega)]
    have e2 : wrong (s.1, (s.1 : Int)) = (s.1 : Int) := by unfold wrong; rw [if_pos (by dsimp only; omega)]
    have e3 : decide (0 ≤ ((s.1, (s.1 : Int)) : Sd).2) = true := decide_eq_true (by dsimp only; omega)
    rw [e, e2, e3]
    exact hr
  · rw [hf] at hh; dsimp only at hh; omega
  · rw [hf]; dsimp only; omega
theorem PSt.mk_fail (h : PSt X w s) (hs : s.2 < 0) (hb : Below X.rb w w') (hr : RowB w' X.rb 100 #[.slice X.A X.l.length X.c, .int .i64 (lastI X : Int), .bool true, .int .i64 (s.1 : Int)]) : PSt X w' (failS s) := by
  have hf : failS s = (s.1, (s.1 : Int)) := by unfold failS; rw [if_neg (by omega)]
  have hi := h.ib hs
  refine ⟨?_, h.toks_below hb, h.wf, h.cap, fun hh => ?_, ?_⟩
  · rw [hf]
    have e : pos X (s.1, (s.1 : Int)) = lastI X := by unfold pos; rw [if_pos (by dsimp only; omega)]
    have e2 : wrong (s.1, (s.1 : Int)) = (s.1 : Int) := by unfold wrong; rw [if_pos (by dsimp only; omega)]
    have e3 : decide (0 ≤ ((s.1, (s.1 : Int)) : Sd).2) = true := decide_eq_true (by dsimp only; omega)
    rw [e, e2, e3]
    exact hr
  · rw [hf] at hh; dsimp only at hh; omega
  · rw [hf]; dsimp only; omega
theorem PSt.stay (h : PSt X w s) (hs : 0 ≤ s.2) : PSt X (w.setCell ⟨X.rb, 1, none⟩ (.int .i64 (lastI X : Int))) (failS s) := by
  have hr := h.row.put 1 (.int .i64 (lastI X : Int))
  have hf : failS s = s := by unfold failS; rw [if_pos hs]
  rw [hf]
  refine ⟨?_, h.toks_below (bel_put (Below.refl _ _) _ _), h.wf, h.cap, h.ib, h.bb⟩
  have e : pos X s = lastI X := by unfold pos; rw [if_pos hs]
  rw [e]
  exact hr
theorem tk_good {x : List UInt8} (h : tk X s x = true) : s.2 < 0 ∧ isM X.l s.1 x = true := by
  unfold tk at h
  rw [Bool.and_eq_true, decide_eq_true_eq] at h
  exact h
theorem tk_bad {x : List UInt8} (h : tk X s x = false) : 0 ≤ s.2 ∨ isM X.l s.1 x = false := by
  unfold tk at h
  rw [Bool.and_eq_false_iff, decide_eq_false_iff_not] at h
  rcases h with h | h
  · left; omega
  · exact .inr h
end Ps
end Go.Proofs.YtifkjngclkklfaaGreatDoor
/- What the rows list of UTF-8's tables gives the walks; and the closed facts that each card asks. -/
namespace Go.Proofs.YtifkjngclkklfaaGreatDoor
open Go.Shelf Go.Lib Go.RowKit

theorem own : ownKnob Tryz.prog.godebug = none := by kernel_rfl
theorem laidOut : laidOutB Tryz.prog = true := by kernel_rfl
theorem accept_eq : (Rows.laid_unicode_utf8_acceptRanges : DataW Unit) = acceptData := by kernel_rfl
theorem first_eq : Rows.laid_unicode_utf8_first = firstData := Pinned.utf8First_eq
theorem u8x : U8Extra Tryz.prog sh_lays260_ren := ⟨by kernel_rfl, by kernel_rfl, by kernel_rfl, by kernel_rfl, by kernel_rfl, by kernel_rfl, by kernel_rfl⟩
theorem tabs_of {l : List (String × DataW Unit)} {W : World} (hL : laidMet Tryz.prog l W) (h1 : ("unicode/utf8.first", Rows.laid_unicode_utf8_first) ∈ l) (h2 : ("unicode/utf8.acceptRanges", Rows.laid_unicode_utf8_acceptRanges) ∈ l) : Lib.Utf8Tabs 1 2 W :=
  utf8Tabs_of_reads sh_lays260 u8x (first_eq ▸ Lib.laidMet.reads hL h1) (accept_eq ▸ Lib.laidMet.reads hL h2)
theorem rd9 : Tryz.prog.readableRec 9 = true ∧ 9 < Tryz.prog.types.size := ⟨by kernel_rfl, of_decide_eq_true (by kernel_rfl)⟩
theorem rd3 : Tryz.prog.readableRec 3 = true ∧ 3 < Tryz.prog.types.size := ⟨by kernel_rfl, of_decide_eq_true (by kernel_rfl)⟩
theorem rd21 : Tryz.prog.readableRec 21 = true ∧ 21 < Tryz.prog.types.size := ⟨by kernel_rfl, of_decide_eq_true (by kernel_rfl)⟩
theorem rd32 : Tryz.prog.readableRec 32 = true ∧ 32 < Tryz.prog.types.size := ⟨by kernel_rfl, of_decide_eq_true (by kernel_rfl)⟩
end Go.Proofs.YtifkjngclkklfaaGreatDoor
