/- Values: QK. -/
import Derived.Test.YtbjlhdjcdinmhaaDoorQJ
import Derived.Test.YtbjlhdjcdinmhaaDoorQB
import Derived.Deep.AppendLies
namespace Go.Proofs.YtbjlhdjcdinmhaaDoor
open Go.RowKit
namespace Vm
theorem Vl.ext : ∀ {a b : Vl}, a.hd = b.hd → a.names = b.names → a.parts = b.parts → a = b
  | .mk _ _ _, .mk _ _ _, h1, h2, h3 => by simp only [hd_mk, names_mk, parts_mk] at h1 h2 h3; rw [h1, h2, h3]
theorem rise_ext : ∀ {a b : List ByteArray}, riseB a = true → riseB b = true → (∀ x, x ∈ a ↔ x ∈ b) → a = b
  | [], [], _, _, _ => rfl
  | [], y :: b, _, _, h => absurd ((h y).2 List.mem_cons_self) (by simp)
  | x :: a, [], _, _, h => absurd ((h x).1 List.mem_cons_self) (by simp)
  | x :: a, y :: b, ha, hb, h => by
    have hxy : x = y := by
      rcases List.mem_cons.1 ((h x).1 List.mem_cons_self) with e | hx
      · exact e
      · rcases List.mem_cons.1 ((h y).2 List.mem_cons_self) with e | hy
        · exact e.symm
        · have h1 := rise_lt hb x hx
          have h2 := rise_lt ha y hy
          rw [lt_asymm h1] at h2
          cases h2
    subst hxy
    congr 1
    refine rise_ext (rise_tail ha) (rise_tail hb) fun z => ⟨fun hz => ?_, fun hz => ?_⟩
    · rcases List.mem_cons.1 ((h z).1 (List.mem_cons_of_mem _ hz)) with e | h'
      · exact absurd e.symm (lt_ne (rise_lt ha z hz))
      · exact h'
    · rcases List.mem_cons.1 ((h z).2 (List.mem_cons_of_mem _ hz)) with e | h'
      · exact absurd e.symm (lt_ne (rise_lt hb z hz))
      · exact h'
theorem pairs_ext {l m : List (ByteArray × Vl)} (hl : riseB (l.map Prod.fst) = true) (hm : riseB (m.map Prod.fst) = true) (h : ∀ x r, (x, r) ∈ l ↔ (x, r) ∈ m) : l = m := by
  have e : l.map Prod.fst = m.map Prod.fst := by
    refine rise_ext hl hm fun x => ?_
    simp only [List.mem_map]
    exact ⟨fun ⟨⟨y, r⟩, h1, h2⟩ => ⟨⟨y, r⟩, (h y r).1 h1, h2⟩, fun ⟨⟨y, r⟩, h1, h2⟩ => ⟨⟨y, r⟩, (h y r).2 h1, h2⟩⟩
  have hlen : l.length = m.length := by have := congrArg List.length e; simpa using this
  refine List.ext_getElem hlen fun i h1 h2 => ?_
  have e1 : l[i].1 = m[i].1 := by
    have : (l.map Prod.fst)[i]'(by simpa using h1) = (m.map Prod.fst)[i]'(by simpa using h2) := by simp only [e]
    simpa using this
  have hi : (l[i].1, l[i].2) ∈ m := (h _ _).1 (List.getElem_mem h1)
  obtain ⟨j, hj, ej⟩ := List.getElem_of_mem hi
  have hij : i = j := by
    have nd := rise_nodup hm
    have e2 : (m.map Prod.fst)[i]'(by simpa using h2) = (m.map Prod.fst)[j]'(by simpa using hj) := by
      simp only [List.getElem_map, ej, ← e1]
    exact (List.getElem_inj nd).1 e2
  subst hij
  exact ej.symm
/-- What is the record of some labels and parts. -/
structure IsRec (ns : List ByteArray) (ps : List Vl) (t : Vl) : Prop where
  kind : t.hd = ⟨3, 0, ⟨#[]⟩⟩
  rise : riseB t.names = true
  len : t.names.length = t.parts.length
  mem : ∀ x p, (x, p) ∈ t.names.zip t.parts ↔ (x, p) ∈ ns.zip ps
theorem zip_fst {ns : List ByteArray} {ps : List Vl} (h : ns.length = ps.length) : (ns.zip ps).map Prod.fst = ns := List.map_fst_zip (by omega)
theorem zip_snd {ns : List ByteArray} {ps : List Vl} (h : ns.length = ps.length) : (ns.zip ps).map Prod.snd = ps := List.map_snd_zip (by omega)
theorem IsRec.uniq {ns : List ByteArray} {ps : List Vl} {t u : Vl} (h : IsRec ns ps t) (k : IsRec ns ps u) : t = u := by
  have e := pairs_ext (l := t.names.zip t.parts) (m := u.names.zip u.parts) (by rw [zip_fst h.len]; exact h.rise) (by rw [zip_fst k.len]; exact k.rise) fun x r => (h.mem x r).trans (k.mem x r).symm
  refine Vl.ext (h.kind.trans k.kind.symm) ?_ ?_
  · rw [← zip_fst h.len, e, zip_fst k.len]
  · rw [← zip_snd h.len, e, zip_snd k.len]
def nth (ns : List ByteArray) (i : Nat) : ByteArray := ns.getD i ⟨#[]⟩
def nthT (ps : List Vl) (i : Nat) : Vl := ps.getD i zero
theorem nth_some {ns : List ByteArray} {i : Nat} (h : i < ns.length) : ns[i]? = some (nth ns i) := by
  unfold nth
  rw [List.getD_eq_getElem?_getD, List.getElem?_eq_getElem h]; rfl
theorem nthT_some {ps : List Vl} {i : Nat} (h : i < ps.length) : ps[i]? = some (nthT ps i) := by
  unfold nthT
  rw [List.getD_eq_getElem?_getD, List.getElem?_eq_getElem h]; rfl
/-- Names that rise as far as they have been looked at. -/
theorem ris_next {ns : List ByteArray} {pl : List Nat} (R : Ris ns pl) {i p q : Nat} (hp : pl[i]? = some p) (hq : pl[i + 1]? = some q) (hne : nth ns p ≠ nth ns q) : lt (nth ns p) (nth ns q) = true := by
  have h1 := (R.mem p).1 (List.mem_of_getElem? hp)
  have h2 := (R.mem q).1 (List.mem_of_getElem? hq)
  have h := R.ord i (i + 1) _ _ (by omega) ⟨p, hp, nth_some h1⟩ ⟨q, hq, nth_some h2⟩
  cases k : lt (nth ns p) (nth ns q)
  · exact absurd (lt_tri k h) hne
  · rfl
/-- What all places give is the record. -/
theorem ris_rec {ns : List ByteArray} {ps : List Vl} {pl : List Nat} (R : Ris ns pl) (hl : ns.length = ps.length) (hr : riseB (pl.map (nth ns)) = true) : IsRec ns ps (.mk ⟨3, 0, ⟨#[]⟩⟩ (pl.map (nth ns)) (pl.map (nthT ps))) := by
  refine ⟨rfl, hr, by simp, fun x p => ?_⟩
  simp only [names_mk, parts_mk]
  rw [List.zip_map', List.mem_map]
  constructor
  · rintro ⟨i, hi, e⟩
    injection e with e1 e2
    have hlt := (R.mem i).1 hi
    refine List.mem_of_getElem? (i := i) ?_
    rw [List.getElem?_zip_eq_some]
    exact ⟨by rw [nth_some hlt, e1], by rw [nthT_some (by omega), e2]⟩
  · intro hm
    obtain ⟨i, hi⟩ := List.getElem?_of_mem hm
    rw [List.getElem?_zip_eq_some] at hi
    have hlt := (List.getElem?_eq_some_iff.1 hi.1).1
    refine ⟨i, (R.mem i).2 hlt, ?_⟩
    have e1 := nth_some hlt
    have e2 := nthT_some (ps := ps) (i := i) (by omega)
    rw [hi.1] at e1
    rw [hi.2] at e2
    injection e1 with e1
    injection e2 with e2
    rw [← e1, ← e2]
theorem ris_nodup {ns : List ByteArray} {pl : List Nat} (R : Ris ns pl) (hr : riseB (pl.map (nth ns)) = true) : ns.Nodup := by
  have h1 := rise_nodup hr
  refine List.pairwise_iff_getElem.2 fun i j hi hj hij e => ?_
  obtain ⟨a, ha⟩ := List.getElem?_of_mem ((R.mem i).2 hi)
  obtain ⟨b, hb⟩ := List.getElem?_of_mem ((R.mem j).2 hj)
  have x1 := nth_some hi
  have x2 := nth_some hj
  rw [List.getElem?_eq_getElem hi] at x1
  rw [List.getElem?_eq_getElem hj, ← e] at x2
  have en : nth ns i = nth ns j := by
    injection x1 with x1
    injection x2 with x2
    rw [← x1, ← x2]
  have ea : (pl.map (nth ns))[a]? = some (nth ns i) := by simp [ha]
  have eb : (pl.map (nth ns))[b]? = some (nth ns i) := by simp [hb, en]
  have := nodup_at h1 ea eb
  subst this
  rw [ha] at hb
  injection hb with hb
  omega
theorem ris_dup {ns : List ByteArray} {pl : List Nat} (R : Ris ns pl) {i p q : Nat} (hp : pl[i]? = some p) (hq : pl[i + 1]? = some q) (he : nth ns p = nth ns q) : ¬ ns.Nodup := by
  intro hn
  have h1 := (R.mem p).1 (List.mem_of_getElem? hp)
  have h2 := (R.mem q).1 (List.mem_of_getElem? hq)
  have e := nodup_at hn (nth_some h1) (by rw [nth_some h2, he])
  subst e
  have := nodup_at R.nodup hp hq
  omega

end Vm
end Go.Proofs.YtbjlhdjcdinmhaaDoor
