/- Values: RE: a record has its parts; what fits it. -/
import Derived.Test.YtbjlhdjcdinmhaaDoorQN
import Derived.Test.YtbjlhdjcdinmhaaDoorRB
namespace Go.Proofs.YtbjlhdjcdinmhaaDoor
open Go.RowKit Go.Op
namespace Vm
theorem lk_map {l : List (ByteArray × Vl)} (h : (l.map Prod.fst).Nodup) {x : ByteArray} {r : Vl} (hm : (x, r) ∈ l) : lk (l.map Prod.fst) (l.map Prod.snd) x = some r := by
  obtain ⟨i, hi, e⟩ := List.getElem_of_mem hm
  have h1 : (l.map Prod.fst)[i]'(by simpa using hi) = x := by simp [e]
  have h2 : (l.map Prod.snd)[i]'(by simpa using hi) = r := by simp [e]
  have := lk_at (ns := l.map Prod.fst) (ps := l.map Prod.snd) h (i := i) (by simpa using hi) (by simpa using hi)
  rw [h1, h2] at this
  exact this
section
variable {ns : List ByteArray} {ps : List Vl} {t : Vl}
theorem IsRec.parts (h : IsRec ns ps t) {p : Vl} (hx : p ∈ t.parts) : p ∈ ps := by
  rw [← zip_snd h.len, List.mem_map] at hx
  obtain ⟨⟨y, q⟩, hm, rfl⟩ := hx
  exact (List.of_mem_zip ((h.mem y q).1 hm)).2
theorem IsRec.at (h : IsRec ns ps t) {i : Nat} {x : ByteArray} {p : Vl} (e : ns[i]? = some x) (e' : ps[i]? = some p) : t.field x = some p := by
  have hm : (x, p) ∈ ns.zip ps := List.mem_of_getElem? (i := i) (by rw [List.getElem?_zip_eq_some]; exact ⟨e, e'⟩)
  have hm2 := (h.mem x p).2 hm
  unfold Vl.field
  rw [if_pos (by rw [h.kind])]
  have := lk_map (l := t.names.zip t.parts) (by rw [zip_fst h.len]; exact rise_nodup h.rise) hm2
  rw [zip_fst h.len, zip_snd h.len] at this
  exact this
theorem IsRec.has (h : IsRec ns ps t) (hl : ns.length = ps.length) (x : ByteArray) : (t.field x).isSome = ns.any (fun n => decide (n = x)) := by
  rw [Bool.eq_iff_iff, List.any_eq_true]
  constructor
  · intro hs
    obtain ⟨p, hp⟩ := Option.isSome_iff_exists.1 hs
    unfold Vl.field at hp
    rw [if_pos (by rw [h.kind])] at hp
    exact ⟨x, h.names (lk_mem hp).2, by simp⟩
  · rintro ⟨y, hy, e⟩
    obtain rfl : y = x := by simpa using e
    obtain ⟨i, hi, rfl⟩ := List.getElem_of_mem hy
    rw [h.at (List.getElem?_eq_getElem hi) (List.getElem?_eq_getElem (by omega : i < ps.length))]
    rfl
theorem IsRec.right (h : IsRec ns ps t) (hp : ∀ p ∈ ps, p.right = true) : t.right = true := by
  obtain ⟨k, n, p⟩ := t
  have hk := h.kind
  have hr := h.rise
  have hl := h.len
  simp only [hd_mk, names_mk, parts_mk] at hk hr hl
  subst hk
  rw [Vl.right, rightL_all, Bool.and_eq_true, List.all_eq_true]
  exact ⟨by simp [ownB, hr, hl], fun x hx => hp x (h.parts hx)⟩
end
/-- What a record fits. -/
theorem fit_rec {k : VH} {ns : List ByteArray} {ps : List Vl} (hk : k = ⟨3, 0, ⟨#[]⟩⟩) (x : ByteArray) : fitB (.mk k ns ps) 3 [x] 1 = ((Vl.mk k ns ps).field x).isSome ∧ fitB (.mk k ns ps) 0 [] 0 = true ∧ fitB (.mk k ns ps) 3 [] 0 = true ∧ fitB (.mk k ns ps) 1 [] 0 = false := by
  subst hk
  refine ⟨?_, ?_, ?_, ?_⟩ <;> simp [fitB]
/-- One name in a block of its own. -/
theorem nv_one (X : World) (x : ByteArray) (hx : x.size ≤ 140737488351232) : NV (X.alloc (.cells #[.string x] 9)) (fun _ => True) [x] (some ⟨X.heap.size, 0, none⟩) 1 := by
  have R := RowB.new X 9 #[.string x]
  refine ⟨by simp, fun s hs => by simp at hs; subst hs; exact hx, fun _ => ⟨X.heap.size, 0, rfl, trivial, R.lt, fun i s e => ?_⟩⟩
  have := R.cell (0 + i)
  rw [this]
  cases i with
  | zero => simp at e; subst e; rfl
  | succ i => simp at e
abbrev zt : Obj := .cells #[.int .i64 0, .slice none 0 0, .slice none 0 0] 28
theorem nv_first (X : World) (x : ByteArray) (hx : x.size ≤ 140737488351232) : NV ((X.alloc (.cells #[.string x] 9)).alloc zt) (fun _ => True) [x] (some ⟨X.heap.size, 0, none⟩) 1 := (nv_one X x hx).below (bel1 _ _)
theorem nv_second (X : World) (x : ByteArray) (hx : x.size ≤ 140737488351232) : NV ((X.alloc zt).alloc (.cells #[.string x] 9)) (fun _ => True) [x] (some ⟨X.heap.size + 1, 0, none⟩) 1 := by
  have := nv_one (X.alloc zt) x hx
  simpa using this
theorem info28 : (Tryd.prog.info? 28).map (fun i => (i.zero, i.size, i.bytes)) = some (some (.agg #[.int .i64 0, .slice none 0 0, .slice none 0 0]), 3, 56) := by kernel_rfl
theorem make26 (u : World) : (Instr.makeSlice 26 (.int .i64 1) (.int .i64 1)).run Tryd.prog u = .ok (.slice (some ⟨u.heap.size, 0, none⟩) 1 1) (u.alloc zt) := by
  obtain ⟨i0, hi0, hz0, hz1, hz2⟩ := info_parts info28
  have := run_make (P := Tryd.prog) u 26 28 i0 _ Tryd.underlying26 hi0 hz0 .i64 .i64 1 1 (by omega) (Int.le_refl _) (by rw [hz2]; omega) (by omega)
  rw [hz1, show madeCells (Value.agg #[.int .i64 0, .slice none 0 0, .slice none 0 0]).cells (Int.toNat 1 * 3) = #[.int .i64 0, .slice none 0 0, .slice none 0 0] by kernel_rfl] at this
  exact this
end Vm
end Go.Proofs.YtbjlhdjcdinmhaaDoor
