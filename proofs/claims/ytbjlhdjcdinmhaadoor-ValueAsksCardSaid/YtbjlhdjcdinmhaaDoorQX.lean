/- How long a value's text may be (mathematics). -/
import Derived.Test.YtbjlhdjcdinmhaaDoorQV
import Derived.Lib.ItoaLen
namespace Go.Proofs.YtbjlhdjcdinmhaaDoor
open Go.RowKit Go.Op
namespace Vm
theorem pieces_len : ∀ (ns : List ByteArray) (ts : List (List UInt8)) (k : Nat), (pieces k ns ts).length ≤ (ns.map fun s => s.size).sum + 4 * ts.length + (ts.map List.length).sum
  | [], _, _ => by simp [pieces]
  | _ :: _, [], _ => by simp [pieces]
  | n :: ns, t :: ts, k => by
    have ih := pieces_len ns ts (k + 1)
    rw [pieces]
    have h1 : (if k = 0 then ([] : List UInt8) else [44, 32]).length ≤ 2 := by split <;> simp
    have h2 : n.data.toList.length = n.size := Array.length_toList
    simp only [List.length_append, List.length_cons, List.length_nil, List.map_cons, List.sum_cons]
    omega
theorem parts_byt : ∀ ps : List Vl, (∀ p ∈ ps, p.text.length ≤ 30 * p.byt) → ((textL ps).map List.length).sum ≤ 30 * bytL ps
  | [], _ => by simp [textL, bytL]
  | p :: ps, h => by
    have ih := parts_byt ps fun q hq => h q (List.mem_cons_of_mem _ hq)
    have h0 := h p List.mem_cons_self
    rw [textL, bytL, List.map_cons, List.sum_cons]
    omega
theorem byt_pos : ∀ v : Vl, 1 ≤ v.byt
  | .mk _ _ _ => by rw [Vl.byt]; omega
theorem bytL_len : ∀ ps : List Vl, ps.length ≤ bytL ps
  | [] => by simp [bytL]
  | p :: ps => by
    have h1 := bytL_len ps
    have h2 := byt_pos p
    rw [bytL, List.length_cons]
    omega
/-- With 34 bytes for each byte of its names and texts a value's text has room. -/
theorem text_byt : ∀ v : Vl, v.rng → v.text.length ≤ 30 * v.byt + 4 * (v.byt - 1) := by
  refine Vl.ind fun k ns ps ih hr => ?_
  rw [Vl.rng] at hr
  rw [Vl.byt, Vl.text]
  have hi := Lib.itoa_length_le k.n hr.1.1 hr.1.2
  split
  · omega
  · split
    · have := Qt.quo_len k.s.data.toList
      have h2 : k.s.data.toList.length = k.s.size := Array.length_toList
      omega
    · split
      · simp only [List.length_append, List.length_cons, List.length_nil]
        omega
      · split
        · have hp := pieces_len ns (textL ps) 0
          have hl : (textL ps).length = ps.length := by rw [textL_map, List.length_map]
          have hs : ∀ l : List Vl, (∀ p ∈ l, p ∈ ps) → ((textL l).map List.length).sum + 4 * l.length ≤ 34 * bytL l := by
            intro l
            induction l with
            | nil => intro _; simp [textL, bytL]
            | cons p l ihl =>
              intro h
              have h1 := ihl fun q hq => h q (List.mem_cons_of_mem _ hq)
              have h2 := ih p (h p List.mem_cons_self) (rngL_mem hr.2 (h p List.mem_cons_self))
              have h3 := byt_pos p
              rw [textL, bytL, List.map_cons, List.sum_cons, List.length_cons]
              omega
          have h5 := hs ps fun _ h => h
          rw [hl] at hp
          simp only [List.length_append, List.length_cons, List.length_nil]
          omega
        · simp
theorem text_lim {v : Vl} (hr : v.rng) (hb : v.byt ≤ 100000) : v.text.length ≤ lim := by
  have := text_byt v hr
  unfold lim
  omega
end Vm
end Go.Proofs.YtbjlhdjcdinmhaaDoor
