/- The text behind edits: what edit.Apply answers. -/
import Derived.Test.YtendbkbjmibchaaZ
import Derived.Test.YtendbkbjmibchaaShelf
namespace Go.Proofs.Ytendbkbjmibchaa
open Go.RowKit

/-- A piece's bytes. -/
def pb (s : ByteArray) (p : Pc) : List UInt8 := if p.x.size = 0 then (s.data.toList.drop p.f.toNat).take (p.t.toNat - p.f.toNat) else p.x.data.toList
def pbs (s : ByteArray) : List Pc → List UInt8
  | [] => []
  | p :: r => pb s p ++ pbs s r
theorem pbs_append (s : ByteArray) (a b : List Pc) : pbs s (a ++ b) = pbs s a ++ pbs s b := by
  induction a with
  | nil => rfl
  | cons p r ih => simp [pbs, ih, List.append_assoc]

def AI (s : ByteArray) (B b sb : Nat) (ps : List Pc) (w : World) : Prop := Lib.IsBuilder 76 5 B b (Lib.byteCells (pbs s ps)) w ∧ RowB w sb 9 #[.string s]
def AG (s : ByteArray) (p : Pc) (ps : List Pc) : Prop := (p.x.size = 0 → 0 ≤ p.f ∧ p.f ≤ p.t ∧ p.t ≤ s.size) ∧ (pbs s ps).length + (pb s p).length ≤ 140737488355328

theorem own_kept {w w' : World} {base e n : Nat} {v : Value} {xs : List Value} (h : w.ownsRow base e 1 v n xs) (hs : w.heap.size ≤ w'.heap.size) (ho : Lib.OthersKept 3 none w w') (he : e ≠ 3) : w'.ownsRow base e 1 v n xs := by
  refine ⟨h.1, ?_⟩
  rcases h.2 with hx | ⟨g, cap, cur, hv, hb, hh, r⟩
  · exact .inl hx
  · exact .inr ⟨g, cap, cur, hv, hb, ho g _ hh (by simp) (fun c fz hc => he (by injection hc)), r⟩
theorem builder_kept {w w' : World} {B b : Nat} {bs : List Value} (h : Lib.IsBuilder 76 5 B b bs w) (hs : w.heap.size ≤ w'.heap.size) (ho : Lib.OthersKept 3 none w w') : Lib.IsBuilder 76 5 B b bs w' := by
  rcases h with ⟨h1, v, h2, h3, h4⟩ | ⟨h1, v, h2, h3, h4⟩
  · exact .inl ⟨h1, v, ho b _ h2 (by simp) (fun c fz hc => by injection hc with _ hc; exact absurd hc (by decide)), own_kept h3 hs ho (by decide), h4⟩
  · exact .inr ⟨h1, v, ho b _ h2 (by simp) (fun c fz hc => by injection hc with _ hc; exact absurd hc (by decide)), own_kept h3 hs ho (by decide), h4⟩

set_option maxHeartbeats 1000000 in
theorem isPut_any (p : Pc) (w : World) : Calls Try.prog 47 #[pv p] w fun e w' => e = .returned (.bool (!decide (p.x.size = 0))) ∧ Below w.heap.size w w' := by
  have HE := Lib.hid (empty_iff p.x)
  go_enter Try.func47, Try.ntmps47
  go_wp2
  go_ret
  exact ⟨rb (by rw [← HE.out]), (Below.refl _ _).alloc (Nat.le_refl _) _⟩

theorem kept_below {w w' : World} (h : Below w.heap.size w w') (e : Nat) (v : Option Nat) : Lib.OthersKept e v w w' := fun k o hk _ _ => by
  have hlt : k < w.heap.size := by
    rcases Nat.lt_or_ge k w.heap.size with h | h
    · exact h
    · rw [Array.getElem?_eq_none h] at hk; cases hk
  rw [h.block k hlt]; exact hk
theorem AI_kept {s : ByteArray} {B b sb : Nat} {ps : List Pc} {w w' : World} (h : AI s B b sb ps w) (hs : w.heap.size ≤ w'.heap.size) (ho : Lib.OthersKept 3 none w w') : AI s B b sb ps w' :=
  ⟨builder_kept h.1 hs ho, ho sb _ h.2 (by simp) (fun c fz hc => by injection hc with _ hc; exact absurd hc (by decide))⟩

set_option maxHeartbeats 2000000 in
theorem lay46 (s : ByteArray) (B b sb : Nat) (ps : List Pc) (p : Pc) (w : World) (hI : AI s B b sb ps w) (hG : AG s p ps) (hB : B ≤ w.heap.size) (hbs : sb ≠ b) :
    Calls Try.prog 46 #[pv p, .pointer (some ⟨b, 0, none⟩), .pointer (some ⟨sb, 0, none⟩)] w fun en w' => en = .returned (.tuple #[]) ∧ AI s B b sb (ps ++ [p]) w' ∧ Below B w w' ∧ Lib.OthersKept 5 (some b) w w' := by
  have HI := Lib.hid hI
  have HG := Lib.hid hG
  clear hI hG
  go_enter Try.func46, Try.ntmps46
  go_wp2_with fail
  refine (isPut_any p _).mono ?_
  rintro e w1 ⟨rfl, hb⟩
  have hb0 : Below w.heap.size w w1 := ((Below.refl _ _).alloc (Nat.le_refl _) _).trans (hb.mono (by simp))
  have HI1 := Lib.hid (AI_kept HI.out hb0.size (kept_below hb0 _ _))
  have HK1 := Lib.hid (kept_below hb0 5 (some b))
  have HB1 := Lib.hid (hb0.mono hB)
  have HP1 := Lib.hid ((RowB.new w 79 #[.int .i64 p.f, .int .i64 p.t, .string p.x]).below hb (by simp))
  have hB1 : B ≤ w1.heap.size := Nat.le_trans hB hb0.size
  have p0 : w1.cell? ⟨w.heap.size, 0, none⟩ = some (.int .i64 p.f) := HP1.out.cell 0
  have p1 : w1.cell? ⟨w.heap.size, 1, none⟩ = some (.int .i64 p.t) := HP1.out.cell 1
  have p2 : w1.cell? ⟨w.heap.size, 2, none⟩ = some (.string p.x) := HP1.out.cell 2
  have p3 : w1.cell? ⟨sb, 0, none⟩ = some (.string s) := HI1.out.2.cell 0
  clear hb hb0
  by_cases hz : p.x.size = 0
  · have HZ := Lib.hid hz
    rw [show (!decide (p.x.size = 0)) = false by simp [hz]]
    obtain ⟨g0, g1, g2⟩ := HG.out.1 hz
    have E : Hid (pb s p = (s.extract p.f.toNat p.t.toNat).data.toList) := by
      unfold Hid pb
      rw [if_pos hz, ByteArray.data_extract, Array.toList_extract, List.extract_eq_take_drop]
    have HL : Hid ((Lib.byteCells (pbs s ps)).length + (s.extract p.f.toNat p.t.toNat).size ≤ 140737488355328) := by
      unfold Hid
      have := HG.out.2
      rw [E.out] at this
      rw [Lib.byteCells_length]
      exact this
    clear hz
    go_wp2_with fail
    refine (write_any B b (Lib.byteCells (pbs s ps)) _ _ HI1.out.1 HL.out hB1).mono ?_
    rintro e w2 ⟨rfl, h1, h2, h3⟩
    have R1 : Hid (AI s B b sb (ps ++ [p]) w2) := by
      refine ⟨?_, HI1.out.2.others h3 hbs (by decide)⟩
      rw [pbs_append]
      have : pbs s [p] = (s.extract p.f.toNat p.t.toNat).data.toList := by simp [pbs, E.out]
      rw [this]
      unfold Lib.byteCells
      rw [List.map_append]
      exact h1
    have R2 := Lib.hid (HB1.out.trans h2)
    have R3 := Lib.hid (HK1.out.trans h3)
    clear h1 h2 h3 p0 p1 p2 p3
    go_wp2
    go_end0
    exact ⟨rfl, R1.out, R2.out, R3.out⟩
  · have HZ := Lib.hid hz
    rw [show (!decide (p.x.size = 0)) = true by simp [hz]]
    have E : Hid (pb s p = p.x.data.toList) := by unfold Hid pb; rw [if_neg hz]
    have HL : Hid ((Lib.byteCells (pbs s ps)).length + p.x.size ≤ 140737488355328) := by
      unfold Hid
      have := HG.out.2
      rw [E.out] at this
      rw [Lib.byteCells_length]
      exact this
    clear hz
    go_wp2_with fail
    refine (write_any B b (Lib.byteCells (pbs s ps)) _ _ HI1.out.1 HL.out hB1).mono ?_
    rintro e w2 ⟨rfl, h1, h2, h3⟩
    have R1 : Hid (AI s B b sb (ps ++ [p]) w2) := by
      refine ⟨?_, HI1.out.2.others h3 hbs (by decide)⟩
      rw [pbs_append]
      have : pbs s [p] = p.x.data.toList := by simp [pbs, E.out]
      rw [this]
      unfold Lib.byteCells
      rw [List.map_append]
      exact h1
    have R2 := Lib.hid (HB1.out.trans h2)
    have R3 := Lib.hid (HK1.out.trans h3)
    clear h1 h2 h3 p0 p1 p2 p3
    go_wp2
    go_end0
    exact ⟨rfl, R1.out, R2.out, R3.out⟩

theorem lays46 (s : ByteArray) (B b sb : Nat) (hbs : sb ≠ b) : Lays 46 [.pointer (some ⟨b, 0, none⟩), .pointer (some ⟨sb, 0, none⟩)] B b 5 (AI s B b sb) (AG s) where
  call := fun ps p w hI hG hB => lay46 s B b sb ps p w hI hG hB hbs
  keep := fun ps w w' h hs ho => AI_kept h hs ho

theorem below_alloc' {w w' : World} {o : Obj} (h : Below (w.alloc o).heap.size (w.alloc o) w') : Below w.heap.size w w' :=
  ((Below.refl _ _).alloc (Nat.le_refl _) o).trans (h.mono (by simp))
theorem near_pos {p : Option Int} {a f : Int} (hp : (p = none ∧ a = 0 ∧ 0 ≤ f) ∨ p = some a) (h : ¬ near p f = true) : a ≤ f := by
  rcases hp with ⟨rfl, rfl, h0⟩ | rfl
  · exact h0
  · simp [near] at h; omega
theorem sndGo_cons {n : Int} {p : Option Int} {e : Ed} {r : List Ed} (h : sndGo n p (e :: r) = 0) :
    0 ≤ e.f ∧ e.f ≤ e.t ∧ e.t ≤ n ∧ ¬ (e.f = e.t ∧ e.x.size = 0) ∧ ¬ near p e.f = true ∧ sndGo n (some e.t) r = 0 := by
  rw [sndGo] at h
  by_cases h1 : e.f < 0 ∨ e.t < e.f ∨ n < e.t
  · rw [if_pos h1] at h; omega
  · rw [if_neg h1] at h
    by_cases h2 : e.f = e.t ∧ e.x.size = 0
    · rw [if_pos h2] at h; omega
    · rw [if_neg h2] at h
      by_cases h3 : near p e.f = true
      · rw [if_pos h3] at h; omega
      · rw [if_neg h3] at h
        exact ⟨by omega, by omega, by omega, h2, h3, h⟩
/-- Every piece of left bytes lies in the text. -/
theorem pcs_in (n : Int) : ∀ (es : List Ed) (p : Option Int) (a : Int), 0 ≤ a → a ≤ n → ((p = none ∧ a = 0) ∨ p = some a) → sndGo n p es = 0 → ∀ q, q ∈ pcs n a es → q.x.size = 0 → 0 ≤ q.f ∧ q.f ≤ q.t ∧ q.t ≤ n
  | [], p, a, h0, h1, _, _, q, hq, _ => by
    unfold pcs lv at hq
    split at hq
    · simp at hq; subst hq; exact ⟨h0, by simp; omega, by simp⟩
    · simp at hq
  | e :: r, p, a, h0, h1, hp, hs, q, hq, hx => by
    obtain ⟨g0, g1, g2, g3, g4, g5⟩ := sndGo_cons hs
    have hae : a ≤ e.f := near_pos (hp.imp (fun h => ⟨h.1, h.2, g0⟩) id) g4
    rw [pcs, List.append_assoc] at hq
    rcases List.mem_append.1 hq with hq | hq
    · unfold lv at hq
      split at hq
      · simp at hq; subst hq; exact ⟨h0, by simp; omega, by simp; omega⟩
      · simp at hq
    · rcases List.mem_append.1 hq with hq | hq
      · unfold tx_ at hq
        split at hq
        · simp at hq
        · rename_i hne
          simp at hq; subst hq; exact absurd hx hne
      · exact pcs_in n r (some e.t) e.t (by omega) g2 (.inr rfl) g5 q hq hx

/-- The text behind edits. -/
def apd (s : ByteArray) (es : List Ed) : List UInt8 := pbs s (pcs s.size 0 es)

theorem ap_good (s : ByteArray) (es : List Ed) (hs : snd es s.size = 0) (hlen : (apd s es).length ≤ 140737488355328) : ∀ done p rest, done ++ [p] ++ rest = [] ++ pcs s.size 0 es → AG s p done := by
  intro done p rest h
  rw [List.nil_append] at h
  have hs' : sndGo s.size none es = 0 := by
    unfold snd at hs
    split at hs
    · omega
    · exact hs
  refine ⟨fun hx => pcs_in s.size es none 0 (by omega) (by omega) (.inl ⟨rfl, rfl⟩) hs' p (by rw [← h]; simp) hx, ?_⟩
  unfold apd at hlen
  rw [← h, pbs_append, pbs_append, List.length_append, List.length_append] at hlen
  have : pbs s [p] = pb s p := by simp [pbs]
  rw [this] at hlen
  omega

set_option maxHeartbeats 2000000 in
theorem apply_no (s : ByteArray) (A : Option Addr) (cap : Nat) (es : List Ed) (w : World) (hes : Eds w w.heap.size A es) (hl : es.length ≤ 100000) (hs : snd es s.size ≠ 0) :
    Calls Try.prog 33 #[.string s, .slice A es.length cap] w fun e w' => e = .returned (.tuple #[.string ⟨#[]⟩, .int .i64 (snd es s.size)]) ∧ Below w.heap.size w w' := by
  have hne : (snd es s.size != 0) = true := by simpa using hs
  have HES := Lib.hid hes
  clear hes hs
  go_enter Try.func33, Try.ntmps33
  go_wp2_with fail
  refine (sound_edits A cap es s.size _ ((HES.out.below ((Below.refl _ _).alloc (Nat.le_refl _) _)).more (by simp)) hl).mono ?_
  rintro e w1 ⟨rfl, hb⟩
  have HB := Lib.hid (below_alloc' hb)
  clear hb
  go_wp2
  go_ret2
  exact ⟨rfl, HB.out⟩

set_option maxHeartbeats 2000000 in
theorem apply_ok (s : ByteArray) (A : Option Addr) (cap : Nat) (es : List Ed) (w : World) (hes : Eds w w.heap.size A es) (hl : es.length ≤ 100000) (hs : snd es s.size = 0) (hlen : (apd s es).length ≤ 140737488355328) :
    Calls Try.prog 33 #[.string s, .slice A es.length cap] w fun e w' => e = .returned (.tuple #[.string ⟨(apd s es).toArray⟩, .int .i64 0]) ∧ Below w.heap.size w w' := by
  have hmf : ∀ (fn : Fn) (first cap : Array Value) (w : World), (Instr.makeFunc fn first cap).run Try.prog w = .ok (.func fn first cap) w := fun _ _ _ _ => rfl
  have HES := Lib.hid hes
  have HS := Lib.hid hs
  have HG := Lib.hid (ap_good s es hs hlen)
  clear hes hs
  go_enter Try.func33, Try.ntmps33
  go_wp2_with fail
  refine (sound_edits A cap es s.size _ ((HES.out.below ((Below.refl _ _).alloc (Nat.le_refl _) _)).more (by simp)) hl).mono ?_
  rintro e w1 ⟨rfl, hb⟩
  rw [HS.out]
  have hsz : w.heap.size < w1.heap.size := by have := hb.size; simp at this; omega
  have HR := Lib.hid ((RowB.new w 9 #[.string s]).below hb (by simp))
  have HB := Lib.hid (below_alloc' hb)
  have q0 : w1.cell? ⟨w.heap.size, 0, none⟩ = some (.string s) := HR.out.cell 0
  clear hb
  go_wp2_with fail
  refine (walk46 _ _ w1.heap.size w1.heap.size 5 (AI s w1.heap.size w1.heap.size w.heap.size) (AG s) (lays46 s w1.heap.size w1.heap.size w.heap.size (by omega)) (by decide) (by decide) A cap es s.size [] _
    (((HES.out.below HB.out).more (by omega)).below ((Below.refl _ _).alloc (Nat.le_refl _) _)) ⟨Lib.fresh_isBuilder 76 5 w1, HR.out.alloc _⟩ (by simp) (by simp) hl HG.out).mono ?_
  rintro e w2 ⟨rfl, hi, hb⟩
  have hi0 := hi.1
  rw [List.nil_append] at hi0
  have HI := Lib.hid hi0
  have HB2 := Lib.hid (HB.out.trans (((Below.refl _ w1).alloc (Nat.le_refl _) (.cells #[.pointer none, .slice none 0 0] 76)).trans hb |>.mono (by omega)))
  have hB2 : w1.heap.size ≤ w2.heap.size := by have := hb.size; simp at this; omega
  clear hi hi0 hb q0
  go_wp2_with fail
  refine (string_any w1.heap.size w1.heap.size (apd s es) _ HI.out hB2).mono ?_
  rintro e w3 ⟨rfl, hb⟩
  have HB3 := Lib.hid (HB2.out.trans (hb.mono (by omega)))
  clear hb
  go_wp2
  go_ret2
  exact ⟨rfl, HB3.out⟩
end Go.Proofs.Ytendbkbjmibchaa
