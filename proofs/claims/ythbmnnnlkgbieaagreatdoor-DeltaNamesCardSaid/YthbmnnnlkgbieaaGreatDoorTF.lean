/- Contracts: a text's tokens, whatever the text; the document's example of package token holds. -/
import Derived.Test.YthbmnnnlkgbieaaGreatDoorTE
namespace Go.Proofs.YthbmnnnlkgbieaaGreatDoor
open Go.RowKit

/-- The address A holds these tokens; no address is asked for where there is none. -/
def TokAt (w : World) (A : Option Addr) (l : List Tok) : Prop := 0 < l.length → ∃ g, A = some ⟨g, 0, none⟩ ∧ g < w.heap.size ∧ ∀ i (h : i < l.length),
  w.cell? ⟨g, i * 4, none⟩ = some (.int .i64 l[i].kind) ∧ w.cell? ⟨g, i * 4 + 1, none⟩ = some (.int .i64 l[i].at_) ∧ w.cell? ⟨g, i * 4 + 2, none⟩ = some (.string l[i].lead) ∧ w.cell? ⟨g, i * 4 + 3, none⟩ = some (.string l[i].text)
theorem TokAt.below {w w' : World} {A : Option Addr} {l : List Tok} (h : TokAt w A l) (hb : Below w.heap.size w w') : TokAt w' A l := fun hn => by
  obtain ⟨g, e, hg, hc⟩ := h hn
  refine ⟨g, e, Nat.lt_of_lt_of_le hg hb.size, fun i hi => ?_⟩
  obtain ⟨c0, c1, c2, c3⟩ := hc i hi
  exact ⟨(hb.cell (p := ⟨g, i * 4, none⟩) hg).trans c0, (hb.cell (p := ⟨g, i * 4 + 1, none⟩) hg).trans c1, (hb.cell (p := ⟨g, i * 4 + 2, none⟩) hg).trans c2, (hb.cell (p := ⟨g, i * 4 + 3, none⟩) hg).trans c3⟩
theorem cellsL_get : ∀ (l : List Tok) (i : Nat) (h : i < l.length) (c : Nat), c < 4 → (cellsL l)[i * 4 + c]? = (cellsT l[i])[c]?
  | t :: l, 0, h, c, hc => by
    have : (cellsT t).length = 4 := rfl
    simp only [cellsL, List.flatMap_cons, Nat.zero_mul, Nat.zero_add, List.getElem_cons_zero]
    rw [List.getElem?_append_left (by omega)]
  | t :: l, i + 1, h, c, hc => by
    have h4 : (cellsT t).length = 4 := rfl
    have ih := cellsL_get l i (by simp at h; omega) c hc
    simp only [cellsL, List.flatMap_cons, List.getElem_cons_succ]
    rw [List.getElem?_append_right (by omega), h4, show (i + 1) * 4 + c - 4 = i * 4 + c by omega]
    exact ih
theorem cellsL_len : ∀ l : List Tok, (cellsL l).length = l.length * 4
  | [] => rfl
  | t :: l => by
    have := cellsL_len l
    simp only [cellsL, List.flatMap_cons, List.length_append, List.length_cons] at this ⊢
    rw [this, show (cellsT t).length = 4 from rfl]
    omega
theorem TokAt.of_own {w : World} {base n cap : Nat} {A : Option Addr} {l : List Tok} (h : w.ownsRow base 47 4 (.slice A n cap) n (cellsL l)) (hn : n = l.length) : TokAt w A l ∧ (0 < l.length → l.length ≤ cap) := by
  subst hn
  constructor
  · intro h0
    have hlt := h.lt
    rcases h.2 with ⟨hv, hx⟩ | ⟨g, cap', cur, hv, h1, h2, h3⟩
    · omega
    · injection hv with e1 _ _
      subst e1
      have key : ∀ j u, (cellsL l)[j]? = some u → w.cell? ⟨g, j, none⟩ = some u := fun j u hu => by
        have := h.cells (g := g) rfl j u hu
        simp only [Addr.add] at this
        by_cases hj : j = 0 <;> simpa [hj] using this
      refine ⟨g, rfl, (hlt g rfl).2, fun i hi => ⟨?_, ?_, ?_, ?_⟩⟩
      · exact key _ _ (by rw [show i * 4 = i * 4 + 0 by omega, cellsL_get l i hi 0 (by omega)]; rfl)
      · exact key _ _ (by rw [cellsL_get l i hi 1 (by omega)]; rfl)
      · exact key _ _ (by rw [cellsL_get l i hi 2 (by omega)]; rfl)
      · exact key _ _ (by rw [cellsL_get l i hi 3 (by omega)]; rfl)
  · intro h0
    rcases h.2 with ⟨hv, hx⟩ | ⟨g, cap', cur, hv, h1, h2, h3, _⟩
    · omega
    · injection hv with _ _ e3
      subst e3
      exact h3

/-- What Lex answers, whatever the text. -/
def Lext (s : ByteArray) (w : World) (e : Ending) (w' : World) : Prop :=
  Below w.heap.size w w' ∧ match lexR s with
    | .good l => ∃ A cap, e = .returned (.tuple #[.slice A l.length cap, .int .i64 0, .int .i64 0]) ∧ TokAt w' A l ∧ l.length ≤ 4000 ∧ (0 < l.length → l.length ≤ cap)
    | .bad er a => e = .returned (.tuple #[.slice none 0 0, .int .i64 er, .int .i64 a])

theorem lext_of {s : ByteArray} {w w' : World} {e : Ending} (h : Lexed s w e w') : Lext s w e w' := by
  refine ⟨h.1, ?_⟩
  have h2 := h.2
  cases hr : lexR s with
  | good l =>
    rw [hr] at h2
    obtain ⟨v, he, hown, hl⟩ := h2
    obtain ⟨A, cap, rfl⟩ := own_slice hown
    obtain ⟨g1, g2⟩ := TokAt.of_own hown rfl
    exact ⟨A, cap, he, g1, hl, g2⟩
  | bad er a =>
    rw [hr] at h2
    exact h2

set_option maxHeartbeats 2000000 in
theorem lext_any (s : ByteArray) (hs : (s.size : Int) ≤ 9223372036854775807) (w : World) (hT : Tabs w) (hE : Errs w) : Calls Tryz.prog 20 #[.string s] w (Lext s w) := by
  by_cases hb : s.size > 16384
  · have hz : (s.size : Int) > 16384 := by omega
    have HR : Hid (lexR s = .bad 5 16384) := by show _ = _; unfold lexR; rw [if_pos hb]
    clear hT hE hb
    go_enter Tryz.func20, Tryz.ntmps20
    go_wp2_with fail
    go_ret3
    refine ⟨Below.refl _ _, ?_⟩
    rw [HR.out]
    rfl
  · by_cases hg : badAt s.data.toList = none
    · exact (lex_any s (by omega) hg w hT hE).mono fun e w' h => lext_of h
    · have c := bad_any s w hT (by omega)
      have hn : 0 ≤ badI s.data.toList := by
        unfold badI
        split
        · rename_i h'; exact absurd h' hg
        · omega
      obtain ⟨b, hb'⟩ : ∃ b, b = badI s.data.toList := ⟨_, rfl⟩
      have HR : Hid (lexR s = .bad 20 b) := by show _ = _; unfold lexR; rw [if_neg hb, if_pos hg, hb']
      rw [← hb'] at c hn
      have C := Lib.hid c
      have hz : ¬ (s.size : Int) > 16384 := by omega
      have hbz : b ≥ 0 := hn
      clear c hT hE hb hg hn hb'
      go_enter Tryz.func20, Tryz.ntmps20
      go_wp2_with fail
      refine C.out.mono ?_
      rintro e w1 ⟨rfl, hb⟩
      have HB := Lib.hid hb
      clear hb
      go_wp2_with fail
      go_ret3
      refine ⟨HB.out, ?_⟩
      rw [HR.out]
      rfl

/-- Bytes below 128 are UTF-8. -/
theorem ascii_good : ∀ l : List UInt8, (∀ b ∈ l, b.toNat < 128) → badAt l = none
  | [], _ => bad_nil
  | b :: t, h => by
    have h0 : b.toNat < 128 := h b (by simp)
    have hd : dec (b :: t) = (b.toNat, 1) := by
      unfold dec
      exact dN_ascii _ _ _ _ _ h0
    have hok : okc (b :: t) = true := by
      unfold okc
      rw [hd]
      simp
      omega
    rw [bad_step (by simp) hok, hd]
    show (badAt t).map _ = none
    rw [ascii_good t fun x hx => h x (by simp [hx])]
    rfl
def exT : List Tok := [⟨1, 0, ⟨#[]⟩, ⟨#[97]⟩⟩, ⟨5, 1, ⟨#[]⟩, ⟨#[61]⟩⟩, ⟨3, 2, ⟨#[]⟩, ⟨#[49]⟩⟩, ⟨0, 7, ⟨#[32, 35, 32, 120]⟩, ⟨#[]⟩⟩]
theorem lexR_ex : lexR ⟨#[97, 61, 49, 32, 35, 32, 120]⟩ = .good exT := by
  unfold lexR
  rw [if_neg (by decide), if_neg (by rw [ascii_good _ (by decide)]; simp)]
  kernel_rfl
end Go.Proofs.YthbmnnnlkgbieaaGreatDoor
