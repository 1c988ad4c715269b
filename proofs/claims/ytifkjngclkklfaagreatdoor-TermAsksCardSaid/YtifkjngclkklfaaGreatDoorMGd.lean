/- Contracts: a text's tokens. -/
import Derived.Test.YtifkjngclkklfaaGreatDoorMGc
import Derived.Outline
import Derived.Test.YtifkjngclkklfaaGreatDoorMGb
namespace Go.Proofs.YtifkjngclkklfaaGreatDoor
open Go.RowKit

structure Tok where
  kind : Nat
  at_ : Nat
  lead : ByteArray
  text : ByteArray
def cellsT (t : Tok) : List Value := [.int .i64 t.kind, .int .i64 t.at_, .string t.lead, .string t.text]
def cellsL (l : List Tok) : List Value := l.flatMap cellsT
inductive LexR where
  | good (l : List Tok)
  | bad (e a : Int)
def LexR.pre (D : List Tok) : LexR → LexR
  | .good l => .good (D ++ l)
  | .bad e a => .bad e a
/-- The token that is read from a place on. -/
def tokK (s : ByteArray) (k : Nat) : Tok := ⟨(firstL (tl s (atK s k))).1, atK s k, s.extract k (atK s k), s.extract (atK s k) (atK s k + (firstL (tl s (atK s k))).2.1)⟩
def endK (s : ByteArray) (k : Nat) : Nat := atK s k + (firstL (tl s (atK s k))).2.1
def errK (s : ByteArray) (k : Nat) : Nat := (firstL (tl s (atK s k))).2.2
/-- The tokens from a place on, behind n others; at most f. -/
def lexF (s : ByteArray) : Nat → Nat → Nat → LexR
  | 0, _, _ => .bad 99 0
  | f + 1, k, n => if errK s k ≠ 0 then .bad (errK s k) (atK s k) else if n = 4000 then .bad 5 (atK s k) else if (tokK s k).kind = 0 then .good [tokK s k] else (lexF s f (endK s k) (n + 1)).pre [tokK s k]
def lexR (s : ByteArray) : LexR := if s.size > 16384 then .bad 5 16384 else if badAt s.data.toList ≠ none then .bad 20 (badI s.data.toList) else lexF s (s.size + 1) 0 0
theorem pre_pre (D E : List Tok) (r : LexR) : (r.pre E).pre D = r.pre (D ++ E) := by cases r <;> simp [LexR.pre]

theorem info47 : (Tryz.prog.info? 111).map (fun i => (i.zero, i.size, i.bytes)) = some (some (.agg #[.int .i64 0, .int .i64 0, .string ⟨#[]⟩, .string ⟨#[]⟩]), 4, 48) := by kernel_rfl
/-- What Lex answers. -/
def Lexed (s : ByteArray) (w : World) (e : Ending) (w' : World) : Prop :=
  Below w.heap.size w w' ∧ match lexR s with
    | .good l => ∃ v, e = .returned (.tuple #[v, .int .i64 0, .int .i64 0]) ∧ w'.ownsRow w.heap.size 111 4 v l.length (cellsL l) ∧ l.length ≤ 4000
    | .bad er a => e = .returned (.tuple #[.slice none 0 0, .int .i64 er, .int .i64 a])

theorem own_below {w w' : World} {base e size n : Nat} {v : Value} {xs : List Value} (h : w.ownsRow base e size v n xs) (hb : Below w.heap.size w w') : w'.ownsRow base e size v n xs := by
  have hlt := h.lt
  refine ⟨h.1, ?_⟩
  rcases h.2 with ⟨hv, hn⟩ | ⟨g, cap, cur, rfl, h1, h2, h3⟩
  · exact .inl ⟨hv, hn⟩
  · exact .inr ⟨g, cap, cur, rfl, h1, (hb.block g (hlt g rfl).2).trans h2, h3⟩
theorem own_slice {w : World} {base e size n : Nat} {v : Value} {xs : List Value} (h : w.ownsRow base e size v n xs) : ∃ A cap, v = .slice A n cap := by
  rcases h.2 with ⟨hv, hx⟩ | ⟨g, cap, cur, hv, _⟩
  · subst hx; exact ⟨none, 0, hv⟩
  · exact ⟨_, cap, hv⟩
theorem cells_tok (w : World) (a b c d : Value) (j : Nat) (u : Value) (hj : [a, b, c, d][j]? = some u) : (w.alloc (.cells #[a, b, c, d] 111)).cell? ((⟨w.heap.size, 0, none⟩ : Addr).add j) = some u := by
  match j, hj with
  | 0, hj => simp at hj; subst hj; simp [Addr.add]
  | 1, hj => simp at hj; subst hj; simp [Addr.add]
  | 2, hj => simp at hj; subst hj; simp [Addr.add]
  | 3, hj => simp at hj; subst hj; simp [Addr.add]
  | (j + 4), hj => simp at hj
theorem one_tok (a b : Int) (c d : ByteArray) : ∀ u ∈ [Value.int .i64 a, .int .i64 b, .string c, .string d], u.oneCell' = true := by
  intro u hu
  simp at hu
  rcases hu with rfl | rfl | rfl | rfl <;> rfl
theorem cellsL_snoc (D : List Tok) (t : Tok) : cellsL (D ++ [t]) = cellsL D ++ cellsT t := by simp [cellsL]
/-- A step of lexing. -/
theorem lexF_err {s : ByteArray} {f k n : Nat} (h : errK s k ≠ 0) : lexF s (f + 1) k n = .bad (errK s k) (atK s k) := by rw [lexF, if_pos h]
theorem lexF_many {s : ByteArray} {f k : Nat} (h : errK s k = 0) : lexF s (f + 1) k 4000 = .bad 5 (atK s k) := by rw [lexF, if_neg (by simp [h]), if_pos rfl]
theorem lexF_end {s : ByteArray} {f k n : Nat} (h : errK s k = 0) (hn : n ≠ 4000) (hk : (tokK s k).kind = 0) : lexF s (f + 1) k n = .good [tokK s k] := by rw [lexF, if_neg (by simp [h]), if_neg hn, if_pos hk]
theorem lexF_next {s : ByteArray} {f k n : Nat} (h : errK s k = 0) (hn : n ≠ 4000) (hk : (tokK s k).kind ≠ 0) : lexF s (f + 1) k n = (lexF s f (endK s k) (n + 1)).pre [tokK s k] := by rw [lexF, if_neg (by simp [h]), if_neg hn, if_neg hk]

theorem wLen_pos {b : UInt8} {t : List UInt8} (h : wdN b.toNat = true) : 1 ≤ wLen (b :: t) := by
  unfold wLen
  rw [runM_go (go := wGo) (by exact h)]
  omega
/-- A token that is none stands at the end alone, and has no bytes. -/
theorem first_kind (l : List UInt8) (h : (firstL l).2.2 = 0) : ((firstL l).1 = 0 ↔ l = []) ∧ ((firstL l).2.1 = 0 ↔ l = []) := by
  cases l with
  | nil => simp [firstL]
  | cons b t =>
    unfold firstL at h ⊢
    rw [if_neg (by simp)] at h ⊢
    have e : (b :: t).getD 0 0 = b := rfl
    rw [e] at h ⊢
    have hne : ¬ (b :: t : List UInt8) = [] := by simp
    simp only [hne, iff_false]
    by_cases h1 : letN b.toNat = true
    · rw [if_pos h1] at h ⊢
      have hp : 1 ≤ wLen (b :: t) := wLen_pos (by unfold wdN; rw [h1]; rfl)
      unfold wordL at h ⊢
      split
      · exact ⟨by simp, by simp only; omega⟩
      · rename_i hk
        rw [if_neg hk] at h
        split
        · rename_i h40
          rw [if_pos h40] at h
          cases h
        · exact ⟨by simp, by simp only; omega⟩
    rw [if_neg h1] at h ⊢
    by_cases h2 : digN b.toNat = true
    · rw [if_pos h2] at h ⊢
      have hp : 1 ≤ wLen (b :: t) := wLen_pos (by unfold wdN; rw [h2]; simp)
      unfold numL at h ⊢
      split
      · exact ⟨by simp, by simp only; omega⟩
      · rename_i hk
        rw [if_neg hk] at h
        cases h
    rw [if_neg h2] at h ⊢
    by_cases h3 : b.toNat = 34
    · rw [if_pos h3] at h ⊢
      unfold quotL at h ⊢
      split
      · refine ⟨by simp, ?_⟩
        simp only [qLong, List.length_cons]
        omega
      · rename_i hk
        rw [if_neg hk] at h
        cases h
    rw [if_neg h3] at h ⊢
    unfold signL at h ⊢
    split
    · exact ⟨by simp, by simp⟩
    · rename_i hp
      rw [if_neg hp] at h
      split
      · exact ⟨by simp, by simp⟩
      · rename_i hk
        rw [if_neg hk] at h
        cases h
theorem endK_le (s : ByteArray) (k : Nat) (h : k ≤ s.size) : atK s k ≤ endK s k ∧ endK s k ≤ s.size := by
  have h1 := first_le (tl s (atK s k))
  have h2 := (atK_le s k h).2
  rw [tl_len] at h1
  unfold endK
  omega
theorem tok_size (s : ByteArray) (k : Nat) (h : k ≤ s.size) : (tokK s k).at_ + (tokK s k).text.size = endK s k := by
  have h1 := endK_le s k h
  show atK s k + (s.extract (atK s k) (endK s k)).size = endK s k
  rw [ByteArray.size_extract]
  omega
theorem tok_pos (s : ByteArray) (k : Nat) (he : errK s k = 0) (hk : (tokK s k).kind ≠ 0) : atK s k < endK s k := by
  obtain ⟨h1, h2⟩ := first_kind (tl s (atK s k)) he
  have h3 : ¬ (firstL (tl s (atK s k))).2.1 = 0 := fun h => hk (h1.2 (h2.1 h))
  unfold endK
  omega
theorem nextE_good {s : ByteArray} {k : Nat} (h : errK s k = 0) : nextE s k = .returned (.tuple #[tokV (tokK s k).kind (tokK s k).at_ (tokK s k).lead (tokK s k).text, .int .i64 0]) := by
  unfold errK at h
  unfold nextE
  rw [if_pos h]
  rfl
theorem nextE_bad {s : ByteArray} {k : Nat} (h : errK s k ≠ 0) : nextE s k = .returned (.tuple #[tokV 0 (atK s k) ⟨#[]⟩ ⟨#[]⟩, .int .i64 (errK s k)]) := by
  unfold errK at h ⊢
  unfold nextE
  rw [if_neg h]

set_option maxHeartbeats 4000000 in
set_option maxRecDepth 100000 in
theorem lex_any (s : ByteArray) (hs : s.size ≤ 16384) (hg : badAt s.data.toList = none) (w : World) (hT : Tabs w) (hE : Errs w) :
    Calls Tryz.prog 75 #[.string s] w (Lexed s w) := by
  obtain ⟨i0, hi, hz0, hz1, hz2⟩ := info_parts info47
  have c := bad_any s w hT (by omega)
  rw [badI_none hg] at c
  have hsz : ¬ (s.size : Int) > 16384 := by omega
  have HR : Hid (lexR s = lexF s (s.size + 1) 0 0) := by
    show _ = _
    unfold lexR
    rw [if_neg (by omega), if_neg (by simp [hg])]
  have C := Lib.hid c
  have HE := Lib.hid hE
  clear c hT hE hg
  go_enter Tryz.func75, Tryz.ntmps75
  go_wp2_with fail
  refine C.out.mono ?_
  rintro e w1 ⟨rfl, hb1⟩
  have HB1 := Lib.hid hb1
  clear hb1
  go_wp2_with fail
  go_loopg [6, 7] (s.size + 1) (fun kx v x wr => ∃ (f k n : Nat) (D : List Tok) (u : Value), u = v ∧ x = .int .i64 k ∧ k ≤ s.size ∧ s.size + 1 - k ≤ kx ∧ s.size + 1 ≤ f + k ∧ n ≤ 4000 ∧ Hid (n = D.length) ∧ Hid (lexF s (s.size + 1) 0 0 = (lexF s f k n).pre D) ∧ wr.ownsRow w.heap.size 111 4 u n (cellsL D) ∧ Below w.heap.size w wr)
  case atStart => exact ⟨s.size + 1, 0, 0, [], _, rfl, rfl, by omega, by omega, by omega, by omega, rfl, by show _ = _; cases lexF s (s.size + 1) 0 0 <;> rfl, World.ownsRow_nil _ _ _ _, HB1.out⟩
  case round =>
    obtain ⟨f, k, n, D, u, rfl, rfl, hk, hkx, hf, hn, HD, HF, hown, hnx⟩ := hrel
    go_wp2_with fail
    refine (next_any s k (by omega) hk wr (HE.out.below hnx)).mono ?_
    rintro e w2 ⟨he, hb2⟩
    obtain ⟨ha1, ha2⟩ := atK_le s k hk
    obtain ⟨g, rfl⟩ : ∃ g, f = g + 1 := ⟨f - 1, by omega⟩
    have hown2 := own_below hown hb2
    have hnx2 := step_below hnx hb2
    have hltu := hown2.lt
    obtain ⟨A, cap, rfl⟩ := own_slice hown2
    have R0 := RowB.new w2 111 #[.int .i64 0, .int .i64 0, .string ⟨#[]⟩, .string ⟨#[]⟩]
    have hgt : ∀ h, (Value.slice A n cap).ownBlock = some h → h < w2.heap.size := fun h e => (hltu h e).2
    by_cases her : errK s k = 0
    · have he' : e = .returned (.tuple #[tokV (tokK s k).kind (tokK s k).at_ (tokK s k).lead (tokK s k).text, .int .i64 0]) := by
        rw [he, nextE_good her]
      obtain ⟨kd, hkd⟩ : ∃ kd, kd = (tokK s k).kind := ⟨_, rfl⟩
      obtain ⟨a, haa⟩ : ∃ a, a = (tokK s k).at_ := ⟨_, rfl⟩
      obtain ⟨ld, hld⟩ : ∃ ld, ld = (tokK s k).lead := ⟨_, rfl⟩
      obtain ⟨tx, htx⟩ : ∃ tx, tx = (tokK s k).text := ⟨_, rfl⟩
      rw [← hkd, ← haa, ← hld, ← htx] at he'
      have HB3 := Lib.hid (hnx2.alloc hnx2.size (.cells #[.int .i64 kd, .int .i64 a, .string ld, .string tx] 111))
      by_cases hmany : n = 4000
      · have z1 : ((n : Int) == 4000) = true := by simp; omega
        have HF2 : Hid (lexR s = .bad 5 a) := by
          show _ = _
          rw [HR.out, HF.out, hmany, lexF_many her, haa]
          rfl
        subst he'
        clear hown hown2 hb2 he her hkd haa hld htx ha1 ha2 R0 hltu hgt hmany
        go_wp2_with fail
        go_quiet (fail)
        go_wp2_with fail
        go_ret3
        refine ⟨below_drewN HB3.out _, ?_⟩
        rw [HF2.out]
        rfl
      · have z1 : ((n : Int) == 4000) = false := by simp; omega
        have T0 := Lib.hid (RowB.new w2 111 #[.int .i64 kd, .int .i64 a, .string ld, .string tx])
        have hown3 : (w2.alloc (.cells #[.int .i64 kd, .int .i64 a, .string ld, .string tx] 111)).ownsRow w.heap.size 111 4 (.slice A n cap) n (cellsL D) := hown2.alloc _
        have HF2 := Lib.hid hmany
        subst he'
        have HK1 := Lib.hid hkd
        have HK2 := Lib.hid haa
        have HK3 := Lib.hid hld
        have HK4 := Lib.hid htx
        have HER := Lib.hid her
        have HGT := Lib.hid hgt
        clear hown hown2 hb2 he hmany R0 hltu hkd haa hld htx her hgt
        have b3 : n + 1 ≤ maxLen := by unfold maxLen; omega
        have b4 : (n + 1) * 48 ≤ 140737488355328 := by omega
        have b5 : w.heap.size ≤ ((w2.alloc (.cells #[.int .i64 kd, .int .i64 a, .string ld, .string tx] 111)).alloc (.cells #[.int .i64 kd, .int .i64 a, .string ld, .string tx] 111)).heap.size := by have := hnx2.size; simp; omega
        have c1 := cells_tok (w2.alloc (.cells #[.int .i64 kd, .int .i64 a, .string ld, .string tx] 111)) (.int .i64 kd) (.int .i64 a) (.string ld) (.string tx)
        have C1 := Lib.hid c1
        clear c1
        go_wp2_with (at_builtin; refine wpList_append_own _ rfl (.tmp 36) (.tmp 38) 95 rfl w.heap.size 111 i0 (.agg #[.int .i64 0, .int .i64 0, .string ⟨#[]⟩, .string ⟨#[]⟩]) 4 48 Tryz.underlying95 hi hz0 hz1 hz2 rfl (by decide) _ _ _ rfl (hown3.alloc _) ⟨w2.heap.size + 1, 0, none⟩ 1 1 [.int .i64 kd, .int .i64 a, .string ld, .string tx] rfl rfl (by simpa using C1.out) (one_tok _ _ _ _) b3 b4 b5 ?_)
        intro v' w3 hown' hgrow _
        have T3 := Lib.hid ((T0.out.alloc (.cells #[.int .i64 kd, .int .i64 a, .string ld, .string tx] 111)).grown hgrow (fun h => by have := HGT.out _ h.symm; omega))
        have B3 := Lib.hid ((HB3.out.alloc HB3.out.size (.cells #[.int .i64 kd, .int .i64 a, .string ld, .string tx] 111)).grown hgrow b5 (fun j hj => (hown3.lt j hj).1))
        have hown4 : w3.ownsRow w.heap.size 111 4 v' (n + 1) (cellsL (D ++ [tokK s k])) := by
          rw [cellsL_snoc]
          have : cellsT (tokK s k) = [.int .i64 kd, .int .i64 a, .string ld, .string tx] := by
            rw [HK1.out, HK2.out, HK3.out, HK4.out]
            rfl
          rw [this]
          exact hown'
        have OW := Lib.hid hown4
        obtain ⟨q0, q1, q3⟩ := (⟨T3.out.cell 0, T3.out.cell 1, T3.out.cell 3⟩ : w3.cell? ⟨w2.heap.size, 0, none⟩ = some (.int .i64 kd) ∧ w3.cell? ⟨w2.heap.size, 1, none⟩ = some (.int .i64 a) ∧ w3.cell? ⟨w2.heap.size, 3, none⟩ = some (.string tx))
        clear hown' hown4 hown3 hgrow b3 b4 b5 C1
        by_cases hkd0 : kd = 0
        · have z2 : ((kd : Int) == 0) = true := by simp; omega
          have HG : Hid (lexR s = .good (D ++ [tokK s k])) := by
            show _ = _
            rw [HR.out, HF.out, lexF_end HER.out HF2.out (by rw [← HK1.out]; exact hkd0)]
            rfl
          clear hkd0
          go_wp2_with fail
          go_ret3
          refine ⟨B3.out, ?_⟩
          rw [HG.out]
          exact ⟨v', rfl, by rw [List.length_append, ← HD.out]; exact OW.out, by rw [List.length_append, ← HD.out]; have := HF2.out; show n + 1 ≤ 4000; omega⟩
        · have z2 : ((kd : Int) == 0) = false := by simp; omega
          have hend := endK_le s k hk
          have hts := tok_size s k hk
          rw [← HK2.out, ← HK4.out] at hts
          have hpos := tok_pos s k HER.out (by rw [← HK1.out]; exact hkd0)
          obtain ⟨k', hk'⟩ : ∃ k', k' = endK s k := ⟨_, rfl⟩
          have HG : Hid (lexF s (s.size + 1) 0 0 = (lexF s g k' (n + 1)).pre (D ++ [tokK s k])) := by
            show _ = _
            rw [HF.out, lexF_next HER.out HF2.out (by rw [← HK1.out]; exact hkd0), pre_pre, ← hk']
          rw [← hk'] at hts hend hpos
          have hlt : k < k' := by omega
          have hle : k' ≤ s.size := hend.2
          have EK : (a : Int) + (tx.size : Int) = (k' : Int) := by omega
          have hn1 : n + 1 ≤ 4000 := by have := HF2.out; omega
          clear hkd0 hend hts hpos hk'
          go_wp2_with fail
          go_roundg (s.size + 1 - k')
          case measure => omega
          case rel => exact ⟨g, k', n + 1, _, _, rfl, rfl, hle, by omega, by omega, hn1, by show _ = _; rw [List.length_append, ← HD.out]; rfl, HG.out, OW.out, B3.out⟩
    · have he' : e = .returned (.tuple #[tokV 0 (atK s k) ⟨#[]⟩ ⟨#[]⟩, .int .i64 (errK s k)]) := by
        rw [he, nextE_bad her]
      have HF2 := Lib.hid (HR.out.trans (HF.out.trans (congrArg (LexR.pre D) (lexF_err her))))
      obtain ⟨z, hz⟩ : ∃ z, z = errK s k := ⟨_, rfl⟩
      obtain ⟨a, ha⟩ : ∃ a, a = atK s k := ⟨_, rfl⟩
      rw [← hz] at he' HF2 her
      rw [← ha] at he' HF2
      have z1 : ((z : Int) == 0) = false := by simp; omega
      have z2 : ((z : Int) != 0) = true := by simp; omega
      have HB3 := Lib.hid (hnx2.alloc hnx2.size (.cells #[.int .i64 0, .int .i64 a, .string ⟨#[]⟩, .string ⟨#[]⟩] 111))
      subst he'
      clear hown hown2 hb2 he her hz ha ha1 ha2 R0 hltu hgt
      go_wp2_with fail
      go_quiet (fail)
      go_wp2_with fail
      go_ret3
      refine ⟨below_drewN HB3.out _, ?_⟩
      rw [HF2.out]
      rfl
end Go.Proofs.YtifkjngclkklfaaGreatDoor
/- Contracts: a text's tokens, whatever the text; the document's example of package token holds. -/
namespace Go.Proofs.YtifkjngclkklfaaGreatDoor
open Go.RowKit

/-- The address A holds these tokens; no address is asked for where there is none. -/
def TokAt (w : World) (A : Option Addr) (l : List Tok) : Prop := 0 < l.length → ∃ g, A = some ⟨g, 0, none⟩ ∧ g < w.heap.size ∧ ∀ i (h : i < l.length),
  w.cell? ⟨g, i * 4, none⟩ = some (.int .i64 l[i].kind) ∧ w.cell? ⟨g, i * 4 + 1, none⟩ = some (.int .i64 l[i].at_) ∧ w.cell? ⟨g, i * 4 + 2, none⟩ = some (.string l[i].lead) ∧ w.cell? ⟨g, i * 4 + 3, none⟩ = some (.string l[i].text)
theorem TokAt.below {w w' : World} {A : Option Addr} {l : List Tok} (h : TokAt w A l) (hb : Below w.heap.size w w') : TokAt w' A l := fun hn => by
  obtain ⟨g, e, hg, hc⟩ := h hn
  refine ⟨g, e, Nat.lt_of_lt_of_le hg hb.size, fun i hi => ?_⟩
  obtain ⟨c0, c1, c2, c3⟩ := hc i hi
  exact ⟨(hb.cell (p := ⟨g, i * 4, none⟩) hg).trans c0, (hb.cell (p := ⟨g, i * 4 + 1, none⟩) hg).trans c1, (hb.cell (p := ⟨g, i * 4 + 2, none⟩) hg).trans c2, (hb.cell (p := ⟨g, i * 4 + 3, none⟩) hg).trans c3⟩
theorem cellsL_get : ∀ (l : List Tok) (i : Nat) (h : i < l.length) (c : Nat), c < 4 → (cellsL l)[i * 4 + c]? = (cellsT l[i])[c]?
  | t :: l, 0, h, c, hc => by
    have : (cellsT t).length = 4 := rfl
    simp only [cellsL, List.flatMap_cons, Nat.zero_mul, Nat.zero_add, List.getElem_cons_zero]
    rw [List.getElem?_append_left (by omega)]
  | t :: l, i + 1, h, c, hc => by
    have h4 : (cellsT t).length = 4 := rfl
    have ih := cellsL_get l i (by simp at h; omega) c hc
    simp only [cellsL, List.flatMap_cons, List.getElem_cons_succ]
    rw [List.getElem?_append_right (by omega), h4, show (i + 1) * 4 + c - 4 = i * 4 + c by omega]
    exact ih
theorem cellsL_len : ∀ l : List Tok, (cellsL l).length = l.length * 4
  | [] => rfl
  | t :: l => by
    have := cellsL_len l
    simp only [cellsL, List.flatMap_cons, List.length_append, List.length_cons] at this ⊢
    rw [this, show (cellsT t).length = 4 from rfl]
    omega
theorem TokAt.of_own {w : World} {base n cap : Nat} {A : Option Addr} {l : List Tok} (h : w.ownsRow base 111 4 (.slice A n cap) n (cellsL l)) (hn : n = l.length) : TokAt w A l ∧ (0 < l.length → l.length ≤ cap) := by
  subst hn
  constructor
  · intro h0
    have hlt := h.lt
    rcases h.2 with ⟨hv, hx⟩ | ⟨g, cap', cur, hv, h1, h2, h3⟩
    · omega
    · injection hv with e1 _ _
      subst e1
      have key : ∀ j u, (cellsL l)[j]? = some u → w.cell? ⟨g, j, none⟩ = some u := fun j u hu => by
        have := h.cells (g := g) rfl j u hu
        simp only [Addr.add] at this
        by_cases hj : j = 0 <;> simpa [hj] using this
      refine ⟨g, rfl, (hlt g rfl).2, fun i hi => ⟨?_, ?_, ?_, ?_⟩⟩
      · exact key _ _ (by rw [show i * 4 = i * 4 + 0 by omega, cellsL_get l i hi 0 (by omega)]; rfl)
      · exact key _ _ (by rw [cellsL_get l i hi 1 (by omega)]; rfl)
      · exact key _ _ (by rw [cellsL_get l i hi 2 (by omega)]; rfl)
      · exact key _ _ (by rw [cellsL_get l i hi 3 (by omega)]; rfl)
  · intro h0
    rcases h.2 with ⟨hv, hx⟩ | ⟨g, cap', cur, hv, h1, h2, h3, _⟩
    · omega
    · injection hv with _ _ e3
      subst e3
      exact h3

/-- What Lex answers, whatever the text. -/
def Lext (s : ByteArray) (w : World) (e : Ending) (w' : World) : Prop :=
  Below w.heap.size w w' ∧ match lexR s with
    | .good l => ∃ A cap, e = .returned (.tuple #[.slice A l.length cap, .int .i64 0, .int .i64 0]) ∧ TokAt w' A l ∧ l.length ≤ 4000 ∧ (0 < l.length → l.length ≤ cap)
    | .bad er a => e = .returned (.tuple #[.slice none 0 0, .int .i64 er, .int .i64 a])

theorem lext_of {s : ByteArray} {w w' : World} {e : Ending} (h : Lexed s w e w') : Lext s w e w' := by
  refine ⟨h.1, ?_⟩
  have h2 := h.2
  cases hr : lexR s with
  | good l =>
    rw [hr] at h2
    obtain ⟨v, he, hown, hl⟩ := h2
    obtain ⟨A, cap, rfl⟩ := own_slice hown
    obtain ⟨g1, g2⟩ := TokAt.of_own hown rfl
    exact ⟨A, cap, he, g1, hl, g2⟩
  | bad er a =>
    rw [hr] at h2
    exact h2

set_option maxHeartbeats 2000000 in
theorem lext_any (s : ByteArray) (hs : (s.size : Int) ≤ 9223372036854775807) (w : World) (hT : Tabs w) (hE : Errs w) : Calls Tryz.prog 75 #[.string s] w (Lext s w) := by
  by_cases hb : s.size > 16384
  · have hz : (s.size : Int) > 16384 := by omega
    have HR : Hid (lexR s = .bad 5 16384) := by show _ = _; unfold lexR; rw [if_pos hb]
    clear hT hE hb
    go_enter Tryz.func75, Tryz.ntmps75
    go_wp2_with fail
    go_ret3
    refine ⟨Below.refl _ _, ?_⟩
    rw [HR.out]
    rfl
  · by_cases hg : badAt s.data.toList = none
    · exact (lex_any s (by omega) hg w hT hE).mono fun e w' h => lext_of h
    · have c := bad_any s w hT (by omega)
      have hn : 0 ≤ badI s.data.toList := by
        unfold badI
        split
        · rename_i h'; exact absurd h' hg
        · omega
      obtain ⟨b, hb'⟩ : ∃ b, b = badI s.data.toList := ⟨_, rfl⟩
      have HR : Hid (lexR s = .bad 20 b) := by show _ = _; unfold lexR; rw [if_neg hb, if_pos hg, hb']
      rw [← hb'] at c hn
      have C := Lib.hid c
      have hz : ¬ (s.size : Int) > 16384 := by omega
      have hbz : b ≥ 0 := hn
      clear c hT hE hb hg hn hb'
      go_enter Tryz.func75, Tryz.ntmps75
      go_wp2_with fail
      refine C.out.mono ?_
      rintro e w1 ⟨rfl, hb⟩
      have HB := Lib.hid hb
      clear hb
      go_wp2_with fail
      go_ret3
      refine ⟨HB.out, ?_⟩
      rw [HR.out]
      rfl

/-- Bytes below 128 are UTF-8. -/
theorem ascii_good : ∀ l : List UInt8, (∀ b ∈ l, b.toNat < 128) → badAt l = none
  | [], _ => bad_nil
  | b :: t, h => by
    have h0 : b.toNat < 128 := h b (by simp)
    have hd : dec (b :: t) = (b.toNat, 1) := by
      unfold dec
      exact dN_ascii _ _ _ _ _ h0
    have hok : okc (b :: t) = true := by
      unfold okc
      rw [hd]
      simp
      omega
    rw [bad_step (by simp) hok, hd]
    show (badAt t).map _ = none
    rw [ascii_good t fun x hx => h x (by simp [hx])]
    rfl
def exT : List Tok := [⟨1, 0, ⟨#[]⟩, ⟨#[97]⟩⟩, ⟨5, 1, ⟨#[]⟩, ⟨#[61]⟩⟩, ⟨3, 2, ⟨#[]⟩, ⟨#[49]⟩⟩, ⟨0, 7, ⟨#[32, 35, 32, 120]⟩, ⟨#[]⟩⟩]
theorem lexR_ex : lexR ⟨#[97, 61, 49, 32, 35, 32, 120]⟩ = .good exT := by
  unfold lexR
  rw [if_neg (by decide), if_neg (by rw [ascii_good _ (by decide)]; simp)]
  kernel_rfl
end Go.Proofs.YtifkjngclkklfaaGreatDoor
/- The document's example of package token holds; names and keys. -/
namespace Go.Proofs.YtifkjngclkklfaaGreatDoor
open Go.RowKit

theorem Tabs.step {w w' : World} (h : Tabs w) (hb : Below w.heap.size w w') : Tabs w' := Utf8Tabs_below h hb

end Go.Proofs.YtifkjngclkklfaaGreatDoor
/- Contracts: names and keys, by package token and by the document's answer. -/
namespace Go.Proofs.YtifkjngclkklfaaGreatDoor
open Go.RowKit

set_option maxHeartbeats 1000000 in
theorem rletter_any (n : Int) (w : World) : Calls Tryz.prog 64 #[.int .u8 n] w fun e w' => e = .returned (.bool (letN n)) ∧ w = w' := by
  go_enter Tryz.func64, Tryz.ntmps64
  go_wp2
  all_goals
    go_ret
    exact ⟨rb (by simp [letN] <;> omega), rfl⟩
set_option maxHeartbeats 1000000 in
theorem rdigit_any (n : Int) (w : World) : Calls Tryz.prog 63 #[.int .u8 n] w fun e w' => e = .returned (.bool (digN n)) ∧ w = w' := by
  go_enter Tryz.func63, Tryz.ntmps63
  go_wp2
  all_goals
    go_ret
    exact ⟨rb (by simp [digN] <;> omega), rfl⟩

def rkeys : List ByteArray := [⟨#[117, 115, 101]⟩, ⟨#[100, 101, 102]⟩, ⟨#[108, 101, 116]⟩, ⟨#[105, 102]⟩, ⟨#[101, 108, 115, 101]⟩, ⟨#[119, 104, 105, 108, 101]⟩, ⟨#[112, 114, 105, 110, 116]⟩, ⟨#[114, 101, 116, 117, 114, 110]⟩, ⟨#[102, 110]⟩, ⟨#[105, 110, 112, 117, 116]⟩, ⟨#[105, 110, 116]⟩, ⟨#[115, 116, 114]⟩, ⟨#[100, 121, 110]⟩]
def rk (k : Nat) : ByteArray := rkeys.getD k ⟨#[]⟩
theorem key_of (l : List UInt8) : keyL l = rkeys.any (fun x => x.data.toList == l) := by
  rw [Bool.eq_iff_iff]
  simp only [keyL, keys, rkeys, List.contains_cons, List.contains_nil, List.any_cons, List.any_nil, Bool.or_false, Bool.or_eq_true, beq_iff_eq]
  constructor
  · intro h
    rcases h with rfl | rfl | rfl | rfl | rfl | rfl | rfl | rfl | rfl | rfl | rfl | rfl | rfl <;> simp
  · intro h
    rcases h with h | h | h | h | h | h | h | h | h | h | h | h | h <;> (subst h; simp)
theorem key_hit {s : ByteArray} {k : Nat} (hk : k < 13) (h : (rk k).toList = s.toList) : keyL s.data.toList = true := by
  rw [key_of, List.any_eq_true]
  refine ⟨rkeys[k]'(by simp [rkeys]; omega), List.getElem_mem _, ?_⟩
  have e : rk k = rkeys[k]'(by simp [rkeys]; omega) := by unfold rk; rw [List.getD_eq_getElem?_getD, List.getElem?_eq_getElem]; rfl
  rw [beq_iff_eq, ← e, ← ByteArray.toList_eq, ← ByteArray.toList_eq, h]
theorem key_none {s : ByteArray} (h : ∀ k, k < 13 → (rk k).toList ≠ s.toList) : keyL s.data.toList = false := by
  rw [key_of, List.any_eq_false]
  intro x hx
  obtain ⟨k, hk, rfl⟩ := List.getElem_of_mem hx
  have hk' : k < 13 := by simpa [rkeys] using hk
  have e : rk k = rkeys[k] := by unfold rk; rw [List.getD_eq_getElem?_getD, List.getElem?_eq_getElem hk]; rfl
  have := h k hk'
  rw [ByteArray.toList_eq, ByteArray.toList_eq, e] at this
  intro h
  exact this (beq_iff_eq.1 h)

set_option maxHeartbeats 2000000 in
theorem rkey_any (s : ByteArray) (w : World) : Calls Tryz.prog 62 #[.string s] w fun e w' => e = .returned (.bool (keyL s.data.toList)) ∧ Below w.heap.size w w' := by
  have hc : ∀ k, k < 13 → (w.alloc (.cells #[.string ⟨#[117, 115, 101]⟩, .string ⟨#[100, 101, 102]⟩, .string ⟨#[108, 101, 116]⟩, .string ⟨#[105, 102]⟩, .string ⟨#[101, 108, 115, 101]⟩, .string ⟨#[119, 104, 105, 108, 101]⟩, .string ⟨#[112, 114, 105, 110, 116]⟩, .string ⟨#[114, 101, 116, 117, 114, 110]⟩, .string ⟨#[102, 110]⟩, .string ⟨#[105, 110, 112, 117, 116]⟩, .string ⟨#[105, 110, 116]⟩, .string ⟨#[115, 116, 114]⟩, .string ⟨#[100, 121, 110]⟩] 9)).cell? ⟨w.heap.size, k, none⟩ = some (.string (rk k)) := by
    intro k hk
    rw [(RowB.new w 9 #[.string ⟨#[117, 115, 101]⟩, .string ⟨#[100, 101, 102]⟩, .string ⟨#[108, 101, 116]⟩, .string ⟨#[105, 102]⟩, .string ⟨#[101, 108, 115, 101]⟩, .string ⟨#[119, 104, 105, 108, 101]⟩, .string ⟨#[112, 114, 105, 110, 116]⟩, .string ⟨#[114, 101, 116, 117, 114, 110]⟩, .string ⟨#[102, 110]⟩, .string ⟨#[105, 110, 112, 117, 116]⟩, .string ⟨#[105, 110, 116]⟩, .string ⟨#[115, 116, 114]⟩, .string ⟨#[100, 121, 110]⟩]).cell k]
    rcases (by omega : k = 0 ∨ k = 1 ∨ k = 2 ∨ k = 3 ∨ k = 4 ∨ k = 5 ∨ k = 6 ∨ k = 7 ∨ k = 8 ∨ k = 9 ∨ k = 10 ∨ k = 11 ∨ k = 12) with rfl | rfl | rfl | rfl | rfl | rfl | rfl | rfl | rfl | rfl | rfl | rfl | rfl <;> rfl
  have HB : Hid (Below w.heap.size w (w.alloc (.cells #[.string ⟨#[117, 115, 101]⟩, .string ⟨#[100, 101, 102]⟩, .string ⟨#[108, 101, 116]⟩, .string ⟨#[105, 102]⟩, .string ⟨#[101, 108, 115, 101]⟩, .string ⟨#[119, 104, 105, 108, 101]⟩, .string ⟨#[112, 114, 105, 110, 116]⟩, .string ⟨#[114, 101, 116, 117, 114, 110]⟩, .string ⟨#[102, 110]⟩, .string ⟨#[105, 110, 112, 117, 116]⟩, .string ⟨#[105, 110, 116]⟩, .string ⟨#[115, 116, 114]⟩, .string ⟨#[100, 121, 110]⟩] 9))) := (Below.refl _ w).alloc (Nat.le_refl _) _
  have HC := Lib.hid hc
  clear hc
  go_enter Tryz.func62, Tryz.ntmps62
  go_wp2_with fail
  obtain ⟨W, hW⟩ : ∃ W, w.alloc (.cells #[.string ⟨#[117, 115, 101]⟩, .string ⟨#[100, 101, 102]⟩, .string ⟨#[108, 101, 116]⟩, .string ⟨#[105, 102]⟩, .string ⟨#[101, 108, 115, 101]⟩, .string ⟨#[119, 104, 105, 108, 101]⟩, .string ⟨#[112, 114, 105, 110, 116]⟩, .string ⟨#[114, 101, 116, 117, 114, 110]⟩, .string ⟨#[102, 110]⟩, .string ⟨#[105, 110, 112, 117, 116]⟩, .string ⟨#[105, 110, 116]⟩, .string ⟨#[115, 116, 114]⟩, .string ⟨#[100, 121, 110]⟩] 9) = W := ⟨_, rfl⟩
  rw [hW] at HC HB
  rw [hW]
  clear hW
  go_loopg [4] 13 (fun kx a wr => ∃ k : Nat, a = .int .i64 k ∧ k ≤ 13 ∧ 13 - k ≤ kx ∧ Hid (∀ j, j < k → (rk j).toList ≠ s.toList) ∧ Hid (W = wr))
  case atStart => exact ⟨0, rfl, by omega, by omega, fun j hj => by omega, rfl⟩
  case round =>
    obtain ⟨k, rfl, hk, hkx, HN, HW⟩ := hrel
    obtain rfl := HW.out
    by_cases hlt : k < 13
    · have hlz : (k : Int) < 13 := by omega
      have hcell := HC.out k hlt
      obtain ⟨r, hr⟩ : ∃ r, r = rk k := ⟨_, rfl⟩
      rw [← hr] at hcell
      by_cases he : r.toList = s.toList
      · have HT : Hid (true = keyL s.data.toList) := by show _ = _; exact (key_hit hlt (by rw [← hr]; exact he)).symm
        have q : (r.toList == s.toList) = true := by simpa using he
        clear hr he
        go_wp2_with fail
        go_ret
        exact ⟨rb (by rw [← HT.out]), HB.out⟩
      · have HN2 : Hid (∀ j, j < k + 1 → (rk j).toList ≠ s.toList) := by
          intro j hj
          by_cases e : j = k
          · subst e; rw [← hr]; exact he
          · exact HN.out j (by omega)
        have q : (r.toList == s.toList) = false := by simpa using he
        clear hr he
        go_wp2_with fail
        go_roundg (13 - (k + 1))
        case measure => omega
        case rel => exact ⟨k + 1, by go_num, by omega, by omega, HN2, rfl⟩
    · obtain rfl : k = 13 := by omega
      have HT : Hid (false = keyL s.data.toList) := by show _ = _; exact (key_none HN.out).symm
      clear hlt
      go_wp2_with fail
      go_ret
      exact ⟨rb (by rw [← HT.out]), HB.out⟩

def allW (l : List UInt8) : Bool := l.all fun b => wdN b.toNat
theorem wLen_all : ∀ l : List UInt8, allW l = true ↔ wLen l = l.length
  | [] => by simp [allW, wLen, runM]
  | b :: t => by
    have ih := wLen_all t
    have hle := wLen_le t
    unfold allW wLen at *
    cases hb : wdN b.toNat
    · rw [runM_stop (go := wGo) (by exact hb)]
      simp [hb]
    · rw [runM_go (go := wGo) (by exact hb)]
      simp only [List.all_cons, hb, Bool.true_and, List.length_cons]
      rw [ih]
      show runM wSt wGo false t = t.length ↔ 1 + runM wSt wGo false t = t.length + 1
      omega
/-- May a text be a name? -/
def nameL (l : List UInt8) : Bool := decide (l ≠ []) && letN (l.getD 0 0).toNat && decide (wLen l = l.length) && decide (l.length ≤ 40) && !(keyL l)
def rnameL (l : List UInt8) : Bool := !(decide (l.length = 0) || decide (l.length > 40) || keyL l || digN (l.getD 0 0).toNat) && allW l
theorem digN_letN (n : Int) : digN n = true → letN n = false := by
  intro h
  simp [digN, letN] at h ⊢
  omega
theorem name_same (l : List UInt8) : nameL l = rnameL l := by
  unfold nameL rnameL
  cases l with
  | nil => simp
  | cons b t =>
    have hw := wLen_all (b :: t)
    have e : (b :: t).getD 0 0 = b := rfl
    rw [e]
    by_cases ha : allW (b :: t) = true
    · have hb : wdN b.toNat = true := by simp [allW] at ha; exact ha.1
      rw [decide_eq_true (hw.1 ha), ha]
      have h1 : letN b.toNat = !(digN b.toNat) := by
        unfold wdN at hb
        cases hd : digN b.toNat
        · rw [hd] at hb; simpa using hb
        · rw [digN_letN _ hd]; rfl
      rw [h1]
      have h2 : (decide ((b :: t).length ≤ 40)) = !(decide ((b :: t).length > 40)) := by
        rw [Bool.eq_iff_iff]; simp
      rw [h2]
      cases digN b.toNat <;> cases keyL (b :: t) <;> cases decide ((b :: t).length > 40) <;> simp
    · have h1 : ¬ wLen (b :: t) = (b :: t).length := fun h => ha (hw.2 h)
      have h2 : allW (b :: t) = false := by simpa using ha
      rw [decide_eq_false h1, h2]
      simp

end Go.Proofs.YtifkjngclkklfaaGreatDoor
/- Contracts: the text of some tokens. -/
namespace Go.Proofs.YtifkjngclkklfaaGreatDoor
open Go.RowKit

/-- The bytes of some tokens. -/
def jl (l : List Tok) : List UInt8 := l.flatMap fun t => t.lead.data.toList ++ t.text.data.toList
theorem jl_append (a b : List Tok) : jl (a ++ b) = jl a ++ jl b := by simp [jl]
theorem jl_take (l : List Tok) (i : Nat) (h : i < l.length) : jl (l.take (i + 1)) = jl (l.take i) ++ (l[i].lead.data.toList ++ l[i].text.data.toList) := by
  rw [List.take_succ_eq_append_getElem h, jl_append]
  simp [jl]
theorem jl_part (l : List Tok) (i : Nat) (h : i < l.length) : (jl (l.take i)).length + (l[i].lead.size + l[i].text.size) ≤ (jl l).length := by
  have e := congrArg jl (List.take_append_drop (i + 1) l)
  rw [jl_append, jl_take l i h] at e
  rw [← e]
  simp only [List.length_append, Array.length_toList, ByteArray.size_data]
  omega
end Go.Proofs.YtifkjngclkklfaaGreatDoor
/- Mathematics: the tokens of a text join to it, each at its place, the end last. -/
namespace Go.Proofs.YtifkjngclkklfaaGreatDoor
open Go.RowKit

/-- What is known of the tokens from a place on. -/
def Good (s : ByteArray) (k : Nat) (l : List Tok) : Prop :=
  jl l = tl s k ∧ 0 < l.length ∧ ∀ i (h : i < l.length), l[i].at_ = k + (jl (l.take i)).length + l[i].lead.size ∧ (l[i].kind = 0 ↔ i + 1 = l.length) ∧ (l[i].text.size = 0 ↔ l[i].kind = 0)
theorem cut_tl (s : ByteArray) (a b : Nat) (h : a ≤ b) (_hb : b ≤ s.size) : tl s a = (s.extract a b).data.toList ++ tl s b := by
  unfold tl
  rw [ByteArray.data_extract, Array.toList_extract, List.extract_eq_take_drop]
  have e := List.take_append_drop (b - a) (s.data.toList.drop a)
  rw [List.drop_drop, show a + (b - a) = b by omega] at e
  exact e.symm
theorem tok_bytes (s : ByteArray) (k : Nat) (h : k ≤ s.size) : tl s k = ((tokK s k).lead.data.toList ++ (tokK s k).text.data.toList) ++ tl s (endK s k) := by
  have h1 := atK_le s k h
  have h2 := endK_le s k h
  rw [cut_tl s k (atK s k) h1.1 h1.2, cut_tl s (atK s k) (endK s k) h2.1 h2.2, List.append_assoc]
  rfl
theorem tok_lead (s : ByteArray) (k : Nat) (h : k ≤ s.size) : (tokK s k).at_ = k + (tokK s k).lead.size := by
  have h1 := atK_le s k h
  show atK s k = k + (s.extract k (atK s k)).size
  rw [ByteArray.size_extract]
  omega
theorem tok_none (s : ByteArray) (k : Nat) (h : k ≤ s.size) (he : errK s k = 0) : ((tokK s k).text.size = 0 ↔ (tokK s k).kind = 0) ∧ ((tokK s k).kind = 0 → endK s k = s.size) := by
  obtain ⟨h1, h2⟩ := first_kind (tl s (atK s k)) he
  have h3 := tok_size s k h
  have h4 : endK s k = (tokK s k).at_ + (firstL (tl s (atK s k))).2.1 := rfl
  have h5 : (tokK s k).kind = (firstL (tl s (atK s k))).1 := rfl
  have h6 := tl_len s (atK s k)
  have h7 := atK_le s k h
  have h8 := endK_le s k h
  rw [h5]
  refine ⟨⟨fun hz => h1.2 (h2.1 (by omega)), fun hz => ?_⟩, fun hz => ?_⟩
  · have := h2.2 (h1.1 hz)
    omega
  · have := h1.1 hz
    rw [this] at h6
    simp at h6
    omega
theorem lexF_good (s : ByteArray) : ∀ (f k n : Nat) (l : List Tok), k ≤ s.size → lexF s f k n = .good l → Good s k l
  | 0, k, n, l, hk, h => by simp [lexF] at h
  | f + 1, k, n, l, hk, h => by
    by_cases he : errK s k = 0
    · by_cases hn : n = 4000
      · subst hn; rw [lexF_many he] at h; cases h
      · have hb := tok_bytes s k hk
        have hl := tok_lead s k hk
        obtain ⟨hx, hz⟩ := tok_none s k hk he
        by_cases h0 : (tokK s k).kind = 0
        · rw [lexF_end he hn h0] at h
          cases h
          rw [hz h0, tl_end s s.size (Nat.le_refl _), List.append_nil] at hb
          refine ⟨by rw [hb]; simp [jl], by simp, fun i hi => ?_⟩
          obtain rfl : i = 0 := by simp at hi; omega
          simp only [List.getElem_cons_zero, List.take_zero, List.length_cons, List.length_nil]
          exact ⟨by simpa [jl] using hl, by simp [h0], hx⟩
        · rw [lexF_next he hn h0] at h
          cases hr : lexF s f (endK s k) (n + 1) with
          | bad e a => rw [hr] at h; cases h
          | good l' =>
            rw [hr] at h
            cases h
            obtain ⟨g1, g2, g3⟩ := lexF_good s f (endK s k) (n + 1) l' (endK_le s k hk).2 hr
            have hts := tok_size s k hk
            refine ⟨by rw [hb, ← g1]; simp [jl], by simp, fun i hi => ?_⟩
            cases i with
            | zero =>
              simp only [List.cons_append, List.nil_append, List.getElem_cons_zero, List.take_zero, List.length_cons]
              exact ⟨by simpa [jl] using hl, ⟨fun e => absurd e h0, fun e => by omega⟩, hx⟩
            | succ j =>
              simp only [List.cons_append, List.nil_append, List.length_cons] at hi ⊢
              obtain ⟨a1, a2, a3⟩ := g3 j (by omega)
              simp only [List.getElem_cons_succ, List.take_succ_cons]
              refine ⟨?_, by rw [a2]; omega, a3⟩
              rw [a1]
              have : (jl (tokK s k :: l'.take j)).length = (tokK s k).lead.size + (tokK s k).text.size + (jl (l'.take j)).length := by
                simp [jl, Nat.add_assoc]
              rw [this]
              omega
    · rw [lexF_err he] at h; cases h
theorem lexF_bad (s : ByteArray) : ∀ (f k n : Nat) (e a : Int), lexF s f k n = .bad e a → e ≠ 0
  | 0, k, n, e, a, h => by
    simp [lexF] at h
    omega
  | f + 1, k, n, e, a, h => by
    by_cases he : errK s k = 0
    · by_cases hn : n = 4000
      · subst hn; rw [lexF_many he] at h; injection h; omega
      · by_cases h0 : (tokK s k).kind = 0
        · rw [lexF_end he hn h0] at h; cases h
        · rw [lexF_next he hn h0] at h
          cases hr : lexF s f (endK s k) (n + 1) with
          | bad e' a' =>
            rw [hr] at h
            injection h with h1 h2
            have := lexF_bad s f (endK s k) (n + 1) e' a' hr
            omega
          | good l' => rw [hr] at h; cases h
    · rw [lexF_err he] at h
      injection h with h1 h2
      omega
theorem lexR_bad {s : ByteArray} {e a : Int} (h : lexR s = .bad e a) : e ≠ 0 := by
  unfold lexR at h
  split at h
  · injection h; omega
  · split at h
    · injection h; omega
    · exact lexF_bad s _ _ _ _ _ h
theorem lexR_good {s : ByteArray} {l : List Tok} (h : lexR s = .good l) : Good s 0 l ∧ s.size ≤ 16384 := by
  unfold lexR at h
  split at h
  · cases h
  · split at h
    · cases h
    · exact ⟨lexF_good s _ _ _ _ (by omega) h, by omega⟩
end Go.Proofs.YtifkjngclkklfaaGreatDoor
