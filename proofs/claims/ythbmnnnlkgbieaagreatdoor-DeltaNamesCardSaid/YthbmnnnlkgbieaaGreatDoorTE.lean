/- Contracts: a text's tokens. -/
import Derived.Test.YthbmnnnlkgbieaaGreatDoorTD
import Derived.Outline
namespace Go.Proofs.YthbmnnnlkgbieaaGreatDoor
open Go.RowKit

structure Tok where
  kind : Nat
  at_ : Nat
  lead : ByteArray
  text : ByteArray
def cellsT (t : Tok) : List Value := [.int .i64 t.kind, .int .i64 t.at_, .string t.lead, .string t.text]
def cellsL (l : List Tok) : List Value := l.flatMap cellsT
inductive LexR where
  | good (l : List Tok)
  | bad (e a : Int)
def LexR.pre (D : List Tok) : LexR → LexR
  | .good l => .good (D ++ l)
  | .bad e a => .bad e a
/-- The token that is read from a place on. -/
def tokK (s : ByteArray) (k : Nat) : Tok := ⟨(firstL (tl s (atK s k))).1, atK s k, s.extract k (atK s k), s.extract (atK s k) (atK s k + (firstL (tl s (atK s k))).2.1)⟩
def endK (s : ByteArray) (k : Nat) : Nat := atK s k + (firstL (tl s (atK s k))).2.1
def errK (s : ByteArray) (k : Nat) : Nat := (firstL (tl s (atK s k))).2.2
/-- The tokens from a place on, behind n others; at most f. -/
def lexF (s : ByteArray) : Nat → Nat → Nat → LexR
  | 0, _, _ => .bad 99 0
  | f + 1, k, n => if errK s k ≠ 0 then .bad (errK s k) (atK s k) else if n = 4000 then .bad 5 (atK s k) else if (tokK s k).kind = 0 then .good [tokK s k] else (lexF s f (endK s k) (n + 1)).pre [tokK s k]
def lexR (s : ByteArray) : LexR := if s.size > 16384 then .bad 5 16384 else if badAt s.data.toList ≠ none then .bad 20 (badI s.data.toList) else lexF s (s.size + 1) 0 0
theorem pre_pre (D E : List Tok) (r : LexR) : (r.pre E).pre D = r.pre (D ++ E) := by cases r <;> simp [LexR.pre]

theorem info47 : (Tryz.prog.info? 47).map (fun i => (i.zero, i.size, i.bytes)) = some (some (.agg #[.int .i64 0, .int .i64 0, .string ⟨#[]⟩, .string ⟨#[]⟩]), 4, 48) := by kernel_rfl
/-- What Lex answers. -/
def Lexed (s : ByteArray) (w : World) (e : Ending) (w' : World) : Prop :=
  Below w.heap.size w w' ∧ match lexR s with
    | .good l => ∃ v, e = .returned (.tuple #[v, .int .i64 0, .int .i64 0]) ∧ w'.ownsRow w.heap.size 47 4 v l.length (cellsL l) ∧ l.length ≤ 4000
    | .bad er a => e = .returned (.tuple #[.slice none 0 0, .int .i64 er, .int .i64 a])

theorem own_below {w w' : World} {base e size n : Nat} {v : Value} {xs : List Value} (h : w.ownsRow base e size v n xs) (hb : Below w.heap.size w w') : w'.ownsRow base e size v n xs := by
  have hlt := h.lt
  refine ⟨h.1, ?_⟩
  rcases h.2 with ⟨hv, hn⟩ | ⟨g, cap, cur, rfl, h1, h2, h3⟩
  · exact .inl ⟨hv, hn⟩
  · exact .inr ⟨g, cap, cur, rfl, h1, (hb.block g (hlt g rfl).2).trans h2, h3⟩
theorem own_slice {w : World} {base e size n : Nat} {v : Value} {xs : List Value} (h : w.ownsRow base e size v n xs) : ∃ A cap, v = .slice A n cap := by
  rcases h.2 with ⟨hv, hx⟩ | ⟨g, cap, cur, hv, _⟩
  · subst hx; exact ⟨none, 0, hv⟩
  · exact ⟨_, cap, hv⟩
theorem cells_tok (w : World) (a b c d : Value) (j : Nat) (u : Value) (hj : [a, b, c, d][j]? = some u) : (w.alloc (.cells #[a, b, c, d] 47)).cell? ((⟨w.heap.size, 0, none⟩ : Addr).add j) = some u := by
  match j, hj with
  | 0, hj => simp at hj; subst hj; simp [Addr.add]
  | 1, hj => simp at hj; subst hj; simp [Addr.add]
  | 2, hj => simp at hj; subst hj; simp [Addr.add]
  | 3, hj => simp at hj; subst hj; simp [Addr.add]
  | (j + 4), hj => simp at hj
theorem one_tok (a b : Int) (c d : ByteArray) : ∀ u ∈ [Value.int .i64 a, .int .i64 b, .string c, .string d], u.oneCell' = true := by
  intro u hu
  simp at hu
  rcases hu with rfl | rfl | rfl | rfl <;> rfl
theorem cellsL_snoc (D : List Tok) (t : Tok) : cellsL (D ++ [t]) = cellsL D ++ cellsT t := by simp [cellsL]
/-- A step of lexing. -/
theorem lexF_err {s : ByteArray} {f k n : Nat} (h : errK s k ≠ 0) : lexF s (f + 1) k n = .bad (errK s k) (atK s k) := by rw [lexF, if_pos h]
theorem lexF_many {s : ByteArray} {f k : Nat} (h : errK s k = 0) : lexF s (f + 1) k 4000 = .bad 5 (atK s k) := by rw [lexF, if_neg (by simp [h]), if_pos rfl]
theorem lexF_end {s : ByteArray} {f k n : Nat} (h : errK s k = 0) (hn : n ≠ 4000) (hk : (tokK s k).kind = 0) : lexF s (f + 1) k n = .good [tokK s k] := by rw [lexF, if_neg (by simp [h]), if_neg hn, if_pos hk]
theorem lexF_next {s : ByteArray} {f k n : Nat} (h : errK s k = 0) (hn : n ≠ 4000) (hk : (tokK s k).kind ≠ 0) : lexF s (f + 1) k n = (lexF s f (endK s k) (n + 1)).pre [tokK s k] := by rw [lexF, if_neg (by simp [h]), if_neg hn, if_neg hk]

theorem wLen_pos {b : UInt8} {t : List UInt8} (h : wdN b.toNat = true) : 1 ≤ wLen (b :: t) := by
  unfold wLen
  rw [runM_go (go := wGo) (by exact h)]
  omega
/-- A token that is none stands at the end alone, and has no bytes. -/
theorem first_kind (l : List UInt8) (h : (firstL l).2.2 = 0) : ((firstL l).1 = 0 ↔ l = []) ∧ ((firstL l).2.1 = 0 ↔ l = []) := by
  cases l with
  | nil => simp [firstL]
  | cons b t =>
    unfold firstL at h ⊢
    rw [if_neg (by simp)] at h ⊢
    have e : (b :: t).getD 0 0 = b := rfl
    rw [e] at h ⊢
    have hne : ¬ (b :: t : List UInt8) = [] := by simp
    simp only [hne, iff_false]
    by_cases h1 : letN b.toNat = true
    · rw [if_pos h1] at h ⊢
      have hp : 1 ≤ wLen (b :: t) := wLen_pos (by unfold wdN; rw [h1]; rfl)
      unfold wordL at h ⊢
      split
      · exact ⟨by simp, by simp only; omega⟩
      · rename_i hk
        rw [if_neg hk] at h
        split
        · rename_i h40
          rw [if_pos h40] at h
          cases h
        · exact ⟨by simp, by simp only; omega⟩
    rw [if_neg h1] at h ⊢
    by_cases h2 : digN b.toNat = true
    · rw [if_pos h2] at h ⊢
      have hp : 1 ≤ wLen (b :: t) := wLen_pos (by unfold wdN; rw [h2]; simp)
      unfold numL at h ⊢
      split
      · exact ⟨by simp, by simp only; omega⟩
      · rename_i hk
        rw [if_neg hk] at h
        cases h
    rw [if_neg h2] at h ⊢
    by_cases h3 : b.toNat = 34
    · rw [if_pos h3] at h ⊢
      unfold quotL at h ⊢
      split
      · refine ⟨by simp, ?_⟩
        simp only [qLong, List.length_cons]
        omega
      · rename_i hk
        rw [if_neg hk] at h
        cases h
    rw [if_neg h3] at h ⊢
    unfold signL at h ⊢
    split
    · exact ⟨by simp, by simp⟩
    · rename_i hp
      rw [if_neg hp] at h
      split
      · exact ⟨by simp, by simp⟩
      · rename_i hk
        rw [if_neg hk] at h
        cases h
theorem endK_le (s : ByteArray) (k : Nat) (h : k ≤ s.size) : atK s k ≤ endK s k ∧ endK s k ≤ s.size := by
  have h1 := first_le (tl s (atK s k))
  have h2 := (atK_le s k h).2
  rw [tl_len] at h1
  unfold endK
  omega
theorem tok_size (s : ByteArray) (k : Nat) (h : k ≤ s.size) : (tokK s k).at_ + (tokK s k).text.size = endK s k := by
  have h1 := endK_le s k h
  show atK s k + (s.extract (atK s k) (endK s k)).size = endK s k
  rw [ByteArray.size_extract]
  omega
theorem tok_pos (s : ByteArray) (k : Nat) (he : errK s k = 0) (hk : (tokK s k).kind ≠ 0) : atK s k < endK s k := by
  obtain ⟨h1, h2⟩ := first_kind (tl s (atK s k)) he
  have h3 : ¬ (firstL (tl s (atK s k))).2.1 = 0 := fun h => hk (h1.2 (h2.1 h))
  unfold endK
  omega
theorem nextE_good {s : ByteArray} {k : Nat} (h : errK s k = 0) : nextE s k = .returned (.tuple #[tokV (tokK s k).kind (tokK s k).at_ (tokK s k).lead (tokK s k).text, .int .i64 0]) := by
  unfold errK at h
  unfold nextE
  rw [if_pos h]
  rfl
theorem nextE_bad {s : ByteArray} {k : Nat} (h : errK s k ≠ 0) : nextE s k = .returned (.tuple #[tokV 0 (atK s k) ⟨#[]⟩ ⟨#[]⟩, .int .i64 (errK s k)]) := by
  unfold errK at h ⊢
  unfold nextE
  rw [if_neg h]

set_option maxHeartbeats 4000000 in
set_option maxRecDepth 100000 in
theorem lex_any (s : ByteArray) (hs : s.size ≤ 16384) (hg : badAt s.data.toList = none) (w : World) (hT : Tabs w) (hE : Errs w) :
    Calls Tryz.prog 20 #[.string s] w (Lexed s w) := by
  obtain ⟨i0, hi, hz0, hz1, hz2⟩ := info_parts info47
  have c := bad_any s w hT (by omega)
  rw [badI_none hg] at c
  have hsz : ¬ (s.size : Int) > 16384 := by omega
  have HR : Hid (lexR s = lexF s (s.size + 1) 0 0) := by
    show _ = _
    unfold lexR
    rw [if_neg (by omega), if_neg (by simp [hg])]
  have C := Lib.hid c
  have HE := Lib.hid hE
  clear c hT hE hg
  go_enter Tryz.func20, Tryz.ntmps20
  go_wp2_with fail
  refine C.out.mono ?_
  rintro e w1 ⟨rfl, hb1⟩
  have HB1 := Lib.hid hb1
  clear hb1
  go_wp2_with fail
  go_loopg [6, 7] (s.size + 1) (fun kx v x wr => ∃ (f k n : Nat) (D : List Tok) (u : Value), u = v ∧ x = .int .i64 k ∧ k ≤ s.size ∧ s.size + 1 - k ≤ kx ∧ s.size + 1 ≤ f + k ∧ n ≤ 4000 ∧ Hid (n = D.length) ∧ Hid (lexF s (s.size + 1) 0 0 = (lexF s f k n).pre D) ∧ wr.ownsRow w.heap.size 47 4 u n (cellsL D) ∧ Below w.heap.size w wr)
  case atStart => exact ⟨s.size + 1, 0, 0, [], _, rfl, rfl, by omega, by omega, by omega, by omega, rfl, by show _ = _; cases lexF s (s.size + 1) 0 0 <;> rfl, World.ownsRow_nil _ _ _ _, HB1.out⟩
  case round =>
    obtain ⟨f, k, n, D, u, rfl, rfl, hk, hkx, hf, hn, HD, HF, hown, hnx⟩ := hrel
    go_wp2_with fail
    refine (next_any s k (by omega) hk wr (HE.out.below hnx)).mono ?_
    rintro e w2 ⟨he, hb2⟩
    obtain ⟨ha1, ha2⟩ := atK_le s k hk
    obtain ⟨g, rfl⟩ : ∃ g, f = g + 1 := ⟨f - 1, by omega⟩
    have hown2 := own_below hown hb2
    have hnx2 := step_below hnx hb2
    have hltu := hown2.lt
    obtain ⟨A, cap, rfl⟩ := own_slice hown2
    have R0 := RowB.new w2 47 #[.int .i64 0, .int .i64 0, .string ⟨#[]⟩, .string ⟨#[]⟩]
    have hgt : ∀ h, (Value.slice A n cap).ownBlock = some h → h < w2.heap.size := fun h e => (hltu h e).2
    by_cases her : errK s k = 0
    · have he' : e = .returned (.tuple #[tokV (tokK s k).kind (tokK s k).at_ (tokK s k).lead (tokK s k).text, .int .i64 0]) := by
        rw [he, nextE_good her]
      obtain ⟨kd, hkd⟩ : ∃ kd, kd = (tokK s k).kind := ⟨_, rfl⟩
      obtain ⟨a, haa⟩ : ∃ a, a = (tokK s k).at_ := ⟨_, rfl⟩
      obtain ⟨ld, hld⟩ : ∃ ld, ld = (tokK s k).lead := ⟨_, rfl⟩
      obtain ⟨tx, htx⟩ : ∃ tx, tx = (tokK s k).text := ⟨_, rfl⟩
      rw [← hkd, ← haa, ← hld, ← htx] at he'
      have HB3 := Lib.hid (hnx2.alloc hnx2.size (.cells #[.int .i64 kd, .int .i64 a, .string ld, .string tx] 47))
      by_cases hmany : n = 4000
      · have z1 : ((n : Int) == 4000) = true := by simp; omega
        have HF2 : Hid (lexR s = .bad 5 a) := by
          show _ = _
          rw [HR.out, HF.out, hmany, lexF_many her, haa]
          rfl
        subst he'
        clear hown hown2 hb2 he her hkd haa hld htx ha1 ha2 R0 hltu hgt hmany
        go_wp2_with fail
        go_quiet (fail)
        go_wp2_with fail
        go_ret3
        refine ⟨below_drewN HB3.out _, ?_⟩
        rw [HF2.out]
        rfl
      · have z1 : ((n : Int) == 4000) = false := by simp; omega
        have T0 := Lib.hid (RowB.new w2 47 #[.int .i64 kd, .int .i64 a, .string ld, .string tx])
        have hown3 : (w2.alloc (.cells #[.int .i64 kd, .int .i64 a, .string ld, .string tx] 47)).ownsRow w.heap.size 47 4 (.slice A n cap) n (cellsL D) := hown2.alloc _
        have HF2 := Lib.hid hmany
        subst he'
        have HK1 := Lib.hid hkd
        have HK2 := Lib.hid haa
        have HK3 := Lib.hid hld
        have HK4 := Lib.hid htx
        have HER := Lib.hid her
        have HGT := Lib.hid hgt
        clear hown hown2 hb2 he hmany R0 hltu hkd haa hld htx her hgt
        have b3 : n + 1 ≤ maxLen := by unfold maxLen; omega
        have b4 : (n + 1) * 48 ≤ 140737488355328 := by omega
        have b5 : w.heap.size ≤ ((w2.alloc (.cells #[.int .i64 kd, .int .i64 a, .string ld, .string tx] 47)).alloc (.cells #[.int .i64 kd, .int .i64 a, .string ld, .string tx] 47)).heap.size := by have := hnx2.size; simp; omega
        have c1 := cells_tok (w2.alloc (.cells #[.int .i64 kd, .int .i64 a, .string ld, .string tx] 47)) (.int .i64 kd) (.int .i64 a) (.string ld) (.string tx)
        have C1 := Lib.hid c1
        clear c1
        go_wp2_with (at_builtin; refine wpList_append_own _ rfl (.tmp 36) (.tmp 38) 22 rfl w.heap.size 47 i0 (.agg #[.int .i64 0, .int .i64 0, .string ⟨#[]⟩, .string ⟨#[]⟩]) 4 48 Tryz.underlying22 hi hz0 hz1 hz2 rfl (by decide) _ _ _ rfl (hown3.alloc _) ⟨w2.heap.size + 1, 0, none⟩ 1 1 [.int .i64 kd, .int .i64 a, .string ld, .string tx] rfl rfl (by simpa using C1.out) (one_tok _ _ _ _) b3 b4 b5 ?_)
        intro v' w3 hown' hgrow _
        have T3 := Lib.hid ((T0.out.alloc (.cells #[.int .i64 kd, .int .i64 a, .string ld, .string tx] 47)).grown hgrow (fun h => by have := HGT.out _ h.symm; omega))
        have B3 := Lib.hid ((HB3.out.alloc HB3.out.size (.cells #[.int .i64 kd, .int .i64 a, .string ld, .string tx] 47)).grown hgrow b5 (fun j hj => (hown3.lt j hj).1))
        have hown4 : w3.ownsRow w.heap.size 47 4 v' (n + 1) (cellsL (D ++ [tokK s k])) := by
          rw [cellsL_snoc]
          have : cellsT (tokK s k) = [.int .i64 kd, .int .i64 a, .string ld, .string tx] := by
            rw [HK1.out, HK2.out, HK3.out, HK4.out]
            rfl
          rw [this]
          exact hown'
        have OW := Lib.hid hown4
        obtain ⟨q0, q1, q3⟩ := (⟨T3.out.cell 0, T3.out.cell 1, T3.out.cell 3⟩ : w3.cell? ⟨w2.heap.size, 0, none⟩ = some (.int .i64 kd) ∧ w3.cell? ⟨w2.heap.size, 1, none⟩ = some (.int .i64 a) ∧ w3.cell? ⟨w2.heap.size, 3, none⟩ = some (.string tx))
        clear hown' hown4 hown3 hgrow b3 b4 b5 C1
        by_cases hkd0 : kd = 0
        · have z2 : ((kd : Int) == 0) = true := by simp; omega
          have HG : Hid (lexR s = .good (D ++ [tokK s k])) := by
            show _ = _
            rw [HR.out, HF.out, lexF_end HER.out HF2.out (by rw [← HK1.out]; exact hkd0)]
            rfl
          clear hkd0
          go_wp2_with fail
          go_ret3
          refine ⟨B3.out, ?_⟩
          rw [HG.out]
          exact ⟨v', rfl, by rw [List.length_append, ← HD.out]; exact OW.out, by rw [List.length_append, ← HD.out]; have := HF2.out; show n + 1 ≤ 4000; omega⟩
        · have z2 : ((kd : Int) == 0) = false := by simp; omega
          have hend := endK_le s k hk
          have hts := tok_size s k hk
          rw [← HK2.out, ← HK4.out] at hts
          have hpos := tok_pos s k HER.out (by rw [← HK1.out]; exact hkd0)
          obtain ⟨k', hk'⟩ : ∃ k', k' = endK s k := ⟨_, rfl⟩
          have HG : Hid (lexF s (s.size + 1) 0 0 = (lexF s g k' (n + 1)).pre (D ++ [tokK s k])) := by
            show _ = _
            rw [HF.out, lexF_next HER.out HF2.out (by rw [← HK1.out]; exact hkd0), pre_pre, ← hk']
          rw [← hk'] at hts hend hpos
          have hlt : k < k' := by omega
          have hle : k' ≤ s.size := hend.2
          have EK : (a : Int) + (tx.size : Int) = (k' : Int) := by omega
          have hn1 : n + 1 ≤ 4000 := by have := HF2.out; omega
          clear hkd0 hend hts hpos hk'
          go_wp2_with fail
          go_roundg (s.size + 1 - k')
          case measure => omega
          case rel => exact ⟨g, k', n + 1, _, _, rfl, rfl, hle, by omega, by omega, hn1, by show _ = _; rw [List.length_append, ← HD.out]; rfl, HG.out, OW.out, B3.out⟩
    · have he' : e = .returned (.tuple #[tokV 0 (atK s k) ⟨#[]⟩ ⟨#[]⟩, .int .i64 (errK s k)]) := by
        rw [he, nextE_bad her]
      have HF2 := Lib.hid (HR.out.trans (HF.out.trans (congrArg (LexR.pre D) (lexF_err her))))
      obtain ⟨z, hz⟩ : ∃ z, z = errK s k := ⟨_, rfl⟩
      obtain ⟨a, ha⟩ : ∃ a, a = atK s k := ⟨_, rfl⟩
      rw [← hz] at he' HF2 her
      rw [← ha] at he' HF2
      have z1 : ((z : Int) == 0) = false := by simp; omega
      have z2 : ((z : Int) != 0) = true := by simp; omega
      have HB3 := Lib.hid (hnx2.alloc hnx2.size (.cells #[.int .i64 0, .int .i64 a, .string ⟨#[]⟩, .string ⟨#[]⟩] 47))
      subst he'
      clear hown hown2 hb2 he her hz ha ha1 ha2 R0 hltu hgt
      go_wp2_with fail
      go_quiet (fail)
      go_wp2_with fail
      go_ret3
      refine ⟨below_drewN HB3.out _, ?_⟩
      rw [HF2.out]
      rfl
end Go.Proofs.YthbmnnnlkgbieaaGreatDoor
