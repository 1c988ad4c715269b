import Derived.Test.YthjflofcgdfekaaGreatDoorMAU
import Derived.Outline
namespace Go.Proofs.YthjflofcgdfekaaGreatDoor
open Go.RowKit
structure Tok where
  kind : Nat
  at_ : Nat
  lead : ByteArray
  text : ByteArray
def cellsT (t : Tok) : List Value := [.int .i64 t.kind, .int .i64 t.at_, .string t.lead, .string t.text]
def cellsL (l : List Tok) : List Value := l.flatMap cellsT
inductive LexR where
  | good (l : List Tok)
  | bad (e a : Int)
def LexR.pre (D : List Tok) : LexR → LexR
  | .good l => .good (D ++ l)
  | .bad e a => .bad e a
def tokK (s : ByteArray) (k : Nat) : Tok := ⟨(firstL (tl s (atK s k))).1, atK s k, s.extract k (atK s k), s.extract (atK s k) (atK s k + (firstL (tl s (atK s k))).2.1)⟩
def endK (s : ByteArray) (k : Nat) : Nat := atK s k + (firstL (tl s (atK s k))).2.1
def errK (s : ByteArray) (k : Nat) : Nat := (firstL (tl s (atK s k))).2.2
def lexF (s : ByteArray) : Nat → Nat → Nat → LexR
  | 0, _, _ => .bad 99 0
  | f + 1, k, n => if errK s k ≠ 0 then .bad (errK s k) (atK s k) else if n = 4000 then .bad 5 (atK s k) else if (tokK s k).kind = 0 then .good [tokK s k] else (lexF s f (endK s k) (n + 1)).pre [tokK s k]
def lexR (s : ByteArray) : LexR := if s.size > 16384 then .bad 5 16384 else if badAt s.data.toList ≠ none then .bad 20 (badI s.data.toList) else lexF s (s.size + 1) 0 0
theorem pre_pre (D E : List Tok) (r : LexR) : (r.pre E).pre D = r.pre (D ++ E) := by cases r <;> simp [LexR.pre]
theorem info47 : (Tryz.prog.info? 83).map (fun i => (i.zero, i.size, i.bytes)) = some (some (.agg #[.int .i64 0, .int .i64 0, .string ⟨#[]⟩, .string ⟨#[]⟩]), 4, 48) := by kernel_rfl
def Lexed (s : ByteArray) (w : World) (e : Ending) (w' : World) : Prop :=
  Below w.heap.size w w' ∧ match lexR s with
    | .good l => ∃ v, e = .returned (.tuple #[v, .int .i64 0, .int .i64 0]) ∧ w'.ownsRow w.heap.size 83 4 v l.length (cellsL l) ∧ l.length ≤ 4000
    | .bad er a => e = .returned (.tuple #[.slice none 0 0, .int .i64 er, .int .i64 a])
theorem own_below {w w' : World} {base e size n : Nat} {v : Value} {xs : List Value} (h : w.ownsRow base e size v n xs) (hb : Below w.heap.size w w') : w'.ownsRow base e size v n xs := by
  have hlt := h.lt
  refine ⟨h.1, ?_⟩
  rcases h.2 with ⟨hv, hn⟩ | ⟨g, cap, cur, rfl, h1, h2, h3⟩
  · exact .inl ⟨hv, hn⟩
  · exact .inr ⟨g, cap, cur, rfl, h1, (hb.block g (hlt g rfl).2).trans h2, h3⟩
theorem own_slice {w : World} {base e size n : Nat} {v : Value} {xs : List Value} (h : w.ownsRow base e size v n xs) : ∃ A cap, v = .slice A n cap := by
  rcases h.2 with ⟨hv, hx⟩ | ⟨g, cap, cur, hv, _⟩
  · subst hx; exact ⟨none, 0, hv⟩
  · exact ⟨_, cap, hv⟩
theorem cells_tok (w : World) (a b c d : Value) (j : Nat) (u : Value) (hj : [a, b, c, d][j]? = some u) : (w.alloc (.cells #[a, b, c, d] 83)).cell? ((⟨w.heap.size, 0, none⟩ : Addr).add j) = some u := by
  match j, hj with
  | 0, hj => simp at hj; subst hj; simp [Addr.add]
  | 1, hj => simp at hj; subst hj; simp [Addr.add]
  | 2, hj => simp at hj; subst hj; simp [Addr.add]
  | 3, hj => simp at hj; subst hj; simp [Addr.add]
  | (j + 4), hj => simp at hj
theorem one_tok (a b : Int) (c d : ByteArray) : ∀ u ∈ [Value.int .i64 a, .int .i64 b, .string c, .string d], u.oneCell' = true := by
  intro u hu
  simp at hu
  rcases hu with rfl | rfl | rfl | rfl <;> rfl
theorem cellsL_snoc (D : List Tok) (t : Tok) : cellsL (D ++ [t]) = cellsL D ++ cellsT t := by simp [cellsL]
theorem lexF_err {s : ByteArray} {f k n : Nat} (h : errK s k ≠ 0) : lexF s (f + 1) k n = .bad (errK s k) (atK s k) := by rw [lexF, if_pos h]
theorem lexF_many {s : ByteArray} {f k : Nat} (h : errK s k = 0) : lexF s (f + 1) k 4000 = .bad 5 (atK s k) := by rw [lexF, if_neg (by simp [h]), if_pos rfl]
theorem lexF_end {s : ByteArray} {f k n : Nat} (h : errK s k = 0) (hn : n ≠ 4000) (hk : (tokK s k).kind = 0) : lexF s (f + 1) k n = .good [tokK s k] := by rw [lexF, if_neg (by simp [h]), if_neg hn, if_pos hk]
theorem lexF_next {s : ByteArray} {f k n : Nat} (h : errK s k = 0) (hn : n ≠ 4000) (hk : (tokK s k).kind ≠ 0) : lexF s (f + 1) k n = (lexF s f (endK s k) (n + 1)).pre [tokK s k] := by rw [lexF, if_neg (by simp [h]), if_neg hn, if_neg hk]
theorem wLen_pos {b : UInt8} {t : List UInt8} (h : wdN b.toNat = true) : 1 ≤ wLen (b :: t) := by
  unfold wLen
  rw [runM_go (go := wGo) (by exact h)]
  omega
theorem first_kind (l : List UInt8) (h : (firstL l).2.2 = 0) : ((firstL l).1 = 0 ↔ l = []) ∧ ((firstL l).2.1 = 0 ↔ l = []) := by
  cases l with
  | nil => simp [firstL]
  | cons b t =>
    unfold firstL at h ⊢
    rw [if_neg (by simp)] at h ⊢
    have e : (b :: t).getD 0 0 = b := rfl
    rw [e] at h ⊢
    have hne : ¬ (b :: t : List UInt8) = [] := by simp
    simp only [hne, iff_false]
    by_cases h1 : letN b.toNat = true
    · rw [if_pos h1] at h ⊢
      have hp : 1 ≤ wLen (b :: t) := wLen_pos (by unfold wdN; rw [h1]; rfl)
      unfold wordL at h ⊢
      split
      · exact ⟨by simp, by simp only; omega⟩
      · rename_i hk
        rw [if_neg hk] at h
        split
        · rename_i h40
          rw [if_pos h40] at h
          cases h
        · exact ⟨by simp, by simp only; omega⟩
    rw [if_neg h1] at h ⊢
    by_cases h2 : digN b.toNat = true
    · rw [if_pos h2] at h ⊢
      have hp : 1 ≤ wLen (b :: t) := wLen_pos (by unfold wdN; rw [h2]; simp)
      unfold numL at h ⊢
      split
      · exact ⟨by simp, by simp only; omega⟩
      · rename_i hk
        rw [if_neg hk] at h
        cases h
    rw [if_neg h2] at h ⊢
    by_cases h3 : b.toNat = 34
    · rw [if_pos h3] at h ⊢
      unfold quotL at h ⊢
      split
      · refine ⟨by simp, ?_⟩
        simp only [qLong, List.length_cons]
        omega
      · rename_i hk
        rw [if_neg hk] at h
        cases h
    rw [if_neg h3] at h ⊢
    unfold signL at h ⊢
    split
    · exact ⟨by simp, by simp⟩
    · rename_i hp
      rw [if_neg hp] at h
      split
      · exact ⟨by simp, by simp⟩
      · rename_i hk
        rw [if_neg hk] at h
        cases h
theorem endK_le (s : ByteArray) (k : Nat) (h : k ≤ s.size) : atK s k ≤ endK s k ∧ endK s k ≤ s.size := by
  have h1 := first_le (tl s (atK s k))
  have h2 := (atK_le s k h).2
  rw [tl_len] at h1
  unfold endK
  omega
theorem tok_size (s : ByteArray) (k : Nat) (h : k ≤ s.size) : (tokK s k).at_ + (tokK s k).text.size = endK s k := by
  have h1 := endK_le s k h
  show atK s k + (s.extract (atK s k) (endK s k)).size = endK s k
  rw [ByteArray.size_extract]
  omega
theorem tok_pos (s : ByteArray) (k : Nat) (he : errK s k = 0) (hk : (tokK s k).kind ≠ 0) : atK s k < endK s k := by
  obtain ⟨h1, h2⟩ := first_kind (tl s (atK s k)) he
  have h3 : ¬ (firstL (tl s (atK s k))).2.1 = 0 := fun h => hk (h1.2 (h2.1 h))
  unfold endK
  omega
theorem nextE_good {s : ByteArray} {k : Nat} (h : errK s k = 0) : nextE s k = .returned (.tuple #[tokV (tokK s k).kind (tokK s k).at_ (tokK s k).lead (tokK s k).text, .int .i64 0]) := by
  unfold errK at h
  unfold nextE
  rw [if_pos h]
  rfl
theorem nextE_bad {s : ByteArray} {k : Nat} (h : errK s k ≠ 0) : nextE s k = .returned (.tuple #[tokV 0 (atK s k) ⟨#[]⟩ ⟨#[]⟩, .int .i64 (errK s k)]) := by
  unfold errK at h ⊢
  unfold nextE
  rw [if_neg h]
set_option maxHeartbeats 4000000 in
set_option maxRecDepth 100000 in
theorem lex_any (s : ByteArray) (hs : s.size ≤ 16384) (hg : badAt s.data.toList = none) (w : World) (hT : Tabs w) (hE : Errs w) :
    Calls Tryz.prog 103 #[.string s] w (Lexed s w) := by
  obtain ⟨i0, hi, hz0, hz1, hz2⟩ := info_parts info47
  have c := bad_any s w hT (by omega)
  rw [badI_none hg] at c
  have hsz : ¬ (s.size : Int) > 16384 := by omega
  have HR : Hid (lexR s = lexF s (s.size + 1) 0 0) := by
    show _ = _
    unfold lexR
    rw [if_neg (by omega), if_neg (by simp [hg])]
  have C := Lib.hid c
  have HE := Lib.hid hE
  clear c hT hE hg
  go_enter Tryz.func103, Tryz.ntmps103
  go_wp2_with fail
  refine C.out.mono ?_
  rintro e w1 ⟨rfl, hb1⟩
  have HB1 := Lib.hid hb1
  clear hb1
  go_wp2_with fail
  go_loopg [6, 7] (s.size + 1) (fun kx v x wr => ∃ (f k n : Nat) (D : List Tok) (u : Value), u = v ∧ x = .int .i64 k ∧ k ≤ s.size ∧ s.size + 1 - k ≤ kx ∧ s.size + 1 ≤ f + k ∧ n ≤ 4000 ∧ Hid (n = D.length) ∧ Hid (lexF s (s.size + 1) 0 0 = (lexF s f k n).pre D) ∧ wr.ownsRow w.heap.size 83 4 u n (cellsL D) ∧ Below w.heap.size w wr)
  case atStart => exact ⟨s.size + 1, 0, 0, [], _, rfl, rfl, by omega, by omega, by omega, by omega, rfl, by show _ = _; cases lexF s (s.size + 1) 0 0 <;> rfl, World.ownsRow_nil _ _ _ _, HB1.out⟩
  case round =>
    obtain ⟨f, k, n, D, u, rfl, rfl, hk, hkx, hf, hn, HD, HF, hown, hnx⟩ := hrel
    go_wp2_with fail
    refine (next_any s k (by omega) hk wr (HE.out.below hnx)).mono ?_
    rintro e w2 ⟨he, hb2⟩
    obtain ⟨ha1, ha2⟩ := atK_le s k hk
    obtain ⟨g, rfl⟩ : ∃ g, f = g + 1 := ⟨f - 1, by omega⟩
    have hown2 := own_below hown hb2
    have hnx2 := step_below hnx hb2
    have hltu := hown2.lt
    obtain ⟨A, cap, rfl⟩ := own_slice hown2
    have R0 := RowB.new w2 83 #[.int .i64 0, .int .i64 0, .string ⟨#[]⟩, .string ⟨#[]⟩]
    have hgt : ∀ h, (Value.slice A n cap).ownBlock = some h → h < w2.heap.size := fun h e => (hltu h e).2
    by_cases her : errK s k = 0
    · have he' : e = .returned (.tuple #[tokV (tokK s k).kind (tokK s k).at_ (tokK s k).lead (tokK s k).text, .int .i64 0]) := by
        rw [he, nextE_good her]
      obtain ⟨kd, hkd⟩ : ∃ kd, kd = (tokK s k).kind := ⟨_, rfl⟩
      obtain ⟨a, haa⟩ : ∃ a, a = (tokK s k).at_ := ⟨_, rfl⟩
      obtain ⟨ld, hld⟩ : ∃ ld, ld = (tokK s k).lead := ⟨_, rfl⟩
      obtain ⟨tx, htx⟩ : ∃ tx, tx = (tokK s k).text := ⟨_, rfl⟩
      rw [← hkd, ← haa, ← hld, ← htx] at he'
      have HB3 := Lib.hid (hnx2.alloc hnx2.size (.cells #[.int .i64 kd, .int .i64 a, .string ld, .string tx] 83))
      by_cases hmany : n = 4000
      · have z1 : ((n : Int) == 4000) = true := by simp; omega
        have HF2 : Hid (lexR s = .bad 5 a) := by
          show _ = _
          rw [HR.out, HF.out, hmany, lexF_many her, haa]
          rfl
        subst he'
        clear hown hown2 hb2 he her hkd haa hld htx ha1 ha2 R0 hltu hgt hmany
        go_wp2_with fail
        go_quiet (fail)
        go_wp2_with fail
        go_ret3
        refine ⟨below_drewN HB3.out _, ?_⟩
        rw [HF2.out]
        rfl
      · have z1 : ((n : Int) == 4000) = false := by simp; omega
        have T0 := Lib.hid (RowB.new w2 83 #[.int .i64 kd, .int .i64 a, .string ld, .string tx])
        have hown3 : (w2.alloc (.cells #[.int .i64 kd, .int .i64 a, .string ld, .string tx] 83)).ownsRow w.heap.size 83 4 (.slice A n cap) n (cellsL D) := hown2.alloc _
        have HF2 := Lib.hid hmany
        subst he'
        have HK1 := Lib.hid hkd
        have HK2 := Lib.hid haa
        have HK3 := Lib.hid hld
        have HK4 := Lib.hid htx
        have HER := Lib.hid her
        have HGT := Lib.hid hgt
        clear hown hown2 hb2 he hmany R0 hltu hkd haa hld htx her hgt
        have b3 : n + 1 ≤ maxLen := by unfold maxLen; omega
        have b4 : (n + 1) * 48 ≤ 140737488355328 := by omega
        have b5 : w.heap.size ≤ ((w2.alloc (.cells #[.int .i64 kd, .int .i64 a, .string ld, .string tx] 83)).alloc (.cells #[.int .i64 kd, .int .i64 a, .string ld, .string tx] 83)).heap.size := by have := hnx2.size; simp; omega
        have c1 := cells_tok (w2.alloc (.cells #[.int .i64 kd, .int .i64 a, .string ld, .string tx] 83)) (.int .i64 kd) (.int .i64 a) (.string ld) (.string tx)
        have C1 := Lib.hid c1
        clear c1
        go_wp2_with (at_builtin; refine wpList_append_own _ rfl (.tmp 36) (.tmp 38) 35 rfl w.heap.size 83 i0 (.agg #[.int .i64 0, .int .i64 0, .string ⟨#[]⟩, .string ⟨#[]⟩]) 4 48 Tryz.underlying35 hi hz0 hz1 hz2 rfl (by decide) _ _ _ rfl (hown3.alloc _) ⟨w2.heap.size + 1, 0, none⟩ 1 1 [.int .i64 kd, .int .i64 a, .string ld, .string tx] rfl rfl (by simpa using C1.out) (one_tok _ _ _ _) b3 b4 b5 ?_)
        intro v' w3 hown' hgrow _
        have T3 := Lib.hid ((T0.out.alloc (.cells #[.int .i64 kd, .int .i64 a, .string ld, .string tx] 83)).grown hgrow (fun h => by have := HGT.out _ h.symm; omega))
        have B3 := Lib.hid ((HB3.out.alloc HB3.out.size (.cells #[.int .i64 kd, .int .i64 a, .string ld, .string tx] 83)).grown hgrow b5 (fun j hj => (hown3.lt j hj).1))
        have hown4 : w3.ownsRow w.heap.size 83 4 v' (n + 1) (cellsL (D ++ [tokK s k])) := by
          rw [cellsL_snoc]
          have : cellsT (tokK s k) = [.int .i64 kd, .int .i64 a, .string ld, .string tx] := by
            rw [HK1.out, HK2.out, HK3.out, HK4.out]
            rfl
          rw [this]
          exact hown'
        have OW := Lib.hid hown4
        obtain ⟨q0, q1, q3⟩ := (⟨T3.out.cell 0, T3.out.cell 1, T3.out.cell 3⟩ : w3.cell? ⟨w2.heap.size, 0, none⟩ = some (.int .i64 kd) ∧ w3.cell? ⟨w2.heap.size, 1, none⟩ = some (.int .i64 a) ∧ w3.cell? ⟨w2.heap.size, 3, none⟩ = some (.string tx))
        clear hown' hown4 hown3 hgrow b3 b4 b5 C1
        by_cases hkd0 : kd = 0
        · have z2 : ((kd : Int) == 0) = true := by simp; omega
          have HG : Hid (lexR s = .good (D ++ [tokK s k])) := by
            show _ = _
            rw [HR.out, HF.out, lexF_end HER.out HF2.out (by rw [← HK1.out]; exact hkd0)]
            rfl
          clear hkd0
          go_wp2_with fail
          go_ret3
          refine ⟨B3.out, ?_⟩
          rw [HG.out]
          exact ⟨v', rfl, by rw [List.length_append, ← HD.out]; exact OW.out, by rw [List.length_append, ← HD.out]; have := HF2.out; show n + 1 ≤ 4000; omega⟩
        · have z2 : ((kd : Int) == 0) = false := by simp; omega
          have hend := endK_le s k hk
          have hts := tok_size s k hk
          rw [← HK2.out, ← HK4.out] at hts
          have hpos := tok_pos s k HER.out (by rw [← HK1.out]; exact hkd0)
          obtain ⟨k', hk'⟩ : ∃ k', k' = endK s k := ⟨_, rfl⟩
          have HG : Hid (lexF s (s.size + 1) 0 0 = (lexF s g k' (n + 1)).pre (D ++ [tokK s k])) := by
            show _ = _
            rw [HF.out, lexF_next HER.out HF2.out (by rw [← HK1.out]; exact hkd0), pre_pre, ← hk']
          rw [← hk'] at hts hend hpos
          have hlt : k < k' := by omega
          have hle : k' ≤ s.size := hend.2
          have EK : (a : Int) + (tx.size : Int) = (k' : Int) := by omega
          have hn1 : n + 1 ≤ 4000 := by have := HF2.out; omega
          clear hkd0 hend hts hpos hk'
          go_wp2_with fail
          go_roundg (s.size + 1 - k')
          case measure => omega
          case rel => exact ⟨g, k', n + 1, _, _, rfl, rfl, hle, by omega, by omega, hn1, by show _ = _; rw [List.length_append, ← HD.out]; rfl, HG.out, OW.out, B3.out⟩
    · have he' : e = .returned (.tuple #[tokV 0 (atK s k) ⟨#[]⟩ ⟨#[]⟩, .int .i64 (errK s k)]) := by
        rw [he, nextE_bad her]
      have HF2 := Lib.hid (HR.out.trans (HF.out.trans (congrArg (LexR.pre D) (lexF_err her))))
      obtain ⟨z, hz⟩ : ∃ z, z = errK s k := ⟨_, rfl⟩
      obtain ⟨a, ha⟩ : ∃ a, a = atK s k := ⟨_, rfl⟩
      rw [← hz] at he' HF2 her
      rw [← ha] at he' HF2
      have z1 : ((z : Int) == 0) = false := by simp; omega
      have z2 : ((z : Int) != 0) = true := by simp; omega
      have HB3 := Lib.hid (hnx2.alloc hnx2.size (.cells #[.int .i64 0, .int .i64 a, .string ⟨#[]⟩, .string ⟨#[]⟩] 83))
      subst he'
      clear hown hown2 hb2 he her hz ha ha1 ha2 R0 hltu hgt
      go_wp2_with fail
      go_quiet (fail)
      go_wp2_with fail
      go_ret3
      refine ⟨below_drewN HB3.out _, ?_⟩
      rw [HF2.out]
      rfl
end Go.Proofs.YthjflofcgdfekaaGreatDoor
namespace Go.Proofs.YthjflofcgdfekaaGreatDoor
open Go.RowKit
def TokAt (w : World) (A : Option Addr) (l : List Tok) : Prop := 0 < l.length → ∃ g, A = some ⟨g, 0, none⟩ ∧ g < w.heap.size ∧ ∀ i (h : i < l.length),
  w.cell? ⟨g, i * 4, none⟩ = some (.int .i64 l[i].kind) ∧ w.cell? ⟨g, i * 4 + 1, none⟩ = some (.int .i64 l[i].at_) ∧ w.cell? ⟨g, i * 4 + 2, none⟩ = some (.string l[i].lead) ∧ w.cell? ⟨g, i * 4 + 3, none⟩ = some (.string l[i].text)
theorem TokAt.below {w w' : World} {A : Option Addr} {l : List Tok} (h : TokAt w A l) (hb : Below w.heap.size w w') : TokAt w' A l := fun hn => by
  obtain ⟨g, e, hg, hc⟩ := h hn
  refine ⟨g, e, Nat.lt_of_lt_of_le hg hb.size, fun i hi => ?_⟩
  obtain ⟨c0, c1, c2, c3⟩ := hc i hi
  exact ⟨(hb.cell (p := ⟨g, i * 4, none⟩) hg).trans c0, (hb.cell (p := ⟨g, i * 4 + 1, none⟩) hg).trans c1, (hb.cell (p := ⟨g, i * 4 + 2, none⟩) hg).trans c2, (hb.cell (p := ⟨g, i * 4 + 3, none⟩) hg).trans c3⟩
theorem cellsL_get : ∀ (l : List Tok) (i : Nat) (h : i < l.length) (c : Nat), c < 4 → (cellsL l)[i * 4 + c]? = (cellsT l[i])[c]?
  | t :: l, 0, h, c, hc => by
    have : (cellsT t).length = 4 := rfl
    simp only [cellsL, List.flatMap_cons, Nat.zero_mul, Nat.zero_add, List.getElem_cons_zero]
    rw [List.getElem?_append_left (by omega)]
  | t :: l, i + 1, h, c, hc => by
    have h4 : (cellsT t).length = 4 := rfl
    have ih := cellsL_get l i (by simp at h; omega) c hc
    simp only [cellsL, List.flatMap_cons, List.getElem_cons_succ]
    rw [List.getElem?_append_right (by omega), h4, show (i + 1) * 4 + c - 4 = i * 4 + c by omega]
    exact ih
theorem TokAt.of_own {w : World} {base n cap : Nat} {A : Option Addr} {l : List Tok} (h : w.ownsRow base 83 4 (.slice A n cap) n (cellsL l)) (hn : n = l.length) : TokAt w A l ∧ (0 < l.length → l.length ≤ cap) := by
  subst hn
  constructor
  · intro h0
    have hlt := h.lt
    rcases h.2 with ⟨hv, hx⟩ | ⟨g, cap', cur, hv, h1, h2, h3⟩
    · omega
    · injection hv with e1 _ _
      subst e1
      have key : ∀ j u, (cellsL l)[j]? = some u → w.cell? ⟨g, j, none⟩ = some u := fun j u hu => by
        have := h.cells (g := g) rfl j u hu
        simp only [Addr.add] at this
        by_cases hj : j = 0 <;> simpa [hj] using this
      refine ⟨g, rfl, (hlt g rfl).2, fun i hi => ⟨?_, ?_, ?_, ?_⟩⟩
      · exact key _ _ (by rw [show i * 4 = i * 4 + 0 by omega, cellsL_get l i hi 0 (by omega)]; rfl)
      · exact key _ _ (by rw [cellsL_get l i hi 1 (by omega)]; rfl)
      · exact key _ _ (by rw [cellsL_get l i hi 2 (by omega)]; rfl)
      · exact key _ _ (by rw [cellsL_get l i hi 3 (by omega)]; rfl)
  · intro h0
    rcases h.2 with ⟨hv, hx⟩ | ⟨g, cap', cur, hv, h1, h2, h3, _⟩
    · omega
    · injection hv with _ _ e3
      subst e3
      exact h3
def Lext (s : ByteArray) (w : World) (e : Ending) (w' : World) : Prop :=
  Below w.heap.size w w' ∧ match lexR s with
    | .good l => ∃ A cap, e = .returned (.tuple #[.slice A l.length cap, .int .i64 0, .int .i64 0]) ∧ TokAt w' A l ∧ l.length ≤ 4000 ∧ (0 < l.length → l.length ≤ cap)
    | .bad er a => e = .returned (.tuple #[.slice none 0 0, .int .i64 er, .int .i64 a])
theorem lext_of {s : ByteArray} {w w' : World} {e : Ending} (h : Lexed s w e w') : Lext s w e w' := by
  refine ⟨h.1, ?_⟩
  have h2 := h.2
  cases hr : lexR s with
  | good l =>
    rw [hr] at h2
    obtain ⟨v, he, hown, hl⟩ := h2
    obtain ⟨A, cap, rfl⟩ := own_slice hown
    obtain ⟨g1, g2⟩ := TokAt.of_own hown rfl
    exact ⟨A, cap, he, g1, hl, g2⟩
  | bad er a =>
    rw [hr] at h2
    exact h2
set_option maxHeartbeats 2000000 in
theorem lext_any (s : ByteArray) (hs : (s.size : Int) ≤ 9223372036854775807) (w : World) (hT : Tabs w) (hE : Errs w) : Calls Tryz.prog 103 #[.string s] w (Lext s w) := by
  by_cases hb : s.size > 16384
  · have hz : (s.size : Int) > 16384 := by omega
    have HR : Hid (lexR s = .bad 5 16384) := by show _ = _; unfold lexR; rw [if_pos hb]
    clear hT hE hb
    go_enter Tryz.func103, Tryz.ntmps103
    go_wp2_with fail
    go_ret3
    refine ⟨Below.refl _ _, ?_⟩
    rw [HR.out]
    rfl
  · by_cases hg : badAt s.data.toList = none
    · exact (lex_any s (by omega) hg w hT hE).mono fun e w' h => lext_of h
    · have c := bad_any s w hT (by omega)
      have hn : 0 ≤ badI s.data.toList := by
        unfold badI
        split
        · rename_i h'; exact absurd h' hg
        · omega
      obtain ⟨b, hb'⟩ : ∃ b, b = badI s.data.toList := ⟨_, rfl⟩
      have HR : Hid (lexR s = .bad 20 b) := by show _ = _; unfold lexR; rw [if_neg hb, if_pos hg, hb']
      rw [← hb'] at c hn
      have C := Lib.hid c
      have hz : ¬ (s.size : Int) > 16384 := by omega
      have hbz : b ≥ 0 := hn
      clear c hT hE hb hg hn hb'
      go_enter Tryz.func103, Tryz.ntmps103
      go_wp2_with fail
      refine C.out.mono ?_
      rintro e w1 ⟨rfl, hb⟩
      have HB := Lib.hid hb
      clear hb
      go_wp2_with fail
      go_ret3
      refine ⟨HB.out, ?_⟩
      rw [HR.out]
      rfl
end Go.Proofs.YthjflofcgdfekaaGreatDoor
namespace Go.Proofs.YthjflofcgdfekaaGreatDoor
namespace Ps
structure Hd where
  kind : Nat
  fro : Nat
  til : Nat
  word : ByteArray
  at_ : Nat
inductive Fo where
  | nil
  | cons (h : Hd) (kids rest : Fo)
def Fo.len : Fo → Nat
  | .nil => 0
  | .cons _ _ r => r.len + 1
def Fo.app : Fo → Fo → Fo
  | .nil, g => g
  | .cons h k r, g => .cons h k (r.app g)
theorem Fo.app_nil : ∀ a : Fo, a.app .nil = a
  | .nil => rfl
  | .cons h k r => by rw [Fo.app, Fo.app_nil r]
theorem Fo.app_assoc : ∀ a b c : Fo, (a.app b).app c = a.app (b.app c)
  | .nil, _, _ => rfl
  | .cons h k r, b, c => by rw [Fo.app, Fo.app, Fo.app, Fo.app_assoc r]
theorem Fo.len_app : ∀ a b : Fo, (a.app b).len = a.len + b.len
  | .nil, b => by simp [Fo.app, Fo.len]
  | .cons h k r, b => by rw [Fo.app, Fo.len, Fo.len, Fo.len_app r]; omega
def Fo.one (h : Hd) (k : Fo) : Fo := .cons h k .nil
def e0 : ByteArray := ⟨#[]⟩
def Fo.zero : Fo := .one ⟨0, 0, 0, e0, 0⟩ .nil
def Fo.from_ : Fo → Nat
  | .nil => 0
  | .cons h _ _ => h.fro
section
variable (l : List Tok)
def isM (at_ : Nat) (x : List UInt8) : Bool :=
  match l[at_]? with
  | none => false
  | some t => (t.kind == 2 || t.kind == 5) && (t.text.data.toList == x)
def kindAt (at_ : Nat) : Nat := ((l[at_]?).map Tok.kind).getD 0
def textAt (at_ : Nat) : ByteArray := ((l[at_]?).map Tok.text).getD e0
def wantM (b : Int) (at_ : Nat) (x : List UInt8) : Nat × Int := if 0 ≤ b then (at_, b) else if isM l at_ x = true then (at_ + 1, b) else (at_, (at_ : Int))
def wordM (b : Int) (h : Hd) (at_ : Nat) : Hd × Nat × Int := if 0 ≤ b then (h, at_, b) else if kindAt l at_ = 1 then ({ h with word := textAt l at_, at_ := at_ }, at_ + 1, b) else (h, at_, (at_ : Int))
abbrev Res := Option (Fo × Nat × Int)
def Res.pre (k : Fo) (r : Res) : Res := r.map fun x => (k.app x.1, x.2)
inductive TT where
  | kind
  | recL (first : Bool)
  | fnL (first : Bool)
def kInt : List UInt8 := [105, 110, 116]
def kStr : List UInt8 := [115, 116, 114]
def kDyn : List UInt8 := [100, 121, 110]
def kFn : List UInt8 := [102, 110]
def kUse : List UInt8 := [117, 115, 101]
def kDef : List UInt8 := [100, 101, 102]
def kIf : List UInt8 := [105, 102]
def kElse : List UInt8 := [101, 108, 115, 101]
def kWhile : List UInt8 := [119, 104, 105, 108, 101]
def kLet : List UInt8 := [108, 101, 116]
def kPrint : List UInt8 := [112, 114, 105, 110, 116]
def kReturn : List UInt8 := [114, 101, 116, 117, 114, 110]
def kInput : List UInt8 := [105, 110, 112, 117, 116]
def sOpen : List UInt8 := [123]
def sShut : List UInt8 := [125]
def sParO : List UInt8 := [40]
def sParS : List UInt8 := [41]
def sCol : List UInt8 := [58]
def sCom : List UInt8 := [44]
def sSem : List UInt8 := [59]
def sDot : List UInt8 := [46]
def sEq : List UInt8 := [61]
def sEqEq : List UInt8 := [61, 61]
def sLess : List UInt8 := [60]
def sPlus : List UInt8 := [43]
def sMinus : List UInt8 := [45]
def sStar : List UInt8 := [42]
def tyM : Nat → TT → Int → Nat → Res
  | 0, _, _, _ => none
  | f + 1, .kind, b, at_ =>
    if 0 ≤ b then some (.zero, at_, b)
    else if isM l at_ kInt = true then some (.one ⟨29, at_, at_ + 1, e0, 0⟩ .nil, at_ + 1, b)
    else if isM l at_ kStr = true then some (.one ⟨30, at_, at_ + 1, e0, 0⟩ .nil, at_ + 1, b)
    else if isM l at_ kDyn = true then some (.one ⟨31, at_, at_ + 1, e0, 0⟩ .nil, at_ + 1, b)
    else if isM l at_ sOpen = true then
      (tyM f (.recL true) b (at_ + 1)).bind fun x =>
        let y := wantM l x.2.2 x.2.1 sShut
        some (.one ⟨32, at_, y.1, e0, 0⟩ x.1, y.1, y.2)
    else
      let y1 := wantM l b at_ kFn
      let y2 := wantM l y1.2 y1.1 sParO
      (tyM f (.fnL true) y2.2 y2.1).bind fun x =>
        let y3 := wantM l x.2.2 x.2.1 sParS
        let y4 := wantM l y3.2 y3.1 sCol
        (tyM f .kind y4.2 y4.1).bind fun t =>
          some (.one ⟨34, at_, t.2.1, e0, 0⟩ (x.1.app t.1), t.2.1, t.2.2)
  | f + 1, .recL first, b, at_ =>
    if b < 0 ∧ ¬ (first = true ∧ isM l at_ sShut = true) then
      let x := wordM l b ⟨33, at_, 0, e0, 0⟩ at_
      let y := wantM l x.2.2 x.2.1 sCol
      (tyM f .kind y.2 y.1).bind fun t =>
        let n : Fo := .one { x.1 with til := t.2.1 } t.1
        if 0 ≤ t.2.2 ∨ isM l t.2.1 sShut = true then some (n, t.2.1, t.2.2)
        else
          let y2 := wantM l t.2.2 t.2.1 sCom
          (tyM f (.recL false) y2.2 y2.1).pre n
    else some (.nil, at_, b)
  | f + 1, .fnL first, b, at_ =>
    if b < 0 ∧ ¬ (first = true ∧ isM l at_ sParS = true) then
      (tyM f .kind b at_).bind fun t =>
        if 0 ≤ t.2.2 ∨ isM l t.2.1 sParS = true then some (t.1, t.2.1, t.2.2)
        else
          let y2 := wantM l t.2.2 t.2.1 sCom
          (tyM f (.fnL false) y2.2 y2.1).pre t.1
    else some (.nil, at_, b)
def typedM (f : Nat) (b : Int) (at_ : Nat) : Res := if 0 ≤ b ∨ ¬ isM l at_ sCol = true then some (.zero, at_, b) else tyM l f .kind b (at_ + 1)
def parL : Nat → Bool → Int → Nat → Res
  | 0, _, _, _ => none
  | f + 1, first, b, at_ =>
    if b < 0 ∧ ¬ (first = true ∧ isM l at_ sParS = true) then
      let x := wordM l b ⟨5, at_, 0, e0, 0⟩ at_
      (typedM l f x.2.2 x.2.1).bind fun t =>
        let n : Fo := .one { x.1 with til := t.2.1 } t.1
        if 0 ≤ t.2.2 ∨ isM l t.2.1 sParS = true then some (n, t.2.1, t.2.2)
        else
          let y2 := wantM l t.2.2 t.2.1 sCom
          (parL f false y2.2 y2.1).pre n
    else some (.nil, at_, b)
def paramsM (f : Nat) (b : Int) (at_ : Nat) : Res :=
  let y := wantM l b at_ sParO
  (parL l f true y.2 y.1).bind fun x =>
    let y2 := wantM l x.2.2 x.2.1 sParS
    some (.one ⟨4, at_, y2.1, e0, 0⟩ x.1, y2.1, y2.2)
inductive XT where
  | lambda
  | block
  | stmts
  | stmt
  | expr
  | sum
  | sumL (a : Fo)
  | term
  | termL (a : Fo)
  | post
  | postL (a : Fo)
  | args (first : Bool)
  | atom
  | entries (first : Bool)
def exM : Nat → XT → Int → Nat → Res
  | 0, _, _, _ => none
  | f + 1, .lambda, b, at_ =>
    (paramsM l f b at_).bind fun p =>
      (typedM l f p.2.2 p.2.1).bind fun t =>
        (exM f .block t.2.2 t.2.1).bind fun k =>
          some (p.1.app (t.1.app k.1), k.2.1, k.2.2)
  | f + 1, .block, b, at_ =>
    let y := wantM l b at_ sOpen
    (exM f .stmts y.2 y.1).bind fun x =>
      let y2 := wantM l x.2.2 x.2.1 sShut
      some (.one ⟨6, at_, y2.1, e0, 0⟩ x.1, y2.1, y2.2)
  | f + 1, .stmts, b, at_ =>
    if b < 0 ∧ ¬ isM l at_ sShut = true then
      (exM f .stmt b at_).bind fun x => (exM f .stmts x.2.2 x.2.1).pre x.1
    else some (.nil, at_, b)
  | f + 1, .stmt, b, at_ =>
    if isM l at_ kIf = true then
      (exM f .expr b (at_ + 1)).bind fun c =>
        (exM f .block c.2.2 c.2.1).bind fun k =>
          if k.2.2 < 0 ∧ isM l k.2.1 kElse = true then
            (exM f .block k.2.2 (k.2.1 + 1)).bind fun o =>
              some (.one ⟨9, at_, o.2.1, e0, 0⟩ (c.1.app (k.1.app o.1)), o.2.1, o.2.2)
          else some (.one ⟨9, at_, k.2.1, e0, 0⟩ (c.1.app (k.1.app .zero)), k.2.1, k.2.2)
    else if isM l at_ kWhile = true then
      (exM f .expr b (at_ + 1)).bind fun c =>
        (exM f .block c.2.2 c.2.1).bind fun k =>
          some (.one ⟨10, at_, k.2.1, e0, 0⟩ (c.1.app k.1), k.2.1, k.2.2)
    else if isM l at_ kLet = true then
      let x := wordM l b ⟨7, at_, 0, e0, 0⟩ (at_ + 1)
      (typedM l f x.2.2 x.2.1).bind fun t =>
        let y := wantM l t.2.2 t.2.1 sEq
        (exM f .expr y.2 y.1).bind fun v =>
          let y2 := wantM l v.2.2 v.2.1 sSem
          some (.one { x.1 with til := y2.1 } (t.1.app v.1), y2.1, y2.2)
    else
      let x : Hd × Nat × Int :=
        if isM l at_ kPrint = true then (⟨11, at_, 0, e0, 0⟩, at_ + 1, b)
        else if isM l at_ kReturn = true then (⟨12, at_, 0, e0, 0⟩, at_ + 1, b)
        else if kindAt l at_ = 1 ∧ isM l (at_ + 1) sEq = true then (let z := wordM l b ⟨8, at_, 0, e0, 0⟩ at_; (z.1, z.2.1 + 1, z.2.2))
        else (⟨13, at_, 0, e0, 0⟩, at_, b)
      (exM f .expr x.2.2 x.2.1).bind fun v =>
        let y2 := wantM l v.2.2 v.2.1 sSem
        some (.one { x.1 with til := y2.1 } v.1, y2.1, y2.2)
  | f + 1, .expr, b, at_ =>
    (exM f .sum b at_).bind fun a =>
      if 0 ≤ a.2.2 ∨ (¬ isM l a.2.1 sLess = true ∧ ¬ isM l a.2.1 sEqEq = true) then some a
      else (exM f .sum a.2.2 (a.2.1 + 1)).bind fun c =>
        some (.one ⟨if isM l a.2.1 sEqEq = true then 15 else 14, a.1.from_, c.2.1, e0, 0⟩ (a.1.app c.1), c.2.1, c.2.2)
  | f + 1, .sum, b, at_ => (exM f .term b at_).bind fun a => exM f (.sumL a.1) a.2.2 a.2.1
  | f + 1, .sumL a, b, at_ =>
    if b < 0 ∧ (isM l at_ sPlus = true ∨ isM l at_ sMinus = true) then
      (exM f .term b (at_ + 1)).bind fun c =>
        exM f (.sumL (.one ⟨if isM l at_ sMinus = true then 17 else 16, a.from_, c.2.1, e0, 0⟩ (a.app c.1))) c.2.2 c.2.1
    else some (a, at_, b)
  | f + 1, .term, b, at_ => (exM f .post b at_).bind fun a => exM f (.termL a.1) a.2.2 a.2.1
  | f + 1, .termL a, b, at_ =>
    if b < 0 ∧ isM l at_ sStar = true then
      (exM f .post b (at_ + 1)).bind fun c =>
        exM f (.termL (.one ⟨18, a.from_, c.2.1, e0, 0⟩ (a.app c.1))) c.2.2 c.2.1
    else some (a, at_, b)
  | f + 1, .post, b, at_ => (exM f .atom b at_).bind fun a => exM f (.postL a.1) a.2.2 a.2.1
  | f + 1, .postL a, b, at_ =>
    if b < 0 ∧ (isM l at_ sDot = true ∨ isM l at_ sParO = true) then
      if isM l at_ sDot = true then
        let x := wordM l b ⟨19, a.from_, 0, e0, 0⟩ (at_ + 1)
        exM f (.postL (.one { x.1 with til := x.2.1 } a)) x.2.2 x.2.1
      else
        (exM f (.args true) b (at_ + 1)).bind fun k =>
          let y := wantM l k.2.2 k.2.1 sParS
          exM f (.postL (.one ⟨20, a.from_, y.1, e0, 0⟩ (a.app k.1))) y.2 y.1
    else some (a, at_, b)
  | f + 1, .args first, b, at_ =>
    if b < 0 ∧ ¬ (first = true ∧ isM l at_ sParS = true) then
      (exM f .expr b at_).bind fun t =>
        if 0 ≤ t.2.2 ∨ isM l t.2.1 sParS = true then some (t.1, t.2.1, t.2.2)
        else
          let y2 := wantM l t.2.2 t.2.1 sCom
          (exM f (.args false) y2.2 y2.1).pre t.1
    else some (.nil, at_, b)
  | f + 1, .atom, b, at_ =>
    if 0 ≤ b then some (.zero, at_, b)
    else if kindAt l at_ = 3 then some (.one ⟨21, at_, at_ + 1, textAt l at_, at_⟩ .nil, at_ + 1, b)
    else if kindAt l at_ = 4 then some (.one ⟨22, at_, at_ + 1, textAt l at_, at_⟩ .nil, at_ + 1, b)
    else if kindAt l at_ = 1 then some (.one ⟨23, at_, at_ + 1, textAt l at_, at_⟩ .nil, at_ + 1, b)
    else if isM l at_ kInput = true then some (.one ⟨24, at_, at_ + 1, e0, 0⟩ .nil, at_ + 1, b)
    else if isM l at_ sParO = true then
      (exM f .expr b (at_ + 1)).bind fun x =>
        let y := wantM l x.2.2 x.2.1 sParS
        some (.one ⟨25, at_, y.1, e0, 0⟩ x.1, y.1, y.2)
    else if isM l at_ sOpen = true then
      (exM f (.entries true) b (at_ + 1)).bind fun x =>
        let y := wantM l x.2.2 x.2.1 sShut
        some (.one ⟨26, at_, y.1, e0, 0⟩ x.1, y.1, y.2)
    else
      let y := wantM l b at_ kFn
      (exM f .lambda y.2 y.1).bind fun k =>
        some (.one ⟨28, at_, k.2.1, e0, 0⟩ k.1, k.2.1, k.2.2)
  | f + 1, .entries first, b, at_ =>
    if b < 0 ∧ ¬ (first = true ∧ isM l at_ sShut = true) then
      let x := wordM l b ⟨27, at_, 0, e0, 0⟩ at_
      let y := wantM l x.2.2 x.2.1 sCol
      (exM f .expr y.2 y.1).bind fun t =>
        let n : Fo := .one { x.1 with til := t.2.1 } t.1
        if 0 ≤ t.2.2 ∨ isM l t.2.1 sShut = true then some (n, t.2.1, t.2.2)
        else
          let y2 := wantM l t.2.2 t.2.1 sCom
          (exM f (.entries false) y2.2 y2.1).pre n
    else some (.nil, at_, b)
def useM (b : Int) (at_ : Nat) : Fo × Nat × Int :=
  let x := wordM l b ⟨23, at_ + 1, 0, e0, 0⟩ (at_ + 1)
  let y := wantM l x.2.2 x.2.1 sDot
  let z := wordM l y.2 ⟨2, at_, 0, e0, 0⟩ y.1
  let y2 := wantM l z.2.2 z.2.1 sSem
  (.one { z.1 with til := y2.1 } (.one { x.1 with til := x.2.1 } .nil), y2.1, y2.2)
def defM (f : Nat) (b : Int) (at_ : Nat) : Res :=
  let y := wantM l b at_ kDef
  let x := wordM l y.2 ⟨3, at_, 0, e0, 0⟩ y.1
  (exM l f .lambda x.2.2 x.2.1).bind fun k =>
    some (.one { x.1 with til := k.2.1 } k.1, k.2.1, k.2.2)
def itemsM : Nat → Int → Nat → Res
  | 0, _, _ => none
  | f + 1, b, at_ =>
    if b < 0 ∧ kindAt l at_ ≠ 0 then
      if isM l at_ kUse = true then (itemsM f (useM l b at_).2.2 (useM l b at_).2.1).pre (useM l b at_).1
      else (defM l f b at_).bind fun x => (itemsM f x.2.2 x.2.1).pre x.1
    else some (.nil, at_, b)
end
end Ps
end Go.Proofs.YthjflofcgdfekaaGreatDoor
