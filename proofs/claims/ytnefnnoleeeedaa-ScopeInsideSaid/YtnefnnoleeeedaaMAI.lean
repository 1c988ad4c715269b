/- Contracts: the program's reader: types. -/
import Derived.Test.YtnefnnoleeeedaaMAH
import Derived.Deep.RegionLaw
import Derived.Laws.OwnMore
import Derived.Deep.CutRange
import Derived.Test.YtnefnnoleeeedaaMAC
namespace Go.Proofs.Ytnefnnoleeeedaa
open Go.RowKit
namespace Pg
open Ps

theorem ty_plain {l : List Tok} {f : Nat} {b : Int} {i : Nat} {r : Fo × Nat × Int} (h : tyM l (f + 1) .kind b i = some r) (hb : b < 0) (x : List UInt8) (kd : Nat) (hx : x = kInt ∧ kd = 29 ∨ x = kStr ∧ kd = 30 ∨ x = kDyn ∧ kd = 31) (hm : isM l i x = true) : r = (.one ⟨kd, i, i + 1, e0, 0⟩ .nil, i + 1, b) := by
  rw [tyM, if_neg (by omega)] at h
  rcases hx with ⟨rfl, rfl⟩ | ⟨rfl, rfl⟩ | ⟨rfl, rfl⟩
  · rw [if_pos hm] at h; injection h with h; exact h.symm
  · rw [if_neg (by rw [isM_ne hm (by decide)]; simp), if_pos hm] at h; injection h with h; exact h.symm
  · rw [if_neg (by rw [isM_ne hm (by decide)]; simp), if_neg (by rw [isM_ne hm (by decide)]; simp), if_pos hm] at h; injection h with h; exact h.symm
theorem ty_fn {X : Cx} {f : Nat} {s : Sd} {r : Fo × Sd} (h : tyM X.l (f + 1) .kind s.2 s.1 = some r) (hb : s.2 < 0) (hm : isM X.l s.1 kFn = true) :
    ∃ rl t : Fo × Sd, (∃ q, listM X.l (fun f => tyM X.l f .kind) sParS f true (wantS X (s.1 + 1, s.2) sParO).2 (wantS X (s.1 + 1, s.2) sParO).1 = some q ∧ rl = (q.1, wantM X.l q.2.2 q.2.1 sParS)) ∧ (0 ≤ (wantS X (s.1 + 1, s.2) sParO).2 → rl.2.2 = (wantS X (s.1 + 1, s.2) sParO).2) ∧
      tyM X.l f .kind (wantS X rl.2 sCol).2 (wantS X rl.2 sCol).1 = some t ∧ r = (.one ⟨34, s.1, t.2.1, e0, 0⟩ (rl.1.app t.1), t.2) := by
  have hw : wantM X.l s.2 s.1 kFn = (s.1 + 1, s.2) := by unfold wantM; rw [if_neg (by omega), if_pos hm]
  rw [tyM, if_neg (by omega), if_neg (by rw [isM_ne hm (by decide)]; simp), if_neg (by rw [isM_ne hm (by decide)]; simp), if_neg (by rw [isM_ne hm (by decide)]; simp), if_neg (by rw [isM_ne hm (by decide)]; simp)] at h
  dsimp only at h
  rw [hw] at h
  dsimp only at h
  obtain ⟨q, hq, h⟩ := Option.bind_eq_some_iff.1 h
  obtain ⟨t, ht, h⟩ := Option.bind_eq_some_iff.1 h
  injection h with h
  refine ⟨(q.1, wantM X.l q.2.2 q.2.1 sParS), t, ⟨q, by rw [← fn_list]; exact hq, rfl⟩, fun hh => ?_, ht, h.symm⟩
  have := tyM_bad hh hq
  dsimp only
  rw [wantM_bad (by omega)]
  exact this
theorem RuleQ.none {X : Cx} {P : Prop} {M M' : Sd → Res} {fn : Nat} (h : RuleQ X False M fn) (hM : ∀ s r, s.2 < 0 → P → M' s = some r → False) : RuleQ X P M' fn := fun s w r h1 h2 hS => h s w r (fun hs => (hM s r hs (h1 hs).1 (h1 hs).2).elim) h2 hS
end Pg
end Go.Proofs.Ytnefnnoleeeedaa

/- Contracts: the program's reader: fields and calls. -/
namespace Go.Proofs.Ytnefnnoleeeedaa
open Go.RowKit
namespace Pg
open Ps

/-- What a list comes to, as a node's kids. -/
theorem NodesQ.kv {X : Cx} {n : Nat} {w w' : World} {r : Fo × Sd} {e : Ending} (h : NodesQ X n w r e w') :
    ∃ AL KL cL, e = .returned (.slice AL KL.len cL) ∧ KV w' (fun g => w.heap.size ≤ g) KL AL cL ∧ PSt X w' r.2 ∧ Fr X.rb w.heap.size w w' ∧ (r.2.2 < 0 → r.1 = KL) ∧ KL.len ≤ n ∧ (AL = none → KL.len = 0 ∧ cL = 0) := by
  obtain ⟨v, K, rfl, ⟨cs, o1, o2⟩, hS, hF, hK, hn⟩ := h
  have hv : ∃ A cap, v = .slice A K.len cap ∧ K.len ≤ cap ∧ (A = none → K.len = 0 ∧ cap = 0) := by
    rcases o1.2 with ⟨rfl, e⟩ | ⟨g, cap, cur, rfl, _, _, hc, _⟩
    · exact ⟨none, 0, by rw [e], by omega, fun _ => ⟨e, rfl⟩⟩
    · exact ⟨_, cap, rfl, hc, fun h => by cases h⟩
  obtain ⟨A, cap, rfl, hc, hnn⟩ := hv
  exact ⟨A, K, cap, rfl, KV.of_own o1 rfl o2 (fun g hg => hg.1) (fun g hg _ => hg) hc, hS, hF, hK, hn, hnn⟩
theorem postL_end {l : List Tok} {f : Nat} {a : Fo} {b : Int} {i : Nat} {r : Fo × Nat × Int} (h : exM l f (.postL a) b i = some r) (h1 : isM l i sDot = false) (h2 : isM l i sParO = false) : r = (a, i, b) := by
  cases f with
  | zero => rw [exM] at h; cases h
  | succ f => rw [exM, if_neg (by simp [h1, h2])] at h; injection h with h; exact h.symm
theorem postL_dot {l : List Tok} {f : Nat} {a : Fo} {b : Int} {i : Nat} {r : Fo × Nat × Int} (h : exM l f (.postL a) b i = some r) (hb : b < 0) (hc : isM l i sDot = true) :
    ∃ f', f = f' + 1 ∧ exM l f' (.postL (.one { (wordM l b ⟨19, a.from_, 0, e0, 0⟩ (i + 1)).1 with til := (wordM l b ⟨19, a.from_, 0, e0, 0⟩ (i + 1)).2.1 } a)) (wordM l b ⟨19, a.from_, 0, e0, 0⟩ (i + 1)).2.2 (wordM l b ⟨19, a.from_, 0, e0, 0⟩ (i + 1)).2.1 = some r := by
  cases f with
  | zero => rw [exM] at h; cases h
  | succ f => rw [exM, if_pos ⟨hb, .inl hc⟩, if_pos hc] at h; exact ⟨f, rfl, h⟩
theorem postL_call {l : List Tok} {f : Nat} {a : Fo} {b : Int} {i : Nat} {r : Fo × Nat × Int} (h : exM l f (.postL a) b i = some r) (hb : b < 0) (ho : isM l i sParO = true) :
    ∃ f' q, f = f' + 1 ∧ listM l (fun f => exM l f .expr) sParS f' true b (i + 1) = some q ∧ exM l f' (.postL (.one ⟨20, a.from_, (wantM l q.2.2 q.2.1 sParS).1, e0, 0⟩ (a.app q.1))) (wantM l q.2.2 q.2.1 sParS).2 (wantM l q.2.2 q.2.1 sParS).1 = some r := by
  cases f with
  | zero => rw [exM] at h; cases h
  | succ f =>
    have hc : isM l i sDot = false := isM_ne ho (by decide)
    rw [exM, if_pos ⟨hb, .inr ho⟩, if_neg (by rw [hc]; simp)] at h
    obtain ⟨k, h1, h2⟩ := Option.bind_eq_some_iff.1 h
    exact ⟨f, k, rfl, by rw [← args_list]; exact h1, h2⟩

end Pg
end Go.Proofs.Ytnefnnoleeeedaa

/- Contracts: the program's reader: blocks. -/
namespace Go.Proofs.Ytnefnnoleeeedaa
open Go.RowKit
namespace Pg
open Ps

/-- What is known at each round of a block's statements. -/
def InvB (X : Cx) (P : Prop) (r : Fo × Sd) (p fk : Nat) (sk : Sd) (K : Fo) : Prop :=
  (sk.2 < 0 → P ∧ ∃ q : Fo × Sd, exM X.l fk .stmts sk.2 sk.1 = some q ∧ r = (.one ⟨6, p, (wantM X.l q.2.2 q.2.1 sShut).1, e0, 0⟩ (K.app q.1), wantM X.l q.2.2 q.2.1 sShut)) ∧ (0 ≤ sk.2 → r.2.2 = sk.2)
theorem InvB.stop {X : Cx} {P : Prop} {r : Fo × Sd} {p fk : Nat} {sk : Sd} {K : Fo} (h : InvB X P r p fk sk K) (hb : sk.2 < 0) (hm : isM X.l sk.1 sShut = true) : r = (.one ⟨6, p, sk.1 + 1, e0, 0⟩ K, (sk.1 + 1, sk.2)) := by
  obtain ⟨hP, q, hq, hr⟩ := h.1 hb
  have hw : wantM X.l sk.2 sk.1 sShut = (sk.1 + 1, sk.2) := by unfold wantM; rw [if_neg (by omega), if_pos hm]
  cases fk with
  | zero => rw [exM] at hq; cases hq
  | succ fk =>
    rw [exM, if_neg (fun hh => hh.2 hm)] at hq
    injection hq with hq
    subst hq
    dsimp only at hr
    rw [hw, Fo.app_nil] at hr
    exact hr
theorem InvB.go {X : Cx} {P : Prop} {r : Fo × Sd} {p fk : Nat} {sk : Sd} {K : Fo} (h : InvB X P r p fk sk K) (hb : sk.2 < 0) (hm : isM X.l sk.1 sShut = false) :
    ∃ f' t, fk = f' + 1 ∧ P ∧ exM X.l f' .stmt sk.2 sk.1 = some t ∧ ∀ h k, (t.2.2 < 0 → t.1 = .one h k) → InvB X P r p f' t.2 (K.app (.one h k)) := by
  obtain ⟨hP, q, hq, hr⟩ := h.1 hb
  cases fk with
  | zero => rw [exM] at hq; cases hq
  | succ fk =>
    rw [exM, if_pos ⟨hb, by rw [hm]; simp⟩] at hq
    obtain ⟨t, ht, hq⟩ := Option.bind_eq_some_iff.1 hq
    obtain ⟨q', hq', e⟩ := Option.map_eq_some_iff.1 hq
    refine ⟨fk, t, rfl, hP, ht, fun h k hn => ⟨fun hg => ⟨hP, q', hq', ?_⟩, fun hg => ?_⟩⟩
    · rw [hr, ← e, hn hg, Fo.app_assoc]
    · rw [hr, ← e]
      dsimp only
      rw [exM_bad _ _ _ _ _ hg hq'] 
      have := exM_bad _ _ _ _ _ hg hq'
      rw [wantM_bad (by omega)]

end Pg
end Go.Proofs.Ytnefnnoleeeedaa

/- Contracts: the program's reader: files. -/
namespace Go.Proofs.Ytnefnnoleeeedaa
open Go.RowKit
namespace Pg
open Ps

def itemM (l : List Tok) (f : Nat) (s : Sd) : Res := if isM l s.1 kUse = true then some (useM l s.2 s.1) else defM l f s.2 s.1
/-- What is known at each round of a file's items. -/
def InvF (X : Cx) (P : Prop) (r : Fo × Sd) (fk : Nat) (sk : Sd) (K : Fo) : Prop :=
  (sk.2 < 0 → P ∧ ∃ q : Fo × Sd, itemsM X.l fk sk.2 sk.1 = some q ∧ r = (.one ⟨1, 0, q.2.1, e0, 0⟩ (K.app q.1), q.2)) ∧ (0 ≤ sk.2 → r.2.2 = sk.2)
theorem items_bad {l : List Tok} {f : Nat} {b : Int} {i : Nat} {r : Fo × Nat × Int} (hb : 0 ≤ b) (h : itemsM l f b i = some r) : r.2.2 = b := by
  cases f with
  | zero => rw [itemsM] at h; cases h
  | succ f => rw [itemsM, if_neg (fun hh => by have := hh.1; omega)] at h; injection h with h; rw [← h]
theorem InvF.stop {X : Cx} {P : Prop} {r : Fo × Sd} {fk : Nat} {sk : Sd} {K : Fo} (h : InvF X P r fk sk K) (hb : sk.2 < 0) (hm : kindAt X.l sk.1 = 0) : r = (.one ⟨1, 0, sk.1, e0, 0⟩ K, sk) := by
  obtain ⟨hP, q, hq, hr⟩ := h.1 hb
  cases fk with
  | zero => rw [itemsM] at hq; cases hq
  | succ fk =>
    rw [itemsM, if_neg (fun hh => hh.2 hm)] at hq
    injection hq with hq
    subst hq
    rw [hr, Fo.app_nil]
theorem InvF.go {X : Cx} {P : Prop} {r : Fo × Sd} {fk : Nat} {sk : Sd} {K : Fo} (h : InvF X P r fk sk K) (hb : sk.2 < 0) (hm : kindAt X.l sk.1 ≠ 0) :
    ∃ f' t, fk = f' + 1 ∧ P ∧ itemM X.l f' sk = some t ∧ ∀ h k, (t.2.2 < 0 → t.1 = .one h k) → InvF X P r f' t.2 (K.app (.one h k)) := by
  obtain ⟨hP, q, hq, hr⟩ := h.1 hb
  cases fk with
  | zero => rw [itemsM] at hq; cases hq
  | succ fk =>
    have key : ∃ t : Fo × Sd, itemM X.l fk sk = some t ∧ (itemsM X.l fk t.2.2 t.2.1).pre t.1 = some q := by
      rw [itemsM, if_pos ⟨hb, hm⟩] at hq
      unfold itemM
      split at hq
      · rename_i hu
        exact ⟨_, by rw [if_pos hu], hq⟩
      · rename_i hu
        obtain ⟨t, ht, hq⟩ := Option.bind_eq_some_iff.1 hq
        exact ⟨t, by rw [if_neg hu]; exact ht, hq⟩
    obtain ⟨t, ht, hq⟩ := key
    obtain ⟨q', hq', e⟩ := Option.map_eq_some_iff.1 hq
    refine ⟨fk, t, rfl, hP, ht, fun h k hn => ⟨fun hg => ⟨hP, q', hq', ?_⟩, fun hg => ?_⟩⟩
    · rw [hr, ← e, hn hg, Fo.app_assoc]
    · rw [hr, ← e]
      exact (items_bad hg hq' : q'.2.2 = t.2.2)
end Pg
end Go.Proofs.Ytnefnnoleeeedaa

/- Contracts: the document's reader: a file. -/
namespace Go.Proofs.Ytnefnnoleeeedaa
open Go.RowKit
namespace Ps
theorem stmt_ok (X : Cx) : StmtOk X := fun f hf IE IB b i w r hr hS hi => by
  cases q0 : isM X.l i kIf
  · cases q1 : isM X.l i kWhile
    · exact stmt_rest X f hf (IE f (Nat.le_refl _)) b i w r hr hS hi q0 q1
    · exact stmt_while X f (IE f (Nat.le_refl _)) (IB f (Nat.le_refl _)) b i w r hr hS hi q0 q1
  · exact stmt_if X f (IE f (Nat.le_refl _)) (IB f (Nat.le_refl _)) b i w r hr hS hi q0
theorem items_endD {l : List Tok} {f : Nat} {b : Int} {i : Nat} {r : Fo × Nat × Int} (h : itemsM l f b i = some r) (hc : ¬ (b < 0 ∧ kindAt l i ≠ 0)) : r = (.nil, i, b) := by
  cases f with
  | zero => rw [itemsM] at h; cases h
  | succ f => rw [itemsM, if_neg hc] at h; injection h with h; exact h.symm
theorem items_goD {l : List Tok} {f : Nat} {b : Int} {i : Nat} {r : Fo × Nat × Int} (h : itemsM l f b i = some r) (hc : b < 0 ∧ kindAt l i ≠ 0) :
    ∃ f' t, f = f' + 1 ∧ (if isM l i kUse = true then t = useM l b i else defM l f' b i = some t) ∧ ∃ r', itemsM l f' t.2.2 t.2.1 = some r' ∧ r = (t.1.app r'.1, r'.2) := by
  cases f with
  | zero => rw [itemsM] at h; cases h
  | succ f =>
    rw [itemsM, if_pos hc] at h
    split at h
    · rename_i hq
      obtain ⟨r', h1, h2⟩ := Option.map_eq_some_iff.1 h
      exact ⟨f, _, rfl, by rw [if_pos hq], r', h1, h2.symm⟩
    · rename_i hq
      obtain ⟨t, ht, h⟩ := Option.bind_eq_some_iff.1 h
      obtain ⟨r', h1, h2⟩ := Option.map_eq_some_iff.1 h
      exact ⟨f, t, rfl, by rw [if_neg hq]; exact ht, r', h1, h2.symm⟩

set_option maxHeartbeats 8000000 in
set_option maxRecDepth 100000 in
theorem rfile_any (X : Cx) (f : Nat) (hf : f ≤ 1000000) (w : World) (xf : Fo) (xi : Nat) (xb : Int) (hx : itemsM X.l f (-1) 0 = some (xf, xi, xb)) (hS : St X w (-1)) :
    Calls Try.prog 33 #[X.p] w fun e w' => ∃ A cap, e = .returned (nv ⟨1, 0, xi, e0, 0⟩ A xf.len cap) ∧ KV w' (fun g => w.heap.size ≤ g) xf A cap ∧ St X w' xb ∧ Fr X.rb w.heap.size w w' ∧ xi < X.l.length ∧ (xb < 0 → kindAt X.l xi = 0) := by
  have L0 := Lib.hid ((LS.start hS).alloc w.heap.size rfl 25 zc)
  have hle := hS.wf.le
  have hpos := hS.wf.pos
  have WF := Lib.hid hS.wf
  have hrb := hS.row.lt
  have HX := Lib.hid hx
  clear hS hx
  go_enter Try.func33, Try.ntmps33
  go_wp2_with fail
  go_loopg [3, 4] (f + 1) (fun kx s6 s9 wr => ∃ (fk ik : Nat) (bk : Int) (Kk : Fo) (rk : Fo × Nat × Int) (u : Value), u = s9 ∧ s6 = .int .i64 ik ∧ fk ≤ kx ∧ Kk.len + fk ≤ f ∧ ik < X.l.length ∧ Hid (itemsM X.l fk bk ik = some rk) ∧ Hid (xf = Kk.app rk.1 ∧ xi = rk.2.1 ∧ xb = rk.2.2) ∧ Hid (LS X w wr bk [(w.heap.size, 25, zc)] [] s9 Kk))
  case atStart => exact ⟨f, 0, -1, .nil, (xf, xi, xb), _, rfl, by go_num, by omega, by simp [Fo.len], hpos, HX.out, ⟨rfl, rfl, rfl⟩, L0.out⟩
  case round =>
    obtain ⟨fk, ik, bk, Kk, rk, u, rfl, rfl, hkx, hfk, hik, HG, HE, LK⟩ := hrel
    obtain ⟨z, hz⟩ : ∃ z : Bool, (z = true ↔ (bk < 0 ∧ kindAt X.l ik ≠ 0)) := by
      by_cases h : bk < 0 ∧ kindAt X.l ik ≠ 0
      · exact ⟨true, fun _ => h, fun _ => rfl⟩
      · exact ⟨false, by simp only [Bool.false_eq_true, false_iff]; exact h⟩
    have HZ := Lib.hid hz
    obtain ⟨AK, cK, eK, hcK, _⟩ := LK.out.list
    obtain rfl := eK
    have hkg := kindAt_get hik
    obtain ⟨gt, eg, lg, hct⟩ := LK.out.st.toks
    obtain ⟨k0, _, _, _⟩ := hct ik hik
    have rr := LK.out.st.row.cell
    rw [eg] at rr
    have hcap := LK.out.st.cap
    have hil : (ik : Int) < (X.l.length : Int) := by omega
    rw [← hkg] at k0
    clear hz hct hkg
    go_upto_region 3 with fail
    go_cut [21] from 6 to 40 (fun s64 wx => s64 = .bool z ∧ Hid (LS X w wx bk [(w.heap.size, 25, zc)] [] (.slice AK Kk.len cK) Kk))
    case first =>
      by_cases h1 : bk < 0
      · by_cases h2 : kindAt X.l ik = 0
        · obtain rfl : z = false := by
            cases z
            · rfl
            · exact absurd h2 (HZ.out.1 rfl).2
          have dk : ((kindAt X.l ik : Int) != 0) = false := by rw [h2]; rfl
          generalize kindAt X.l ik = kk at *
          clear h2
          go_wp2_with fail
          go_meet
          exact ⟨rfl, LK.out⟩
        · obtain rfl : z = true := HZ.out.2 ⟨h1, h2⟩
          have dk : ((kindAt X.l ik : Int) != 0) = true := by rw [bne_iff_ne]; omega
          generalize kindAt X.l ik = kk at *
          clear h2
          go_wp2_with fail
          go_meet
          exact ⟨rfl, LK.out⟩
      · obtain rfl : z = false := by
          cases z
          · rfl
          · exact absurd (HZ.out.1 rfl).1 h1
        clear k0
        go_wp2_with fail
        go_meet
        exact ⟨rfl, LK.out⟩
    case rest =>
    obtain ⟨rfl, LC⟩ := hcut
    clear LK rr k0 eg lg hil
    cases z
    · have hnz : ¬ (bk < 0 ∧ kindAt X.l ik ≠ 0) := fun hh => by have := HZ.out.2 hh; cases this
      have hrk := items_endD HG.out hnz
      obtain ⟨h1, h2, h3⟩ := HE.out
      rw [hrk, Fo.app_nil] at h1
      rw [hrk] at h2 h3
      dsimp only at h1 h2 h3
      have HN : Hid (bk < 0 → kindAt X.l ik = 0) := fun hb => by
        by_cases h : kindAt X.l ik = 0
        · exact h
        · exact absurd ⟨hb, h⟩ hnz
      subst h1 h2 h3
      have hxl := hik
      clear HG HE HZ hrk hnz
      go_wp2_with fail
      refine (ended_any ⟨1, 0, 0, e0, 0⟩ none 0 0 xi AK xf.len cK _).mono ?_
      rintro e wb ⟨rfl, hbb⟩
      have Lb := Lib.hid ((LC.out.other hbb).put6 0 rfl rfl (.int .i64 1) (.int .i64 0) (.int .i64 xi) (.string e0) (.int .i64 0) (.slice AK xf.len cK))
      have r7 := ((LC.out.other hbb).row 0 rfl).cell
      have t7 := ((LC.out.other hbb).row 0 rfl).thaw
      clear hbb
      go_wp2
      refine bodyPost_ret ?_ rfl ⟨AK, cK, rfl, Lb.out.kv, Lb.out.st, Lb.out.fr, hxl, HN.out⟩
      simp [results, Try.results33, go_sem, e0, r7]
    · obtain ⟨f', t, hf', hty, r', hG', hrk⟩ := items_goD HG.out (HZ.out.1 rfl)
      obtain ⟨tf, a3, b3⟩ := t
      dsimp only at hG' hrk
      have HF' := Lib.hid hf'
      obtain ⟨h1, h2, h3⟩ := HE.out
      rw [hrk] at h1 h2 h3
      dsimp only at h1 h2 h3
      have HH1 := Lib.hid h1
      have HH2 := Lib.hid h2
      have HH3 := Lib.hid h3
      have HG1 := Lib.hid hG'
      have HTY := Lib.hid hty
      have LU0 := Lib.hid (LC.out.alloc wc.heap.size rfl 25 zc)
      have cU := is_any X bk ik ⟨#[117, 115, 101]⟩ _ LU0.out.st hik
      clear hrk HG HZ HE hf' h1 h2 h3 hG' hty
      cases qU : isM X.l ik kUse
      · rw [show isM X.l ik (⟨#[117, 115, 101]⟩ : ByteArray).data.toList = false from qU] at cU
        have CU := Lib.hid cU
        have hd := HTY.out
        rw [if_neg (by rw [qU]; simp)] at hd
        have C3 : Hid (∀ w', St X w' bk → Calls Try.prog 55 #[X.p, .int .i64 ik] w' fun e w'' => NodeP X w' (tf, a3, b3) e w'') := fun w' h => def_c X f' (all_c X (stmt_ok X) f' (by have := HF'.out; omega)).lam bk ik w' _ hd h hik
        clear cU hd qU HTY
        go_wp2_with fail
        refine CU.out.mono ?_
        rintro e wu ⟨rfl, hbu⟩
        have LU := Lib.hid (LU0.out.other hbu)
        clear hbu CU LU0
        go_wp2_with fail
        refine (C3.out _ LU.out.st).mono ?_
        rintro e w5 ⟨h5, k5, A5, c5, e5, rfl, hK5, hS5, hF5, hl5⟩
        dsimp only at e5 hS5 hl5
        have HE5 := Lib.hid e5
        obtain ⟨hk1, hk2, hk3, hk4, hk5⟩ := h5
        have L5 := Lib.hid ((LU.out.kid hS5 hF5 hK5).put6 0 rfl rfl (.int .i64 hk1) (.int .i64 hk2) (.int .i64 hk3) (.string hk4) (.int .i64 hk5) (.slice A5 k5.len c5))
        have m8 := ((LU.out.kid hS5 hF5 hK5).row 0 rfl).cell
        have t8 := ((LU.out.kid hS5 hF5 hK5).row 0 rfl).thaw
        have M6 := Lib.hid (L5.out.other (bel1 _ (.cells (nc ⟨hk1, hk2, hk3, hk4, hk5⟩ A5 k5.len c5) 25)))
        have m9 := (L5.out.row 0 rfl).cell
        clear hS5 hF5 hK5 e5
        obtain ⟨cs, o1, o2⟩ := M6.out.own
        have O1 := Lib.hid o1
        have O2 := Lib.hid o2
        obtain ⟨i0, hi0, hz0, hz1, hz2⟩ := info_parts info25
        have b5 := Lib.hid M6.out.size
        have b3' : Kk.len + 1 ≤ maxLen := by unfold maxLen; omega
        have b4' : (Kk.len + 1) * 72 ≤ 140737488355328 := by omega
        have CN := Lib.hid (cells_nd ((((((w5.setCell ⟨wc.heap.size, 0, none⟩ (.int .i64 hk1)).setCell ⟨wc.heap.size, 1, none⟩ (.int .i64 hk2)).setCell ⟨wc.heap.size, 2, none⟩ (.int .i64 hk3)).setCell ⟨wc.heap.size, 3, none⟩ (.string hk4)).setCell ⟨wc.heap.size, 4, none⟩ (.int .i64 hk5)).setCell ⟨wc.heap.size, 5, none⟩ (.slice A5 k5.len c5)) (.int .i64 hk1) (.int .i64 hk2) (.int .i64 hk3) (.string hk4) (.int .i64 hk5) (.slice A5 k5.len c5))
        clear o1 o2
        go_wp2_with (at_builtin; refine wpList_append_at rfl (.tmp 37) (.tmp 39) 23 rfl w.heap.size 25 i0 (.agg #[.int .i64 0, .int .i64 0, .int .i64 0, .string ⟨#[]⟩, .int .i64 0, .slice none 0 0]) 6 72 Try.underlying23 hi0 hz0 hz1 hz2 rfl (by decide) _ Kk.len cs rfl O1.out ⟨w5.heap.size, 0, none⟩ 1 1 [.int .i64 hk1, .int .i64 hk2, .int .i64 hk3, .string hk4, .int .i64 hk5, .slice A5 k5.len c5] rfl rfl (by simpa [World.setCell] using CN.out) (one_nd ⟨hk1, hk2, hk3, hk4, hk5⟩ _ _ _) b3' b4' b5.out ?_)
        intro v' w7 hown' hgrow hat
        have M7 := Lib.hid (M6.out.push ⟨O1.out, O2.out⟩ (k := .one ⟨hk1, hk2, hk3, hk4, hk5⟩ k5) (FC.one (M6.out.kidP 0 rfl)) hown' hgrow (fun j hj => by
          rcases hat j hj with h | h
          · exact .inl h
          · exact .inr (by simpa [World.setCell] using h)))
        clear hown' hgrow hat b3' b4' b5 CN O1 O2
        have M7 := Lib.hid M7.out.drop.noK
        have hkl : (Kk.app (.one ⟨hk1, hk2, hk3, hk4, hk5⟩ k5)).len = Kk.len + 1 := by rw [Fo.len_app]; rfl
        have HE2 := Lib.hid (show xf = (Kk.app (.one ⟨hk1, hk2, hk3, hk4, hk5⟩ k5)).app r'.1 ∧ xi = r'.2.1 ∧ xb = r'.2.2 from ⟨by rw [HH1.out, Fo.app_assoc, HE5.out], HH2.out, HH3.out⟩)
        have hf'' := HF'.out
        clear m8 t8 m9
        go_wp2_with fail
        go_roundg f'
        case measure => omega
        case rel => exact ⟨f', a3, b3, _, r', _, rfl, by go_num, by omega, by omega, hl5, HG1.out, HE2.out, M7.out⟩
      · rw [show isM X.l ik (⟨#[117, 115, 101]⟩ : ByteArray).data.toList = true from qU] at cU
        have CU := Lib.hid cU
        have hd := HTY.out
        rw [if_pos qU] at hd
        have hnx := isM_next WF.out qU
        have C3 : Hid (∀ w', St X w' bk → Calls Try.prog 54 #[X.p, .int .i64 ik] w' fun e w'' => NodeP X w' (tf, a3, b3) e w'') := fun w' h => by rw [hd]; exact use_any X bk ik w' h hnx
        clear cU hd qU HTY
        go_wp2_with fail
        refine CU.out.mono ?_
        rintro e wu ⟨rfl, hbu⟩
        have LU := Lib.hid (LU0.out.other hbu)
        clear hbu CU LU0
        go_wp2_with fail
        refine (C3.out _ LU.out.st).mono ?_
        rintro e w5 ⟨h5, k5, A5, c5, e5, rfl, hK5, hS5, hF5, hl5⟩
        dsimp only at e5 hS5 hl5
        have HE5 := Lib.hid e5
        obtain ⟨hk1, hk2, hk3, hk4, hk5⟩ := h5
        have L5 := Lib.hid ((LU.out.kid hS5 hF5 hK5).put6 0 rfl rfl (.int .i64 hk1) (.int .i64 hk2) (.int .i64 hk3) (.string hk4) (.int .i64 hk5) (.slice A5 k5.len c5))
        have m8 := ((LU.out.kid hS5 hF5 hK5).row 0 rfl).cell
        have t8 := ((LU.out.kid hS5 hF5 hK5).row 0 rfl).thaw
        have M6 := Lib.hid (L5.out.other (bel1 _ (.cells (nc ⟨hk1, hk2, hk3, hk4, hk5⟩ A5 k5.len c5) 25)))
        have m9 := (L5.out.row 0 rfl).cell
        clear hS5 hF5 hK5 e5
        obtain ⟨cs, o1, o2⟩ := M6.out.own
        have O1 := Lib.hid o1
        have O2 := Lib.hid o2
        obtain ⟨i0, hi0, hz0, hz1, hz2⟩ := info_parts info25
        have b5 := Lib.hid M6.out.size
        have b3' : Kk.len + 1 ≤ maxLen := by unfold maxLen; omega
        have b4' : (Kk.len + 1) * 72 ≤ 140737488355328 := by omega
        have CN := Lib.hid (cells_nd ((((((w5.setCell ⟨wc.heap.size, 0, none⟩ (.int .i64 hk1)).setCell ⟨wc.heap.size, 1, none⟩ (.int .i64 hk2)).setCell ⟨wc.heap.size, 2, none⟩ (.int .i64 hk3)).setCell ⟨wc.heap.size, 3, none⟩ (.string hk4)).setCell ⟨wc.heap.size, 4, none⟩ (.int .i64 hk5)).setCell ⟨wc.heap.size, 5, none⟩ (.slice A5 k5.len c5)) (.int .i64 hk1) (.int .i64 hk2) (.int .i64 hk3) (.string hk4) (.int .i64 hk5) (.slice A5 k5.len c5))
        clear o1 o2
        go_wp2_with (at_builtin; refine wpList_append_at rfl (.tmp 37) (.tmp 39) 23 rfl w.heap.size 25 i0 (.agg #[.int .i64 0, .int .i64 0, .int .i64 0, .string ⟨#[]⟩, .int .i64 0, .slice none 0 0]) 6 72 Try.underlying23 hi0 hz0 hz1 hz2 rfl (by decide) _ Kk.len cs rfl O1.out ⟨w5.heap.size, 0, none⟩ 1 1 [.int .i64 hk1, .int .i64 hk2, .int .i64 hk3, .string hk4, .int .i64 hk5, .slice A5 k5.len c5] rfl rfl (by simpa [World.setCell] using CN.out) (one_nd ⟨hk1, hk2, hk3, hk4, hk5⟩ _ _ _) b3' b4' b5.out ?_)
        intro v' w7 hown' hgrow hat
        have M7 := Lib.hid (M6.out.push ⟨O1.out, O2.out⟩ (k := .one ⟨hk1, hk2, hk3, hk4, hk5⟩ k5) (FC.one (M6.out.kidP 0 rfl)) hown' hgrow (fun j hj => by
          rcases hat j hj with h | h
          · exact .inl h
          · exact .inr (by simpa [World.setCell] using h)))
        clear hown' hgrow hat b3' b4' b5 CN O1 O2
        have M7 := Lib.hid M7.out.drop.noK
        have hkl : (Kk.app (.one ⟨hk1, hk2, hk3, hk4, hk5⟩ k5)).len = Kk.len + 1 := by rw [Fo.len_app]; rfl
        have HE2 := Lib.hid (show xf = (Kk.app (.one ⟨hk1, hk2, hk3, hk4, hk5⟩ k5)).app r'.1 ∧ xi = r'.2.1 ∧ xb = r'.2.2 from ⟨by rw [HH1.out, Fo.app_assoc, HE5.out], HH2.out, HH3.out⟩)
        have hf'' := HF'.out
        clear m8 t8 m9
        go_wp2_with fail
        go_roundg f'
        case measure => omega
        case rel => exact ⟨f', a3, b3, _, r', _, rfl, by go_num, by omega, by omega, hl5, HG1.out, HE2.out, M7.out⟩
end Ps
end Go.Proofs.Ytnefnnoleeeedaa

/- Mathematics: there is fuel enough, and what is read is behind where reading began. -/
namespace Go.Proofs.Ytnefnnoleeeedaa
namespace Ps
variable {l : List Tok}

/-- How much there is still to read; nothing, if something is wrong. -/
def mm (l : List Tok) (b : Int) (i : Nat) : Nat := if 0 ≤ b then 0 else l.length - i
/-- Something comes of it, there are tokens still, and at least d have been read, if nothing is wrong. -/
def Tm (l : List Tok) (b : Int) (i d : Nat) (o : Res) : Prop := ∃ r, o = some r ∧ (r.2.2 < 0 → r.2.1 < l.length) ∧ mm l r.2.2 r.2.1 ≤ mm l b i - d
theorem mm_bad {b : Int} {i : Nat} (h : 0 ≤ b) : mm l b i = 0 := by unfold mm; rw [if_pos h]
theorem mm_good {b : Int} {i : Nat} (h : b < 0) : mm l b i = l.length - i := by unfold mm; rw [if_neg (by omega)]
theorem mm_pos {b : Int} {i : Nat} (h : b < 0) (hi : b < 0 → i < l.length) : 1 ≤ mm l b i := by have := hi h; rw [mm_good h]; omega
theorem want_T (W : Wf l) {b : Int} {i : Nat} (x : List UInt8) (_hi : b < 0 → i < l.length) : ((wantM l b i x).2 < 0 → (wantM l b i x).1 < l.length) ∧ mm l (wantM l b i x).2 (wantM l b i x).1 ≤ mm l b i - 1 := by
  by_cases hb : 0 ≤ b
  · rw [wantM_bad hb]; dsimp only; rw [mm_bad hb]; exact ⟨fun h => absurd h (by omega), by omega⟩
  · unfold wantM
    rw [if_neg hb]
    by_cases hm : isM l i x = true
    · rw [if_pos hm]
      have := isM_next W hm
      dsimp only
      rw [mm_good (by omega), mm_good (by omega)]
      exact ⟨fun _ => this, by omega⟩
    · rw [if_neg hm]; dsimp only; rw [mm_bad (b := (i : Int)) (by omega)]; exact ⟨fun h => absurd h (by omega), by omega⟩
theorem word_T (W : Wf l) {b : Int} {i : Nat} (h : Hd) (_hi : b < 0 → i < l.length) : ((wordM l b h i).2.2 < 0 → (wordM l b h i).2.1 < l.length) ∧ mm l (wordM l b h i).2.2 (wordM l b h i).2.1 ≤ mm l b i - 1 := by
  by_cases hb : 0 ≤ b
  · rw [wordM_bad hb]; dsimp only; rw [mm_bad hb]; exact ⟨fun h => absurd h (by omega), by omega⟩
  · unfold wordM
    rw [if_neg hb]
    by_cases hm : kindAt l i = 1
    · rw [if_pos hm]
      have := kindAt_next W (i := i) (by omega)
      dsimp only
      rw [mm_good (by omega), mm_good (by omega)]
      exact ⟨fun _ => this, by omega⟩
    · rw [if_neg hm]; dsimp only; rw [mm_bad (b := (i : Int)) (by omega)]; exact ⟨fun h => absurd h (by omega), by omega⟩
theorem on_T {b : Int} {i : Nat} (hb : b < 0) (h : i + 1 < l.length) : (b < 0 → i + 1 < l.length) ∧ mm l b (i + 1) ≤ mm l b i - 1 := by
  rw [mm_good hb, mm_good hb]; exact ⟨fun _ => h, by omega⟩
theorem Tm.ret {b b' : Int} {i i' d : Nat} {k : Fo} (h : b' < 0 → i' < l.length) (hm : mm l b' i' ≤ mm l b i - d) : Tm l b i d (some (k, i', b')) := ⟨_, rfl, h, hm⟩
theorem Tm.of {b : Int} {i d : Nat} {r : Fo × Nat × Int} (h : r.2.2 < 0 → r.2.1 < l.length) (hm : mm l r.2.2 r.2.1 ≤ mm l b i - d) : Tm l b i d (some r) := ⟨r, rfl, h, hm⟩
theorem Tm.pre {b : Int} {i d : Nat} {k : Fo} {r : Fo × Nat × Int} (h : r.2.2 < 0 → r.2.1 < l.length) (hm : mm l r.2.2 r.2.1 ≤ mm l b i - d) : Tm l b i d (Res.pre k (some r)) := ⟨(k.app r.1, r.2), rfl, h, hm⟩
def rT : TT → Nat
  | .kind => 1
  | _ => 2
def sT : TT → Nat
  | .kind => 1
  | _ => 0
theorem ty_T (W : Wf l) : ∀ (f : Nat) (t : TT) (b : Int) (i : Nat), (b < 0 → i < l.length) → 20 * mm l b i + rT t ≤ f → Tm l b i (sT t) (tyM l f t b i) := by
  intro f
  induction f with
  | zero => intro t b i _ h; cases t <;> simp [rT] at h
  | succ f ih =>
    intro t b i hi hf
    by_cases hb : 0 ≤ b
    · have hb' : ¬ b < 0 := by omega
      have h0 : mm l b i = 0 := mm_bad hb
      cases t with
      | kind => rw [tyM, if_pos hb]; exact Tm.ret hi (by rw [h0]; omega)
      | recL first => rw [tyM, if_neg (fun hh => hb' hh.1)]; exact Tm.ret hi (by rw [h0]; omega)
      | fnL first => rw [tyM, if_neg (fun hh => hb' hh.1)]; exact Tm.ret hi (by rw [h0]; omega)
    · have hg : b < 0 := by omega
      have hp := mm_pos hg hi
      cases t with
      | kind =>
        simp only [rT] at hf
        rw [tyM, if_neg hb]
        split
        · rename_i hm; have := on_T (l := l) (i := i) hg (isM_next W hm); exact Tm.ret this.1 this.2
        · split
          · rename_i hm; have := on_T (l := l) (i := i) hg (isM_next W hm); exact Tm.ret this.1 this.2
          · split
            · rename_i hm; have := on_T (l := l) (i := i) hg (isM_next W hm); exact Tm.ret this.1 this.2
            · split
              · rename_i hm
                obtain ⟨h1, m1⟩ := on_T (l := l) (i := i) hg (isM_next W hm)
                obtain ⟨x, ex, hx, mx⟩ := ih (.recL true) b (i + 1) h1 (by simp only [rT]; omega)
                rw [ex, Option.bind_some]
                dsimp only
                obtain ⟨h2, m2⟩ := want_T W sShut hx
                simp only [sT] at mx ⊢
                exact Tm.ret h2 (by omega)
              · obtain ⟨h1, m1⟩ := want_T W kFn hi
                obtain ⟨h2, m2⟩ := want_T W sParO h1
                obtain ⟨x, ex, hx, mx⟩ := ih (.fnL true) _ _ h2 (by simp only [rT]; omega)
                dsimp only
                rw [ex, Option.bind_some]
                obtain ⟨h3, m3⟩ := want_T W sParS hx
                obtain ⟨h4, m4⟩ := want_T W sCol h3
                simp only [sT] at mx ⊢
                obtain ⟨t, et, ht, mt⟩ := ih .kind _ _ h4 (by simp only [rT]; omega)
                rw [et, Option.bind_some]
                simp only [sT] at mt
                exact Tm.ret ht (by omega)
      | recL first =>
        simp only [rT] at hf
        rw [tyM]
        split
        · obtain ⟨h1, m1⟩ := word_T W ⟨33, i, 0, e0, 0⟩ hi
          obtain ⟨h2, m2⟩ := want_T W sCol h1
          dsimp only
          obtain ⟨t, et, ht, mt⟩ := ih .kind _ _ h2 (by simp only [rT]; omega)
          rw [et, Option.bind_some]
          simp only [sT] at mt ⊢
          split
          · exact Tm.ret ht (by omega)
          · obtain ⟨h3, m3⟩ := want_T W sCom ht
            obtain ⟨x, ex, hx, mx⟩ := ih (.recL false) _ _ h3 (by simp only [rT]; omega)
            rw [ex]
            simp only [sT] at mx
            exact Tm.pre hx (by omega)
        · exact Tm.ret hi (by simp only [sT]; omega)
      | fnL first =>
        simp only [rT] at hf
        rw [tyM]
        split
        · obtain ⟨t, et, ht, mt⟩ := ih .kind _ _ hi (by simp only [rT]; omega)
          rw [et, Option.bind_some]
          simp only [sT] at mt ⊢
          split
          · exact Tm.ret ht (by omega)
          · obtain ⟨h3, m3⟩ := want_T W sCom ht
            obtain ⟨x, ex, hx, mx⟩ := ih (.fnL false) _ _ h3 (by simp only [rT]; omega)
            rw [ex]
            simp only [sT] at mx
            exact Tm.pre hx (by omega)
        · exact Tm.ret hi (by simp only [sT]; omega)
theorem typed_T (W : Wf l) {f : Nat} {b : Int} {i : Nat} (hi : b < 0 → i < l.length) (hf : 20 * mm l b i + 1 ≤ f) : Tm l b i 0 (typedM l f b i) := by
  unfold typedM
  by_cases hc : 0 ≤ b ∨ ¬ isM l i sCol = true
  · rw [if_pos hc]; exact Tm.ret hi (by omega)
  · rw [if_neg hc]
    have hg : b < 0 := by
      by_cases h : 0 ≤ b
      · exact absurd (.inl h) hc
      · omega
    have hm : isM l i sCol = true := by
      cases h : isM l i sCol with
      | true => rfl
      | false => exact absurd (.inr (by rw [h]; simp)) hc
    obtain ⟨h1, m1⟩ := on_T (l := l) (i := i) hg (isM_next W hm)
    obtain ⟨x, ex, hx, mx⟩ := ty_T W f .kind b (i + 1) h1 (by simp only [rT]; omega)
    rw [ex]
    simp only [sT] at mx
    exact Tm.of hx (by omega)
theorem par_T (W : Wf l) : ∀ (f : Nat) (first : Bool) (b : Int) (i : Nat), (b < 0 → i < l.length) → 20 * mm l b i + 2 ≤ f → Tm l b i 0 (parL l f first b i) := by
  intro f
  induction f with
  | zero => intro first b i _ h; omega
  | succ f ih =>
    intro first b i hi hf
    rw [parL]
    split
    · rename_i hc
      have hp := mm_pos hc.1 hi
      obtain ⟨h1, m1⟩ := word_T W ⟨5, i, 0, e0, 0⟩ hi
      dsimp only
      obtain ⟨t, et, ht, mt⟩ := typed_T W (f := f) h1 (by omega)
      rw [et, Option.bind_some]
      split
      · exact Tm.ret ht (by omega)
      · obtain ⟨h3, m3⟩ := want_T W sCom ht
        obtain ⟨x, ex, hx, mx⟩ := ih false _ _ h3 (by omega)
        rw [ex]
        exact Tm.pre hx (by omega)
    · exact Tm.ret hi (by omega)
theorem params_T (W : Wf l) {f : Nat} {b : Int} {i : Nat} (hi : b < 0 → i < l.length) (hf : 20 * mm l b i + 2 ≤ f) : Tm l b i 1 (paramsM l f b i) := by
  unfold paramsM
  obtain ⟨h1, m1⟩ := want_T W sParO hi
  dsimp only
  obtain ⟨x, ex, hx, mx⟩ := par_T W f true _ _ h1 (by omega)
  rw [ex, Option.bind_some]
  obtain ⟨h2, m2⟩ := want_T W sParS hx
  exact Tm.ret h2 (by omega)
def rX : XT → Nat
  | .lambda => 9
  | .block => 8
  | .stmts => 7
  | .stmt => 6
  | .expr => 5
  | .sum => 4
  | .sumL _ => 1
  | .term => 3
  | .termL _ => 1
  | .post => 2
  | .postL _ => 1
  | .args _ => 6
  | .atom => 1
  | .entries _ => 2
def sX : XT → Nat
  | .lambda | .block | .stmt | .expr | .sum | .term | .post | .atom => 1
  | _ => 0
theorem ex_T (W : Wf l) : ∀ (f : Nat) (t : XT) (b : Int) (i : Nat), (b < 0 → i < l.length) → (t = .stmt → b < 0) → 20 * mm l b i + rX t ≤ f → Tm l b i (sX t) (exM l f t b i) := by
  intro f
  induction f with
  | zero => intro t b i _ _ h; cases t <;> simp [rX] at h
  | succ f ih =>
    intro t b i hi hst hf
    cases t with
    | lambda =>
      simp only [rX] at hf
      rw [exM]
      obtain ⟨p, e1, h1, m1⟩ := params_T W (f := f) hi (by omega)
      rw [e1, Option.bind_some]
      obtain ⟨t, e2, h2, m2⟩ := typed_T W (f := f) h1 (by omega)
      rw [e2, Option.bind_some]
      obtain ⟨k, e3, h3, m3⟩ := ih .block _ _ h2 (fun h => by cases h) (by simp only [rX]; omega)
      rw [e3, Option.bind_some]
      simp only [sX] at m3 ⊢
      exact Tm.ret h3 (by omega)
    | block =>
      simp only [rX] at hf
      rw [exM]
      obtain ⟨h1, m1⟩ := want_T W sOpen hi
      dsimp only
      obtain ⟨x, e2, h2, m2⟩ := ih .stmts _ _ h1 (fun h => by cases h) (by simp only [rX]; omega)
      rw [e2, Option.bind_some]
      obtain ⟨h3, m3⟩ := want_T W sShut h2
      simp only [sX] at m2 ⊢
      exact Tm.ret h3 (by omega)
    | stmts =>
      simp only [rX] at hf
      rw [exM]
      split
      · rename_i hc
        have hp := mm_pos hc.1 hi
        obtain ⟨x, e2, h2, m2⟩ := ih .stmt _ _ hi (fun _ => hc.1) (by simp only [rX]; omega)
        rw [e2, Option.bind_some]
        simp only [sX] at m2
        obtain ⟨y, e3, h3, m3⟩ := ih .stmts _ _ h2 (fun h => by cases h) (by simp only [rX]; omega)
        rw [e3]
        simp only [sX] at m3 ⊢
        exact Tm.pre h3 (by omega)
      · exact Tm.ret hi (by simp only [sX]; omega)
    | stmt =>
      have hg := hst rfl
      have hp := mm_pos hg hi
      simp only [rX] at hf
      rw [exM]
      split
      · rename_i hm
        obtain ⟨h1, m1⟩ := on_T (l := l) (i := i) hg (isM_next W hm)
        obtain ⟨c, e2, h2, m2⟩ := ih .expr _ _ h1 (fun h => by cases h) (by simp only [rX]; omega)
        rw [e2, Option.bind_some]
        simp only [sX] at m2
        obtain ⟨k, e3, h3, m3⟩ := ih .block _ _ h2 (fun h => by cases h) (by simp only [rX]; omega)
        rw [e3, Option.bind_some]
        simp only [sX] at m3 ⊢
        split
        · rename_i hc
          obtain ⟨h4, m4⟩ := on_T (l := l) (i := k.2.1) hc.1 (isM_next W hc.2)
          obtain ⟨o, e5, h5, m5⟩ := ih .block _ _ h4 (fun h => by cases h) (by simp only [rX]; omega)
          rw [e5, Option.bind_some]
          simp only [sX] at m5
          exact Tm.ret h5 (by omega)
        · exact Tm.ret h3 (by omega)
      · split
        · rename_i hm
          obtain ⟨h1, m1⟩ := on_T (l := l) (i := i) hg (isM_next W hm)
          obtain ⟨c, e2, h2, m2⟩ := ih .expr _ _ h1 (fun h => by cases h) (by simp only [rX]; omega)
          rw [e2, Option.bind_some]
          simp only [sX] at m2
          obtain ⟨k, e3, h3, m3⟩ := ih .block _ _ h2 (fun h => by cases h) (by simp only [rX]; omega)
          rw [e3, Option.bind_some]
          simp only [sX] at m3 ⊢
          exact Tm.ret h3 (by omega)
        · split
          · rename_i hm
            obtain ⟨h1, m1⟩ := on_T (l := l) (i := i) hg (isM_next W hm)
            obtain ⟨h2, m2⟩ := word_T W ⟨7, i, 0, e0, 0⟩ h1
            dsimp only
            obtain ⟨t, e3, h3, m3⟩ := typed_T W (f := f) h2 (by omega)
            rw [e3, Option.bind_some]
            obtain ⟨h4, m4⟩ := want_T W sEq h3
            obtain ⟨v, e5, h5, m5⟩ := ih .expr _ _ h4 (fun h => by cases h) (by simp only [rX]; omega)
            rw [e5, Option.bind_some]
            obtain ⟨h6, m6⟩ := want_T W sSem h5
            simp only [sX] at m5 ⊢
            exact Tm.ret h6 (by omega)
          · dsimp only
            obtain ⟨x, hx, hx1, hx2⟩ : ∃ x : Hd × Nat × Int, (if isM l i kPrint = true then ((⟨11, i, 0, e0, 0⟩ : Hd), i + 1, b) else if isM l i kReturn = true then (⟨12, i, 0, e0, 0⟩, i + 1, b) else if kindAt l i = 1 ∧ isM l (i + 1) sEq = true then ((wordM l b ⟨8, i, 0, e0, 0⟩ i).1, (wordM l b ⟨8, i, 0, e0, 0⟩ i).2.1 + 1, (wordM l b ⟨8, i, 0, e0, 0⟩ i).2.2) else (⟨13, i, 0, e0, 0⟩, i, b)) = x ∧ (x.2.2 < 0 → x.2.1 < l.length) ∧ mm l x.2.2 x.2.1 ≤ mm l b i := by
              split
              · rename_i hm
                obtain ⟨h1, m1⟩ := on_T (l := l) (i := i) hg (isM_next W hm)
                exact ⟨_, rfl, h1, by dsimp only; omega⟩
              · split
                · rename_i hm
                  obtain ⟨h1, m1⟩ := on_T (l := l) (i := i) hg (isM_next W hm)
                  exact ⟨_, rfl, h1, by dsimp only; omega⟩
                · split
                  · rename_i hm
                    have hw : wordM l b ⟨8, i, 0, e0, 0⟩ i = (⟨8, i, 0, textAt l i, i⟩, i + 1, b) := by unfold wordM; rw [if_neg (by omega), if_pos hm.1]
                    rw [hw]
                    have h2 := isM_next W hm.2
                    refine ⟨_, rfl, fun _ => h2, ?_⟩
                    dsimp only
                    rw [mm_good hg, mm_good hg]
                    omega
                  · exact ⟨_, rfl, hi, Nat.le_refl _⟩
            rw [hx]
            obtain ⟨v, e5, h5, m5⟩ := ih .expr _ _ hx1 (fun h => by cases h) (by simp only [rX]; omega)
            rw [e5, Option.bind_some]
            obtain ⟨h6, m6⟩ := want_T W sSem h5
            simp only [sX] at m5 ⊢
            exact Tm.ret h6 (by omega)
    | expr =>
      simp only [rX] at hf
      rw [exM]
      obtain ⟨a, e1, h1, m1⟩ := ih .sum _ _ hi (fun h => by cases h) (by simp only [rX]; omega)
      rw [e1, Option.bind_some]
      simp only [sX] at m1 ⊢
      split
      · exact Tm.of h1 m1
      · rename_i hc
        have hg : a.2.2 < 0 := by
          by_cases h : 0 ≤ a.2.2
          · exact absurd (.inl h) hc
          · omega
        have hn : a.2.1 + 1 < l.length := by
          cases h1 : isM l a.2.1 sLess with
          | true => exact isM_next W h1
          | false =>
            cases h2 : isM l a.2.1 sEqEq with
            | true => exact isM_next W h2
            | false => exact absurd (.inr ⟨by rw [h1]; simp, by rw [h2]; simp⟩) hc
        obtain ⟨h2, m2⟩ := on_T (l := l) hg hn
        have hp := mm_pos hg h1
        obtain ⟨c, e3, h3, m3⟩ := ih .sum _ _ h2 (fun h => by cases h) (by simp only [rX]; omega)
        rw [e3, Option.bind_some]
        simp only [sX] at m3
        exact Tm.ret h3 (by omega)
    | sum =>
      simp only [rX] at hf
      rw [exM]
      obtain ⟨a, e1, h1, m1⟩ := ih .term _ _ hi (fun h => by cases h) (by simp only [rX]; omega)
      rw [e1, Option.bind_some]
      simp only [sX] at m1 ⊢
      obtain ⟨c, e3, h3, m3⟩ := ih (.sumL a.1) _ _ h1 (fun h => by cases h) (by simp only [rX]; omega)
      rw [e3]
      simp only [sX] at m3
      exact Tm.of h3 (by omega)
    | term =>
      simp only [rX] at hf
      rw [exM]
      obtain ⟨a, e1, h1, m1⟩ := ih .post _ _ hi (fun h => by cases h) (by simp only [rX]; omega)
      rw [e1, Option.bind_some]
      simp only [sX] at m1 ⊢
      obtain ⟨c, e3, h3, m3⟩ := ih (.termL a.1) _ _ h1 (fun h => by cases h) (by simp only [rX]; omega)
      rw [e3]
      simp only [sX] at m3
      exact Tm.of h3 (by omega)
    | post =>
      simp only [rX] at hf
      rw [exM]
      obtain ⟨a, e1, h1, m1⟩ := ih .atom _ _ hi (fun h => by cases h) (by simp only [rX]; omega)
      rw [e1, Option.bind_some]
      simp only [sX] at m1 ⊢
      obtain ⟨c, e3, h3, m3⟩ := ih (.postL a.1) _ _ h1 (fun h => by cases h) (by simp only [rX]; omega)
      rw [e3]
      simp only [sX] at m3
      exact Tm.of h3 (by omega)
    | sumL a =>
      simp only [rX] at hf
      rw [exM]
      split
      · rename_i hc
        have hp := mm_pos hc.1 hi
        have hn : i + 1 < l.length := by
          rcases hc.2 with h | h <;> exact isM_next W h
        obtain ⟨h1, m1⟩ := on_T (l := l) hc.1 hn
        obtain ⟨c, e2, h2, m2⟩ := ih .term _ _ h1 (fun h => by cases h) (by simp only [rX]; omega)
        rw [e2, Option.bind_some]
        simp only [sX] at m2
        obtain ⟨y, e3, h3, m3⟩ := ih (.sumL _) _ _ h2 (fun h => by cases h) (by simp only [rX]; omega)
        rw [e3]
        simp only [sX] at m3 ⊢
        exact Tm.of h3 (by omega)
      · exact Tm.ret hi (by simp only [sX]; omega)
    | termL a =>
      simp only [rX] at hf
      rw [exM]
      split
      · rename_i hc
        have hp := mm_pos hc.1 hi
        obtain ⟨h1, m1⟩ := on_T (l := l) hc.1 (isM_next W hc.2)
        obtain ⟨c, e2, h2, m2⟩ := ih .post _ _ h1 (fun h => by cases h) (by simp only [rX]; omega)
        rw [e2, Option.bind_some]
        simp only [sX] at m2
        obtain ⟨y, e3, h3, m3⟩ := ih (.termL _) _ _ h2 (fun h => by cases h) (by simp only [rX]; omega)
        rw [e3]
        simp only [sX] at m3 ⊢
        exact Tm.of h3 (by omega)
      · exact Tm.ret hi (by simp only [sX]; omega)
    | postL a =>
      simp only [rX] at hf
      rw [exM]
      split
      · rename_i hc
        have hp := mm_pos hc.1 hi
        have hn : i + 1 < l.length := by
          rcases hc.2 with h | h <;> exact isM_next W h
        obtain ⟨h1, m1⟩ := on_T (l := l) hc.1 hn
        split
        · obtain ⟨h2, m2⟩ := word_T W ⟨19, a.from_, 0, e0, 0⟩ h1
          dsimp only
          obtain ⟨y, e3, h3, m3⟩ := ih (.postL (.one { (wordM l b ⟨19, a.from_, 0, e0, 0⟩ (i + 1)).1 with til := (wordM l b ⟨19, a.from_, 0, e0, 0⟩ (i + 1)).2.1 } a)) _ _ h2 (fun h => by cases h) (by simp only [rX]; omega)
          rw [e3]
          simp only [sX] at m3 ⊢
          exact Tm.of h3 (by omega)
        · obtain ⟨k, e2, h2, m2⟩ := ih (.args true) _ _ h1 (fun h => by cases h) (by simp only [rX]; omega)
          rw [e2, Option.bind_some]
          simp only [sX] at m2
          obtain ⟨h3, m3⟩ := want_T W sParS h2
          dsimp only
          obtain ⟨y, e4, h4, m4⟩ := ih (.postL (.one ⟨20, a.from_, (wantM l k.2.2 k.2.1 sParS).1, e0, 0⟩ (a.app k.1))) _ _ h3 (fun h => by cases h) (by simp only [rX]; omega)
          rw [e4]
          simp only [sX] at m4 ⊢
          exact Tm.of h4 (by omega)
      · exact Tm.ret hi (by simp only [sX]; omega)
    | args first =>
      simp only [rX] at hf
      rw [exM]
      split
      · rename_i hc
        have hp := mm_pos hc.1 hi
        obtain ⟨t, e2, h2, m2⟩ := ih .expr _ _ hi (fun h => by cases h) (by simp only [rX]; omega)
        rw [e2, Option.bind_some]
        simp only [sX] at m2 ⊢
        split
        · exact Tm.ret h2 (by omega)
        · obtain ⟨h3, m3⟩ := want_T W sCom h2
          obtain ⟨y, e4, h4, m4⟩ := ih (.args false) _ _ h3 (fun h => by cases h) (by simp only [rX]; omega)
          rw [e4]
          simp only [sX] at m4
          exact Tm.pre h4 (by omega)
      · exact Tm.ret hi (by simp only [sX]; omega)
    | atom =>
      simp only [rX] at hf
      rw [exM]
      split
      · rename_i hb; exact Tm.ret hi (by simp only [sX]; rw [mm_bad hb]; omega)
      · rename_i hb
        have hg : b < 0 := by omega
        have hp := mm_pos hg hi
        split
        · rename_i hk; have := on_T (l := l) (i := i) hg (kindAt_next W (by omega)); exact Tm.ret this.1 this.2
        · split
          · rename_i hk; have := on_T (l := l) (i := i) hg (kindAt_next W (by omega)); exact Tm.ret this.1 this.2
          · split
            · rename_i hk; have := on_T (l := l) (i := i) hg (kindAt_next W (by omega)); exact Tm.ret this.1 this.2
            · split
              · rename_i hm; have := on_T (l := l) (i := i) hg (isM_next W hm); exact Tm.ret this.1 this.2
              · split
                · rename_i hm
                  obtain ⟨h1, m1⟩ := on_T (l := l) (i := i) hg (isM_next W hm)
                  obtain ⟨x, e2, h2, m2⟩ := ih .expr _ _ h1 (fun h => by cases h) (by simp only [rX]; omega)
                  rw [e2, Option.bind_some]
                  simp only [sX] at m2 ⊢
                  obtain ⟨h3, m3⟩ := want_T W sParS h2
                  exact Tm.ret h3 (by omega)
                · split
                  · rename_i hm
                    obtain ⟨h1, m1⟩ := on_T (l := l) (i := i) hg (isM_next W hm)
                    obtain ⟨x, e2, h2, m2⟩ := ih (.entries true) _ _ h1 (fun h => by cases h) (by simp only [rX]; omega)
                    rw [e2, Option.bind_some]
                    simp only [sX] at m2 ⊢
                    obtain ⟨h3, m3⟩ := want_T W sShut h2
                    exact Tm.ret h3 (by omega)
                  · obtain ⟨h1, m1⟩ := want_T W kFn hi
                    dsimp only
                    obtain ⟨x, e2, h2, m2⟩ := ih .lambda _ _ h1 (fun h => by cases h) (by simp only [rX]; omega)
                    rw [e2, Option.bind_some]
                    simp only [sX] at m2 ⊢
                    exact Tm.ret h2 (by omega)
    | entries first =>
      simp only [rX] at hf
      rw [exM]
      split
      · rename_i hc
        have hp := mm_pos hc.1 hi
        obtain ⟨h1, m1⟩ := word_T W ⟨27, i, 0, e0, 0⟩ hi
        obtain ⟨h2, m2⟩ := want_T W sCol h1
        dsimp only
        obtain ⟨t, e3, h3, m3⟩ := ih .expr _ _ h2 (fun h => by cases h) (by simp only [rX]; omega)
        rw [e3, Option.bind_some]
        simp only [sX] at m3 ⊢
        split
        · exact Tm.ret h3 (by omega)
        · obtain ⟨h4, m4⟩ := want_T W sCom h3
          obtain ⟨y, e5, h5, m5⟩ := ih (.entries false) _ _ h4 (fun h => by cases h) (by simp only [rX]; omega)
          rw [e5]
          simp only [sX] at m5
          exact Tm.pre h5 (by omega)
      · exact Tm.ret hi (by simp only [sX]; omega)
theorem use_T (W : Wf l) {b : Int} {i : Nat} (hb : b < 0) (hm : i + 1 < l.length) : ((useM l b i).2.2 < 0 → (useM l b i).2.1 < l.length) ∧ mm l (useM l b i).2.2 (useM l b i).2.1 ≤ mm l b i - 1 := by
  obtain ⟨h1, m1⟩ := on_T (l := l) hb hm
  obtain ⟨h2, m2⟩ := word_T W ⟨23, i + 1, 0, e0, 0⟩ h1
  obtain ⟨h3, m3⟩ := want_T W sDot h2
  obtain ⟨h4, m4⟩ := word_T W ⟨2, i, 0, e0, 0⟩ h3
  obtain ⟨h5, m5⟩ := want_T W sSem h4
  unfold useM
  dsimp only
  exact ⟨h5, by omega⟩
theorem def_T (W : Wf l) {f : Nat} {b : Int} {i : Nat} (hb : b < 0) (hi : b < 0 → i < l.length) (hf : 20 * mm l b i ≤ f) : Tm l b i 1 (defM l f b i) := by
  have hp := mm_pos hb hi
  obtain ⟨h1, m1⟩ := want_T W kDef hi
  obtain ⟨h2, m2⟩ := word_T W ⟨3, i, 0, e0, 0⟩ h1
  unfold defM
  dsimp only
  obtain ⟨k, e3, h3, m3⟩ := ex_T W f .lambda _ _ h2 (fun h => by cases h) (by simp only [rX]; omega)
  rw [e3, Option.bind_some]
  simp only [sX] at m3
  exact Tm.ret h3 (by omega)
theorem items_T (W : Wf l) : ∀ (f : Nat) (b : Int) (i : Nat), (b < 0 → i < l.length) → 20 * mm l b i + 1 ≤ f → Tm l b i 0 (itemsM l f b i) := by
  intro f
  induction f with
  | zero => intro b i _ h; omega
  | succ f ih =>
    intro b i hi hf
    rw [itemsM]
    split
    · rename_i hc
      have hp := mm_pos hc.1 hi
      split
      · rename_i hm
        obtain ⟨h1, m1⟩ := use_T W hc.1 (isM_next W hm)
        obtain ⟨x, e2, h2, m2⟩ := ih _ _ h1 (by omega)
        rw [e2]
        exact Tm.pre h2 (by omega)
      · obtain ⟨t, e1, h1, m1⟩ := def_T W (f := f) hc.1 hi (by omega)
        rw [e1, Option.bind_some]
        obtain ⟨x, e2, h2, m2⟩ := ih _ _ h1 (by omega)
        rw [e2]
        exact Tm.pre h2 (by omega)
    · exact Tm.ret hi (by omega)
/-- Fuel for any file. -/
def fuel : Nat := 100000
theorem items_some (W : Wf l) : ∃ r, itemsM l fuel (-1) 0 = some r ∧ (r.2.2 < 0 → r.2.1 < l.length) := by
  have h1 := W.pos
  have h2 := W.le
  obtain ⟨r, e, h, _⟩ := items_T W fuel (-1) 0 (fun _ => h1) (by rw [mm_good (by omega)]; unfold fuel; omega)
  exact ⟨r, e, h⟩
end Ps
end Go.Proofs.Ytnefnnoleeeedaa

