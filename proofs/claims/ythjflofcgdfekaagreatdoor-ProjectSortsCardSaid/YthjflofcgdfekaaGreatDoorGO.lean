import Derived.Test.YthjflofcgdfekaaGreatDoorGN
import Derived.Deep.RegionLaw
import Derived.Laws.OwnMore
namespace Go.Proofs.YthjflofcgdfekaaGreatDoor
open Go.RowKit
namespace Pg
open Ps
theorem NodesQ.kv {X : Cx} {n : Nat} {w w' : World} {r : Fo × Sd} {e : Ending} (h : NodesQ X n w r e w') :
    ∃ AL KL cL, e = .returned (.slice AL KL.len cL) ∧ KV w' (fun g => w.heap.size ≤ g) KL AL cL ∧ PSt X w' r.2 ∧ Fr X.rb w.heap.size w w' ∧ (r.2.2 < 0 → r.1 = KL) ∧ KL.len ≤ n ∧ (AL = none → KL.len = 0 ∧ cL = 0) := by
  obtain ⟨v, K, rfl, ⟨cs, o1, o2⟩, hS, hF, hK, hn⟩ := h
  have hv : ∃ A cap, v = .slice A K.len cap ∧ K.len ≤ cap ∧ (A = none → K.len = 0 ∧ cap = 0) := by
    rcases o1.2 with ⟨rfl, e⟩ | ⟨g, cap, cur, rfl, _, _, hc, _⟩
    · exact ⟨none, 0, by rw [e], by omega, fun _ => ⟨e, rfl⟩⟩
    · exact ⟨_, cap, rfl, hc, fun h => by cases h⟩
  obtain ⟨A, cap, rfl, hc, hnn⟩ := hv
  exact ⟨A, K, cap, rfl, KV.of_own o1 rfl o2 (fun g hg => hg.1) (fun g hg _ => hg) hc, hS, hF, hK, hn, hnn⟩
theorem Ks_head {X : Cx} {w0 w : World} {b : Sd} {Rs : List Row} {Ks : List Kid} {v : Value} {K : Fo} {k : Fo} {A : Option Addr} {cap : Nat} (h : LS X w0 w b Rs ((k, A, cap) :: Ks) v K) : KV w (PB w0.heap.size Rs v) k A cap := h.kvs (k, A, cap) List.mem_cons_self
set_option maxHeartbeats 1000000 in
theorem step_append_kid {X : Cx} {w0 w : World} {st : Sd} {Rs : List Row} {Ks : List Kid} {g0 : Nat} {h1 : Hd} {k1 KL : Fo} {AL : Option Addr} {cL : Nat} {ops : Array Oper} {o : Oper} {a : Act} {K : Act → World → Prop} {Q : Exit → Act → World → Prop} {E : Prop} (hgd : o.guard = none) (s x : Operand)
    (ho : o.op = .call { callee := .builtin .append, args := #[s, x], argTypes := #[36, 36] })
    (L : LS X w0 w st Rs ((KL, AL, cL) :: Ks) (.slice (some ⟨g0, 0, none⟩) 1 1) (.one h1 k1)) (hs : a.eval s = .slice (some ⟨g0, 0, none⟩) 1 1) (hx : a.eval x = .slice AL KL.len cL) (hn : AL = none → KL.len = 0 ∧ cL = 0) (hlen : KL.len ≤ 1000001)
    (h : ∀ A' c' w', LS X w0 w' st Rs ((KL, AL, cL) :: Ks) (.slice A' ((Fo.one h1 k1).app KL).len c') ((Fo.one h1 k1).app KL) → K (a.put o.dst (.slice A' ((Fo.one h1 k1).app KL).len c')) w') :
    if Region.wanted o (yielded ops a.tmps) = true then Oper.wp Tryz.prog o a w K Q else E := by
  have hw : Region.wanted o (yielded ops a.tmps) = true := by simp [Region.wanted, hgd]
  rw [if_pos hw]
  obtain ⟨i0, hi0, hz0, hz1, hz2⟩ := info_parts info25
  obtain ⟨cs, o1, o2⟩ := L.own
  have hk := Ks_head L
  cases AL with
  | none =>
    obtain ⟨e1, e2⟩ := hn rfl
    subst e2
    have hK : KL = .nil := by
      cases KL with
      | nil => rfl
      | cons a b c => simp [Fo.len] at e1
    subst hK
    have hrun := run_append_owned_none (P := Tryz.prog) (w := w) w0.heap.size 36 o.type 38 i0 6 Tryz.underlying36 hi0 _ 1 cs (show w.ownsRow w0.heap.size 38 6 (.slice (some ⟨g0, 0, none⟩) 1 1) 1 cs from o1)
    unfold Oper.wp
    simp only [execOp, ho, resolve, invoke, builtin, Sem.run_bind, Sem.run_pure, Result.andThen_ok, List.map_toArray, List.map_cons, List.map_nil, hs, hx]
    rw [show (Fo.nil : Fo).len = 0 from rfl, hrun]
    have := h (some ⟨g0, 0, none⟩) 1 w (by rw [Fo.app_nil]; exact L)
    rw [Fo.app_nil] at this
    exact this
  | some ad =>
    obtain ⟨ck, f1, f2⟩ : ∃ ck, FC w (PB w0.heap.size Rs (.slice (some ⟨g0, 0, none⟩) 1 1)) KL ck ∧ ∀ j u, ck[j]? = some u → w.cell? (ad.add j) = some u := by
      by_cases hl : 0 < KL.len
      · obtain ⟨g, oo, ck, e, _, _, hc, hf⟩ := hk.2 hl
        injection e with e
        subst e
        refine ⟨ck, hf, fun j u hu => ?_⟩
        rw [show (⟨g, oo, none⟩ : Addr).add j = ⟨g, oo + j, none⟩ by simp only [Addr.add]; by_cases hj : j = 0 <;> simp [hj]]
        exact hc j u hu
      · have hK : KL = .nil := by
          cases KL with
          | nil => rfl
          | cons a b c => simp [Fo.len] at hl
        subst hK
        exact ⟨[], by rw [FC], fun j u hu => by simp at hu⟩
    have b3 : 1 + KL.len ≤ maxLen := by unfold maxLen; omega
    have b4 : (1 + KL.len) * i0.bytes ≤ 140737488355328 := by rw [hz2]; omega
    have b5 := L.size
    have hl := FC.len _ _ f1
    obtain ⟨v', w', hr, h2, h3, _⟩ := run_append_own (P := Tryz.prog) (w := w) w0.heap.size 36 o.type 38 i0 _ 6 72 Tryz.underlying36 hi0 hz0 hz1 hz2 rfl (by decide) _ 1 cs (show w.ownsRow w0.heap.size 38 6 (.slice (some ⟨g0, 0, none⟩) 1 1) 1 cs from o1) ad KL.len cL ck (by rw [hl]) f2 (FC.cell1 _ _ f1) b3 (by rw [← hz2]; exact b4) b5
    have h5 := append_at (P := Tryz.prog) w0.heap.size 36 o.type 38 i0 _ Tryz.underlying36 hi0 hz0 (by rw [hz1]; rfl) (by rw [hz1]; decide) _ 1 cs (by rw [hz1]; exact o1) ad KL.len cL ck (by rw [hz1, hl]) f2 (FC.cell1 _ _ f1) b3 b4 v' w' hr
    have M := L.push (k := KL) ⟨o1, o2⟩ f1 h2 h3 (fun j hj => h5 j hj)
    obtain ⟨A', c', e, hcc, _⟩ := M.list
    subst e
    unfold Oper.wp execOp
    simp only [ho, resolve, invoke, builtin, Sem.run_bind, Sem.run_pure, Result.andThen_ok, List.map_toArray, List.map_cons, List.map_nil, hs, hx, hr]
    exact h A' c' w' M
theorem postL_end {l : List Tok} {f : Nat} {a : Fo} {b : Int} {i : Nat} {r : Fo × Nat × Int} (h : exM l f (.postL a) b i = some r) (h1 : isM l i sDot = false) (h2 : isM l i sParO = false) : r = (a, i, b) := by
  cases f with
  | zero => rw [exM] at h; cases h
  | succ f => rw [exM, if_neg (by simp [h1, h2])] at h; injection h with h; exact h.symm
theorem postL_dot {l : List Tok} {f : Nat} {a : Fo} {b : Int} {i : Nat} {r : Fo × Nat × Int} (h : exM l f (.postL a) b i = some r) (hb : b < 0) (hc : isM l i sDot = true) :
    ∃ f', f = f' + 1 ∧ exM l f' (.postL (.one { (wordM l b ⟨19, a.from_, 0, e0, 0⟩ (i + 1)).1 with til := (wordM l b ⟨19, a.from_, 0, e0, 0⟩ (i + 1)).2.1 } a)) (wordM l b ⟨19, a.from_, 0, e0, 0⟩ (i + 1)).2.2 (wordM l b ⟨19, a.from_, 0, e0, 0⟩ (i + 1)).2.1 = some r := by
  cases f with
  | zero => rw [exM] at h; cases h
  | succ f => rw [exM, if_pos ⟨hb, .inl hc⟩, if_pos hc] at h; exact ⟨f, rfl, h⟩
theorem postL_call {l : List Tok} {f : Nat} {a : Fo} {b : Int} {i : Nat} {r : Fo × Nat × Int} (h : exM l f (.postL a) b i = some r) (hb : b < 0) (ho : isM l i sParO = true) :
    ∃ f' q, f = f' + 1 ∧ listM l (fun f => exM l f .expr) sParS f' true b (i + 1) = some q ∧ exM l f' (.postL (.one ⟨20, a.from_, (wantM l q.2.2 q.2.1 sParS).1, e0, 0⟩ (a.app q.1))) (wantM l q.2.2 q.2.1 sParS).2 (wantM l q.2.2 q.2.1 sParS).1 = some r := by
  cases f with
  | zero => rw [exM] at h; cases h
  | succ f =>
    have hc : isM l i sDot = false := isM_ne ho (by decide)
    rw [exM, if_pos ⟨hb, .inr ho⟩, if_neg (by rw [hc]; simp)] at h
    obtain ⟨k, h1, h2⟩ := Option.bind_eq_some_iff.1 h
    exact ⟨f, k, rfl, by rw [← args_list]; exact h1, h2⟩
set_option maxHeartbeats 8000000 in
set_option maxRecDepth 100000 in
theorem post_q (X : Cx) (P : Prop) (f : Nat) (hf : f ≤ 1000000) (I : ∀ f', f' ≤ f → RuleQ X P (exR X f' .atom) 293) (IE : P → ∀ f', f' ≤ f → RuleQ X P (exR X f' .expr) 268) : RuleQ X P (exR X (f + 1) .post) 290 := by
  intro s w r hr1 hr2 hS
  obtain ⟨a, ha1, ha2, hb, hfr⟩ : ∃ a : Fo × Sd, (s.2 < 0 → P ∧ exR X f .atom s = some a) ∧ (0 ≤ s.2 → a.2.2 = s.2) ∧ (0 ≤ a.2.2 → r.2.2 = a.2.2) ∧ (a.2.2 < 0 → P ∧ a.1.from_ = pos X s ∧ exM X.l f (.postL a.1) a.2.2 a.2.1 = some r) := by
    by_cases hs : 0 ≤ s.2
    · exact ⟨(.nil, s), fun h => absurd h (by omega), fun _ => rfl, fun _ => hr2 hs, fun h => absurd h (by dsimp only; omega)⟩
    · obtain ⟨hP, h⟩ := hr1 (by omega)
      unfold exR at h
      rw [exM] at h
      obtain ⟨a, ha, h⟩ := Option.bind_eq_some_iff.1 h
      exact ⟨a, fun _ => ⟨hP, ha⟩, fun h => absurd h hs, fun hb => exM_bad _ _ _ _ _ hb h, fun hb => ⟨hP, by rw [pos_good (by omega)]; exact exM_from _ _ _ _ _ _ rfl ha hb, h⟩⟩
  have L0 := Lib.hid ((LS.start hS).alloc w.heap.size rfl 38 zcc)
  have rr := hS.row.cell
  have hrb := hS.lt
  have hl := hS.len
  have hpl := hS.pos_lt
  have C1 : Hid (∀ w', PSt X w' s → Calls Tryz.prog 293 #[X.p] w' (NodeQ X w' a)) := fun w' h => I f (Nat.le_refl _) s w' a ha1 ha2 h
  have HI := Lib.hid IE
  have HB := Lib.hid hb
  have HFR := Lib.hid hfr
  clear hr1 hr2 ha1 ha2 hb hfr hS I IE
  obtain ⟨af, a2⟩ := a
  dsimp only at *
  generalize pos X s = p at *
  go_enter Tryz.func290, Tryz.ntmps290
  go_wp2_with fail
  refine (C1.out _ L0.out.st).mono ?_
  rintro e w1 ⟨h1, k1, A1, c1, rfl, hK1, hS1, hF1, hN1⟩
  have L1 := Lib.hid ((L0.out.kid hS1 hF1 hK1).alloc w1.heap.size rfl 38 (ncc h1 A1 k1.len c1))
  obtain ⟨x1, x2, x3, x4, x5⟩ := h1
  have INV0 : Hid (InvL X P r p f .postL a2 ⟨x1, x2, x3, x4, x5⟩ k1) := by
    refine ⟨fun h => ?_, HB.out⟩
    obtain ⟨g1, g2, g3⟩ := HFR.out h
    have := hN1 h
    dsimp only at this
    rw [this] at g2 g3
    exact ⟨g1, g2, g3⟩
  clear hS1 hF1 hK1 hN1 rr C1 HB HFR
  dsimp only at *
  go_wp2_with fail
  go_loopg [12] (f + 1) (fun kx s3 wr => ∃ (fk : Nat) (sk : Sd) (u : Value) (y1 y2 y3 : Nat) (y4 : ByteArray) (y5 : Nat) (k : Fo) (A : Option Addr) (c : Nat), u = s3 ∧ fk ≤ kx ∧ fk ≤ f ∧ Hid (InvL X P r p fk .postL sk ⟨y1, y2, y3, y4, y5⟩ k) ∧ Hid (LS X w wr sk [(w1.heap.size, 38, ncc ⟨y1, y2, y3, y4, y5⟩ A k.len c), (w.heap.size, 38, zcc)] [(k, A, c)] (.slice none 0 0) .nil))
  case atStart => exact ⟨f, a2, _, x1, x2, x3, x4, x5, k1, A1, c1, rfl, by omega, by omega, INV0.out, L1.out⟩
  case round =>
    obtain ⟨fk, sk, u, y1, y2, y3, y4, y5, k, A, c, rfl, hkx, hfk, HG, LK⟩ := hrel
    clear INV0 L1 L0
    cases q19 : tk X sk sDot
    · have CT := Lib.hid (take_no X sk ⟨#[46]⟩ _ LK.out.st (by decide) q19)
      have Q19 := Lib.hid (tk_bad q19)
      clear q19
      go_wp2_with fail
      refine CT.out.mono ?_
      rintro e wa ⟨rfl, hSa, hFa⟩
      have LA19 := Lib.hid (LK.out.step hSa hFa)
      clear hSa hFa CT
      cases q20 : tk X sk sParO
      · have CT := Lib.hid (take_no X sk ⟨#[40]⟩ _ LA19.out.st (by decide) q20)
        have Q20 := Lib.hid (tk_bad q20)
        clear q20
        go_wp2_with fail
        refine CT.out.mono ?_
        rintro e wb ⟨rfl, hSa, hFa⟩
        have LA20 := Lib.hid (LA19.out.step hSa hFa)
        clear hSa hFa CT
        have HFIN : Hid (sk.2 < 0 → r = (.one ⟨y1, y2, y3, y4, y5⟩ k, sk)) := fun h => by
          have := postL_end (HG.out.1 h).2.2 (Q19.out.resolve_left (by omega)) (Q20.out.resolve_left (by omega))
          rw [this]
        have HBAD := Lib.hid HG.out.2
        have m1 := (LA20.out.row 1 rfl).cell
        have m2 := (LA20.out.row 1 rfl).thaw
        have n1 := (LA20.out.row 0 rfl).cell
        have LC := Lib.hid (LA20.out.put6 1 rfl rfl (.int .i64 y1) (.int .i64 y2) (.int .i64 y3) (.string y4) (.int .i64 y5) (.slice A k.len c))
        clear HG Q19 Q20
        go_wp2
        refine bodyPost_ret ?_ rfl ⟨⟨y1, y2, y3, y4, y5⟩, k, A, c, rfl, (LC.out.kidP 0 rfl).new_ (fun g h => h.1), PSt.to LC.out.st (fun h => by rw [HFIN.out h]) HBAD.out, LC.out.fr, ?_⟩
        · simp [results, Tryz.results290, go_sem, m1]
        · intro hh
          by_cases h : sk.2 < 0
          · rw [HFIN.out h]
          · rw [HBAD.out (by omega)] at hh; exact absurd hh h
      · obtain ⟨hg, hm⟩ := tk_good q20
        obtain ⟨hP, hfr, hex⟩ := HG.out.1 hg
        obtain ⟨f', q, hf', hq, hcont⟩ := postL_call hex hg hm
        have CT := Lib.hid (take_yes X sk ⟨#[40]⟩ _ LA19.out.st (by decide) q20)
        obtain ⟨rl, hrl⟩ : ∃ rl : Fo × Sd, rl = (q.1, wantM X.l q.2.2 q.2.1 sParS) := ⟨_, rfl⟩
        have hcont' : exM X.l f' (.postL (.one ⟨20, (Fo.one ⟨y1, y2, y3, y4, y5⟩ k).from_, rl.2.1, e0, 0⟩ ((Fo.one ⟨y1, y2, y3, y4, y5⟩ k).app rl.1))) rl.2.2 rl.2.1 = some r := by rw [hrl]; exact hcont
        have CL : Hid (∀ w', PSt X w' (sk.1 + 1, sk.2) → Calls Tryz.prog 250 #[X.p, .string ⟨#[41]⟩, .func (.func 268) #[X.p] #[]] w' (NodesQ X (f' + 1) w' rl)) := fun w' h => list_q X P (fun f => exM X.l f .expr) ⟨#[41]⟩ f' (by omega) (by decide) (by decide) 268 #[X.p] #[] (fun _ => True) (fun _ _ _ _ => trivial) (fun w => enter268 _ w) (fun f'' hf'' s w r _ h1 h2 hS => HI.out hP f'' (by omega) s w r h1 h2 hS) (sk.1 + 1, sk.2) w' rl trivial (fun _ => ⟨hP, q, hq, hrl⟩) (fun h => absurd h (by dsimp only; omega)) h
        have HCONT := Lib.hid hcont'
        have HP := Lib.hid hP
        have HFR := Lib.hid hfr
        have HF := Lib.hid (show f' + 1 = fk from hf'.symm)
        have HFB := Lib.hid (show f' + 1 ≤ 1000001 by omega)
        clear HG hcont hcont' hf' q20 hm hg hP hex hfr hq hrl Q19
        obtain ⟨cf, c2⟩ := rl
        dsimp only at *
        go_wp2_with fail
        refine CT.out.mono ?_
        rintro e w2 ⟨rfl, hS2, hF2⟩
        have L2 := Lib.hid (LA19.out.step hS2 hF2)
        clear hS2 hF2
        go_wp2_with fail
        have L2d : Hid (LS X w w2.drew (sk.1 + 1, sk.2) _ _ _ _) := L2.out.other ((Below.refl _ _).drew)
        have LAd : Hid (LS X w (w2.alloc (.cells (ncc ⟨y1, y2, y3, y4, y5⟩ A k.len c) 38)).drew (sk.1 + 1, sk.2) _ _ _ _) := (L2.out.lit (k := .one ⟨y1, y2, y3, y4, y5⟩ k) (cs := ncc ⟨y1, y2, y3, y4, y5⟩ A k.len c) (FC.one (L2.out.kidP 0 rfl)) w2.heap.size rfl (show 1 ≤ maxLen by decide)).other ((Below.refl _ _).drew)
        have HS0 := (L2d.out.row 0 rfl).cell
        go_region_law (first
          | (refine step_append_kid (by rfl) (.tmp 28) (.tmp 32) (by rfl) L4.out (by rfl) (by rfl) hnil (Nat.le_trans hlen HFB.out) ?_; intro A6 c6 w6 LL5; have L5 := Lib.hid LL5.toKid)
          | (go_simp; go_at_call 250; refine (CL.out _ ?_).mono ?_; (first | (with_reducible exact L2d.out.st; have mB : True := trivial) | (with_reducible exact LAd.out.st; have mA : True := trivial)); intro e w3 hq3; obtain ⟨AL, KL, cL, rfl, hKV, hS3, hF3, hN3, hlen, hnil⟩ := NodesQ.kv hq3; (first | (have _ := mB; have L3 := Lib.hid (L2d.out.kid hS3 hF3 hKV); have HSa := (L3.out.row 0 rfl).cell; have L4 := Lib.hid (L3.out.lit (k := .one ⟨y1, y2, y3, y4, y5⟩ k) (cs := ncc ⟨y1, y2, y3, y4, y5⟩ A k.len c) (FC.one (L3.out.kidP 1 rfl)) w3.heap.size rfl (show 1 ≤ maxLen by decide))) | (have _ := mA; have L4 := Lib.hid (LAd.out.kid hS3 hF3 hKV))); go_wp2_with fail)
          | (go_simp; go_at_call 172; refine (node_any X c2 20 p A6 _ c6 _ L5.out.st).mono ?_; rintro e w7 ⟨rfl, hb7⟩; have L6 := Lib.hid (L5.out.other hb7); have u1 := (L6.out.row 0 rfl).cell; have u2 := (L6.out.row 0 rfl).thaw; have L7 := Lib.hid (L6.out.put6 0 rfl rfl (.int .i64 20) (.int .i64 p) (.int .i64 (pos X c2)) (.string e0) (.int .i64 0) (.slice A6 ((Fo.one ⟨y1, y2, y3, y4, y5⟩ k).app KL).len c6)); go_wp2_with fail)
          | fail)
        all_goals
          have hf'' := HF.out
          have INV : Hid (InvL X P r p f' .postL c2 ⟨20, p, pos X c2, e0, 0⟩ ((Fo.one ⟨y1, y2, y3, y4, y5⟩ k).app KL)) := by
            refine ⟨fun h => ⟨HP.out, rfl, ?_⟩, fun h => exM_bad _ _ _ _ _ h HCONT.out⟩
            have h1 := HCONT.out
            rw [hN3 h] at h1
            rw [pos_good h, ← HFR.out]
            exact h1
          have L8 := Lib.hid L7.out.K1
          clear HCONT HP HFR HF u1 L2 L2d L4 L5 L6 L7 LAd
          go_wp2_with fail
          go_roundg f'
          case measure => omega
          case rel => exact ⟨f', c2, _, 20, p, pos X c2, e0, 0, (Fo.one ⟨y1, y2, y3, y4, y5⟩ k).app KL, A6, c6, rfl, by omega, by omega, INV.out, L8.out⟩
    · obtain ⟨hg, hm⟩ := tk_good q19
      obtain ⟨hP, hfr, hex⟩ := HG.out.1 hg
      obtain ⟨f', hf', hcont⟩ := postL_dot hex hg hm
      have CT := Lib.hid (take_yes X sk ⟨#[46]⟩ _ LK.out.st (by decide) q19)
      obtain ⟨s1, hs1⟩ : ∃ s1 : Sd, s1 = (sk.1 + 1, sk.2) := ⟨_, rfl⟩
      rw [← hs1] at CT
      have C63 : Hid (∀ w', PSt X w' s1 → Calls Tryz.prog 222 #[X.p] w' fun e w'' => e = .returned (.int .i64 (wat X s1 : Int)) ∧ StepP X w' (wordS X s1) w'') := fun w' h => word_any X s1 w' h
      have HWL : Hid (∀ w', PSt X w' s1 → wat X s1 < X.l.length) := fun w' h => wat_lt h
      have hcont' : ((wordS X s1).2 < 0 → exM X.l f' (.postL (.one ⟨19, p, (wordS X s1).1, textAt X.l (wat X s1), wat X s1⟩ (.one ⟨y1, y2, y3, y4, y5⟩ k))) (wordS X s1).2 (wordS X s1).1 = some r) ∧ (0 ≤ (wordS X s1).2 → r.2.2 = (wordS X s1).2) := by
        have ew : (wordM X.l sk.2 ⟨19, (Fo.one ⟨y1, y2, y3, y4, y5⟩ k).from_, 0, e0, 0⟩ (sk.1 + 1)).2 = wordS X s1 := by
          rw [hs1]; exact wordM_snd _ _ _ _
        rw [ew] at hcont
        refine ⟨fun hy => ?_, fun hy => exM_bad _ _ _ _ _ hy hcont⟩
        obtain ⟨g1, g2, g3, g4⟩ := wordS_good hy
        have g5 := g4 ⟨19, (Fo.one ⟨y1, y2, y3, y4, y5⟩ k).from_, 0, e0, 0⟩
        rw [hs1] at g5
        rw [g5] at hcont
        rw [g2, hs1, ← hfr]
        rw [hs1] at hcont
        exact hcont
      have HCONT := Lib.hid hcont'
      have HP := Lib.hid hP
      have HF := Lib.hid hf'
      clear HG hcont hcont' hf' q19 hm hg hP hex hfr hs1
      generalize wordS X s1 = c2 at *
      generalize wat X s1 = q at *
      go_wp2_with fail
      refine CT.out.mono ?_
      rintro e w2 ⟨rfl, hS2, hF2⟩
      have L2 := Lib.hid (LK.out.step hS2 hF2)
      have hwl := HWL.out _ hS2
      clear hS2 hF2
      go_wp2_with fail
      have L2d : Hid (LS X w w2.drew s1 _ _ _ _) := L2.out.other ((Below.refl _ _).drew)
      have LAd : Hid (LS X w (w2.alloc (.cells (ncc ⟨y1, y2, y3, y4, y5⟩ A k.len c) 38)).drew s1 _ _ _ _) := (L2.out.slice w2.heap.size rfl (k := .one ⟨y1, y2, y3, y4, y5⟩ k) (cs := ncc ⟨y1, y2, y3, y4, y5⟩ A k.len c) (FC.one (L2.out.kidP 0 rfl))).other ((Below.refl _ _).drew)
      have HS0 := (L2d.out.row 0 rfl).cell
      go_region_with (first
        | (go_at_call 222; refine (C63.out _ ?_).mono ?_; (first | (with_reducible exact L2d.out.st; have mB : True := trivial) | (with_reducible exact LAd.out.st; have mA : True := trivial)); rintro e w3 ⟨rfl, hS3, hF3⟩; (first | (have _ := mB; have L3 := Lib.hid (L2d.out.step hS3 hF3); have HSa := (L3.out.row 0 rfl).cell; have L4 := Lib.hid (L3.out.slice w3.heap.size rfl (k := .one ⟨y1, y2, y3, y4, y5⟩ k) (cs := ncc ⟨y1, y2, y3, y4, y5⟩ A k.len c) (FC.one (L3.out.kidP 0 rfl))); skip) | (have _ := mA; have L4 := Lib.hid (LAd.out.step hS3 hF3))))
        | (go_at_call 221; have _ := mB; refine (named_any X c2 19 p q (some ⟨w3.heap.size, 0, none⟩) 1 1 _ L4.out.st hwl).mono ?_; rintro e w5 ⟨rfl, hb5⟩; have L5 := Lib.hid (L4.out.other hb5); have u1 := (L5.out.row 0 rfl).cell; have u2 := (L5.out.row 0 rfl).thaw; have L6 := Lib.hid (L5.out.put6 0 rfl rfl (.int .i64 19) (.int .i64 p) (.int .i64 (pos X c2)) (.string (textAt X.l q)) (.int .i64 q) (.slice (some ⟨w3.heap.size, 0, none⟩) 1 1)))
        | (go_at_call 221; have _ := mA; refine (named_any X c2 19 p q (some ⟨w2.heap.size, 0, none⟩) 1 1 _ L4.out.st hwl).mono ?_; rintro e w5 ⟨rfl, hb5⟩; have L5 := Lib.hid (L4.out.other hb5); have u1 := (L5.out.row 0 rfl).cell; have u2 := (L5.out.row 0 rfl).thaw; have L6 := Lib.hid (L5.out.put6 0 rfl rfl (.int .i64 19) (.int .i64 p) (.int .i64 (pos X c2)) (.string (textAt X.l q)) (.int .i64 q) (.slice (some ⟨w2.heap.size, 0, none⟩) 1 1)))
        | fail)
      all_goals
        have hf'' := HF.out
        have INV : Hid (InvL X P r p f' .postL c2 ⟨19, p, pos X c2, textAt X.l q, q⟩ (.one ⟨y1, y2, y3, y4, y5⟩ k)) := by
          refine ⟨fun h => ⟨HP.out, rfl, ?_⟩, HCONT.out.2⟩
          rw [pos_good h]
          exact HCONT.out.1 h
        have L7 := Lib.hid L6.out.K1
        clear HCONT HP HF u1 L2 L2d L4 L5 L6 LAd
        go_wp2_with fail
        go_roundg f'
        case measure => omega
        case rel => exact ⟨f', c2, _, 19, p, pos X c2, textAt X.l q, q, .one ⟨y1, y2, y3, y4, y5⟩ k, _, 1, rfl, by omega, by omega, INV.out, L7.out⟩
end Pg
end Go.Proofs.YthjflofcgdfekaaGreatDoor
