import Derived.Test.YthjflofcgdfekaaGreatDoorMBA
import Derived.Deep.LoopGhost
namespace Go.Proofs.YthjflofcgdfekaaGreatDoor
open Go.RowKit
namespace Pg
open Ps
def ListR (X : Cx) (P : Prop) (M : RT) (F : Nat) (args : Array Value) (I : World → Prop) (f : Nat) : Prop := ∀ (s : Sd) (w : World) (r : Fo × Sd), I w → (s.2 < 0 → P ∧ M f s.2 s.1 = some r) → (0 ≤ s.2 → r.2.2 = s.2) → PSt X w s →
  Calls Tryz.prog F args w (NodeQ X w r)
def NodesQ (X : Cx) (n : Nat) (w : World) (r : Fo × Sd) (e : Ending) (w' : World) : Prop :=
  ∃ v K, e = .returned v ∧ (∃ cs, w'.ownsRow w.heap.size 38 6 v K.len cs ∧ FC w' (fun g => w.heap.size ≤ g ∧ v.ownBlock ≠ some g) K cs) ∧ PSt X w' r.2 ∧ Fr X.rb w.heap.size w w' ∧ (r.2.2 < 0 → r.1 = K) ∧ K.len ≤ n
theorem own_low {w : World} {b b' e size n : Nat} {v : Value} {xs : List Value} (h : w.ownsRow b e size v n xs) (hb : b' ≤ b) : w.ownsRow b' e size v n xs := by
  refine ⟨h.1, ?_⟩
  rcases h.2 with h2 | ⟨g, cap, cur, rfl, h1, h2⟩
  · exact .inl h2
  · exact .inr ⟨g, cap, cur, rfl, by omega, h2⟩
theorem LS.give {X : Cx} {w0 w w' : World} {s s' : Sd} {Rs : List Row} {Ks : List Kid} {v : Value} {K : Fo} (h : LS X w0 w s Rs Ks (.slice none 0 0) .nil) (hS : PSt X w' s') (hF : Fr X.rb w.heap.size w w')
    (ho : ∃ cs, w'.ownsRow w.heap.size 38 6 v K.len cs ∧ FC w' (fun g => w.heap.size ≤ g ∧ v.ownBlock ≠ some g) K cs) : LS X w0 w' s' Rs Ks v K := by
  have h' := h.step hS hF
  have hsz := h.size
  obtain ⟨cs, o1, o2⟩ := ho
  have hk : ∀ k ∈ Ks, KV w' (PB w0.heap.size Rs v) k.1 k.2.1 k.2.2 := fun k hk => (h.kvs k hk).keep hF.size (fun g hg hl => ⟨hF.block g hl (by have := hg.1; have := h.rb; omega), hg.1, hg.2.1, fun e => by
    have := (o1.lt _ e).1
    omega⟩)
  have hf : FC w' (PB w0.heap.size Rs v) K cs := o2.keep (Nat.le_refl _) (fun g hg _ => ⟨rfl, by omega, fun p hp e => by
    have := (h.rows p hp).1.lt
    omega, hg.2⟩)
  have hr : ∀ p ∈ Rs, v.ownBlock ≠ some p.1 := fun p hp e => by
    have := (h.rows p hp).1.lt
    have := (o1.lt _ e).1
    omega
  exact ⟨h'.st, h'.fr, h'.rows, h'.nd, hk, ⟨cs, own_low o1 hsz, hf⟩, hr, h.rb⟩
def InvR (X : Cx) (P : Prop) (M : RT) (last : List UInt8) (r : Fo × Sd) (fk : Nat) (sk : Sd) (K : Fo) : Prop :=
  (sk.2 < 0 → P ∧ ∃ r', restM X.l M last fk sk.2 sk.1 = some r' ∧ r.1 = K.app r'.1 ∧ r.2 = wantM X.l r'.2.2 r'.2.1 last) ∧ (0 ≤ sk.2 → r.2.2 = sk.2)
theorem rest_bad {l : List Tok} {M : RT} {last : List UInt8} {f : Nat} {b : Int} {i : Nat} {r : Fo × Nat × Int} (h : restM l M last f b i = some r) (hb : 0 ≤ b) : r = (.nil, i, b) := by
  unfold restM at h
  rw [if_pos (.inl hb)] at h
  injection h with h; exact h.symm
theorem InvR.next {X : Cx} {P : Prop} {M : RT} {last : List UInt8} {r t r' r'' : Fo × Sd} {f' : Nat} {K : Fo} {h : Hd} {k : Fo} (hP : P) (h1 : restM X.l M last f' t.2.2 t.2.1 = some r'') (h2 : r' = (t.1.app r''.1, r''.2)) (h3 : r.1 = K.app r'.1) (h4 : r.2 = wantM X.l r'.2.2 r'.2.1 last) (hn : t.2.2 < 0 → t.1 = .one h k) :
    InvR X P M last r f' t.2 (K.app (.one h k)) := by
  refine ⟨fun hb => ⟨hP, r'', h1, ?_, ?_⟩, fun hb => ?_⟩
  · rw [h3, h2, hn hb, Fo.app_assoc]
  · rw [h4, h2]
  · have := rest_bad h1 hb
    rw [h4, h2, this]
    dsimp only
    rw [wantM_bad hb]
set_option maxHeartbeats 4000000 in
set_option maxRecDepth 100000 in
theorem list_q (X : Cx) (P : Prop) (M : RT) (last : ByteArray) (f : Nat) (hf : f ≤ 1000000) (hlast : last.data.toList ∈ lits) (hne : sCom ≠ last.data.toList) (F : Nat) (bnd caps : Array Value) (I : World → Prop)
    (hI : ∀ w w', I w → Fr X.rb w.heap.size w w' → I w') (eF : ∀ w, (callFunc F (bnd ++ caps)).run Tryz.prog w = .ok (.enter F (bnd ++ caps)) w) (IR : ∀ f', f' ≤ f → ListR X P M F (bnd ++ caps) I f') (s : Sd) (w : World) (r : Fo × Sd) (hi : I w)
    (hr1 : s.2 < 0 → P ∧ ∃ q, listM X.l M last.data.toList f true s.2 s.1 = some q ∧ r = (q.1, wantM X.l q.2.2 q.2.1 last.data.toList)) (hr2 : 0 ≤ s.2 → r.2.2 = s.2) (hS : PSt X w s) :
    Calls Tryz.prog 250 #[X.p, .string last, .func (.func F) bnd caps] w (NodesQ X (f + 1) w r) := by
  have LS0 := Lib.hid (LS.start hS)
  have HI := Lib.hid hI
  have HII := Lib.hid hi
  have HIR := Lib.hid IR
  have HL := Lib.hid hlast
  have HNE := Lib.hid hne
  cases q : tk X s last.data.toList
  · have CT := Lib.hid (take_no X s last w hS hlast q)
    obtain ⟨f0, t, ht1, ht2, hf0, hinv⟩ : ∃ (f0 : Nat) (t : Fo × Sd), (s.2 < 0 → P ∧ M f0 s.2 s.1 = some t) ∧ (0 ≤ s.2 → t.2.2 = s.2) ∧ f0 ≤ f ∧ (∀ h k, (t.2.2 < 0 → t.1 = .one h k) → InvR X P M last.data.toList r f0 t.2 (.one h k)) := by
      by_cases hs : 0 ≤ s.2
      · exact ⟨f, (.nil, s), fun h => absurd h (by omega), fun _ => rfl, Nat.le_refl _, fun h k _ => ⟨fun h => absurd h (by dsimp only; omega), fun _ => hr2 hs⟩⟩
      · have hs' : s.2 < 0 := by omega
        obtain ⟨hP, qq, hq, hrq⟩ := hr1 hs'
        have hnl := (tk_bad q).resolve_left hs
        obtain ⟨f', t, r', e1, e2, e3, e4⟩ := list_step hq hs' (by rw [hnl]; simp)
        refine ⟨f', t, fun _ => ⟨hP, e2⟩, fun h => absurd h hs, by omega, fun h k hn => ?_⟩
        have := InvR.next (r := r) (K := .nil) (r' := qq) hP e3 e4 (by rw [hrq]; rfl) (by rw [hrq]) hn
        exact this
    have C1 : Hid (∀ w', I w' → PSt X w' s → Calls Tryz.prog F (bnd ++ caps) w' (NodeQ X w' t)) := fun w' h1 h2 => IR f0 hf0 s w' t h1 ht1 ht2 h2
    have HINV := Lib.hid hinv
    clear hS hr1 hr2 hlast hne q ht1 ht2 hinv hI hi IR
    go_enter Tryz.func250, Tryz.ntmps250
    go_wp2_with fail
    refine CT.out.mono ?_
    rintro e w1 ⟨rfl, hS1, hF1⟩
    have L1 := Lib.hid (LS0.out.step hS1 hF1)
    have I1 := Lib.hid (HI.out _ _ HII.out hF1)
    clear hS1 hF1 CT
    go_wp2_with fail
    refine (C1.out _ I1.out L1.out.st).mono ?_
    rintro e w2 ⟨h1, k1, A1, c1, rfl, hK1, hS2, hF2, hN1⟩
    have L2 := Lib.hid (L1.out.kid hS2 hF2 hK1)
    have L3 := Lib.hid (L2.out.lit (k := .one h1 k1) (cs := ncc h1 A1 k1.len c1) (FC.one (L2.out.kidP 0 rfl)) w2.heap.size rfl (show 1 ≤ maxLen by unfold maxLen; omega)).noK
    have I3 := Lib.hid (HI.out _ _ HII.out L3.out.fr)
    have INV0 := Lib.hid (HINV.out h1 k1 hN1)
    obtain ⟨x1, x2, x3, x4, x5⟩ := h1
    clear hK1 hS2 hF2 hN1 HINV C1 L1 L2 I1
    go_wp2_with fail
    go_loopg [7] (f + 1) (fun kx s7 wr => ∃ (fk : Nat) (sk : Sd) (Kk : Fo) (u : Value), u = s7 ∧ fk ≤ kx ∧ Kk.len + fk ≤ f + 1 ∧ Hid (InvR X P M last.data.toList r fk sk Kk) ∧ Hid (I wr) ∧ Hid (LS X w wr sk [] [] s7 Kk))
    case atStart => exact ⟨f0, t.2, .one ⟨x1, x2, x3, x4, x5⟩ k1, _, rfl, by omega, by show 1 + f0 ≤ f + 1; omega, INV0.out, I3.out, L3.out⟩
    case round =>
      obtain ⟨fk, sk, Kk, u, rfl, hkx, hlen, HG, HJ, LK⟩ := hrel
      cases qc : tk X sk sCom
      · have CT := Lib.hid (take_no X sk ⟨#[44]⟩ _ LK.out.st (by decide) qc)
        have QC := Lib.hid (tk_bad qc)
        clear qc
        go_wp2_with fail
        refine CT.out.mono ?_
        rintro e w3 ⟨rfl, hS3, hF3⟩
        have L4 := Lib.hid (LK.out.step hS3 hF3)
        have CW := Lib.hid (want_any X sk last w3 hS3 HL.out)
        clear hS3 hF3 CT
        go_wp2_with fail
        refine CW.out.mono ?_
        rintro e w4 ⟨rfl, hS4, hF4⟩
        have L5 := Lib.hid (L4.out.step hS4 hF4)
        clear hS4 hF4 CW
        go_wp2
        go_ret
        obtain ⟨cs, o1, o2⟩ := L5.out.own
        refine ⟨u, Kk, rfl, ⟨cs, o1, o2.keep (Nat.le_refl _) (fun g hg _ => ⟨rfl, hg.1, hg.2.2⟩)⟩, PSt.to L5.out.st (fun h => ?_) (fun h => ?_), L5.out.fr, fun h => ?_, by omega⟩
        · have hs : sk.2 < 0 := by
            by_cases hh : sk.2 < 0
            · exact hh
            · unfold wantS at h; rw [wantM_bad (by omega)] at h; exact absurd h hh
          obtain ⟨hP, r', g1, g2, g3⟩ := HG.out.1 hs
          rw [g3, (rest_stop g1 (.inr (QC.out.resolve_left (by omega)))).2]
          rfl
        · by_cases hh : sk.2 < 0
          · obtain ⟨hP, r', g1, g2, g3⟩ := HG.out.1 hh
            rw [g3, (rest_stop g1 (.inr (QC.out.resolve_left (by omega)))).2]
            rfl
          · rw [HG.out.2 (by omega)]
            unfold wantS
            rw [wantM_bad (by omega)]
        · by_cases hh : sk.2 < 0
          · obtain ⟨hP, r', g1, g2, g3⟩ := HG.out.1 hh
            rw [g2, (rest_stop g1 (.inr (QC.out.resolve_left (by omega)))).1, Fo.app_nil]
          · rw [HG.out.2 (by omega)] at h; exact absurd h hh
      · obtain ⟨hg, hm⟩ := tk_good qc
        obtain ⟨hP, rr', g1, g2, g3⟩ := HG.out.1 hg
        obtain ⟨f', tt, r'', e1, e2, e3, e4⟩ := rest_go g1 hg hm HNE.out
        have CT := Lib.hid (take_yes X sk ⟨#[44]⟩ _ LK.out.st (by decide) qc)
        have C2 : Hid (∀ w', I w' → PSt X w' (sk.1 + 1, sk.2) → Calls Tryz.prog F (bnd ++ caps) w' (NodeQ X w' tt)) := fun w' h1 h2 => HIR.out f' (by omega) (sk.1 + 1, sk.2) w' tt h1 (fun _ => ⟨hP, e2⟩) (fun h => absurd h (by dsimp only; omega)) h2
        have HINV2 := Lib.hid (fun (h : Hd) (k : Fo) (hn : tt.2.2 < 0 → tt.1 = .one h k) => InvR.next (r := r) (K := Kk) hP e3 e4 g2 g3 hn)
        have HF := Lib.hid e1
        clear qc hg hm hP g1 g2 g3 e1 e2 e3 e4 HG
        go_wp2_with fail
        refine CT.out.mono ?_
        rintro e w3 ⟨rfl, hS3, hF3⟩
        have L4 := Lib.hid (LK.out.step hS3 hF3)
        have I4 := Lib.hid (HI.out _ _ HII.out L4.out.fr)
        clear hS3 hF3 CT
        go_wp2_with fail
        refine (C2.out _ I4.out L4.out.st).mono ?_
        rintro e w5 ⟨h5, k5, A5, c5, rfl, hK5, hS5, hF5, hN5⟩
        have INV := Lib.hid (HINV2.out h5 k5 hN5)
        obtain ⟨z1, z2, z3, z4, z5⟩ := h5
        have M6 := Lib.hid ((L4.out.kid hS5 hF5 hK5).other (bel1 _ (.cells (ncc ⟨z1, z2, z3, z4, z5⟩ A5 k5.len c5) 38)))
        obtain ⟨cs, o1, o2⟩ := M6.out.own
        have O1 := Lib.hid o1
        have O2 := Lib.hid o2
        obtain ⟨AK, cK, eK, hcK, _⟩ := M6.out.list
        subst eK
        obtain ⟨i0, hi0, hz0, hz1, hz2⟩ := info_parts info25
        have b5 := Lib.hid M6.out.size
        have b3' : Kk.len + 1 ≤ maxLen := by unfold maxLen; omega
        have b4' : (Kk.len + 1) * 72 ≤ 140737488355328 := by omega
        have CN := Lib.hid (cells_nd w5 (.int .i64 z1) (.int .i64 z2) (.int .i64 z3) (.string z4) (.int .i64 z5) (.slice A5 k5.len c5))
        clear o1 o2 hK5 hS5 hF5 hN5 HINV2 C2 I4 L4
        go_wp2_with (at_builtin; refine wpList_append_at rfl (.tmp 16) (.tmp 19) 36 rfl w.heap.size 38 i0 (.agg #[.int .i64 0, .int .i64 0, .int .i64 0, .string ⟨#[]⟩, .int .i64 0, .slice none 0 0]) 6 72 Tryz.underlying36 hi0 hz0 hz1 hz2 rfl (by decide) _ Kk.len cs rfl O1.out ⟨w5.heap.size, 0, none⟩ 1 1 [.int .i64 z1, .int .i64 z2, .int .i64 z3, .string z4, .int .i64 z5, .slice A5 k5.len c5] rfl rfl (by simpa using CN.out) (one_nd ⟨z1, z2, z3, z4, z5⟩ _ _ _) b3' b4' b5.out ?_)
        intro v' w7 hown' hgrow hat
        have M7 := Lib.hid (M6.out.push ⟨O1.out, O2.out⟩ (k := .one ⟨z1, z2, z3, z4, z5⟩ k5) (FC.one (M6.out.kidP 0 rfl)) hown' hgrow (fun j hj => by
          rcases hat j hj with h | h
          · exact .inl h
          · exact .inr (by simpa using h))).noK
        have I7 := Lib.hid (HI.out _ _ HII.out M7.out.fr)
        have hKl : (Kk.app (.one ⟨z1, z2, z3, z4, z5⟩ k5)).len = Kk.len + 1 := by rw [Fo.len_app]; rfl
        have HKL := Lib.hid hKl
        have hf1 := HF.out
        clear hown' hgrow hat b3' b4' b5 CN O1 O2 M6 hKl
        go_wp2_with fail
        go_roundg f'
        case measure => omega
        case rel => exact ⟨f', tt.2, Kk.app (.one ⟨z1, z2, z3, z4, z5⟩ k5), _, rfl, by omega, by rw [HKL.out]; omega, INV.out, I7.out, M7.out⟩
  · have CT := Lib.hid (take_yes X s last w hS hlast q)
    obtain ⟨hg, hm⟩ := tk_good q
    obtain ⟨hP, qq, hq, hrq⟩ := hr1 hg
    have hql := list_first hq hm
    have hR : r = (.nil, (s.1 + 1, s.2)) := by
      rw [hrq, hql]
      dsimp only
      unfold wantM
      rw [if_neg (by omega), if_pos hm]
    have HR := Lib.hid hR
    clear hS hr1 hr2 hlast hne q hI hi IR hg hm hP hq hrq hql hR
    go_enter Tryz.func250, Tryz.ntmps250
    go_wp2_with fail
    refine CT.out.mono ?_
    rintro e w1 ⟨rfl, hS1, hF1⟩
    have S1 := Lib.hid hS1
    have F1 := Lib.hid hF1
    clear hS1 hF1
    go_wp2
    go_ret
    exact ⟨_, .nil, rfl, ⟨[], World.ownsRow_nil _ _ _ _, by rw [FC]⟩, by rw [HR.out]; exact S1.out, F1.out, fun _ => by rw [HR.out], Nat.zero_le _⟩
end Pg
end Go.Proofs.YthjflofcgdfekaaGreatDoor
namespace Go.Proofs.YthjflofcgdfekaaGreatDoor
open Go.RowKit
namespace Pg
open Ps
theorem wordM_snd {l : List Tok} (b : Int) (h h' : Hd) (i : Nat) : (wordM l b h i).2 = (wordM l b h' i).2 := by
  unfold wordM
  split
  · rfl
  · split <;> rfl
theorem wordS_good {X : Cx} {s : Sd} (h : (wordS X s).2 < 0) : s.2 < 0 ∧ wat X s = s.1 ∧ wordS X s = (s.1 + 1, s.2) ∧ ∀ hd, (wordM X.l s.2 hd s.1).1 = { hd with word := textAt X.l s.1, at_ := s.1 } := by
  unfold wordS at h
  have h1 := wordM_good h
  refine ⟨h1.1, ?_, ?_, fun hd => ?_⟩
  · unfold wat hasK
    rw [decide_eq_true h1.1, h1.2.1]
    rfl
  · unfold wordS
    rw [h1.2.2]
  · have h2 : (wordM X.l s.2 hd s.1).2.2 < 0 := by rw [wordM_snd s.2 hd ⟨0, 0, 0, e0, 0⟩ s.1]; exact h
    rw [(wordM_good h2).2.2]
theorem wordS_bad {X : Cx} {s : Sd} (h : 0 ≤ s.2) : wordS X s = s := by unfold wordS; rw [wordM_bad h]
theorem wantS_bad {X : Cx} {s : Sd} {x : List UInt8} (h : 0 ≤ s.2) : wantS X s x = s := by unfold wantS; rw [wantM_bad h]
theorem wantS_good {X : Cx} {s : Sd} {x : List UInt8} (h : (wantS X s x).2 < 0) : s.2 < 0 ∧ isM X.l s.1 x = true ∧ wantS X s x = (s.1 + 1, s.2) := wantM_good h
def Keeps (M : RT) : Prop := ∀ (f : Nat) (b : Int) (i : Nat) (r : Fo × Nat × Int), 0 ≤ b → M f b i = some r → r.2.2 = b
theorem lab_pure {X : Cx} {P : Prop} {M : RT} {kd f : Nat} {s : Sd} {r : Fo × Sd} (hM : Keeps M) (h1 : s.2 < 0 → P ∧ labR X.l kd M f s.2 s.1 = some r) (h2 : 0 ≤ s.2 → r.2.2 = s.2) :
    ∃ t : Fo × Sd, ((wantS X (wordS X s) sCol).2 < 0 → P ∧ M f (wantS X (wordS X s) sCol).2 (wantS X (wordS X s) sCol).1 = some t) ∧ (0 ≤ (wantS X (wordS X s) sCol).2 → t.2.2 = (wantS X (wordS X s) sCol).2) ∧
      (t.2.2 < 0 → r = (.one ⟨kd, pos X s, t.2.1, textAt X.l (wat X s), wat X s⟩ t.1, t.2)) ∧ (0 ≤ t.2.2 → r.2.2 = t.2.2) := by
  by_cases hs : 0 ≤ s.2
  · rw [wordS_bad hs, wantS_bad hs]
    exact ⟨(.nil, s), fun h => absurd h (by omega), fun _ => rfl, fun h => absurd h (by dsimp only; omega), fun _ => h2 hs⟩
  · obtain ⟨hP, h⟩ := h1 (by omega)
    unfold labR at h
    dsimp only at h
    obtain ⟨t, ht, h⟩ := Option.bind_eq_some_iff.1 h
    have e1 : wantM X.l (wordM X.l s.2 ⟨kd, s.1, 0, e0, 0⟩ s.1).2.2 (wordM X.l s.2 ⟨kd, s.1, 0, e0, 0⟩ s.1).2.1 sCol = wantS X (wordS X s) sCol := by
      unfold wantS wordS
      rw [wordM_snd s.2 ⟨kd, s.1, 0, e0, 0⟩ ⟨0, 0, 0, e0, 0⟩ s.1]
    rw [e1] at ht
    injection h with h
    refine ⟨t, fun _ => ⟨hP, ht⟩, fun hb => hM _ _ _ _ hb ht, fun hg => ?_, fun _ => by rw [← h]⟩
    have hy : (wantS X (wordS X s) sCol).2 < 0 := by
      by_cases hh : 0 ≤ (wantS X (wordS X s) sCol).2
      · have := hM _ _ _ _ hh ht; omega
      · omega
    obtain ⟨g1, g2, g3, g4⟩ := wordS_good (wantS_good hy).1
    rw [← h, g4, g2, pos_good g1]
set_option maxHeartbeats 2000000 in
theorem labelled_any (X : Cx) (kd F : Nat) (w : World) :
    Calls Tryz.prog 265 #[X.p, .int .i64 kd, .func (.func F) #[X.p] #[]] w fun e w' => e = .returned (.func (.func 279) #[] #[.pointer (some ⟨w.heap.size, 0, none⟩), .pointer (some ⟨w.heap.size + 1, 0, none⟩), .pointer (some ⟨w.heap.size + 2, 0, none⟩)]) ∧
      w' = ((w.alloc (.cells #[X.p] 218)).alloc (.cells #[.int .i64 kd] 3)).alloc (.cells #[.func (.func F) #[X.p] #[]] 222) := by
  go_enter Tryz.func265, Tryz.ntmps265
  go_wp2_with fail
  go_ret
  exact ⟨rfl, rfl⟩
def LabI (X : Cx) (kd F b0 : Nat) (w : World) : Prop := X.rb < b0 ∧ RowB w b0 218 #[X.p] ∧ RowB w (b0 + 1) 3 #[.int .i64 kd] ∧ RowB w (b0 + 2) 222 #[.func (.func F) #[X.p] #[]]
theorem LabI.keep {X : Cx} {kd F b0 : Nat} {w w' : World} (h : LabI X kd F b0 w) (hf : Fr X.rb w.heap.size w w') : LabI X kd F b0 w' :=
  ⟨h.1, hf.row h.2.1 h.2.1.lt (by have := h.1; omega), hf.row h.2.2.1 h.2.2.1.lt (by have := h.1; omega), hf.row h.2.2.2 h.2.2.2.lt (by have := h.1; omega)⟩
theorem LabI.new {X : Cx} {kd F : Nat} {w : World} (hrb : X.rb < w.heap.size) : LabI X kd F w.heap.size (((w.alloc (.cells #[X.p] 218)).alloc (.cells #[.int .i64 kd] 3)).alloc (.cells #[.func (.func F) #[X.p] #[]] 222)) := by
  refine ⟨hrb, ((RowB.new w 218 #[X.p]).alloc _).alloc _, ?_, ?_⟩
  · have := (RowB.new (w.alloc (.cells #[X.p] 218)) 3 #[.int .i64 kd]).alloc (.cells #[.func (.func F) #[X.p] #[]] 222)
    simpa using this
  · have := RowB.new ((w.alloc (.cells #[X.p] 218)).alloc (.cells #[.int .i64 kd] 3)) 222 #[.func (.func F) #[X.p] #[]]
    simpa using this
set_option maxHeartbeats 4000000 in
set_option maxRecDepth 100000 in
theorem lab_q (X : Cx) (P : Prop) (M : RT) (hM : Keeps M) (kd F b0 f : Nat) (eF : ∀ w, (callFunc F #[X.p]).run Tryz.prog w = .ok (.enter F #[X.p]) w) (IR : RuleQ X P (fun s => M f s.2 s.1) F) :
    ListR X P (labR X.l kd M) 279 #[.pointer (some ⟨b0, 0, none⟩), .pointer (some ⟨b0 + 1, 0, none⟩), .pointer (some ⟨b0 + 2, 0, none⟩)] (LabI X kd F b0) f := by
  intro s w r hi hr1 hr2 hS
  obtain ⟨t, ht1, ht2, hrt, hrb2⟩ := lab_pure hM hr1 hr2
  have L0 := Lib.hid ((LS.start hS).alloc w.heap.size rfl 38 zcc)
  have I0 := Lib.hid (hi.keep (L0.out.fr))
  have rr := hS.row.cell
  have hrb := hS.lt
  have hl := hS.len
  have hpl := hS.pos_lt
  have hwl := wat_lt hS
  have CW := Lib.hid (word_any X s _ L0.out.st)
  have C3 : Hid (∀ w', PSt X w' (wantS X (wordS X s) sCol) → Calls Tryz.prog F #[X.p] w' (NodeQ X w' t)) := fun w' h => IR _ w' t ht1 ht2 h
  have HRT := Lib.hid hrt
  have HRB := Lib.hid hrb2
  have z0 := I0.out.2.1.cell
  have hb0 := I0.out.2.1.lt
  have hb1 := I0.out.2.2.1.lt
  have hb2 := I0.out.2.2.2.lt
  have hi1 := hi.2.1.lt
  have HIW := Lib.hid hi
  clear hr1 hr2 ht1 ht2 hrt hrb2 hS IR hi
  generalize hwa : wat X s = q at *
  generalize hpa : pos X s = p at *
  clear hwa hpa
  go_enter Tryz.func279, Tryz.ntmps279
  go_wp2_with fail
  refine CW.out.mono ?_
  rintro e w1 ⟨rfl, hS1, hF1⟩
  have L1 := Lib.hid (L0.out.step hS1 hF1)
  have I1 := Lib.hid (I0.out.keep hF1)
  have z1 := I1.out.2.1.cell
  have CC := Lib.hid (want_any X _ ⟨#[58]⟩ w1 hS1 (by decide))
  clear hS1 hF1 CW z0 I0
  go_wp2_with fail
  refine CC.out.mono ?_
  rintro e w2 ⟨rfl, hS2, hF2⟩
  have L2 := Lib.hid (L1.out.step hS2 hF2)
  have I2 := Lib.hid (I1.out.keep hF2)
  have L2d : Hid (LS X w w2.drew (wantS X (wordS X s) sCol) _ _ _ _) := L2.out.other ((Below.refl _ _).drew)
  have I2d : Hid (LabI X kd F b0 w2.drew) := I2.out.keep (Fr.of ((Below.refl _ _).drew))
  clear hS2 hF2 CC z1 I1
  go_wp2_with fail
  have K0 : (∀ o, w2.drew.cell? ⟨b0, o, none⟩ = #[X.p][o]?) ∧ (∀ o, w2.drew.cell? ⟨b0 + 1, o, none⟩ = #[Value.int .i64 kd][o]?) ∧ (∀ o, w2.drew.cell? ⟨b0 + 2, o, none⟩ = #[Value.func (.func F) #[X.p] #[]][o]?) := ⟨I2d.out.2.1.cell, I2d.out.2.2.1.cell, I2d.out.2.2.2.cell⟩
  have KEEP := Lib.hid (fun w' (h : LabI X kd F b0 w') => (⟨h.2.1.cell, h.2.2.1.cell, h.2.2.2.cell⟩ : (∀ o, w'.cell? ⟨b0, o, none⟩ = #[X.p][o]?) ∧ (∀ o, w'.cell? ⟨b0 + 1, o, none⟩ = #[Value.int .i64 kd][o]?) ∧ (∀ o, w'.cell? ⟨b0 + 2, o, none⟩ = #[Value.func (.func F) #[X.p] #[]][o]?)))
  go_region_held3 (fun w' => (∀ o, w'.cell? ⟨b0, o, none⟩ = #[X.p][o]?) ∧ (∀ o, w'.cell? ⟨b0 + 1, o, none⟩ = #[Value.int .i64 kd][o]?) ∧ (∀ o, w'.cell? ⟨b0 + 2, o, none⟩ = #[Value.func (.func F) #[X.p] #[]][o]?))
    (first
      | (with_reducible exact KEEP.out _ I6.out)
      | (with_reducible exact KEEP.out _ I5.out)
      | (with_reducible exact KEEP.out _ I4.out)
      | (with_reducible exact KEEP.out _ I3.out)
      | (with_reducible exact K0))
    (first
      | (go_at_call 221; refine (named_any X t.2 kd p q (some ⟨w3.heap.size, 0, none⟩) 1 1 _ L4.out.st hwl).mono ?_; rintro e w5 ⟨rfl, hb5⟩; have L5 := Lib.hid (L4.out.other hb5); have I5 := Lib.hid (HIW.out.keep L5.out.fr); have L6 := Lib.hid (L5.out.put6 0 rfl rfl (.int .i64 kd) (.int .i64 p) (.int .i64 (pos X t.2)) (.string (textAt X.l q)) (.int .i64 q) (.slice (some ⟨w3.heap.size, 0, none⟩) 1 1)); have I6 := Lib.hid (HIW.out.keep L6.out.fr); have u1 := (L5.out.row 0 rfl).cell; have u2 := (L5.out.row 0 rfl).thaw)
      | (refine (C3.out _ L2d.out.st).mono ?_; rintro e w3 ⟨h3, k3, A3, c3, rfl, hK3, hS3, hF3, hN3⟩; obtain ⟨y1, y2, y3, y4, y5⟩ := h3; have L3 := Lib.hid (L2d.out.kid hS3 hF3 hK3); have I3 := Lib.hid (I2d.out.keep hF3); have L4 := Lib.hid (L3.out.slice w3.heap.size rfl (k := .one ⟨y1, y2, y3, y4, y5⟩ k3) (cs := ncc ⟨y1, y2, y3, y4, y5⟩ A3 k3.len c3) (FC.one (L3.out.kidP 0 rfl))); have I4 := Lib.hid (HIW.out.keep L4.out.fr))
      | fail)
  go_wp2
  refine bodyPost_ret ?_ rfl ⟨⟨kd, p, pos X t.2, textAt X.l q, q⟩, .one ⟨y1, y2, y3, y4, y5⟩ k3, some ⟨w3.heap.size, 0, none⟩, 1, rfl, (L6.out.kidP 0 rfl).new_ (fun g h => h.1), PSt.to L6.out.st (fun h => by rw [HRT.out h]) HRB.out, L6.out.fr, ?_⟩
  · simp [results, Tryz.results279, go_sem, u1]
    rfl
  · intro hh
    by_cases h : t.2.2 < 0
    · rw [HRT.out h, hN3 h, pos_good h]
    · rw [HRB.out (by omega)] at hh; exact absurd hh h
end Pg
end Go.Proofs.YthjflofcgdfekaaGreatDoor
