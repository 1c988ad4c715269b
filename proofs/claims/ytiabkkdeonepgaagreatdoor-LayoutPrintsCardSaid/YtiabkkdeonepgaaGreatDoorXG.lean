import Derived.Test.YtiabkkdeonepgaaGreatDoorXE
import Derived.Deep.LoopGhost
set_option maxRecDepth 100000
namespace Go.Proofs.YtiabkkdeonepgaaGreatDoor
open Go.RowKit
namespace Pg
open Ps
def ListR (X : Cx) (P : Prop) (M : RT) (F : Nat) (args : Array Value) (I : World → Prop) (f : Nat) : Prop := ∀ (s : Sd) (w : World) (r : Fo × Sd), I w → (s.2 < 0 → P ∧ M f s.2 s.1 = some r) → (0 ≤ s.2 → r.2.2 = s.2) → PSt X w s →
  Calls Tryz.prog F args w (NodeQ X w r)
def NodesQ (X : Cx) (n : Nat) (w : World) (r : Fo × Sd) (e : Ending) (w' : World) : Prop :=
  ∃ v K, e = .returned v ∧ (∃ cs, w'.ownsRow w.heap.size 25 6 v K.len cs ∧ FC w' (fun g => w.heap.size ≤ g ∧ v.ownBlock ≠ some g) K cs) ∧ PSt X w' r.2 ∧ Fr X.rb w.heap.size w w' ∧ (r.2.2 < 0 → r.1 = K) ∧ K.len ≤ n
theorem own_low {w : World} {b b' e size n : Nat} {v : Value} {xs : List Value} (h : w.ownsRow b e size v n xs) (hb : b' ≤ b) : w.ownsRow b' e size v n xs := by
  refine ⟨h.1, ?_⟩
  rcases h.2 with h2 | ⟨g, cap, cur, rfl, h1, h2⟩
  · exact .inl h2
  · exact .inr ⟨g, cap, cur, rfl, by omega, h2⟩
theorem LS.give {X : Cx} {w0 w w' : World} {s s' : Sd} {Rs : List Row} {Ks : List Kid} {v : Value} {K : Fo} (h : LS X w0 w s Rs Ks (.slice none 0 0) .nil) (hS : PSt X w' s') (hF : Fr X.rb w.heap.size w w')
    (ho : ∃ cs, w'.ownsRow w.heap.size 25 6 v K.len cs ∧ FC w' (fun g => w.heap.size ≤ g ∧ v.ownBlock ≠ some g) K cs) : LS X w0 w' s' Rs Ks v K := by
  have h' := h.step hS hF
  have hsz := h.size
  obtain ⟨cs, o1, o2⟩ := ho
  have hk : ∀ k ∈ Ks, KV w' (PB w0.heap.size Rs v) k.1 k.2.1 k.2.2 := fun k hk => (h.kvs k hk).keep hF.size (fun g hg hl => ⟨hF.block g hl (by have := hg.1; have := h.rb; omega), hg.1, hg.2.1, fun e => by
    have := (o1.lt _ e).1
    omega⟩)
  have hf : FC w' (PB w0.heap.size Rs v) K cs := o2.keep (Nat.le_refl _) (fun g hg _ => ⟨rfl, by omega, fun p hp e => by
    have := (h.rows p hp).1.lt
    omega, hg.2⟩)
  have hr : ∀ p ∈ Rs, v.ownBlock ≠ some p.1 := fun p hp e => by
    have := (h.rows p hp).1.lt
    have := (o1.lt _ e).1
    omega
  exact ⟨h'.st, h'.fr, h'.rows, h'.nd, hk, ⟨cs, own_low o1 hsz, hf⟩, hr, h.rb⟩
def InvR (X : Cx) (P : Prop) (M : RT) (last : List UInt8) (r : Fo × Sd) (fk : Nat) (sk : Sd) (K : Fo) : Prop :=
  (sk.2 < 0 → P ∧ ∃ r', restM X.l M last fk sk.2 sk.1 = some r' ∧ r.1 = K.app r'.1 ∧ r.2 = wantM X.l r'.2.2 r'.2.1 last) ∧ (0 ≤ sk.2 → r.2.2 = sk.2)
theorem rest_bad {l : List Tok} {M : RT} {last : List UInt8} {f : Nat} {b : Int} {i : Nat} {r : Fo × Nat × Int} (h : restM l M last f b i = some r) (hb : 0 ≤ b) : r = (.nil, i, b) := by
  unfold restM at h
  rw [if_pos (.inl hb)] at h
  injection h with h; exact h.symm
theorem InvR.next {X : Cx} {P : Prop} {M : RT} {last : List UInt8} {r t r' r'' : Fo × Sd} {f' : Nat} {K : Fo} {h : Hd} {k : Fo} (hP : P) (h1 : restM X.l M last f' t.2.2 t.2.1 = some r'') (h2 : r' = (t.1.app r''.1, r''.2)) (h3 : r.1 = K.app r'.1) (h4 : r.2 = wantM X.l r'.2.2 r'.2.1 last) (hn : t.2.2 < 0 → t.1 = .one h k) :
    InvR X P M last r f' t.2 (K.app (.one h k)) := by
  refine ⟨fun hb => ⟨hP, r'', h1, ?_, ?_⟩, fun hb => ?_⟩
  · rw [h3, h2, hn hb, Fo.app_assoc]
  · rw [h4, h2]
  · have := rest_bad h1 hb
    rw [h4, h2, this]
    dsimp only
    rw [wantM_bad hb]
set_option maxHeartbeats 4000000 in
theorem list_q (X : Cx) (P : Prop) (M : RT) (last : ByteArray) (f : Nat) (hf : f ≤ 1000000) (hlast : last.data.toList ∈ lits) (hne : sCom ≠ last.data.toList) (F : Nat) (bnd caps : Array Value) (I : World → Prop)
    (hI : ∀ w w', I w → Fr X.rb w.heap.size w w' → I w') (eF : ∀ w, (callFunc F (bnd ++ caps)).run Tryz.prog w = .ok (.enter F (bnd ++ caps)) w) (IR : ∀ f', f' ≤ f → ListR X P M F (bnd ++ caps) I f') (s : Sd) (w : World) (r : Fo × Sd) (hi : I w)
    (hr1 : s.2 < 0 → P ∧ ∃ q, listM X.l M last.data.toList f true s.2 s.1 = some q ∧ r = (q.1, wantM X.l q.2.2 q.2.1 last.data.toList)) (hr2 : 0 ≤ s.2 → r.2.2 = s.2) (hS : PSt X w s) :
    Calls Tryz.prog 119 #[X.p, .string last, .func (.func F) bnd caps] w (NodesQ X (f + 1) w r) := by
  have LS0 := Lib.hid (LS.start hS)
  have HI := Lib.hid hI
  have HII := Lib.hid hi
  have HIR := Lib.hid IR
  have HL := Lib.hid hlast
  have HNE := Lib.hid hne
  cases q : tk X s last.data.toList
  · have CT := Lib.hid (take_no X s last w hS hlast q)
    obtain ⟨f0, t, ht1, ht2, hf0, hinv⟩ : ∃ (f0 : Nat) (t : Fo × Sd), (s.2 < 0 → P ∧ M f0 s.2 s.1 = some t) ∧ (0 ≤ s.2 → t.2.2 = s.2) ∧ f0 ≤ f ∧ (∀ h k, (t.2.2 < 0 → t.1 = .one h k) → InvR X P M last.data.toList r f0 t.2 (.one h k)) := by
      by_cases hs : 0 ≤ s.2
      · exact ⟨f, (.nil, s), fun h => absurd h (by omega), fun _ => rfl, Nat.le_refl _, fun h k _ => ⟨fun h => absurd h (by dsimp only; omega), fun _ => hr2 hs⟩⟩
      · have hs' : s.2 < 0 := by omega
        obtain ⟨hP, qq, hq, hrq⟩ := hr1 hs'
        have hnl := (tk_bad q).resolve_left hs
        obtain ⟨f', t, r', e1, e2, e3, e4⟩ := list_step hq hs' (by rw [hnl]; simp)
        refine ⟨f', t, fun _ => ⟨hP, e2⟩, fun h => absurd h hs, by omega, fun h k hn => ?_⟩
        have := InvR.next (r := r) (K := .nil) (r' := qq) hP e3 e4 (by rw [hrq]; rfl) (by rw [hrq]) hn
        exact this
    have C1 : Hid (∀ w', I w' → PSt X w' s → Calls Tryz.prog F (bnd ++ caps) w' (NodeQ X w' t)) := fun w' h1 h2 => IR f0 hf0 s w' t h1 ht1 ht2 h2
    have HINV := Lib.hid hinv
    clear hS hr1 hr2 hlast hne q ht1 ht2 hinv hI hi IR
    go_enter Tryz.func119, Tryz.ntmps119
    go_wp2_with fail
    refine CT.out.mono ?_
    rintro e w1 ⟨rfl, hS1, hF1⟩
    have L1 := Lib.hid (LS0.out.step hS1 hF1)
    have I1 := Lib.hid (HI.out _ _ HII.out hF1)
    clear hS1 hF1 CT
    go_wp2_with fail
    refine (C1.out _ I1.out L1.out.st).mono ?_
    rintro e w2 ⟨h1, k1, A1, c1, rfl, hK1, hS2, hF2, hN1⟩
    have L2 := Lib.hid (L1.out.kid hS2 hF2 hK1)
    have L3 := Lib.hid (L2.out.lit (k := .one h1 k1) (cs := ncc h1 A1 k1.len c1) (FC.one (L2.out.kidP 0 rfl)) w2.heap.size rfl (show 1 ≤ maxLen by unfold maxLen; omega)).noK
    have I3 := Lib.hid (HI.out _ _ HII.out L3.out.fr)
    have INV0 := Lib.hid (HINV.out h1 k1 hN1)
    obtain ⟨x1, x2, x3, x4, x5⟩ := h1
    clear hK1 hS2 hF2 hN1 HINV C1 L1 L2 I1
    go_wp2_with fail
    go_loopg [7] (f + 1) (fun kx s7 wr => ∃ (fk : Nat) (sk : Sd) (Kk : Fo) (u : Value), u = s7 ∧ fk ≤ kx ∧ Kk.len + fk ≤ f + 1 ∧ Hid (InvR X P M last.data.toList r fk sk Kk) ∧ Hid (I wr) ∧ Hid (LS X w wr sk [] [] s7 Kk))
    case atStart => exact ⟨f0, t.2, .one ⟨x1, x2, x3, x4, x5⟩ k1, _, rfl, by omega, by show 1 + f0 ≤ f + 1; omega, INV0.out, I3.out, L3.out⟩
    case round =>
      obtain ⟨fk, sk, Kk, u, rfl, hkx, hlen, HG, HJ, LK⟩ := hrel
      cases qc : tk X sk sCom
      · have CT := Lib.hid (take_no X sk ⟨#[44]⟩ _ LK.out.st (by decide) qc)
        have QC := Lib.hid (tk_bad qc)
        clear qc
        go_wp2_with fail
        refine CT.out.mono ?_
        rintro e w3 ⟨rfl, hS3, hF3⟩
        have L4 := Lib.hid (LK.out.step hS3 hF3)
        have CW := Lib.hid (want_any X sk last w3 hS3 HL.out)
        clear hS3 hF3 CT
        go_wp2_with fail
        refine CW.out.mono ?_
        rintro e w4 ⟨rfl, hS4, hF4⟩
        have L5 := Lib.hid (L4.out.step hS4 hF4)
        clear hS4 hF4 CW
        go_wp2
        go_ret
        obtain ⟨cs, o1, o2⟩ := L5.out.own
        refine ⟨u, Kk, rfl, ⟨cs, o1, o2.keep (Nat.le_refl _) (fun g hg _ => ⟨rfl, hg.1, hg.2.2⟩)⟩, PSt.to L5.out.st (fun h => ?_) (fun h => ?_), L5.out.fr, fun h => ?_, by omega⟩
        · have hs : sk.2 < 0 := by
            by_cases hh : sk.2 < 0
            · exact hh
            · unfold wantS at h; rw [wantM_bad (by omega)] at h; exact absurd h hh
          obtain ⟨hP, r', g1, g2, g3⟩ := HG.out.1 hs
          rw [g3, (rest_stop g1 (.inr (QC.out.resolve_left (by omega)))).2]
          rfl
        · by_cases hh : sk.2 < 0
          · obtain ⟨hP, r', g1, g2, g3⟩ := HG.out.1 hh
            rw [g3, (rest_stop g1 (.inr (QC.out.resolve_left (by omega)))).2]
            rfl
          · rw [HG.out.2 (by omega)]
            unfold wantS
            rw [wantM_bad (by omega)]
        · by_cases hh : sk.2 < 0
          · obtain ⟨hP, r', g1, g2, g3⟩ := HG.out.1 hh
            rw [g2, (rest_stop g1 (.inr (QC.out.resolve_left (by omega)))).1, Fo.app_nil]
          · rw [HG.out.2 (by omega)] at h; exact absurd h hh
      · obtain ⟨hg, hm⟩ := tk_good qc
        obtain ⟨hP, rr', g1, g2, g3⟩ := HG.out.1 hg
        obtain ⟨f', tt, r'', e1, e2, e3, e4⟩ := rest_go g1 hg hm HNE.out
        have CT := Lib.hid (take_yes X sk ⟨#[44]⟩ _ LK.out.st (by decide) qc)
        have C2 : Hid (∀ w', I w' → PSt X w' (sk.1 + 1, sk.2) → Calls Tryz.prog F (bnd ++ caps) w' (NodeQ X w' tt)) := fun w' h1 h2 => HIR.out f' (by omega) (sk.1 + 1, sk.2) w' tt h1 (fun _ => ⟨hP, e2⟩) (fun h => absurd h (by dsimp only; omega)) h2
        have HINV2 := Lib.hid (fun (h : Hd) (k : Fo) (hn : tt.2.2 < 0 → tt.1 = .one h k) => InvR.next (r := r) (K := Kk) hP e3 e4 g2 g3 hn)
        have HF := Lib.hid e1
        clear qc hg hm hP g1 g2 g3 e1 e2 e3 e4 HG
        go_wp2_with fail
        refine CT.out.mono ?_
        rintro e w3 ⟨rfl, hS3, hF3⟩
        have L4 := Lib.hid (LK.out.step hS3 hF3)
        have I4 := Lib.hid (HI.out _ _ HII.out L4.out.fr)
        clear hS3 hF3 CT
        go_wp2_with fail
        refine (C2.out _ I4.out L4.out.st).mono ?_
        rintro e w5 ⟨h5, k5, A5, c5, rfl, hK5, hS5, hF5, hN5⟩
        have INV := Lib.hid (HINV2.out h5 k5 hN5)
        obtain ⟨z1, z2, z3, z4, z5⟩ := h5
        have M6 := Lib.hid ((L4.out.kid hS5 hF5 hK5).other (bel1 _ (.cells (ncc ⟨z1, z2, z3, z4, z5⟩ A5 k5.len c5) 25)))
        obtain ⟨cs, o1, o2⟩ := M6.out.own
        have O1 := Lib.hid o1
        have O2 := Lib.hid o2
        obtain ⟨AK, cK, eK, hcK, _⟩ := M6.out.list
        subst eK
        obtain ⟨i0, hi0, hz0, hz1, hz2⟩ := info_parts info25
        have b5 := Lib.hid M6.out.size
        have b3' : Kk.len + 1 ≤ maxLen := by unfold maxLen; omega
        have b4' : (Kk.len + 1) * 72 ≤ 140737488355328 := by omega
        have CN := Lib.hid (cells_nd w5 (.int .i64 z1) (.int .i64 z2) (.int .i64 z3) (.string z4) (.int .i64 z5) (.slice A5 k5.len c5))
        clear o1 o2 hK5 hS5 hF5 hN5 HINV2 C2 I4 L4
        go_wp2_with (at_builtin; refine wpList_append_at rfl (.tmp 16) (.tmp 19) 23 rfl w.heap.size 25 i0 (.agg #[.int .i64 0, .int .i64 0, .int .i64 0, .string ⟨#[]⟩, .int .i64 0, .slice none 0 0]) 6 72 Tryz.underlying23 hi0 hz0 hz1 hz2 rfl (by decide) _ Kk.len cs rfl O1.out ⟨w5.heap.size, 0, none⟩ 1 1 [.int .i64 z1, .int .i64 z2, .int .i64 z3, .string z4, .int .i64 z5, .slice A5 k5.len c5] rfl rfl (by simpa using CN.out) (one_nd ⟨z1, z2, z3, z4, z5⟩ _ _ _) b3' b4' b5.out ?_)
        intro v' w7 hown' hgrow hat
        have M7 := Lib.hid (M6.out.push ⟨O1.out, O2.out⟩ (k := .one ⟨z1, z2, z3, z4, z5⟩ k5) (FC.one (M6.out.kidP 0 rfl)) hown' hgrow (fun j hj => by
          rcases hat j hj with h | h
          · exact .inl h
          · exact .inr (by simpa using h))).noK
        have I7 := Lib.hid (HI.out _ _ HII.out M7.out.fr)
        have hKl : (Kk.app (.one ⟨z1, z2, z3, z4, z5⟩ k5)).len = Kk.len + 1 := by rw [Fo.len_app]; rfl
        have HKL := Lib.hid hKl
        have hf1 := HF.out
        clear hown' hgrow hat b3' b4' b5 CN O1 O2 M6 hKl
        go_wp2_with fail
        go_roundg f'
        case measure => omega
        case rel => exact ⟨f', tt.2, Kk.app (.one ⟨z1, z2, z3, z4, z5⟩ k5), _, rfl, by omega, by rw [HKL.out]; omega, INV.out, I7.out, M7.out⟩
  · have CT := Lib.hid (take_yes X s last w hS hlast q)
    obtain ⟨hg, hm⟩ := tk_good q
    obtain ⟨hP, qq, hq, hrq⟩ := hr1 hg
    have hql := list_first hq hm
    have hR : r = (.nil, (s.1 + 1, s.2)) := by
      rw [hrq, hql]
      dsimp only
      unfold wantM
      rw [if_neg (by omega), if_pos hm]
    have HR := Lib.hid hR
    clear hS hr1 hr2 hlast hne q hI hi IR hg hm hP hq hrq hql hR
    go_enter Tryz.func119, Tryz.ntmps119
    go_wp2_with fail
    refine CT.out.mono ?_
    rintro e w1 ⟨rfl, hS1, hF1⟩
    have S1 := Lib.hid hS1
    have F1 := Lib.hid hF1
    clear hS1 hF1
    go_wp2
    go_ret
    exact ⟨_, .nil, rfl, ⟨[], World.ownsRow_nil _ _ _ _, by rw [FC]⟩, by rw [HR.out]; exact S1.out, F1.out, fun _ => by rw [HR.out], Nat.zero_le _⟩
end Pg
end Go.Proofs.YtiabkkdeonepgaaGreatDoor
namespace Go.Proofs.YtiabkkdeonepgaaGreatDoor
open Go.RowKit
namespace Pg
open Ps
theorem wordM_snd {l : List Tok} (b : Int) (h h' : Hd) (i : Nat) : (wordM l b h i).2 = (wordM l b h' i).2 := by
  unfold wordM
  split
  · rfl
  · split <;> rfl
theorem wordS_good {X : Cx} {s : Sd} (h : (wordS X s).2 < 0) : s.2 < 0 ∧ wat X s = s.1 ∧ wordS X s = (s.1 + 1, s.2) ∧ ∀ hd, (wordM X.l s.2 hd s.1).1 = { hd with word := textAt X.l s.1, at_ := s.1 } := by
  unfold wordS at h
  have h1 := wordM_good h
  refine ⟨h1.1, ?_, ?_, fun hd => ?_⟩
  · unfold wat hasK
    rw [decide_eq_true h1.1, h1.2.1]
    rfl
  · unfold wordS
    rw [h1.2.2]
  · have h2 : (wordM X.l s.2 hd s.1).2.2 < 0 := by rw [wordM_snd s.2 hd ⟨0, 0, 0, e0, 0⟩ s.1]; exact h
    rw [(wordM_good h2).2.2]
theorem wordS_bad {X : Cx} {s : Sd} (h : 0 ≤ s.2) : wordS X s = s := by unfold wordS; rw [wordM_bad h]
theorem wantS_bad {X : Cx} {s : Sd} {x : List UInt8} (h : 0 ≤ s.2) : wantS X s x = s := by unfold wantS; rw [wantM_bad h]
theorem wantS_good {X : Cx} {s : Sd} {x : List UInt8} (h : (wantS X s x).2 < 0) : s.2 < 0 ∧ isM X.l s.1 x = true ∧ wantS X s x = (s.1 + 1, s.2) := wantM_good h
def Keeps (M : RT) : Prop := ∀ (f : Nat) (b : Int) (i : Nat) (r : Fo × Nat × Int), 0 ≤ b → M f b i = some r → r.2.2 = b
theorem lab_pure {X : Cx} {P : Prop} {M : RT} {kd f : Nat} {s : Sd} {r : Fo × Sd} (hM : Keeps M) (h1 : s.2 < 0 → P ∧ labR X.l kd M f s.2 s.1 = some r) (h2 : 0 ≤ s.2 → r.2.2 = s.2) :
    ∃ t : Fo × Sd, ((wantS X (wordS X s) sCol).2 < 0 → P ∧ M f (wantS X (wordS X s) sCol).2 (wantS X (wordS X s) sCol).1 = some t) ∧ (0 ≤ (wantS X (wordS X s) sCol).2 → t.2.2 = (wantS X (wordS X s) sCol).2) ∧
      (t.2.2 < 0 → r = (.one ⟨kd, pos X s, t.2.1, textAt X.l (wat X s), wat X s⟩ t.1, t.2)) ∧ (0 ≤ t.2.2 → r.2.2 = t.2.2) := by
  by_cases hs : 0 ≤ s.2
  · rw [wordS_bad hs, wantS_bad hs]
    exact ⟨(.nil, s), fun h => absurd h (by omega), fun _ => rfl, fun h => absurd h (by dsimp only; omega), fun _ => h2 hs⟩
  · obtain ⟨hP, h⟩ := h1 (by omega)
    unfold labR at h
    dsimp only at h
    obtain ⟨t, ht, h⟩ := Option.bind_eq_some_iff.1 h
    have e1 : wantM X.l (wordM X.l s.2 ⟨kd, s.1, 0, e0, 0⟩ s.1).2.2 (wordM X.l s.2 ⟨kd, s.1, 0, e0, 0⟩ s.1).2.1 sCol = wantS X (wordS X s) sCol := by
      unfold wantS wordS
      rw [wordM_snd s.2 ⟨kd, s.1, 0, e0, 0⟩ ⟨0, 0, 0, e0, 0⟩ s.1]
    rw [e1] at ht
    injection h with h
    refine ⟨t, fun _ => ⟨hP, ht⟩, fun hb => hM _ _ _ _ hb ht, fun hg => ?_, fun _ => by rw [← h]⟩
    have hy : (wantS X (wordS X s) sCol).2 < 0 := by
      by_cases hh : 0 ≤ (wantS X (wordS X s) sCol).2
      · have := hM _ _ _ _ hh ht; omega
      · omega
    obtain ⟨g1, g2, g3, g4⟩ := wordS_good (wantS_good hy).1
    rw [← h, g4, g2, pos_good g1]
set_option maxHeartbeats 2000000 in
theorem labelled_any (X : Cx) (kd F : Nat) (w : World) :
    Calls Tryz.prog 133 #[X.p, .int .i64 kd, .func (.func F) #[X.p] #[]] w fun e w' => e = .returned (.func (.func 148) #[] #[.pointer (some ⟨w.heap.size, 0, none⟩), .pointer (some ⟨w.heap.size + 1, 0, none⟩), .pointer (some ⟨w.heap.size + 2, 0, none⟩)]) ∧
      w' = ((w.alloc (.cells #[X.p] 84)).alloc (.cells #[.int .i64 kd] 3)).alloc (.cells #[.func (.func F) #[X.p] #[]] 63) := by
  go_enter Tryz.func133, Tryz.ntmps133
  go_wp2_with fail
  go_ret
  exact ⟨rfl, rfl⟩
def LabI (X : Cx) (kd F b0 : Nat) (w : World) : Prop := X.rb < b0 ∧ RowB w b0 84 #[X.p] ∧ RowB w (b0 + 1) 3 #[.int .i64 kd] ∧ RowB w (b0 + 2) 63 #[.func (.func F) #[X.p] #[]]
theorem LabI.keep {X : Cx} {kd F b0 : Nat} {w w' : World} (h : LabI X kd F b0 w) (hf : Fr X.rb w.heap.size w w') : LabI X kd F b0 w' :=
  ⟨h.1, hf.row h.2.1 h.2.1.lt (by have := h.1; omega), hf.row h.2.2.1 h.2.2.1.lt (by have := h.1; omega), hf.row h.2.2.2 h.2.2.2.lt (by have := h.1; omega)⟩
theorem LabI.new {X : Cx} {kd F : Nat} {w : World} (hrb : X.rb < w.heap.size) : LabI X kd F w.heap.size (((w.alloc (.cells #[X.p] 84)).alloc (.cells #[.int .i64 kd] 3)).alloc (.cells #[.func (.func F) #[X.p] #[]] 63)) := by
  refine ⟨hrb, ((RowB.new w 84 #[X.p]).alloc _).alloc _, ?_, ?_⟩
  · have := (RowB.new (w.alloc (.cells #[X.p] 84)) 3 #[.int .i64 kd]).alloc (.cells #[.func (.func F) #[X.p] #[]] 63)
    simpa using this
  · have := RowB.new ((w.alloc (.cells #[X.p] 84)).alloc (.cells #[.int .i64 kd] 3)) 63 #[.func (.func F) #[X.p] #[]]
    simpa using this
set_option maxHeartbeats 4000000 in
theorem lab_q (X : Cx) (P : Prop) (M : RT) (hM : Keeps M) (kd F b0 f : Nat) (eF : ∀ w, (callFunc F #[X.p]).run Tryz.prog w = .ok (.enter F #[X.p]) w) (IR : RuleQ X P (fun s => M f s.2 s.1) F) :
    ListR X P (labR X.l kd M) 148 #[.pointer (some ⟨b0, 0, none⟩), .pointer (some ⟨b0 + 1, 0, none⟩), .pointer (some ⟨b0 + 2, 0, none⟩)] (LabI X kd F b0) f := by
  intro s w r hi hr1 hr2 hS
  obtain ⟨t, ht1, ht2, hrt, hrb2⟩ := lab_pure hM hr1 hr2
  have L0 := Lib.hid ((LS.start hS).alloc w.heap.size rfl 25 zcc)
  have I0 := Lib.hid (hi.keep (L0.out.fr))
  have rr := hS.row.cell
  have hrb := hS.lt
  have hl := hS.len
  have hpl := hS.pos_lt
  have hwl := wat_lt hS
  have CW := Lib.hid (word_any X s _ L0.out.st)
  have C3 : Hid (∀ w', PSt X w' (wantS X (wordS X s) sCol) → Calls Tryz.prog F #[X.p] w' (NodeQ X w' t)) := fun w' h => IR _ w' t ht1 ht2 h
  have HRT := Lib.hid hrt
  have HRB := Lib.hid hrb2
  have z0 := I0.out.2.1.cell
  have hb0 := I0.out.2.1.lt
  have hb1 := I0.out.2.2.1.lt
  have hb2 := I0.out.2.2.2.lt
  have hi1 := hi.2.1.lt
  have HIW := Lib.hid hi
  clear hr1 hr2 ht1 ht2 hrt hrb2 hS IR hi
  generalize hwa : wat X s = q at *
  generalize hpa : pos X s = p at *
  clear hwa hpa
  go_enter Tryz.func148, Tryz.ntmps148
  go_wp2_with fail
  refine CW.out.mono ?_
  rintro e w1 ⟨rfl, hS1, hF1⟩
  have L1 := Lib.hid (L0.out.step hS1 hF1)
  have I1 := Lib.hid (I0.out.keep hF1)
  have z1 := I1.out.2.1.cell
  have CC := Lib.hid (want_any X _ ⟨#[58]⟩ w1 hS1 (by decide))
  clear hS1 hF1 CW z0 I0
  go_wp2_with fail
  refine CC.out.mono ?_
  rintro e w2 ⟨rfl, hS2, hF2⟩
  have L2 := Lib.hid (L1.out.step hS2 hF2)
  have I2 := Lib.hid (I1.out.keep hF2)
  have L2d : Hid (LS X w w2.drew (wantS X (wordS X s) sCol) _ _ _ _) := L2.out.other ((Below.refl _ _).drew)
  have I2d : Hid (LabI X kd F b0 w2.drew) := I2.out.keep (Fr.of ((Below.refl _ _).drew))
  clear hS2 hF2 CC z1 I1
  go_wp2_with fail
  have K0 : (∀ o, w2.drew.cell? ⟨b0, o, none⟩ = #[X.p][o]?) ∧ (∀ o, w2.drew.cell? ⟨b0 + 1, o, none⟩ = #[Value.int .i64 kd][o]?) ∧ (∀ o, w2.drew.cell? ⟨b0 + 2, o, none⟩ = #[Value.func (.func F) #[X.p] #[]][o]?) := ⟨I2d.out.2.1.cell, I2d.out.2.2.1.cell, I2d.out.2.2.2.cell⟩
  have KEEP := Lib.hid (fun w' (h : LabI X kd F b0 w') => (⟨h.2.1.cell, h.2.2.1.cell, h.2.2.2.cell⟩ : (∀ o, w'.cell? ⟨b0, o, none⟩ = #[X.p][o]?) ∧ (∀ o, w'.cell? ⟨b0 + 1, o, none⟩ = #[Value.int .i64 kd][o]?) ∧ (∀ o, w'.cell? ⟨b0 + 2, o, none⟩ = #[Value.func (.func F) #[X.p] #[]][o]?)))
  go_region_held3 (fun w' => (∀ o, w'.cell? ⟨b0, o, none⟩ = #[X.p][o]?) ∧ (∀ o, w'.cell? ⟨b0 + 1, o, none⟩ = #[Value.int .i64 kd][o]?) ∧ (∀ o, w'.cell? ⟨b0 + 2, o, none⟩ = #[Value.func (.func F) #[X.p] #[]][o]?))
    (first
      | (with_reducible exact KEEP.out _ I6.out)
      | (with_reducible exact KEEP.out _ I5.out)
      | (with_reducible exact KEEP.out _ I4.out)
      | (with_reducible exact KEEP.out _ I3.out)
      | (with_reducible exact K0))
    (first
      | (go_at_call 98; refine (named_any X t.2 kd p q (some ⟨w3.heap.size, 0, none⟩) 1 1 _ L4.out.st hwl).mono ?_; rintro e w5 ⟨rfl, hb5⟩; have L5 := Lib.hid (L4.out.other hb5); have I5 := Lib.hid (HIW.out.keep L5.out.fr); have L6 := Lib.hid (L5.out.put6 0 rfl rfl (.int .i64 kd) (.int .i64 p) (.int .i64 (pos X t.2)) (.string (textAt X.l q)) (.int .i64 q) (.slice (some ⟨w3.heap.size, 0, none⟩) 1 1)); have I6 := Lib.hid (HIW.out.keep L6.out.fr); have u1 := (L5.out.row 0 rfl).cell; have u2 := (L5.out.row 0 rfl).thaw)
      | (refine (C3.out _ L2d.out.st).mono ?_; rintro e w3 ⟨h3, k3, A3, c3, rfl, hK3, hS3, hF3, hN3⟩; obtain ⟨y1, y2, y3, y4, y5⟩ := h3; have L3 := Lib.hid (L2d.out.kid hS3 hF3 hK3); have I3 := Lib.hid (I2d.out.keep hF3); have L4 := Lib.hid (L3.out.slice w3.heap.size rfl (k := .one ⟨y1, y2, y3, y4, y5⟩ k3) (cs := ncc ⟨y1, y2, y3, y4, y5⟩ A3 k3.len c3) (FC.one (L3.out.kidP 0 rfl))); have I4 := Lib.hid (HIW.out.keep L4.out.fr))
      | fail)
  go_wp2
  refine bodyPost_ret ?_ rfl ⟨⟨kd, p, pos X t.2, textAt X.l q, q⟩, .one ⟨y1, y2, y3, y4, y5⟩ k3, some ⟨w3.heap.size, 0, none⟩, 1, rfl, (L6.out.kidP 0 rfl).new_ (fun g h => h.1), PSt.to L6.out.st (fun h => by rw [HRT.out h]) HRB.out, L6.out.fr, ?_⟩
  · simp [results, Tryz.results148, go_sem, u1]
    rfl
  · intro hh
    by_cases h : t.2.2 < 0
    · rw [HRT.out h, hN3 h, pos_good h]
    · rw [HRB.out (by omega)] at hh; exact absurd hh h
end Pg
end Go.Proofs.YtiabkkdeonepgaaGreatDoor
namespace Go.Proofs.YtiabkkdeonepgaaGreatDoor
open Go.RowKit
namespace Pg
open Ps
theorem ty_no {l : List Tok} {f : Nat} {b : Int} {i : Nat} {r : Fo × Nat × Int} (h : tyM l (f + 1) .kind b i = some r) (hb : b < 0) (h1 : isM l i kInt = false) (h2 : isM l i kStr = false) (h3 : isM l i kDyn = false) (h4 : isM l i sOpen = false) (h5 : isM l i kFn = false) : r.2.2 = (i : Int) := by
  rw [tyM, if_neg (by omega), if_neg (by rw [h1]; simp), if_neg (by rw [h2]; simp), if_neg (by rw [h3]; simp), if_neg (by rw [h4]; simp)] at h
  have hw : wantM l b i kFn = (i, (i : Int)) := by unfold wantM; rw [if_neg (by omega), if_neg (by rw [h5]; simp)]
  dsimp only at h
  rw [hw] at h
  dsimp only at h
  rw [wantM_bad (by omega)] at h
  obtain ⟨x, hx, h⟩ := Option.bind_eq_some_iff.1 h
  have e1 := tyM_bad (by dsimp only; omega) hx
  dsimp only at e1
  rw [wantM_bad (x := sParS) (b := x.2.2) (by omega), wantM_bad (x := sCol) (by dsimp only; omega)] at h
  obtain ⟨t, ht, h⟩ := Option.bind_eq_some_iff.1 h
  have e2 := tyM_bad (by dsimp only; omega) ht
  injection h with h
  rw [← h]
  dsimp only at e2 ⊢
  omega
theorem ty_plain {l : List Tok} {f : Nat} {b : Int} {i : Nat} {r : Fo × Nat × Int} (h : tyM l (f + 1) .kind b i = some r) (hb : b < 0) (x : List UInt8) (kd : Nat) (hx : x = kInt ∧ kd = 29 ∨ x = kStr ∧ kd = 30 ∨ x = kDyn ∧ kd = 31) (hm : isM l i x = true) : r = (.one ⟨kd, i, i + 1, e0, 0⟩ .nil, i + 1, b) := by
  rw [tyM, if_neg (by omega)] at h
  rcases hx with ⟨rfl, rfl⟩ | ⟨rfl, rfl⟩ | ⟨rfl, rfl⟩
  · rw [if_pos hm] at h; injection h with h; exact h.symm
  · rw [if_neg (by rw [isM_ne hm (by decide)]; simp), if_pos hm] at h; injection h with h; exact h.symm
  · rw [if_neg (by rw [isM_ne hm (by decide)]; simp), if_neg (by rw [isM_ne hm (by decide)]; simp), if_pos hm] at h; injection h with h; exact h.symm
theorem ty_rec {l : List Tok} {f : Nat} {b : Int} {i : Nat} {r : Fo × Nat × Int} (h : tyM l (f + 1) .kind b i = some r) (hb : b < 0) (hm : isM l i sOpen = true) :
    ∃ q, listM l (labR l 33 (fun f => tyM l f .kind)) sShut f true b (i + 1) = some q ∧ r = (.one ⟨32, i, (wantM l q.2.2 q.2.1 sShut).1, e0, 0⟩ q.1, wantM l q.2.2 q.2.1 sShut) := by
  rw [tyM, if_neg (by omega), if_neg (by rw [isM_ne hm (by decide)]; simp), if_neg (by rw [isM_ne hm (by decide)]; simp), if_neg (by rw [isM_ne hm (by decide)]; simp), if_pos hm] at h
  obtain ⟨q, hq, h⟩ := Option.bind_eq_some_iff.1 h
  injection h with h
  exact ⟨q, by rw [← rec_list]; exact hq, h.symm⟩
theorem ty_fn {X : Cx} {f : Nat} {s : Sd} {r : Fo × Sd} (h : tyM X.l (f + 1) .kind s.2 s.1 = some r) (hb : s.2 < 0) (hm : isM X.l s.1 kFn = true) :
    ∃ rl t : Fo × Sd, (∃ q, listM X.l (fun f => tyM X.l f .kind) sParS f true (wantS X (s.1 + 1, s.2) sParO).2 (wantS X (s.1 + 1, s.2) sParO).1 = some q ∧ rl = (q.1, wantM X.l q.2.2 q.2.1 sParS)) ∧ (0 ≤ (wantS X (s.1 + 1, s.2) sParO).2 → rl.2.2 = (wantS X (s.1 + 1, s.2) sParO).2) ∧
      tyM X.l f .kind (wantS X rl.2 sCol).2 (wantS X rl.2 sCol).1 = some t ∧ r = (.one ⟨34, s.1, t.2.1, e0, 0⟩ (rl.1.app t.1), t.2) := by
  have hw : wantM X.l s.2 s.1 kFn = (s.1 + 1, s.2) := by unfold wantM; rw [if_neg (by omega), if_pos hm]
  rw [tyM, if_neg (by omega), if_neg (by rw [isM_ne hm (by decide)]; simp), if_neg (by rw [isM_ne hm (by decide)]; simp), if_neg (by rw [isM_ne hm (by decide)]; simp), if_neg (by rw [isM_ne hm (by decide)]; simp)] at h
  dsimp only at h
  rw [hw] at h
  dsimp only at h
  obtain ⟨q, hq, h⟩ := Option.bind_eq_some_iff.1 h
  obtain ⟨t, ht, h⟩ := Option.bind_eq_some_iff.1 h
  injection h with h
  refine ⟨(q.1, wantM X.l q.2.2 q.2.1 sParS), t, ⟨q, by rw [← fn_list]; exact hq, rfl⟩, fun hh => ?_, ht, h.symm⟩
  have := tyM_bad hh hq
  dsimp only
  rw [wantM_bad (by omega)]
  exact this
abbrev tyR (X : Cx) (f : Nat) : Sd → Res := fun s => tyM X.l f .kind s.2 s.1
theorem RuleQ.none {X : Cx} {P : Prop} {M M' : Sd → Res} {fn : Nat} (h : RuleQ X False M fn) (hM : ∀ s r, s.2 < 0 → P → M' s = some r → False) : RuleQ X P M' fn := fun s w r h1 h2 hS => h s w r (fun hs => (hM s r hs (h1 hs).1 (h1 hs).2).elim) h2 hS
theorem tk_lt {X : Cx} {w : World} {s : Sd} {x : List UInt8} (h : PSt X w s) (q : tk X s x = true) : s.2 < 0 ∧ isM X.l s.1 x = true ∧ pos X s = s.1 ∧ s.1 + 1 < X.l.length := ⟨(tk_good q).1, (tk_good q).2, pos_good (tk_good q).1, isM_next h.wf.toWf (tk_good q).2⟩
theorem enter148 : ∀ args w, (callFunc 148 args).run Tryz.prog w = .ok (.enter 148 args) w := enters_of Tryz.func148 (by kernel_rfl) rfl
theorem enter121 : ∀ args w, (callFunc 121 args).run Tryz.prog w = .ok (.enter 121 args) w := enters_of Tryz.func121 (by kernel_rfl) rfl
theorem enter120 : ∀ args w, (callFunc 120 args).run Tryz.prog w = .ok (.enter 120 args) w := enters_of Tryz.func120 (by kernel_rfl) rfl
theorem enter136 : ∀ args w, (callFunc 136 args).run Tryz.prog w = .ok (.enter 136 args) w := enters_of Tryz.func136 (by kernel_rfl) rfl
theorem tyM_keeps {l : List Tok} : Keeps (fun f => tyM l f .kind) := fun _ _ _ _ hb h => tyM_bad hb h
theorem exM_keeps {l : List Tok} {t : XT} : Keeps (fun f => exM l f t) := fun _ _ _ _ hb h => exM_bad _ _ _ _ _ hb h
set_option maxHeartbeats 4000000 in
theorem typed_q (X : Cx) (P : Prop) (f : Nat) (hf : f ≤ 1000000) (I : P → ∀ f', f' ≤ f → RuleQ X P (tyR X f') 121) : RuleQ X P (tyR X (f + 1)) 121 := by
  intro s w r hr1 hr2 hS
  have L0 := Lib.hid ((LS.start hS).alloc w.heap.size rfl 25 zcc)
  have rr := hS.row.cell
  have hrb := hS.lt
  have hl := hS.len
  have hpl := hS.pos_lt
  obtain ⟨p, hp⟩ : ∃ p, p = pos X s := ⟨_, rfl⟩
  rw [← hp] at rr hpl
  have HP := Lib.hid hp
  have HI := Lib.hid I
  have H1 := Lib.hid hr1
  have H2 := Lib.hid hr2
  clear hp hr1 hr2 hS I
  go_enter Tryz.func121, Tryz.ntmps121
  cases q1 : tk X s kInt
  · have CT := Lib.hid (take_no X s ⟨#[105, 110, 116]⟩ _ L0.out.st (by decide) q1)
    go_wp2_with fail
    refine CT.out.mono ?_
    rintro e w1 ⟨rfl, hSw, hFw⟩
    have L1 := Lib.hid (L0.out.step hSw hFw)
    clear hSw hFw CT
    have Q1 := Lib.hid (tk_bad q1)
    clear q1
    cases q2 : tk X s kStr
    · have CT := Lib.hid (take_no X s ⟨#[115, 116, 114]⟩ _ L1.out.st (by decide) q2)
      go_wp2_with fail
      refine CT.out.mono ?_
      rintro e w2 ⟨rfl, hSw, hFw⟩
      have L2 := Lib.hid (L1.out.step hSw hFw)
      clear hSw hFw CT
      have Q2 := Lib.hid (tk_bad q2)
      clear q2
      cases q3 : tk X s kDyn
      · have CT := Lib.hid (take_no X s ⟨#[100, 121, 110]⟩ _ L2.out.st (by decide) q3)
        go_wp2_with fail
        refine CT.out.mono ?_
        rintro e w3 ⟨rfl, hSw, hFw⟩
        have L3 := Lib.hid (L2.out.step hSw hFw)
        clear hSw hFw CT
        have Q3 := Lib.hid (tk_bad q3)
        clear q3
        cases q4 : tk X s sOpen
        · have CT := Lib.hid (take_no X s ⟨#[123]⟩ _ L3.out.st (by decide) q4)
          go_wp2_with fail
          refine CT.out.mono ?_
          rintro e w4 ⟨rfl, hSw, hFw⟩
          have L4 := Lib.hid (L3.out.step hSw hFw)
          clear hSw hFw CT
          have Q4 := Lib.hid (tk_bad q4)
          clear q4
          cases q5 : tk X s kFn
          · have CT := Lib.hid (take_no X s ⟨#[102, 110]⟩ _ L4.out.st (by decide) q5)
            go_wp2_with fail
            refine CT.out.mono ?_
            rintro e w5 ⟨rfl, hSw, hFw⟩
            have L5 := Lib.hid (L4.out.step hSw hFw)
            clear hSw hFw CT
            have Q5 := Lib.hid (tk_bad q5)
            clear q5
            have HFAIL : Hid (r.2.2 = (failS s).2) := by
              unfold failS
              by_cases hs : 0 ≤ s.2
              · rw [if_pos hs]; exact H2.out hs
              · rw [if_neg hs]
                have h := (H1.out (by omega)).2
                exact ty_no h (by omega) (Q1.out.resolve_left hs) (Q2.out.resolve_left hs) (Q3.out.resolve_left hs) (Q4.out.resolve_left hs) (Q5.out.resolve_left hs)
            clear Q1 Q2 Q3 Q4 Q5 H1 H2 HP HI
            have CF := Lib.hid (fail_any X s _ L5.out.st)
            go_wp2_with fail
            refine CF.out.mono ?_
            rintro e wz ⟨rfl, hSw, hFw⟩
            have LYb := Lib.hid (L5.out.step hSw hFw)
            have u1 := (LYb.out.row 0 rfl).cell
            have u2 := (LYb.out.row 0 rfl).thaw
            have LY := Lib.hid (LYb.out.put6 0 rfl rfl (.int .i64 0) (.int .i64 0) (.int .i64 0) (.string ⟨#[]⟩) (.int .i64 0) (.slice none 0 0))
            clear hSw hFw CF
            go_wp2
            refine bodyPost_ret ?_ rfl ⟨⟨0, 0, 0, e0, 0⟩, .nil, none, 0, rfl, KV.nil _ _ _ _, PSt.to LY.out.st (fun h => absurd h (by have := failS_bad s; omega)) (fun _ => HFAIL.out), LY.out.fr, ?_⟩
            · simp [results, Tryz.results121, go_sem, u1]
              try first | rfl | exact ⟨rfl, rfl⟩
            · intro hh
              rw [HFAIL.out] at hh
              exact absurd hh (by have := failS_bad s; omega)
          · obtain ⟨hg, hm, hp, hnx⟩ := tk_lt L4.out.st q5
            obtain ⟨rl, t, hL, hLb, ht, hR⟩ := ty_fn (H1.out hg).2 hg hm
            obtain ⟨s2, hs2⟩ : ∃ s2, s2 = wantS X (s.1 + 1, s.2) sParO := ⟨_, rfl⟩
            obtain ⟨s4, hs4⟩ : ∃ s4, s4 = wantS X rl.2 sCol := ⟨_, rfl⟩
            rw [← hs2] at hL hLb
            rw [← hs4] at ht
            have hP := (H1.out hg).1
            have HL := Lib.hid hL
            have HLB := Lib.hid hLb
            have HS2 := Lib.hid hs2
            have HS4 := Lib.hid hs4
            have HT := Lib.hid ht
            have HR2 := Lib.hid hR
            have HPS := Lib.hid (HP.out.trans hp)
            have HIR := Lib.hid (HI.out hP)
            have HPP := Lib.hid hP
            clear hR hm hp hnx hL hLb hs2 hs4 ht H1 H2 HP HI hP hg
            have CT := Lib.hid (take_yes X s ⟨#[102, 110]⟩ _ L4.out.st (by decide) q5)
            go_wp2_with fail
            refine CT.out.mono ?_
            rintro e wa ⟨rfl, hSw, hFw⟩
            have LA := Lib.hid (L4.out.step hSw hFw)
            clear hSw hFw CT
            clear q5
            have CW := Lib.hid (want_any X (s.1 + 1, s.2) ⟨#[40]⟩ _ LA.out.st (by decide))
            go_wp2_with fail
            refine CW.out.mono ?_
            rintro e wb ⟨rfl, hSw, hFw⟩
            have LB0 := Lib.hid (LA.out.step hSw hFw)
            clear hSw hFw CW
            have LB : Hid (LS X w wb s2 [(w.heap.size, 25, zcc)] [] (.slice none 0 0) .nil) := by unfold Hid; rw [HS2.out]; exact LB0.out
            clear LB0 LA
            go_wp2_with fail
            refine (list_q X P (fun f => tyM X.l f .kind) ⟨#[41]⟩ f hf (by decide) (by decide) 121 #[X.p] #[] (fun _ => True) (fun _ _ _ _ => trivial) (fun w => enter121 _ w) (fun f' hf' s w r _ h1 h2 hS => HIR.out f' hf' s w r h1 h2 hS) s2 wb rl trivial (fun _ => ⟨HPP.out, HL.out⟩) HLB.out LB.out.st).mono ?_
            rintro e wc ⟨v, K, rfl, hown, hSc, hFc, hKc, hlen⟩
            have LC := Lib.hid (LB.out.give hSc hFc hown)
            have HKC := Lib.hid hKc
            clear hown hSc hFc hKc LB HL HLB HS2
            have CW := Lib.hid (want_any X rl.2 ⟨#[58]⟩ _ LC.out.st (by decide))
            go_wp2_with fail
            refine CW.out.mono ?_
            rintro e wd ⟨rfl, hSw, hFw⟩
            have LD0 := Lib.hid (LC.out.step hSw hFw)
            clear hSw hFw CW
            have LD : Hid (LS X w wd s4 [(w.heap.size, 25, zcc)] [] v K) := by unfold Hid; rw [HS4.out]; exact LD0.out
            have CT : Hid (∀ w', PSt X w' s4 → Calls Tryz.prog 121 #[X.p] w' (NodeQ X w' t)) := fun w' h => HIR.out f (Nat.le_refl _) s4 w' t (fun _ => ⟨HPP.out, HT.out⟩) (fun h => tyM_bad h HT.out) h
            clear LD0 LC
            go_wp2_with fail
            refine (CT.out _ LD.out.st).mono ?_
            rintro e we ⟨h1, k1, A1, c1, rfl, hKw, hSw, hFw, hN1⟩
            obtain ⟨x11, x12, x13, x14, x15⟩ := h1
            have LE := Lib.hid (LD.out.kid hSw hFw hKw)
            have HN1 := Lib.hid hN1
            clear hSw hFw hKw hN1
            have M6 := Lib.hid (LE.out.other (bel1 _ (.cells (ncc ⟨x11, x12, x13, x14, x15⟩ A1 k1.len c1) 25)))
            have HRF : Hid (t.2.2 < 0 → r = (.one ⟨34, p, pos X t.2, e0, 0⟩ (K.app (.one ⟨x11, x12, x13, x14, x15⟩ k1)), t.2)) := fun h => by
              have h4 : s4.2 < 0 := by
                by_cases hh : 0 ≤ s4.2
                · have := tyM_bad hh HT.out; omega
                · omega
              rw [HS4.out] at h4
              have h3 := (wantS_good h4).1
              rw [HR2.out, HKC.out h3, HN1.out h, HPS.out, pos_good h]
            have HB : Hid (0 ≤ t.2.2 → r.2.2 = t.2.2) := fun h => by rw [HR2.out]
            obtain ⟨cs, o1, o2⟩ := M6.out.own
            have O1 := Lib.hid o1
            have O2 := Lib.hid o2
            obtain ⟨AK, cK, eK, hcK, _⟩ := M6.out.list
            subst eK
            obtain ⟨i0, hi0, hz0, hz1, hz2⟩ := info_parts info25
            have b5 := Lib.hid M6.out.size
            have b3' : K.len + 1 ≤ maxLen := by unfold maxLen; omega
            have b4' : (K.len + 1) * 72 ≤ 140737488355328 := by omega
            have CN := Lib.hid (cells_nd we (.int .i64 x11) (.int .i64 x12) (.int .i64 x13) (.string x14) (.int .i64 x15) (.slice A1 k1.len c1))
            clear o1 o2 HN1 CT LD HKC HS4 HT HR2 HPS HIR HPP
            go_wp2_with (at_builtin; refine wpList_append_at rfl (.tmp 52) (.tmp 55) 23 rfl w.heap.size 25 i0 (.agg #[.int .i64 0, .int .i64 0, .int .i64 0, .string ⟨#[]⟩, .int .i64 0, .slice none 0 0]) 6 72 Tryz.underlying23 hi0 hz0 hz1 hz2 rfl (by decide) _ K.len cs rfl O1.out ⟨we.heap.size, 0, none⟩ 1 1 [.int .i64 x11, .int .i64 x12, .int .i64 x13, .string x14, .int .i64 x15, .slice A1 k1.len c1] rfl rfl (by simpa using CN.out) (one_nd ⟨x11, x12, x13, x14, x15⟩ _ _ _) b3' b4' b5.out ?_)
            intro v' w7 hown' hgrow hat
            have M7 := Lib.hid (M6.out.push ⟨O1.out, O2.out⟩ (k := .one ⟨x11, x12, x13, x14, x15⟩ k1) (FC.one (M6.out.kidP 0 rfl)) hown' hgrow (fun j hj => by
              rcases hat j hj with h | h
              · exact .inl h
              · exact .inr (by simpa using h)))
            obtain ⟨A7, c7, e7, hc7, _⟩ := M7.out.list
            subst e7
            have LF := Lib.hid M7.out.toKid
            clear hown' hgrow hat b3' b4' b5 CN O1 O2 M6 M7
            go_wp2_with fail
            refine (node_any X t.2 34 p (A7) (K.app (.one ⟨x11, x12, x13, x14, x15⟩ k1)).len c7 _ LF.out.st).mono ?_
            rintro e wg ⟨rfl, hbw⟩
            have LGb := Lib.hid (LF.out.other hbw)
            have u1 := (LGb.out.row 0 rfl).cell
            have u2 := (LGb.out.row 0 rfl).thaw
            have LG := Lib.hid (LGb.out.put6 0 rfl rfl (.int .i64 34) (.int .i64 p) (.int .i64 (pos X t.2)) (.string e0) (.int .i64 0) (.slice (A7) (K.app (.one ⟨x11, x12, x13, x14, x15⟩ k1)).len c7))
            clear hbw
            go_wp2
            refine bodyPost_ret ?_ rfl ⟨⟨34, p, pos X t.2, e0, 0⟩, (K.app (.one ⟨x11, x12, x13, x14, x15⟩ k1)), A7, c7, rfl, (LG.out.kidP 0 rfl).new_ (fun g h => h.1), PSt.to LG.out.st (fun h => by rw [HRF.out h]) HB.out, LG.out.fr, ?_⟩
            · simp [results, Tryz.results121, go_sem, u1]
              try first | rfl | exact ⟨rfl, rfl⟩
            · intro hh
              rw [HRF.out (by by_cases h : t.2.2 < 0; exact h; rw [HB.out (by omega)] at hh; exact absurd hh h)]
        · obtain ⟨hg, hm, hp, hnx⟩ := tk_lt L3.out.st q4
          obtain ⟨q, hq, hR⟩ := ty_rec (H1.out hg).2 hg hm
          obtain ⟨rl, hrl⟩ : ∃ rl : Fo × Sd, rl = (q.1, wantM X.l q.2.2 q.2.1 sShut) := ⟨_, rfl⟩
          have hR2 : r = (.one ⟨32, s.1, rl.2.1, e0, 0⟩ rl.1, rl.2) := by rw [hR, hrl]
          have hL : P ∧ ∃ q, listM X.l (labR X.l 33 (fun f => tyM X.l f .kind)) sShut f true ((s.1 + 1, s.2) : Sd).2 ((s.1 + 1, s.2) : Sd).1 = some q ∧ rl = (q.1, wantM X.l q.2.2 q.2.1 sShut) := ⟨(H1.out hg).1, q, hq, hrl⟩
          have HL := Lib.hid hL
          have HR2 := Lib.hid hR2
          have hP := (H1.out hg).1
          have HG := Lib.hid hg
          have HPS := Lib.hid (HP.out.trans hp)
          have HIR := Lib.hid (HI.out hP)
          clear hR hm hp hnx hq hrl hR2 hL H1 H2 HP HI hP hg
          have CT := Lib.hid (take_yes X s ⟨#[123]⟩ _ L3.out.st (by decide) q4)
          go_wp2_with fail
          refine CT.out.mono ?_
          rintro e wa ⟨rfl, hSw, hFw⟩
          have LA := Lib.hid (L3.out.step hSw hFw)
          clear hSw hFw CT
          clear q4
          go_wp2_with fail
          refine (labelled_any X 33 121 _).mono ?_
          rintro e wb ⟨rfl, hwb⟩
          have I0 : Hid (LabI X 33 121 wa.heap.size wb) := by unfold Hid; rw [hwb]; exact LabI.new (LA.out.st.lt)
          have LB : Hid (LS X w wb (s.1 + 1, s.2) [(w.heap.size, 25, zcc)] [] (.slice none 0 0) .nil) := by unfold Hid; rw [hwb]; exact LA.out.other ((((Below.refl _ _).alloc (Nat.le_refl _) _).alloc (by simp) _).alloc (by simp; omega) _)
          clear hwb
          go_wp2_with fail
          refine (list_q X P (labR X.l 33 (fun f => tyM X.l f .kind)) ⟨#[125]⟩ f hf (by decide) (by decide) 148 #[] #[.pointer (some ⟨wa.heap.size, 0, none⟩), .pointer (some ⟨wa.heap.size + 1, 0, none⟩), .pointer (some ⟨wa.heap.size + 2, 0, none⟩)] (LabI X 33 121 wa.heap.size) (fun w w' h hf => h.keep hf) (fun w => enter148 _ w) (fun f' hf' => lab_q X P _ tyM_keeps 33 121 wa.heap.size f' (fun w => enter121 _ w) (HIR.out f' hf')) (s.1 + 1, s.2) wb rl I0.out (fun _ => HL.out) (fun h => absurd h (by have := HG.out; dsimp only; omega)) LB.out.st).mono ?_
          rintro e wc ⟨v, K, rfl, hown, hSc, hFc, hKc, hlen⟩
          have LC := Lib.hid (LB.out.give hSc hFc hown)
          obtain ⟨A, cap, hv, hcap, _⟩ := LC.out.list
          subst hv
          have LD := Lib.hid LC.out.toKid
          have HKC := Lib.hid hKc
          clear hown hSc hFc hKc LC LB I0
          have HR : Hid (rl.2.2 < 0 → r = (.one ⟨32, p, pos X rl.2, e0, 0⟩ K, rl.2)) := fun h => by rw [HR2.out, HKC.out h, HPS.out, pos_good h]
          have HB : Hid (0 ≤ rl.2.2 → r.2.2 = rl.2.2) := fun h => by rw [HR2.out]
          clear HL HR2 HKC HG HIR
          go_wp2_with fail
          refine (node_any X rl.2 32 p (A) K.len cap _ LD.out.st).mono ?_
          rintro e wd ⟨rfl, hbw⟩
          have LEb := Lib.hid (LD.out.other hbw)
          have u1 := (LEb.out.row 0 rfl).cell
          have u2 := (LEb.out.row 0 rfl).thaw
          have LE := Lib.hid (LEb.out.put6 0 rfl rfl (.int .i64 32) (.int .i64 p) (.int .i64 (pos X rl.2)) (.string e0) (.int .i64 0) (.slice (A) K.len cap))
          clear hbw
          go_wp2
          refine bodyPost_ret ?_ rfl ⟨⟨32, p, pos X rl.2, e0, 0⟩, K, A, cap, rfl, (LE.out.kidP 0 rfl).new_ (fun g h => h.1), PSt.to LE.out.st (fun h => by rw [HR.out h]) HB.out, LE.out.fr, ?_⟩
          · simp [results, Tryz.results121, go_sem, u1]
            try first | rfl | exact ⟨rfl, rfl⟩
          · intro hh
            rw [HR.out (by by_cases h : rl.2.2 < 0; exact h; rw [HB.out (by omega)] at hh; exact absurd hh h)]
      · obtain ⟨hg, hm, hp, hnx⟩ := tk_lt L2.out.st q3
        have hR := ty_plain (H1.out hg).2 hg kDyn 31 (.inr (.inr ⟨rfl, rfl⟩)) hm
        have HR : Hid (((s.1 + 1, s.2) : Sd).2 < 0 → r = (.one ⟨31, p, pos X (s.1 + 1, s.2), e0, 0⟩ .nil, (s.1 + 1, s.2))) := fun h => by rw [hR, pos_good h, HP.out, hp]
        have HB : Hid (0 ≤ ((s.1 + 1, s.2) : Sd).2 → r.2.2 = ((s.1 + 1, s.2) : Sd).2) := fun h => absurd h (by dsimp only; omega)
        clear hR hm hp hnx hg
        have CT := Lib.hid (take_yes X s ⟨#[100, 121, 110]⟩ _ L2.out.st (by decide) q3)
        go_wp2_with fail
        refine CT.out.mono ?_
        rintro e wa ⟨rfl, hSw, hFw⟩
        have LA := Lib.hid (L2.out.step hSw hFw)
        clear hSw hFw CT
        clear q3 H1 H2 HP HI
        go_wp2_with fail
        refine (node_any X (s.1 + 1, s.2) 31 p (none) 0 0 _ LA.out.st).mono ?_
        rintro e wb ⟨rfl, hbw⟩
        have LBb := Lib.hid (LA.out.other hbw)
        have u1 := (LBb.out.row 0 rfl).cell
        have u2 := (LBb.out.row 0 rfl).thaw
        have LB := Lib.hid (LBb.out.put6 0 rfl rfl (.int .i64 31) (.int .i64 p) (.int .i64 (pos X (s.1 + 1, s.2))) (.string e0) (.int .i64 0) (.slice (none) 0 0))
        clear hbw
        go_wp2
        refine bodyPost_ret ?_ rfl ⟨⟨31, p, pos X (s.1 + 1, s.2), e0, 0⟩, .nil, none, 0, rfl, KV.nil _ _ _ _, PSt.to LB.out.st (fun h => by rw [HR.out h]) HB.out, LB.out.fr, ?_⟩
        · simp [results, Tryz.results121, go_sem, u1]
          try first | rfl | exact ⟨rfl, rfl⟩
        · intro hh
          rw [HR.out (by by_cases h : ((s.1 + 1, s.2) : Sd).2 < 0; exact h; rw [HB.out (by omega)] at hh; exact absurd hh h)]
    · obtain ⟨hg, hm, hp, hnx⟩ := tk_lt L1.out.st q2
      have hR := ty_plain (H1.out hg).2 hg kStr 30 (.inr (.inl ⟨rfl, rfl⟩)) hm
      have HR : Hid (((s.1 + 1, s.2) : Sd).2 < 0 → r = (.one ⟨30, p, pos X (s.1 + 1, s.2), e0, 0⟩ .nil, (s.1 + 1, s.2))) := fun h => by rw [hR, pos_good h, HP.out, hp]
      have HB : Hid (0 ≤ ((s.1 + 1, s.2) : Sd).2 → r.2.2 = ((s.1 + 1, s.2) : Sd).2) := fun h => absurd h (by dsimp only; omega)
      clear hR hm hp hnx hg
      have CT := Lib.hid (take_yes X s ⟨#[115, 116, 114]⟩ _ L1.out.st (by decide) q2)
      go_wp2_with fail
      refine CT.out.mono ?_
      rintro e wa ⟨rfl, hSw, hFw⟩
      have LA := Lib.hid (L1.out.step hSw hFw)
      clear hSw hFw CT
      clear q2 H1 H2 HP HI
      go_wp2_with fail
      refine (node_any X (s.1 + 1, s.2) 30 p (none) 0 0 _ LA.out.st).mono ?_
      rintro e wb ⟨rfl, hbw⟩
      have LBb := Lib.hid (LA.out.other hbw)
      have u1 := (LBb.out.row 0 rfl).cell
      have u2 := (LBb.out.row 0 rfl).thaw
      have LB := Lib.hid (LBb.out.put6 0 rfl rfl (.int .i64 30) (.int .i64 p) (.int .i64 (pos X (s.1 + 1, s.2))) (.string e0) (.int .i64 0) (.slice (none) 0 0))
      clear hbw
      go_wp2
      refine bodyPost_ret ?_ rfl ⟨⟨30, p, pos X (s.1 + 1, s.2), e0, 0⟩, .nil, none, 0, rfl, KV.nil _ _ _ _, PSt.to LB.out.st (fun h => by rw [HR.out h]) HB.out, LB.out.fr, ?_⟩
      · simp [results, Tryz.results121, go_sem, u1]
        try first | rfl | exact ⟨rfl, rfl⟩
      · intro hh
        rw [HR.out (by by_cases h : ((s.1 + 1, s.2) : Sd).2 < 0; exact h; rw [HB.out (by omega)] at hh; exact absurd hh h)]
  · obtain ⟨hg, hm, hp, hnx⟩ := tk_lt L0.out.st q1
    have hR := ty_plain (H1.out hg).2 hg kInt 29 (.inl ⟨rfl, rfl⟩) hm
    have HR : Hid (((s.1 + 1, s.2) : Sd).2 < 0 → r = (.one ⟨29, p, pos X (s.1 + 1, s.2), e0, 0⟩ .nil, (s.1 + 1, s.2))) := fun h => by rw [hR, pos_good h, HP.out, hp]
    have HB : Hid (0 ≤ ((s.1 + 1, s.2) : Sd).2 → r.2.2 = ((s.1 + 1, s.2) : Sd).2) := fun h => absurd h (by dsimp only; omega)
    clear hR hm hp hnx hg
    have CT := Lib.hid (take_yes X s ⟨#[105, 110, 116]⟩ _ L0.out.st (by decide) q1)
    go_wp2_with fail
    refine CT.out.mono ?_
    rintro e wa ⟨rfl, hSw, hFw⟩
    have LA := Lib.hid (L0.out.step hSw hFw)
    clear hSw hFw CT
    clear q1 H1 H2 HP HI
    go_wp2_with fail
    refine (node_any X (s.1 + 1, s.2) 29 p (none) 0 0 _ LA.out.st).mono ?_
    rintro e wb ⟨rfl, hbw⟩
    have LBb := Lib.hid (LA.out.other hbw)
    have u1 := (LBb.out.row 0 rfl).cell
    have u2 := (LBb.out.row 0 rfl).thaw
    have LB := Lib.hid (LBb.out.put6 0 rfl rfl (.int .i64 29) (.int .i64 p) (.int .i64 (pos X (s.1 + 1, s.2))) (.string e0) (.int .i64 0) (.slice (none) 0 0))
    clear hbw
    go_wp2
    refine bodyPost_ret ?_ rfl ⟨⟨29, p, pos X (s.1 + 1, s.2), e0, 0⟩, .nil, none, 0, rfl, KV.nil _ _ _ _, PSt.to LB.out.st (fun h => by rw [HR.out h]) HB.out, LB.out.fr, ?_⟩
    · simp [results, Tryz.results121, go_sem, u1]
      try first | rfl | exact ⟨rfl, rfl⟩
    · intro hh
      rw [HR.out (by by_cases h : ((s.1 + 1, s.2) : Sd).2 < 0; exact h; rw [HB.out (by omega)] at hh; exact absurd hh h)]
end Pg
end Go.Proofs.YtiabkkdeonepgaaGreatDoor
namespace Go.Proofs.YtiabkkdeonepgaaGreatDoor
open Go.RowKit
namespace Pg
open Ps
theorem par_pure {X : Cx} {P : Prop} {f : Nat} {s : Sd} {r : Fo × Sd} (h1 : s.2 < 0 → P ∧ parR X.l f s.2 s.1 = some r) (h2 : 0 ≤ s.2 → r.2.2 = s.2) :
    ∃ t : Fo × Sd, ((wordS X s).2 < 0 → P ∧ typedM X.l f (wordS X s).2 (wordS X s).1 = some t) ∧ (0 ≤ (wordS X s).2 → t.2.2 = (wordS X s).2) ∧
      (t.2.2 < 0 → r = (.one ⟨5, pos X s, t.2.1, textAt X.l (wat X s), wat X s⟩ t.1, t.2)) ∧ (0 ≤ t.2.2 → r.2.2 = t.2.2) := by
  by_cases hs : 0 ≤ s.2
  · rw [wordS_bad hs]
    exact ⟨(.nil, s), fun h => absurd h (by omega), fun _ => rfl, fun h => absurd h (by dsimp only; omega), fun _ => h2 hs⟩
  · obtain ⟨hP, h⟩ := h1 (by omega)
    unfold parR at h
    dsimp only at h
    obtain ⟨t, ht, h⟩ := Option.bind_eq_some_iff.1 h
    have e1 : (wordM X.l s.2 ⟨5, s.1, 0, e0, 0⟩ s.1).2 = wordS X s := by
      unfold wordS
      rw [wordM_snd s.2 ⟨5, s.1, 0, e0, 0⟩ ⟨0, 0, 0, e0, 0⟩ s.1]
    rw [e1] at ht
    injection h with h
    refine ⟨t, fun _ => ⟨hP, ht⟩, fun hb => typedM_bad hb ht, fun hg => ?_, fun _ => by rw [← h]⟩
    have hy : (wordS X s).2 < 0 := by
      by_cases hh : 0 ≤ (wordS X s).2
      · have := typedM_bad hh ht; omega
      · omega
    obtain ⟨g1, g2, g3, g4⟩ := wordS_good hy
    rw [← h, g4, g2, pos_good g1]
theorem params_pure {X : Cx} {P : Prop} {f : Nat} {s : Sd} {r : Fo × Sd} (h1 : s.2 < 0 → P ∧ paramsM X.l f s.2 s.1 = some r) (h2 : 0 ≤ s.2 → r.2.2 = s.2) :
    ∃ t : Fo × Sd, ((wantS X s sParO).2 < 0 → P ∧ ∃ q, listM X.l (parR X.l) sParS f true (wantS X s sParO).2 (wantS X s sParO).1 = some q ∧ t = (q.1, wantM X.l q.2.2 q.2.1 sParS)) ∧ (0 ≤ (wantS X s sParO).2 → t.2.2 = (wantS X s sParO).2) ∧
      (t.2.2 < 0 → r = (.one ⟨4, pos X s, t.2.1, e0, 0⟩ t.1, t.2)) ∧ (0 ≤ t.2.2 → r.2.2 = t.2.2) := by
  by_cases hs : 0 ≤ s.2
  · rw [wantS_bad hs]
    exact ⟨(.nil, s), fun h => absurd h (by omega), fun _ => rfl, fun h => absurd h (by dsimp only; omega), fun _ => h2 hs⟩
  · obtain ⟨hP, h⟩ := h1 (by omega)
    unfold paramsM at h
    dsimp only at h
    obtain ⟨q, hq, h⟩ := Option.bind_eq_some_iff.1 h
    injection h with h
    refine ⟨(q.1, wantM X.l q.2.2 q.2.1 sParS), fun _ => ⟨hP, q, by rw [← par_list]; exact hq, rfl⟩, fun hb => ?_, fun hg => ?_, fun _ => by rw [← h]⟩
    · have := parL_bad hb hq
      dsimp only
      rw [wantM_bad (by have : (wantS X s sParO).2 = (wantM X.l s.2 s.1 sParO).2 := rfl; omega)]
      exact this
    · rw [← h, pos_good (by omega)]
set_option maxHeartbeats 4000000 in
theorem written_q (X : Cx) (P : Prop) (f : Nat) (I : RuleQ X P (tyR X f) 121) : RuleQ X P (fun s => typedM X.l f s.2 s.1) 101 := by
  intro s w r hr1 hr2 hS
  have L0 := Lib.hid ((LS.start hS).alloc w.heap.size rfl 25 zcc)
  have rr := hS.row.cell
  have hrb := hS.lt
  have hl := hS.len
  have hpl := hS.pos_lt
  clear rr
  cases q1 : tk X s sCol
  · have HR : Hid (s.2 < 0 → r = (.zero, s)) := fun h => by
      have h3 := (hr1 h).2
      dsimp only at h3
      unfold typedM at h3
      rw [if_pos (.inr (by rw [(tk_bad q1).resolve_left (by omega)]; simp))] at h3
      injection h3 with h3; exact h3.symm
    have HB := Lib.hid hr2
    clear hr1 hr2 I hS
    go_enter Tryz.func101, Tryz.ntmps101
    have CT := Lib.hid (take_no X s ⟨#[58]⟩ _ L0.out.st (by decide) q1)
    go_wp2_with fail
    refine CT.out.mono ?_
    rintro e w1 ⟨rfl, hSw, hFw⟩
    have L1 := Lib.hid (L0.out.step hSw hFw)
    clear hSw hFw CT
    clear q1
    have u1 := (L1.out.row 0 rfl).cell
    have u2 := (L1.out.row 0 rfl).thaw
    have LY := Lib.hid (L1.out.put6 0 rfl rfl (.int .i64 0) (.int .i64 0) (.int .i64 0) (.string ⟨#[]⟩) (.int .i64 0) (.slice none 0 0))
    go_wp2
    refine bodyPost_ret ?_ rfl ⟨⟨0, 0, 0, e0, 0⟩, .nil, none, 0, rfl, KV.nil _ _ _ _, PSt.to LY.out.st (fun h => by rw [HR.out h]) HB.out, LY.out.fr, ?_⟩
    · simp [results, Tryz.results101, go_sem, u1]
      try first | rfl | exact ⟨rfl, rfl⟩
    · intro hh
      rw [HR.out (by by_cases h : (s : Sd).2 < 0; exact h; rw [HB.out (by omega)] at hh; exact absurd hh h)]
      rfl
  · obtain ⟨hg, hm⟩ := tk_good q1
    have hP := (hr1 hg).1
    have h3 := (hr1 hg).2
    dsimp only at h3
    unfold typedM at h3
    rw [if_neg (by rintro (h | h); omega; exact h hm)] at h3
    have CT2 : Hid (∀ w', PSt X w' (s.1 + 1, s.2) → Calls Tryz.prog 121 #[X.p] w' (NodeQ X w' r)) := fun w' h => I (s.1 + 1, s.2) w' r (fun _ => ⟨hP, h3⟩) (fun h => absurd h (by dsimp only; omega)) h
    clear hr1 hr2 I hS hg hm hP h3
    go_enter Tryz.func101, Tryz.ntmps101
    have CT := Lib.hid (take_yes X s ⟨#[58]⟩ _ L0.out.st (by decide) q1)
    go_wp2_with fail
    refine CT.out.mono ?_
    rintro e w1 ⟨rfl, hSw, hFw⟩
    have L1 := Lib.hid (L0.out.step hSw hFw)
    clear hSw hFw CT
    clear q1
    go_wp2_with fail
    refine (CT2.out _ L1.out.st).mono ?_
    rintro e w2 ⟨h1, k1, A1, c1, rfl, hKw, hSw, hFw, hN1⟩
    obtain ⟨x11, x12, x13, x14, x15⟩ := h1
    have L2 := Lib.hid (L1.out.kid hSw hFw hKw)
    have HN1 := Lib.hid hN1
    clear hSw hFw hKw hN1
    have u1 := (L2.out.row 0 rfl).cell
    have u2 := (L2.out.row 0 rfl).thaw
    have LY := Lib.hid (L2.out.put6 0 rfl rfl (.int .i64 x11) (.int .i64 x12) (.int .i64 x13) (.string x14) (.int .i64 x15) (.slice A1 k1.len c1))
    clear CT2
    go_wp2
    refine bodyPost_ret ?_ rfl ⟨⟨x11, x12, x13, x14, x15⟩, k1, A1, c1, rfl, (LY.out.kidP 0 rfl).new_ (fun g h => h.1), LY.out.st, LY.out.fr, HN1.out⟩
    simp [results, Tryz.results101, go_sem, u1]
    try first | rfl | exact ⟨rfl, rfl⟩
set_option maxHeartbeats 4000000 in
theorem param_q (X : Cx) (P : Prop) (f : Nat) (I : RuleQ X P (fun s => typedM X.l f s.2 s.1) 101) : RuleQ X P (fun s => parR X.l f s.2 s.1) 120 := by
  intro s w r hr1 hr2 hS
  have L0 := Lib.hid ((LS.start hS).alloc w.heap.size rfl 25 zcc)
  have rr := hS.row.cell
  have hrb := hS.lt
  have hl := hS.len
  have hpl := hS.pos_lt
  obtain ⟨t, ht1, ht2, hrt, hbt⟩ := par_pure hr1 hr2
  have hwl := wat_lt hS
  have HR := Lib.hid hrt
  have HB := Lib.hid hbt
  have CT : Hid (∀ w', PSt X w' (wordS X s) → Calls Tryz.prog 101 #[X.p] w' (NodeQ X w' t)) := fun w' h => I _ w' t ht1 ht2 h
  clear hr1 hr2 ht1 ht2 hrt hbt hS I
  have CWD := fun w' h => word_any X s w' h
  generalize wat X s = q at *
  generalize pos X s = p at *
  have CWW := Lib.hid (CWD _ L0.out.st)
  clear CWD
  go_enter Tryz.func120, Tryz.ntmps120
  go_wp2_with fail
  refine CWW.out.mono ?_
  rintro e w1 ⟨rfl, hSw, hFw⟩
  have L1 := Lib.hid (L0.out.step hSw hFw)
  clear hSw hFw CWW
  go_wp2_with fail
  refine (CT.out _ L1.out.st).mono ?_
  rintro e w2 ⟨h1, k1, A1, c1, rfl, hKw, hSw, hFw, hN1⟩
  obtain ⟨x11, x12, x13, x14, x15⟩ := h1
  have L2 := Lib.hid (L1.out.kid hSw hFw hKw)
  have HN1 := Lib.hid hN1
  clear hSw hFw hKw hN1
  have L3 := Lib.hid (L2.out.slice w2.heap.size rfl (k := .one ⟨x11, x12, x13, x14, x15⟩ k1) (cs := ncc ⟨x11, x12, x13, x14, x15⟩ A1 k1.len c1) (FC.one (L2.out.kidP 0 rfl)))
  go_wp2_with fail
  refine (named_any X t.2 5 p q (some ⟨w2.heap.size, 0, none⟩) 1 1 _ L3.out.st hwl).mono ?_
  rintro e w4 ⟨rfl, hbw⟩
  have L4b := Lib.hid (L3.out.other hbw)
  have u1 := (L4b.out.row 0 rfl).cell
  have u2 := (L4b.out.row 0 rfl).thaw
  have L4 := Lib.hid (L4b.out.put6 0 rfl rfl (.int .i64 5) (.int .i64 p) (.int .i64 (pos X t.2)) (.string (textAt X.l q)) (.int .i64 q) (.slice (some ⟨w2.heap.size, 0, none⟩) 1 1))
  clear hbw
  go_wp2
  have HR2 : Hid (t.2.2 < 0 → r = (.one ⟨5, p, pos X t.2, textAt X.l q, q⟩ (.one ⟨x11, x12, x13, x14, x15⟩ k1), t.2)) := fun h => by rw [HR.out h, HN1.out h, pos_good h]
  clear HR
  have HR := HR2
  refine bodyPost_ret ?_ rfl ⟨⟨5, p, pos X t.2, textAt X.l q, q⟩, (.one ⟨x11, x12, x13, x14, x15⟩ k1), some ⟨w2.heap.size, 0, none⟩, 1, rfl, (L4.out.kidP 0 rfl).new_ (fun g h => h.1), PSt.to L4.out.st (fun h => by rw [HR.out h]) HB.out, L4.out.fr, ?_⟩
  · simp [results, Tryz.results120, go_sem, u1]
    try first | rfl | exact ⟨rfl, rfl⟩
  · intro hh
    rw [HR.out (by by_cases h : (t.2 : Sd).2 < 0; exact h; rw [HB.out (by omega)] at hh; exact absurd hh h)]
set_option maxHeartbeats 4000000 in
theorem params_q (X : Cx) (P : Prop) (f : Nat) (hf : f ≤ 1000000) (I : ∀ f', f' ≤ f → RuleQ X P (fun s => parR X.l f' s.2 s.1) 120) : RuleQ X P (fun s => paramsM X.l f s.2 s.1) 100 := by
  intro s w r hr1 hr2 hS
  have L0 := Lib.hid ((LS.start hS).alloc w.heap.size rfl 25 zcc)
  have rr := hS.row.cell
  have hrb := hS.lt
  have hl := hS.len
  have hpl := hS.pos_lt
  obtain ⟨t, ht1, ht2, hrt, hbt⟩ := params_pure hr1 hr2
  have HR := Lib.hid hrt
  have HB := Lib.hid hbt
  have HL := Lib.hid ht1
  have HLB := Lib.hid ht2
  have HI := Lib.hid I
  clear hr1 hr2 ht1 ht2 hrt hbt hS I
  generalize pos X s = p at *
  go_enter Tryz.func100, Tryz.ntmps100
  have CW := Lib.hid (want_any X s ⟨#[40]⟩ _ L0.out.st (by decide))
  go_wp2_with fail
  refine CW.out.mono ?_
  rintro e wb ⟨rfl, hSw, hFw⟩
  have LB := Lib.hid (L0.out.step hSw hFw)
  clear hSw hFw CW
  go_wp2_with fail
  refine (list_q X P (parR X.l) ⟨#[41]⟩ f hf (by decide) (by decide) 120 #[X.p] #[] (fun _ => True) (fun _ _ _ _ => trivial) (fun w => enter120 _ w) (fun f' hf' s w r _ h1 h2 hS => HI.out f' hf' s w r h1 h2 hS) (wantS X s sParO) wb t trivial HL.out HLB.out LB.out.st).mono ?_
  rintro e wc ⟨v, K, rfl, hown, hSc, hFc, hKc, hlen⟩
  have LC := Lib.hid (LB.out.give hSc hFc hown)
  obtain ⟨A, cap, hv, hcap, _⟩ := LC.out.list
  subst hv
  have LD := Lib.hid LC.out.toKid
  have HKC := Lib.hid hKc
  clear hown hSc hFc hKc LC LB
  have HR2 : Hid (t.2.2 < 0 → r = (.one ⟨4, p, pos X t.2, e0, 0⟩ K, t.2)) := fun h => by rw [HR.out h, HKC.out h, pos_good h]
  clear HL HLB HI HKC HR
  have HR := HR2
  go_wp2_with fail
  refine (node_any X t.2 4 p (A) K.len cap _ LD.out.st).mono ?_
  rintro e wd ⟨rfl, hbw⟩
  have LEb := Lib.hid (LD.out.other hbw)
  have u1 := (LEb.out.row 0 rfl).cell
  have u2 := (LEb.out.row 0 rfl).thaw
  have LE := Lib.hid (LEb.out.put6 0 rfl rfl (.int .i64 4) (.int .i64 p) (.int .i64 (pos X t.2)) (.string e0) (.int .i64 0) (.slice (A) K.len cap))
  clear hbw
  go_wp2
  refine bodyPost_ret ?_ rfl ⟨⟨4, p, pos X t.2, e0, 0⟩, K, A, cap, rfl, (LE.out.kidP 0 rfl).new_ (fun g h => h.1), PSt.to LE.out.st (fun h => by rw [HR.out h]) HB.out, LE.out.fr, ?_⟩
  · simp [results, Tryz.results100, go_sem, u1]
    try first | rfl | exact ⟨rfl, rfl⟩
  · intro hh
    rw [HR.out (by by_cases h : (t.2 : Sd).2 < 0; exact h; rw [HB.out (by omega)] at hh; exact absurd hh h)]
end Pg
end Go.Proofs.YtiabkkdeonepgaaGreatDoor
