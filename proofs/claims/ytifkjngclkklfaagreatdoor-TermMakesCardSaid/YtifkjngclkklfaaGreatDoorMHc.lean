/- The document's record with a label more: 'with'. -/
import Derived.Test.YtifkjngclkklfaaGreatDoorMHb
import Derived.Test.YtifkjngclkklfaaGreatDoorMGu
import Derived.Test.YtifkjngclkklfaaGreatDoorWO
namespace Go.Proofs.YtifkjngclkklfaaGreatDoor
open Go.RowKit Go.Op
namespace Tm
theorem nv_src {w : World} {P : Nat → Prop} {ns : List ByteArray} {A : Option Addr} {c : Nat} (h : NV w P ns A c) (i : Nat) :
    0 < (ns.take i).length → ∃ g o, A = some ⟨g, o, none⟩ ∧ ∀ (j : Nat) (s : ByteArray), (ns.take i)[j]? = some s → w.cell? ⟨g, o + j, none⟩ = some (.string s) := fun h0 => by
  have h1 : 0 < ns.length := by rw [List.length_take] at h0; omega
  obtain ⟨g, o, e, _, _, k⟩ := h.2.2 h1
  refine ⟨g, o, e, fun j s hj => k j s ?_⟩
  rw [List.getElem?_take] at hj
  split at hj
  · exact hj
  · cases hj
theorem nv_drop {w : World} {P : Nat → Prop} {ns : List ByteArray} {A : Option Addr} {c : Nat} (h : NV w P ns A c) (i : Nat) :
    0 < (ns.drop i).length → ∃ g o, (if c = i then A else Option.map (fun x => x.add i) A) = some ⟨g, o, none⟩ ∧ ∀ (j : Nat) (s : ByteArray), (ns.drop i)[j]? = some s → w.cell? ⟨g, o + j, none⟩ = some (.string s) := fun h0 => by
  rw [List.length_drop] at h0
  have h2 := h.1
  obtain ⟨g, o, e, _, _, k⟩ := h.2.2 (by omega)
  subst e
  rw [if_neg (by omega)]
  refine ⟨g, o + i, by simp [Addr.add], fun j s hj => ?_⟩
  rw [List.getElem?_drop] at hj
  have := k _ s hj
  rw [← Nat.add_assoc] at this
  exact this
theorem tv_src {W wa : World} {T B : Nat} {P : Nat → Prop} {ps : List Ty} {A : Option Addr} {c : Nat} (hP : ∀ g, P g → g < B ∧ g ≠ T) (h : TV W P ps A c) (f : Fr T B W wa) (i : Nat) (hi : i ≤ ps.length) :
    ∃ ck, TL W P (ps.take i) ck ∧ ck.length = i * 3 ∧ (∀ u ∈ ck, u.oneCell' = true) ∧ (0 < i → ∃ g o, A = some ⟨g, o, none⟩ ∧ ∀ j u, ck[j]? = some u → wa.cell? ⟨g, o + j, none⟩ = some u) := by
  by_cases h0 : i = 0
  · subst h0
    exact ⟨[], by rw [List.take_zero, TL], rfl, (fun u hu => by cases hu), fun h => absurd h (by omega)⟩
  · obtain ⟨g, o, ck, e, hg, _, hc, tl⟩ := h.2 (by omega)
    have t2 := (TL.cut ps ck i tl).1
    have hl := TL.len _ _ t2
    rw [List.length_take (i := i) (l := ps), Nat.min_eq_left hi] at hl
    refine ⟨_, t2, hl, TL.cell1 _ _ t2, fun _ => ⟨g, o, e, fun j u hj => ?_⟩⟩
    rw [f.cell (hP g hg).1 (hP g hg).2]
    rw [List.getElem?_take] at hj
    split at hj
    · exact hc j u hj
    · cases hj
theorem tv_dr {W wa : World} {T B : Nat} {P : Nat → Prop} {ps : List Ty} {A : Option Addr} {c : Nat} (hP : ∀ g, P g → g < B ∧ g ≠ T) (h : TV W P ps A c) (f : Fr T B W wa) (i : Nat) (hi : i ≤ ps.length) :
    ∃ ck, TL W P (ps.drop i) ck ∧ ck.length = (ps.length - i) * 3 ∧ (∀ u ∈ ck, u.oneCell' = true) ∧ (0 < ps.length - i → ∃ g o, (if c = i then A else Option.map (fun x => x.add (i * 3)) A) = some ⟨g, o, none⟩ ∧ ∀ j u, ck[j]? = some u → wa.cell? ⟨g, o + j, none⟩ = some u) := by
  by_cases h0 : ps.length - i = 0
  · have e : ps.drop i = [] := List.drop_eq_nil_of_le (by omega)
    rw [e, h0]
    exact ⟨[], by rw [TL], rfl, (fun u hu => by cases hu), fun h => absurd h (by omega)⟩
  · obtain ⟨g, o, ck, e, hg, _, hc, tl⟩ := h.2 (by omega)
    have h1 := h.1
    have t2 := (TL.cut ps ck i tl).2
    have hl := TL.len _ _ t2
    rw [List.length_drop (i := i) (l := ps)] at hl
    subst e
    refine ⟨_, t2, hl, TL.cell1 _ _ t2, fun _ => ⟨g, o + i * 3, by rw [if_neg (by omega)]; simp [Addr.add], fun j u hj => ?_⟩⟩
    rw [f.cell (hP g hg).1 (hP g hg).2]
    rw [List.getElem?_drop] at hj
    have := hc _ u hj
    rw [← Nat.add_assoc] at this
    exact this
set_option maxHeartbeats 8000000 in
set_option maxRecDepth 100000 in
theorem with_any (w : World) (ns : List ByteArray) (ps : List Ty) (P P' : Nat → Prop) (An : Option Addr) (cn : Nat) (A : Option Addr) (c : Nat) (i : Nat) (x : ByteArray) (p : Ty) (Bn : Option Addr) (dn : Nat) (B : Option Addr) (d : Nat)
    (hN : NV w P ns An cn) (hV : TV w P ps A c) (hP : TI w P' p Bn dn B d) (hl : ns.length = ps.length) (hi : i ≤ ns.length) (hlen : ns.length ≤ 1000001) (hx : x.size ≤ 140737488351232) :
    Calls Tryz.prog 49 #[.agg #[.int .i64 3, .slice An ns.length cn, .slice A ps.length c], .int .i64 i, .string x, tv p Bn dn B d] w (MadeQ (fun g => (P g ∨ P' g) ∨ w.heap.size ≤ g) (.mk 3 (insAt ns i x) (insAt ps i p)) w) := by
  have d1 := bel1 w (.cells #[.int .i64 3, .slice An ns.length cn, .slice A ps.length c] 25)
  have R4 := RowB.new w 25 #[.int .i64 3, .slice An ns.length cn, .slice A ps.length c]
  obtain ⟨w1, h1⟩ : ∃ w1, w1 = w.alloc (.cells #[.int .i64 3, .slice An ns.length cn, .slice A ps.length c] 25) := ⟨_, rfl⟩
  have s1 : w1.heap.size = w.heap.size + 1 := by rw [h1]; simp
  rw [← h1] at d1 R4
  have d2 := d1.trans ((bel1 w1 (.cells (tarr p.kind Bn p.names.length dn B p.parts.length d) 25)).mono d1.size)
  have R7 := RowB.new w1 25 (tarr p.kind Bn p.names.length dn B p.parts.length d)
  replace R4 := R4.alloc (.cells (tarr p.kind Bn p.names.length dn B p.parts.length d) 25)
  obtain ⟨w2, h2⟩ : ∃ w2, w2 = w1.alloc (.cells (tarr p.kind Bn p.names.length dn B p.parts.length d) 25) := ⟨_, rfl⟩
  have s2 : w2.heap.size = w.heap.size + 1 + 1 := by rw [h2]; simp [s1]
  rw [← h2] at d2 R7 R4
  have d3 := d2.trans ((bel1 w2 (.cells tzc 25)).mono d2.size)
  have R8 := RowB.new w2 25 tzc
  replace R4 := R4.alloc (.cells tzc 25)
  replace R7 := R7.alloc (.cells tzc 25)
  obtain ⟨w3, h3⟩ : ∃ w3, w3 = w2.alloc (.cells tzc 25) := ⟨_, rfl⟩
  have s3 : w3.heap.size = w.heap.size + 1 + 1 + 1 := by rw [h3]; simp [s2]
  rw [← h3] at d3 R7 R4 R8
  have d4 := d3.trans ((bel1 w3 (.cells #[.int .i64 3, .slice none 0 0, .slice none 0 0] 25)).mono d3.size)
  have R9 := RowB.new w3 25 #[.int .i64 3, .slice none 0 0, .slice none 0 0]
  replace R4 := R4.alloc (.cells #[.int .i64 3, .slice none 0 0, .slice none 0 0] 25)
  replace R7 := R7.alloc (.cells #[.int .i64 3, .slice none 0 0, .slice none 0 0] 25)
  replace R8 := R8.alloc (.cells #[.int .i64 3, .slice none 0 0, .slice none 0 0] 25)
  obtain ⟨W, h4⟩ : ∃ W, W = w3.alloc (.cells #[.int .i64 3, .slice none 0 0, .slice none 0 0] 25) := ⟨_, rfl⟩
  have s4 : W.heap.size = w.heap.size + 4 := by rw [h4]; simp [s3]
  rw [← h4] at d4 R7 R4 R8 R9
  rw [s1] at R7
  rw [s2] at R8
  rw [s3] at R9
  have HB := Lib.hid d4
  have X4 := Lib.hid R4
  have X7 := Lib.hid R7
  have X9 := Lib.hid R9
  have E1 := Lib.hid h1
  have E2 := Lib.hid h2
  have E3 := Lib.hid h3
  have E4 := Lib.hid h4
  have S4 := Lib.hid s4
  have S1 := Lib.hid s1
  have S2 := Lib.hid s2
  have S3 := Lib.hid s3
  obtain ⟨n, hn⟩ : ∃ n, n = ns.length := ⟨_, rfl⟩
  obtain ⟨m, hm⟩ : ∃ m, m = ps.length := ⟨_, rfl⟩
  rw [← hn, ← hm] at hl
  rw [← hn] at hi hlen
  have hcn : n ≤ cn := by rw [hn]; exact hN.1
  have hcm : m ≤ c := by rw [hm]; exact hV.1
  have NW := hN.low.below d4
  have VW := hV.low.below d4
  have PW : TI W (fun g => P' g ∧ g < w.heap.size) p Bn dn B d := (hP.keep (Nat.le_refl _) fun g h hlt => ⟨rfl, h, hlt⟩ : TI w (fun g => P' g ∧ g < w.heap.size) p Bn dn B d).below d4
  have HF : Hid (∀ wa, Fr (w.heap.size + 1 + 1 + 1) W.heap.size W wa → NV wa (fun g => P g ∧ g < w.heap.size) ns An cn ∧ TV wa (fun g => P g ∧ g < w.heap.size) ps A c ∧ TI wa (fun g => P' g ∧ g < w.heap.size) p Bn dn B d ∧ RowB wa w.heap.size 25 #[.int .i64 3, .slice An n cn, .slice A m c] ∧ RowB wa (w.heap.size + 1) 25 (tarr p.kind Bn p.names.length dn B p.parts.length d) ∧ RowB wa (w.heap.size + 1 + 1) 25 tzc) := fun wa hf => by
    have hk : ∀ g, g < w.heap.size → wa.heap[g]? = W.heap[g]? := fun g hg => hf.block g (by omega) (by omega)
    refine ⟨NW.keep hf.size fun g hg _ => ⟨hk g hg.2, hg⟩, VW.keep hf.size fun g hg _ => ⟨hk g hg.2, hg⟩, PW.keep hf.size fun g hg _ => ⟨hk g hg.2, hg⟩, ?_, ?_, ?_⟩
    · rw [hn, hm]; exact (hf.block _ (by omega) (by omega)).trans R4
    · exact (hf.block _ (by omega) (by omega)).trans R7
    · exact (hf.block _ (by omega) (by omega)).trans R8
  have HN := Lib.hid hn
  have HM := Lib.hid hm
  have HL := Lib.hid hl
  rw [← hn, ← hm]
  rw [← hn, ← hm] at X4 E1
  have q1 : (0 : Int) ≤ (i : Int) := by omega
  have q2 : (i : Int) ≤ (n : Int) := by omega
  have q3 : (i : Int) ≤ (cn : Int) := by omega
  have q4 : (i : Int) ≤ (c : Int) := by omega
  clear d1 d2 d3 d4 R4 R7 R8 R9 h1 h2 h3 h4 s1 s2 s3 s4 hn hm hN hV hP hl NW VW PW
  obtain ⟨kp, np, pp⟩ := p
  simp only [tv, kind_mk, names_mk, parts_mk] at X7 E2 HF ⊢
  go_enter Tryz.func49, Tryz.ntmps49
  go_upto_region 2 with fail

  have e1 := E1.out
  have e2 := E2.out
  have e3 := E3.out
  have e4 := E4.out
  rw [← e1, ← e2, ← e3, ← e4]
  clear e1 e2 e3 e4 E1 E2 E3 E4
  have A0 : RS W W (w.heap.size + 1 + 1 + 1) (fun g => (P g ∨ P' g) ∧ g < w.heap.size) (.slice none 0 0) (.slice none 0 0) [] [] [] := RS.start _ _ _
  have hTW : w.heap.size + 1 + 1 + 1 < W.heap.size := by have := S4.out; omega
  have HTW := Lib.hid hTW
  have AD := A0.drew
  obtain ⟨nw, vw, pw, x4, x7, x8⟩ := HF.out _ AD.fr
  have z4 := x4.cell
  have z7 := x7.cell
  have z9 : RowB W.drew (w.heap.size + 1 + 1 + 1) 25 #[.int .i64 3, .slice none 0 0, .slice none 0 0] := X9.out
  refine wp_region_G (S := SG (fun w' => (∀ j, w'.cell? ⟨w.heap.size, j, none⟩ = (#[Value.int .i64 3, .slice An n cn, .slice A m c])[j]?) ∧ (∀ j, w'.cell? ⟨w.heap.size + 1, j, none⟩ = (#[Value.int .i64 kp, .slice Bn np.length dn, .slice B pp.length d])[j]?)) 8 (fun w' => w'.cell? ⟨w.heap.size + 1 + 1 + 1, 1, none⟩ = some (.slice none 0 0)) 99 (fun _ => True)) (by kernel_rfl) ⟨⟨z4, z7⟩, fun _ => z9.cell 1, fun _ => trivial⟩ (fun hS => ?_)
  refine wpG_take0 (i := 0) (v := ?v1) rfl (by kernel_rfl) (by kernel_rfl) (by kernel_rfl) (by decide) (by decide) (fun _ _ _ h => h) hS (Or.inl ⟨by rfl, ?hy1⟩) ?rest1
  case hy1 => (intro w' hw; (try dsimp only at hw); obtain ⟨u0, u1⟩ := hw; go_simp; try with_reducible rfl)
  replace hS := SG.set (i := 0) (by decide) (by decide) hS
  simp only [Act.put, List.setIfInBounds_toArray, List.set_cons_zero, List.set_cons_succ]
  refine wpG_take1 (i := 1) (v := ?v2) rfl (by kernel_rfl) (by kernel_rfl) (by kernel_rfl) (by decide) (by decide) (by kernel_rfl) (by kernel_rfl) (fun _ _ _ h => h) hS (Or.inl ⟨by rfl, ?hy2⟩) ?rest2
  case hy2 => (intro w' hw; (try dsimp only at hw); obtain ⟨_, u9⟩ := hw; go_simp; try with_reducible rfl)
  replace hS := SG.set (i := 1) (by decide) (by decide) hS
  simp only [Act.put, List.setIfInBounds_toArray, List.set_cons_zero, List.set_cons_succ]
  refine wpG_take0 (i := 2) (v := ?v3) rfl (by kernel_rfl) (by kernel_rfl) (by kernel_rfl) (by decide) (by decide) (fun _ _ _ h => h) hS (Or.inl ⟨by rfl, ?hy3⟩) ?rest3
  case hy3 => (intro w' hw; (try dsimp only at hw); obtain ⟨u0, u1⟩ := hw; go_simp; try with_reducible rfl)
  replace hS := SG.set (i := 2) (by decide) (by decide) hS
  simp only [Act.put, List.setIfInBounds_toArray, List.set_cons_zero, List.set_cons_succ]
  refine wpG_take0 (i := 3) (v := ?v4) rfl (by kernel_rfl) (by kernel_rfl) (by kernel_rfl) (by decide) (by decide) (fun _ _ _ h => h) hS (Or.inl ⟨by rfl, ?hy4⟩) ?rest4
  case hy4 => (intro w' hw; (try dsimp only at hw); obtain ⟨u0, u1⟩ := hw; go_simp; try with_reducible rfl)
  replace hS := SG.set (i := 3) (by decide) (by decide) hS
  simp only [Act.put, List.setIfInBounds_toArray, List.set_cons_zero, List.set_cons_succ]
  refine wpG_take0 (i := 4) (v := ?v5) rfl (by kernel_rfl) (by kernel_rfl) (by kernel_rfl) (by decide) (by decide) (fun _ _ _ h => h) hS (Or.inl ⟨by rfl, ?hy5⟩) ?rest5
  case hy5 => (intro w' hw; (try dsimp only at hw); obtain ⟨u0, u1⟩ := hw; go_simp; try with_reducible rfl)
  replace hS := SG.set (i := 4) (by decide) (by decide) hS
  simp only [Act.put, List.setIfInBounds_toArray, List.set_cons_zero, List.set_cons_succ]
  refine wpG_take0 (i := 5) (v := ?v6) rfl (by kernel_rfl) (by kernel_rfl) (by kernel_rfl) (by decide) (by decide) (fun _ _ _ h => h) hS (Or.inl ⟨by rfl, ?hy6⟩) ?rest6
  case hy6 => (intro w' hw; (try dsimp only at hw); obtain ⟨u0, u1⟩ := hw; go_simp; try with_reducible rfl)
  replace hS := SG.set (i := 5) (by decide) (by decide) hS
  simp only [Act.put, List.setIfInBounds_toArray, List.set_cons_zero, List.set_cons_succ]
  have hli : (ns.take i).length = i := by rw [List.length_take, ← HN.out]; omega
  obtain ⟨v1, wa, hr, ho, hg⟩ := append_names (w := W.drew) W.heap.size (.slice none 0 0) 0 [] AD.o1 An cn (ns.take i) (nv_src nw i) (by rw [hli]; omega) (Nat.le_refl _)
  have A1 := AD.apps1 ho hg
  rw [List.nil_append] at A1
  rw [hli] at hr
  rw [hli, Nat.zero_add] at ho
  obtain ⟨B1, b1, rfl, hb1⟩ := own_shape ho
  have y9 : RowB wa (w.heap.size + 1 + 1 + 1) 25 #[.int .i64 3, .slice none 0 0, .slice none 0 0] := z9.grown hg (fun e => by cases e)
  clear nw vw pw x4 x7 x8 z4 z7 z9 hli ho hg AD A0 hS
  obtain ⟨nw, vw, pw, x4, x7, x8⟩ := HF.out _ A1.fr
  have z4 := x4.cell
  have z7 := x7.cell
  refine wpG_ready (rs := [6]) (by kernel_rfl) (by simp) ?_
  refine RG.cons rfl rfl (fun K hK => ?_) RG.nil
  refine wp_append_run (.tmp 12) (.tmp 16) 22 (by rfl) (by rfl) (by rfl) hr ?_
  refine hK.out _ _ ⟨⟨z4, z7⟩, fun _ => y9.cell 1, fun _ => trivial⟩ (fun hS => ?_)
  clear hK K hr
  try simp only [Act.put, List.setIfInBounds_toArray, List.set_cons_zero, List.set_cons_succ]
  refine wpG_take0 (i := 7) (v := ?v7) rfl (by kernel_rfl) (by kernel_rfl) (by kernel_rfl) (by decide) (by decide) (fun _ _ _ h => h) hS (Or.inl ⟨by rfl, ?hy7⟩) ?rest7
  case hy7 => (intro w' hw; (try dsimp only at hw); obtain ⟨u0, u1⟩ := hw; go_simp; try with_reducible rfl)
  replace hS := SG.set (i := 7) (by decide) (by decide) hS
  simp only [Act.put, List.setIfInBounds_toArray, List.set_cons_zero, List.set_cons_succ]
  have A2 := A1.put hTW 1 (.slice B1 i b1)
  have z9 : RowB (wa.setCell ⟨w.heap.size + 1 + 1 + 1, 1, none⟩ (.slice B1 i b1)) (w.heap.size + 1 + 1 + 1) 25 #[.int .i64 3, .slice B1 i b1, .slice none 0 0] := y9.put 1 _
  have yc := y9.cell
  have yt := y9.thaw
  clear nw vw pw x4 x7 x8 A1 hS
  obtain ⟨nw, vw, pw, x4, x7, x8⟩ := HF.out _ A2.fr
  have u4 := x4.cell
  have u7 := x7.cell
  refine wpG_ready (rs := [8]) (by kernel_rfl) (by simp) ?_
  refine RG.cons rfl rfl (fun K hK => ?_) RG.nil
  go_simp
  refine hK.out _ _ ⟨⟨u4, u7⟩, fun h => absurd (h : true = false) (by decide), fun _ => trivial⟩ (fun hS => ?_)
  clear hK K hS yc yt z4 z7 y9
  try simp only [Act.put, List.setIfInBounds_toArray, List.set_cons_zero, List.set_cons_succ]
  refine wpG_done (by kernel_rfl) ?_ _
  obtain ⟨wb, hwb⟩ : ∃ wb, wb = wa.setCell ⟨w.heap.size + 1 + 1 + 1, 1, none⟩ (.slice B1 i b1) := ⟨_, rfl⟩
  rw [← hwb] at A2 z9 nw vw pw x4 x7 x8 u4 u7 ⊢
  clear hwb nw vw pw x4 x7 x8 u4 u7
  go_upto_region 3 with fail
  have AD := A2.drew
  obtain ⟨wd, hwd⟩ : ∃ wd, wd = wb.drew := ⟨_, rfl⟩
  have y9 : RowB wb.drew (w.heap.size + 1 + 1 + 1) 25 #[.int .i64 3, .slice B1 i b1, .slice none 0 0] := z9
  rw [← hwd] at AD y9
  obtain ⟨nw, vw, pw, x4, x7, x8⟩ := HF.out _ AD.fr
  have z4 := x4.cell
  have z7 := x7.cell
  refine wp_region_G (S := SG (fun w' => (∀ j, w'.cell? ⟨w.heap.size, j, none⟩ = (#[Value.int .i64 3, .slice An n cn, .slice A m c])[j]?) ∧ (∀ j, w'.cell? ⟨w.heap.size + 1, j, none⟩ = (#[Value.int .i64 kp, .slice Bn np.length dn, .slice B pp.length d])[j]?)) 11 (fun w' => w'.cell? ⟨w.heap.size + 1 + 1 + 1, 1, none⟩ = some (.slice B1 i b1)) 99 (fun _ => True)) (by kernel_rfl) (by rw [← hwd]; exact ⟨⟨z4, z7⟩, fun _ => y9.cell 1, fun _ => trivial⟩) (fun hS => ?_)
  rw [← hwd] at hS ⊢
  clear hwd z9
  refine wpG_take0 (i := 0) (v := ?v8) rfl (by kernel_rfl) (by kernel_rfl) (by kernel_rfl) (by decide) (by decide) (fun _ _ _ h => h) hS (Or.inl ⟨by rfl, ?hy8⟩) ?rest8
  case hy8 => (intro w' hw; (try dsimp only at hw); obtain ⟨u0, u1⟩ := hw; go_simp; try with_reducible rfl)
  replace hS := SG.set (i := 0) (by decide) (by decide) hS
  simp only [Act.put, List.setIfInBounds_toArray, List.set_cons_zero, List.set_cons_succ]
  refine wpG_take1 (i := 1) (v := ?v9) rfl (by kernel_rfl) (by kernel_rfl) (by kernel_rfl) (by decide) (by decide) (by kernel_rfl) (by kernel_rfl) (fun _ _ _ h => h) hS (Or.inl ⟨by rfl, ?hy9⟩) ?rest9
  case hy9 => (intro w' hw; (try dsimp only at hw); obtain ⟨_, u9⟩ := hw; go_simp; try with_reducible rfl)
  replace hS := SG.set (i := 1) (by decide) (by decide) hS
  simp only [Act.put, List.setIfInBounds_toArray, List.set_cons_zero, List.set_cons_succ]
  refine wpG_take0 (i := 2) (v := ?v10) rfl (by kernel_rfl) (by kernel_rfl) (by kernel_rfl) (by decide) (by decide) (fun _ _ _ h => h) hS (Or.inl ⟨by rfl, ?hy10⟩) ?rest10
  case hy10 => (intro w' hw; (try dsimp only at hw); obtain ⟨u0, u1⟩ := hw; go_simp; try with_reducible rfl)
  replace hS := SG.set (i := 2) (by decide) (by decide) hS
  simp only [Act.put, List.setIfInBounds_toArray, List.set_cons_zero, List.set_cons_succ]
  refine wpG_take0 (i := 5) (v := ?v11) rfl (by kernel_rfl) (by kernel_rfl) (by kernel_rfl) (by decide) (by decide) (fun _ _ _ h => h) hS (Or.inl ⟨by rfl, ?hy11⟩) ?rest11
  case hy11 => (intro w' hw; (try dsimp only at hw); obtain ⟨u0, u1⟩ := hw; go_simp; try with_reducible rfl)
  replace hS := SG.set (i := 5) (by decide) (by decide) hS
  simp only [Act.put, List.setIfInBounds_toArray, List.set_cons_zero, List.set_cons_succ]
  refine wpG_take0 (i := 6) (v := ?v12) rfl (by kernel_rfl) (by kernel_rfl) (by kernel_rfl) (by decide) (by decide) (fun _ _ _ h => h) hS (Or.inl ⟨by rfl, ?hy12⟩) ?rest12
  case hy12 => (intro w' hw; (try dsimp only at hw); obtain ⟨u0, u1⟩ := hw; go_simp; try with_reducible rfl)
  replace hS := SG.set (i := 6) (by decide) (by decide) hS
  simp only [Act.put, List.setIfInBounds_toArray, List.set_cons_zero, List.set_cons_succ]
  refine wpG_take0 (i := 7) (v := ?v13) rfl (by kernel_rfl) (by kernel_rfl) (by kernel_rfl) (by decide) (by decide) (fun _ _ _ h => h) hS (Or.inl ⟨by rfl, ?hy13⟩) ?rest13
  case hy13 => (intro w' hw; (try dsimp only at hw); obtain ⟨u0, u1⟩ := hw; go_simp; try with_reducible rfl)
  replace hS := SG.set (i := 7) (by decide) (by decide) hS
  simp only [Act.put, List.setIfInBounds_toArray, List.set_cons_zero, List.set_cons_succ]
  refine wpG_take0 (i := 8) (v := ?v14) rfl (by kernel_rfl) (by kernel_rfl) (by kernel_rfl) (by decide) (by decide) (fun _ _ _ h => h) hS (Or.inl ⟨by rfl, ?hy14⟩) ?rest14
  case hy14 => (intro w' hw; (try dsimp only at hw); obtain ⟨u0, u1⟩ := hw; go_simp; try with_reducible rfl)
  replace hS := SG.set (i := 8) (by decide) (by decide) hS
  simp only [Act.put, List.setIfInBounds_toArray, List.set_cons_zero, List.set_cons_succ]
  have A3 := AD.alloc (.cells #[.string x] 9)
  have w9 := y9.alloc (.cells #[.string x] 9)
  have rx := RowB.new wd 9 #[.string x]
  clear nw vw pw x4 x7 x8 z4 z7
  obtain ⟨nw, vw, pw, x4, x7, x8⟩ := HF.out _ A3.fr
  have z4 := x4.cell
  have z7 := x7.cell
  refine wpG_ready (rs := [3]) (by kernel_rfl) (by simp) ?_
  refine RG.cons rfl rfl (fun K hK => ?_) RG.nil
  go_simp
  refine hK.out _ _ ⟨⟨z4, z7⟩, fun _ => w9.cell 1, fun _ => trivial⟩ (fun hS => ?_)
  clear hK K hS y9 AD
  try simp only [Act.put, List.setIfInBounds_toArray, List.set_cons_zero, List.set_cons_succ]
  obtain ⟨we, hwe⟩ : ∃ we, we = wd.alloc (.cells #[.string x] 9) := ⟨_, rfl⟩
  rw [← hwe] at A3 w9 rx nw vw pw x4 x7 x8 z4 z7 ⊢
  clear hwe
  obtain ⟨v2, wf, hr, ho, hg⟩ := append_names (w := we) W.heap.size (.slice B1 i b1) _ _ A3.o1 (some ⟨wd.heap.size, 0, none⟩) 1 [x] (fun _ => ⟨_, _, rfl, fun j s hj => by
    cases j with
    | zero => simp at hj; subst hj; exact rx.cell 0
    | succ j => simp at hj⟩) (by rw [List.length_take]; simp; omega) A3.fr.size
  have A4 := A3.apps1 ho hg
  have hl4 : (ns.take i ++ [x]).length = i + 1 := by rw [List.length_append, List.length_take, ← HN.out]; simp; omega
  have ho4 := A4.o1
  rw [hl4] at ho4
  obtain ⟨B2, b2, rfl, hb2⟩ := own_shape ho4
  have y9 := w9.grown hg (fun e => by have h1 := (A3.o1.lt _ e.symm).1; have h2 := HTW.out; omega)
  clear ho hg rx w9 ho4 hl4 A3
  clear nw vw pw x4 x7 x8 z4 z7
  obtain ⟨nw, vw, pw, x4, x7, x8⟩ := HF.out _ A4.fr
  have z4 := x4.cell
  have z7 := x7.cell
  refine wpG_ready (rs := [4]) (by kernel_rfl) (by simp) ?_
  refine RG.cons rfl rfl (fun K hK => ?_) RG.nil
  refine wp_append_run (.tmp 20) (.tmp 22) 22 (by rfl) (by rfl) (by rfl) hr ?_
  refine hK.out _ _ ⟨⟨z4, z7⟩, fun _ => y9.cell 1, fun _ => trivial⟩ (fun hS => ?_)
  clear hK K hS hr
  try simp only [Act.put, List.setIfInBounds_toArray, List.set_cons_zero, List.set_cons_succ]
  have hld : (ns.drop i).length = n - i := by rw [List.length_drop, ← HN.out]
  obtain ⟨v3, wg, hr, ho, hg⟩ := append_names (w := wf) W.heap.size (.slice B2 (i + 1) b2) _ _ A4.o1 _ (cn - i) (ns.drop i) (nv_drop nw i) (by rw [List.length_append, List.length_take, hld]; simp; omega) A4.fr.size
  have A5 := A4.apps1 ho hg
  rw [hld] at hr
  have hl5 : (ns.take i ++ [x] ++ ns.drop i) = insAt ns i x := by unfold insAt; simp
  rw [hl5] at A5
  have hl6 : (insAt ns i x).length = n + 1 := by rw [insAt_len, ← HN.out]
  have ho5 := A5.o1
  rw [hl6] at ho5
  obtain ⟨B3, b3, rfl, hb3⟩ := own_shape ho5
  have w9 := y9.grown hg (fun e => by have h1 := (A4.o1.lt _ e.symm).1; have h2 := HTW.out; omega)
  clear ho hg y9 hl5 hl6 ho5 hld A4
  clear nw vw pw x4 x7 x8 z4 z7
  obtain ⟨nw, vw, pw, x4, x7, x8⟩ := HF.out _ A5.fr
  have z4 := x4.cell
  have z7 := x7.cell
  refine wpG_ready (rs := [9]) (by kernel_rfl) (by simp) ?_
  refine RG.cons rfl rfl (fun K hK => ?_) RG.nil
  refine wp_append_run (.tmp 23) (.tmp 27) 22 (by rfl) (by rfl) (by rfl) hr ?_
  refine hK.out _ _ ⟨⟨z4, z7⟩, fun _ => w9.cell 1, fun _ => trivial⟩ (fun hS => ?_)
  clear hK K hr
  try simp only [Act.put, List.setIfInBounds_toArray, List.set_cons_zero, List.set_cons_succ]
  refine wpG_take0 (i := 10) (v := ?v15) rfl (by kernel_rfl) (by kernel_rfl) (by kernel_rfl) (by decide) (by decide) (fun _ _ _ h => h) hS (Or.inl ⟨by rfl, ?hy15⟩) ?rest15
  case hy15 => (intro w' hw; (try dsimp only at hw); obtain ⟨u0, u1⟩ := hw; go_simp; try with_reducible rfl)
  replace hS := SG.set (i := 10) (by decide) (by decide) hS
  simp only [Act.put, List.setIfInBounds_toArray, List.set_cons_zero, List.set_cons_succ]
  have A6 := A5.put HTW.out 1 (.slice B3 (n + 1) b3)
  have z9 : RowB (wg.setCell ⟨w.heap.size + 1 + 1 + 1, 1, none⟩ (.slice B3 (n + 1) b3)) (w.heap.size + 1 + 1 + 1) 25 #[.int .i64 3, .slice B3 (n + 1) b3, .slice none 0 0] := w9.put 1 _
  have yc := w9.cell
  have yt := w9.thaw
  clear nw vw pw x4 x7 x8 A5 hS
  obtain ⟨nw, vw, pw, x4, x7, x8⟩ := HF.out _ A6.fr
  have u4 := x4.cell
  have u7 := x7.cell
  refine wpG_ready (rs := [11]) (by kernel_rfl) (by simp) ?_
  refine RG.cons rfl rfl (fun K hK => ?_) RG.nil
  go_simp
  refine hK.out _ _ ⟨⟨u4, u7⟩, fun h => absurd (h : true = false) (by decide), fun _ => trivial⟩ (fun hS => ?_)
  clear hK K hS yc yt z4 z7 w9
  try simp only [Act.put, List.setIfInBounds_toArray, List.set_cons_zero, List.set_cons_succ]
  refine wpG_done (by kernel_rfl) ?_ _
  obtain ⟨wb, hwb⟩ : ∃ wb, wb = wg.setCell ⟨w.heap.size + 1 + 1 + 1, 1, none⟩ (.slice B3 (n + 1) b3) := ⟨_, rfl⟩
  rw [← hwb] at A6 z9 nw vw pw x4 x7 x8 u4 u7 ⊢
  clear hwb nw vw pw x4 x7 x8 u4 u7
  go_upto_region 4 with fail
  have hPP : ∀ g, (P g ∧ g < w.heap.size) → g < W.heap.size ∧ g ≠ w.heap.size + 1 + 1 + 1 := fun g hg => ⟨by have := HTW.out; omega, by omega⟩
  have HPP := Lib.hid hPP
  have HW0 := Lib.hid (HF.out W (Fr.refl _ _ _))
  have him : i ≤ ps.length := by have := HM.out; have := HL.out; omega
  have HIM := Lib.hid him
  have q5 : i ≤ m := by have := HL.out; omega
  clear hPP him
  have AD := A6.drew
  obtain ⟨wd, hwd⟩ : ∃ wd, wd = wb.drew := ⟨_, rfl⟩
  have y9 : RowB wb.drew (w.heap.size + 1 + 1 + 1) 25 #[.int .i64 3, .slice B3 (n + 1) b3, .slice none 0 0] := z9
  rw [← hwd] at AD y9
  obtain ⟨nw, vw, pw, x4, x7, x8⟩ := HF.out _ AD.fr
  have z4 := x4.cell
  have z7 := x7.cell
  refine wp_region_G (S := SG (fun w' => (∀ j, w'.cell? ⟨w.heap.size, j, none⟩ = (#[Value.int .i64 3, .slice An n cn, .slice A m c])[j]?) ∧ (∀ j, w'.cell? ⟨w.heap.size + 1, j, none⟩ = (#[Value.int .i64 kp, .slice Bn np.length dn, .slice B pp.length d])[j]?)) 8 (fun w' => w'.cell? ⟨w.heap.size + 1 + 1 + 1, 2, none⟩ = some (.slice none 0 0)) 99 (fun _ => True)) (by kernel_rfl) (by rw [← hwd]; exact ⟨⟨z4, z7⟩, fun _ => y9.cell 2, fun _ => trivial⟩) (fun hS => ?_)
  rw [← hwd] at hS ⊢
  clear hwd z9
  refine wpG_take0 (i := 0) (v := ?v16) rfl (by kernel_rfl) (by kernel_rfl) (by kernel_rfl) (by decide) (by decide) (fun _ _ _ h => h) hS (Or.inl ⟨by rfl, ?hy16⟩) ?rest16
  case hy16 => (intro w' hw; (try dsimp only at hw); obtain ⟨u0, u1⟩ := hw; go_simp; try with_reducible rfl)
  replace hS := SG.set (i := 0) (by decide) (by decide) hS
  simp only [Act.put, List.setIfInBounds_toArray, List.set_cons_zero, List.set_cons_succ]
  refine wpG_take1 (i := 1) (v := ?v17) rfl (by kernel_rfl) (by kernel_rfl) (by kernel_rfl) (by decide) (by decide) (by kernel_rfl) (by kernel_rfl) (fun _ _ _ h => h) hS (Or.inl ⟨by rfl, ?hy17⟩) ?rest17
  case hy17 => (intro w' hw; (try dsimp only at hw); obtain ⟨_, u9⟩ := hw; go_simp; try with_reducible rfl)
  replace hS := SG.set (i := 1) (by decide) (by decide) hS
  simp only [Act.put, List.setIfInBounds_toArray, List.set_cons_zero, List.set_cons_succ]
  refine wpG_take0 (i := 2) (v := ?v18) rfl (by kernel_rfl) (by kernel_rfl) (by kernel_rfl) (by decide) (by decide) (fun _ _ _ h => h) hS (Or.inl ⟨by rfl, ?hy18⟩) ?rest18
  case hy18 => (intro w' hw; (try dsimp only at hw); obtain ⟨u0, u1⟩ := hw; go_simp; try with_reducible rfl)
  replace hS := SG.set (i := 2) (by decide) (by decide) hS
  simp only [Act.put, List.setIfInBounds_toArray, List.set_cons_zero, List.set_cons_succ]
  refine wpG_take0 (i := 3) (v := ?v19) rfl (by kernel_rfl) (by kernel_rfl) (by kernel_rfl) (by decide) (by decide) (fun _ _ _ h => h) hS (Or.inl ⟨by rfl, ?hy19⟩) ?rest19
  case hy19 => (intro w' hw; (try dsimp only at hw); obtain ⟨u0, u1⟩ := hw; go_simp; try with_reducible rfl)
  replace hS := SG.set (i := 3) (by decide) (by decide) hS
  simp only [Act.put, List.setIfInBounds_toArray, List.set_cons_zero, List.set_cons_succ]
  refine wpG_take0 (i := 4) (v := ?v20) rfl (by kernel_rfl) (by kernel_rfl) (by kernel_rfl) (by decide) (by decide) (fun _ _ _ h => h) hS (Or.inl ⟨by rfl, ?hy20⟩) ?rest20
  case hy20 => (intro w' hw; (try dsimp only at hw); obtain ⟨u0, u1⟩ := hw; go_simp; try with_reducible rfl)
  replace hS := SG.set (i := 4) (by decide) (by decide) hS
  simp only [Act.put, List.setIfInBounds_toArray, List.set_cons_zero, List.set_cons_succ]
  refine wpG_take0 (i := 5) (v := ?v21) rfl (by kernel_rfl) (by kernel_rfl) (by kernel_rfl) (by decide) (by decide) (fun _ _ _ h => h) hS (Or.inl ⟨by rfl, ?hy21⟩) ?rest21
  case hy21 => (intro w' hw; (try dsimp only at hw); obtain ⟨u0, u1⟩ := hw; go_simp; try with_reducible rfl)
  replace hS := SG.set (i := 5) (by decide) (by decide) hS
  simp only [Act.put, List.setIfInBounds_toArray, List.set_cons_zero, List.set_cons_succ]
  obtain ⟨ck, tck, lck, ock, sck⟩ := tv_src HPP.out HW0.out.2.1 AD.fr i HIM.out
  obtain ⟨v1, wa, hr, ho, hg⟩ := append_tys (w := wd) W.heap.size (.slice none 0 0) _ _ AD.o2 A i c ck lck sck ock (by simp; omega) AD.fr.size
  have hlt : (ps.take i).length = i := by rw [List.length_take]; have := HIM.out; omega
  have A7 := AD.apps2 (ts := ps.take i) (by rw [hlt]; exact ho) hg (TL.keep (Nat.le_refl _) (fun g hg _ => ⟨rfl, ⟨⟨.inl hg.1, hg.2⟩, HPP.out g hg⟩⟩) _ _ tck)
  have ho7 := A7.o2
  rw [List.nil_append, hlt] at ho7
  obtain ⟨B4, b4, rfl, hb4⟩ := own_shape ho7
  have w9 := y9.grown hg (fun e => by cases e)
  clear ho hg y9 AD hS sck
  clear nw vw pw x4 x7 x8 z4 z7
  obtain ⟨nw, vw, pw, x4, x7, x8⟩ := HF.out _ A7.fr
  have z4 := x4.cell
  have z7 := x7.cell
  refine wpG_ready (rs := [6]) (by kernel_rfl) (by simp) ?_
  refine RG.cons rfl rfl (fun K hK => ?_) RG.nil
  refine wp_append_run (.tmp 31) (.tmp 35) 23 (by rfl) (by rfl) (by rfl) hr ?_
  refine hK.out _ _ ⟨⟨z4, z7⟩, fun _ => w9.cell 2, fun _ => trivial⟩ (fun hS => ?_)
  clear hK K hr
  try simp only [Act.put, List.setIfInBounds_toArray, List.set_cons_zero, List.set_cons_succ]
  refine wpG_take0 (i := 7) (v := ?v22) rfl (by kernel_rfl) (by kernel_rfl) (by kernel_rfl) (by decide) (by decide) (fun _ _ _ h => h) hS (Or.inl ⟨by rfl, ?hy22⟩) ?rest22
  case hy22 => (intro w' hw; (try dsimp only at hw); obtain ⟨u0, u1⟩ := hw; go_simp; try with_reducible rfl)
  replace hS := SG.set (i := 7) (by decide) (by decide) hS
  simp only [Act.put, List.setIfInBounds_toArray, List.set_cons_zero, List.set_cons_succ]
  have A8 := A7.put HTW.out 2 (.slice B4 i b4)
  have z9 : RowB (wa.setCell ⟨w.heap.size + 1 + 1 + 1, 2, none⟩ (.slice B4 i b4)) (w.heap.size + 1 + 1 + 1) 25 #[.int .i64 3, .slice B3 (n + 1) b3, .slice B4 i b4] := w9.put 2 _
  have yc := w9.cell
  have yt := w9.thaw
  clear nw vw pw x4 x7 x8 A7 hS
  obtain ⟨nw, vw, pw, x4, x7, x8⟩ := HF.out _ A8.fr
  have u4 := x4.cell
  have u7 := x7.cell
  refine wpG_ready (rs := [8]) (by kernel_rfl) (by simp) ?_
  refine RG.cons rfl rfl (fun K hK => ?_) RG.nil
  go_simp
  refine hK.out _ _ ⟨⟨u4, u7⟩, fun h => absurd (h : true = false) (by decide), fun _ => trivial⟩ (fun hS => ?_)
  clear hK K hS yc yt z4 z7 w9
  try simp only [Act.put, List.setIfInBounds_toArray, List.set_cons_zero, List.set_cons_succ]
  refine wpG_done (by kernel_rfl) ?_ _
  obtain ⟨wb, hwb⟩ : ∃ wb, wb = wa.setCell ⟨w.heap.size + 1 + 1 + 1, 2, none⟩ (.slice B4 i b4) := ⟨_, rfl⟩
  rw [← hwb] at A8 z9 nw vw pw x4 x7 x8 u4 u7 ⊢
  clear hwb nw vw pw x4 x7 x8 u4 u7
  go_upto_region 5 with fail
  have AD := A8.drew
  obtain ⟨wd, hwd⟩ : ∃ wd, wd = wb.drew := ⟨_, rfl⟩
  have y9 : RowB wb.drew (w.heap.size + 1 + 1 + 1) 25 #[.int .i64 3, .slice B3 (n + 1) b3, .slice B4 i b4] := z9
  rw [← hwd] at AD y9
  obtain ⟨nw, vw, pw, x4, x7, x8⟩ := HF.out _ AD.fr
  have z4 := x4.cell
  have z7 := x7.cell
  refine wp_region_G (S := SG (fun w' => (∀ j, w'.cell? ⟨w.heap.size, j, none⟩ = (#[Value.int .i64 3, .slice An n cn, .slice A m c])[j]?) ∧ (∀ j, w'.cell? ⟨w.heap.size + 1, j, none⟩ = (#[Value.int .i64 kp, .slice Bn np.length dn, .slice B pp.length d])[j]?)) 11 (fun w' => w'.cell? ⟨w.heap.size + 1 + 1 + 1, 2, none⟩ = some (.slice B4 i b4)) 99 (fun _ => True)) (by kernel_rfl) (by rw [← hwd]; exact ⟨⟨z4, z7⟩, fun _ => y9.cell 2, fun _ => trivial⟩) (fun hS => ?_)
  rw [← hwd] at hS ⊢
  clear hwd z9
  refine wpG_take0 (i := 0) (v := ?v23) rfl (by kernel_rfl) (by kernel_rfl) (by kernel_rfl) (by decide) (by decide) (fun _ _ _ h => h) hS (Or.inl ⟨by rfl, ?hy23⟩) ?rest23
  case hy23 => (intro w' hw; (try dsimp only at hw); obtain ⟨u0, u1⟩ := hw; go_simp; try with_reducible rfl)
  replace hS := SG.set (i := 0) (by decide) (by decide) hS
  simp only [Act.put, List.setIfInBounds_toArray, List.set_cons_zero, List.set_cons_succ]
  refine wpG_take1 (i := 1) (v := ?v24) rfl (by kernel_rfl) (by kernel_rfl) (by kernel_rfl) (by decide) (by decide) (by kernel_rfl) (by kernel_rfl) (fun _ _ _ h => h) hS (Or.inl ⟨by rfl, ?hy24⟩) ?rest24
  case hy24 => (intro w' hw; (try dsimp only at hw); obtain ⟨_, u9⟩ := hw; go_simp; try with_reducible rfl)
  replace hS := SG.set (i := 1) (by decide) (by decide) hS
  simp only [Act.put, List.setIfInBounds_toArray, List.set_cons_zero, List.set_cons_succ]
  refine wpG_take0 (i := 2) (v := ?v25) rfl (by kernel_rfl) (by kernel_rfl) (by kernel_rfl) (by decide) (by decide) (fun _ _ _ h => h) hS (Or.inl ⟨by rfl, ?hy25⟩) ?rest25
  case hy25 => (intro w' hw; (try dsimp only at hw); obtain ⟨u0, u1⟩ := hw; go_simp; try with_reducible rfl)
  replace hS := SG.set (i := 2) (by decide) (by decide) hS
  simp only [Act.put, List.setIfInBounds_toArray, List.set_cons_zero, List.set_cons_succ]
  refine wpG_take0 (i := 5) (v := ?v26) rfl (by kernel_rfl) (by kernel_rfl) (by kernel_rfl) (by decide) (by decide) (fun _ _ _ h => h) hS (Or.inl ⟨by rfl, ?hy26⟩) ?rest26
  case hy26 => (intro w' hw; (try dsimp only at hw); obtain ⟨u0, u1⟩ := hw; go_simp; try with_reducible rfl)
  replace hS := SG.set (i := 5) (by decide) (by decide) hS
  simp only [Act.put, List.setIfInBounds_toArray, List.set_cons_zero, List.set_cons_succ]
  refine wpG_take0 (i := 6) (v := ?v27) rfl (by kernel_rfl) (by kernel_rfl) (by kernel_rfl) (by decide) (by decide) (fun _ _ _ h => h) hS (Or.inl ⟨by rfl, ?hy27⟩) ?rest27
  case hy27 => (intro w' hw; (try dsimp only at hw); obtain ⟨u0, u1⟩ := hw; go_simp; try with_reducible rfl)
  replace hS := SG.set (i := 6) (by decide) (by decide) hS
  simp only [Act.put, List.setIfInBounds_toArray, List.set_cons_zero, List.set_cons_succ]
  refine wpG_take0 (i := 7) (v := ?v28) rfl (by kernel_rfl) (by kernel_rfl) (by kernel_rfl) (by decide) (by decide) (fun _ _ _ h => h) hS (Or.inl ⟨by rfl, ?hy28⟩) ?rest28
  case hy28 => (intro w' hw; (try dsimp only at hw); obtain ⟨u0, u1⟩ := hw; go_simp; try with_reducible rfl)
  replace hS := SG.set (i := 7) (by decide) (by decide) hS
  simp only [Act.put, List.setIfInBounds_toArray, List.set_cons_zero, List.set_cons_succ]
  refine wpG_take0 (i := 8) (v := ?v29) rfl (by kernel_rfl) (by kernel_rfl) (by kernel_rfl) (by decide) (by decide) (fun _ _ _ h => h) hS (Or.inl ⟨by rfl, ?hy29⟩) ?rest29
  case hy29 => (intro w' hw; (try dsimp only at hw); obtain ⟨u0, u1⟩ := hw; go_simp; try with_reducible rfl)
  replace hS := SG.set (i := 8) (by decide) (by decide) hS
  simp only [Act.put, List.setIfInBounds_toArray, List.set_cons_zero, List.set_cons_succ]
  have A9 := AD.alloc (.cells #[Value.int .i64 kp, .slice Bn np.length dn, .slice B pp.length d] 25)
  have w9 := y9.alloc (.cells #[Value.int .i64 kp, .slice Bn np.length dn, .slice B pp.length d] 25)
  have rx := RowB.new wd 25 #[Value.int .i64 kp, .slice Bn np.length dn, .slice B pp.length d]
  clear nw vw pw x4 x7 x8 z4 z7
  obtain ⟨nw, vw, pw, x4, x7, x8⟩ := HF.out _ A9.fr
  have z4 := x4.cell
  have z7 := x7.cell
  refine wpG_ready (rs := [3]) (by kernel_rfl) (by simp) ?_
  refine RG.cons rfl rfl (fun K hK => ?_) RG.nil
  go_simp
  refine hK.out _ _ ⟨⟨z4, z7⟩, fun _ => w9.cell 2, fun _ => trivial⟩ (fun hS => ?_)
  clear hK K hS y9 AD
  try simp only [Act.put, List.setIfInBounds_toArray, List.set_cons_zero, List.set_cons_succ]
  obtain ⟨we, hwe⟩ : ∃ we, we = wd.alloc (.cells #[Value.int .i64 kp, .slice Bn np.length dn, .slice B pp.length d] 25) := ⟨_, rfl⟩
  rw [← hwe] at A9 w9 rx nw vw pw x4 x7 x8 z4 z7 ⊢
  clear hwe
  have htp : TL W (fun g => P' g ∧ g < w.heap.size) [.mk kp np pp] (tcs (.mk kp np pp) Bn dn B d) := TL.one HW0.out.2.2.1
  obtain ⟨v2, wf, hr, ho, hg⟩ := append_tys (w := we) W.heap.size (.slice B4 i b4) _ _ A9.o2 (some ⟨wd.heap.size, 0, none⟩) 1 1 (tcs (.mk kp np pp) Bn dn B d) rfl (fun _ => ⟨_, _, rfl, fun j u hj => by rw [Nat.zero_add, rx.cell, ← Array.getElem?_toList]; exact hj⟩) (TL.cell1 _ _ htp) (by rw [List.nil_append, hlt]; omega) A9.fr.size
  have A10 := A9.apps2 (ts := [.mk kp np pp]) ho hg (TL.keep (Nat.le_refl _) (fun g hg _ => ⟨rfl, ⟨⟨.inr hg.1, hg.2⟩, by have := HTW.out; omega, by omega⟩⟩) _ _ htp)
  have hl4 : ([] ++ ps.take i ++ [Ty.mk kp np pp]).length = i + 1 := by rw [List.nil_append, List.length_append, hlt]; rfl
  have ho4 := A10.o2
  rw [hl4] at ho4
  obtain ⟨B5, b5, rfl, hb5⟩ := own_shape ho4
  have y9 := w9.grown hg (fun e => by have h1 := (A9.o2.lt _ e.symm).1; have h2 := HTW.out; omega)
  clear ho hg rx w9 ho4 A9 htp
  clear nw vw pw x4 x7 x8 z4 z7
  obtain ⟨nw, vw, pw, x4, x7, x8⟩ := HF.out _ A10.fr
  have z4 := x4.cell
  have z7 := x7.cell
  refine wpG_ready (rs := [4]) (by kernel_rfl) (by simp) ?_
  refine RG.cons rfl rfl (fun K hK => ?_) RG.nil
  refine wp_append_run (.tmp 39) (.tmp 41) 23 (by rfl) (by rfl) (by rfl) hr ?_
  refine hK.out _ _ ⟨⟨z4, z7⟩, fun _ => y9.cell 2, fun _ => trivial⟩ (fun hS => ?_)
  clear hK K hS hr
  try simp only [Act.put, List.setIfInBounds_toArray, List.set_cons_zero, List.set_cons_succ]
  obtain ⟨cd, tcd, lcd, ocd, scd⟩ := tv_dr HPP.out HW0.out.2.1 A10.fr i HIM.out
  rw [← HM.out] at lcd scd
  obtain ⟨v3, wg, hr, ho, hg⟩ := append_tys (w := wf) W.heap.size (.slice B5 (i + 1) b5) _ _ A10.o2 _ (m - i) (c - i) cd lcd scd ocd (by rw [hl4]; have := HL.out; omega) A10.fr.size
  have hld : (ps.drop i).length = m - i := by rw [List.length_drop, ← HM.out]
  have A11 := A10.apps2 (ts := ps.drop i) (by rw [hld]; exact ho) hg (TL.keep (Nat.le_refl _) (fun g hg _ => ⟨rfl, ⟨⟨.inl hg.1, hg.2⟩, HPP.out g hg⟩⟩) _ _ tcd)
  have hl5 : ([] ++ ps.take i ++ [Ty.mk kp np pp] ++ ps.drop i) = insAt ps i (.mk kp np pp) := by unfold insAt; simp
  rw [hl5] at A11
  have hl6 : (insAt ps i (.mk kp np pp)).length = m + 1 := by rw [insAt_len, ← HM.out]
  have ho5 := A11.o2
  rw [hl6] at ho5
  obtain ⟨B6, b6, rfl, hb6⟩ := own_shape ho5
  have w9 := y9.grown hg (fun e => by have h1 := (A10.o2.lt _ e.symm).1; have h2 := HTW.out; omega)
  clear ho hg y9 hl4 hl5 hl6 ho5 hld A10 scd
  clear nw vw pw x4 x7 x8 z4 z7
  obtain ⟨nw, vw, pw, x4, x7, x8⟩ := HF.out _ A11.fr
  have z4 := x4.cell
  have z7 := x7.cell
  refine wpG_ready (rs := [9]) (by kernel_rfl) (by simp) ?_
  refine RG.cons rfl rfl (fun K hK => ?_) RG.nil
  refine wp_append_run (.tmp 42) (.tmp 46) 23 (by rfl) (by rfl) (by rfl) hr ?_
  refine hK.out _ _ ⟨⟨z4, z7⟩, fun _ => w9.cell 2, fun _ => trivial⟩ (fun hS => ?_)
  clear hK K hr
  try simp only [Act.put, List.setIfInBounds_toArray, List.set_cons_zero, List.set_cons_succ]
  refine wpG_take0 (i := 10) (v := ?v30) rfl (by kernel_rfl) (by kernel_rfl) (by kernel_rfl) (by decide) (by decide) (fun _ _ _ h => h) hS (Or.inl ⟨by rfl, ?hy30⟩) ?rest30
  case hy30 => (intro w' hw; (try dsimp only at hw); obtain ⟨u0, u1⟩ := hw; go_simp; try with_reducible rfl)
  replace hS := SG.set (i := 10) (by decide) (by decide) hS
  simp only [Act.put, List.setIfInBounds_toArray, List.set_cons_zero, List.set_cons_succ]
  have A12 := A11.put HTW.out 2 (.slice B6 (m + 1) b6)
  have z9 : RowB (wg.setCell ⟨w.heap.size + 1 + 1 + 1, 2, none⟩ (.slice B6 (m + 1) b6)) (w.heap.size + 1 + 1 + 1) 25 #[.int .i64 3, .slice B3 (n + 1) b3, .slice B6 (m + 1) b6] := w9.put 2 _
  have yc := w9.cell
  have yt := w9.thaw
  clear nw vw pw x4 x7 x8 A11 hS
  obtain ⟨nw, vw, pw, x4, x7, x8⟩ := HF.out _ A12.fr
  have u4 := x4.cell
  have u7 := x7.cell
  refine wpG_ready (rs := [11]) (by kernel_rfl) (by simp) ?_
  refine RG.cons rfl rfl (fun K hK => ?_) RG.nil
  go_simp
  refine hK.out _ _ ⟨⟨u4, u7⟩, fun h => absurd (h : true = false) (by decide), fun _ => trivial⟩ (fun hS => ?_)
  clear hK K hS yc yt z4 z7 w9
  try simp only [Act.put, List.setIfInBounds_toArray, List.set_cons_zero, List.set_cons_succ]
  refine wpG_done (by kernel_rfl) ?_ _
  obtain ⟨wb, hwb⟩ : ∃ wb, wb = wg.setCell ⟨w.heap.size + 1 + 1 + 1, 2, none⟩ (.slice B6 (m + 1) b6) := ⟨_, rfl⟩
  rw [← hwb] at A12 z9 nw vw pw x4 x7 x8 u4 u7 ⊢
  clear hwb nw vw pw x4 x7 x8 u4 u7
  obtain ⟨nw, vw, pw, x4, x7, x8⟩ := HF.out _ A12.fr
  have z8 := x8.cell
  have z8t := x8.thaw
  have z9c := z9.cell
  clear nw vw pw x4 x7
  go_wp2_with fail
  all_goals
    obtain ⟨a1, a2, a3, a4, e1, e2, hti⟩ := A12.fin (fun s hs => by
      rcases insAt_mem.1 hs with rfl | hs
      · exact hx
      · exact HW0.out.1.2.1 s hs) W.heap.size (Nat.le_refl _) 3
    injection e1 with e11 e12 e13
    injection e2 with e21 e22 e23
    subst e11 e13 e21 e23
    have hb : Below w.heap.size w wb := HB.out.trans (A12.fr.below (Nat.le_of_lt (by have := HTW.out; omega)) (by omega))
    refine bodyPost_ret (v := .agg #[.int .i64 3, .slice B3 (n + 1) b3, .slice B6 (m + 1) b6]) ?_ rfl ⟨below_put3 hb (by omega) _ _ _, B3, b3, B6, b6, by rw [tv, kind_mk, names_mk, parts_mk, ← e12, ← e22], (hti _ (fun g hg hne hp => ?_) (by simp [World.setCell]) HTW.out).mono (fun g hg => ?_)⟩
    · simp [results, Tryz.results49, go_sem, z8]
      try first | rfl | exact ⟨rfl, rfl⟩
    · have hx : g ≠ w.heap.size + 1 + 1 := by
        have := HTW.out
        rcases hp with h | h
        · omega
        · have := h.2; omega
      exact (Below.heap_setCell _ _ _ g hx).trans ((Below.heap_setCell _ _ _ g hx).trans (Below.heap_setCell _ _ _ g hx))
    · have := HTW.out
      rcases hg with h | h
      · exact .inl h.1
      · exact .inr (by omega)

end Tm
end Go.Proofs.YtifkjngclkklfaaGreatDoor
