import Derived.Maps.Ext
import Derived.Maps.RangeWalk
import Derived.Test.YthjflofcgdfekaaGreatDoorSI
import Derived.Defers
import Derived.Recover
namespace Go.Proofs.YthjflofcgdfekaaGreatDoor
open Go.RowKit Go.Op
namespace Sc
open Go.Maps
theorem MF.congr {w : World} {b n : Nat} {f g : ByteArray → Option Int} (h : MF w b n f) (e : ∀ s, s.size ≤ maxLen → f s = g s) : MF w b n g := by
  obtain ⟨D, h1, h2, h3⟩ := h
  exact ⟨D, h1, h2, fun s hs => by rw [← e s hs]; exact h3 s hs⟩
def mix (f g : ByteArray → Option Int) (left : Lit → Bool) (s : ByteArray) : Option Int := if left (kl s) = true then f s else (g s).orElse fun _ => f s
theorem mix_start {D : DataW Unit} {f g : ByteArray → Option Int} (h : Says D g) (s : ByteArray) (hs : s.size ≤ maxLen) : f s = mix f g (has D) s := by
  unfold mix
  rw [(h.2 s hs).1]
  cases g s <;> rfl
theorem mix_step {D : DataW Unit} {f g : ByteArray → Option Int} {left : Lit → Bool} (h : Says D g) {x : ByteArray} {c : Int} (hx : x.size ≤ maxLen) (hat : ∀ zd, D.atKey (kl x) zd = .lit (.int .i64 c)) (s : ByteArray) :
    up (mix f g left) x (some c) s = mix f g (fun z => left z && !z.sameKey (kl x)) s := by
  have hg : g x = some c := by
    obtain ⟨h1, h2⟩ := h.2 x hx
    rw [has_true_of_atKey hat] at h1
    rw [hat] at h2
    cases e : g x with
    | none => rw [e] at h1; cases h1
    | some v =>
      rw [e] at h2
      simp only [Option.getD_some, DataW.lit.injEq, Lit.int.injEq, true_and] at h2
      rw [h2]
  unfold up mix
  by_cases e : s = x
  · subst e
    rw [if_pos rfl]
    have := WideAt.sameKey_self (kl_is hx)
    simp [this, hg]
  · rw [if_neg e]
    have : (kl s).sameKey (kl x) = false := sameKey_ne (fun e' => e (kl_inj e'))
    simp [this]
theorem mix_end {f g : ByteArray → Option Int} {left : Lit → Bool} (h : ∀ k, left k = false) (s : ByteArray) : mix f g left s = (g s).orElse fun _ => f s := by
  unfold mix
  rw [h]
  simp
theorem keyOf_str_inv {key : Value} {k : Lit} (h : keyOf Tryz.prog 9 key = some k) : ∃ x, key = .string x ∧ k = kl x ∧ x.size ≤ maxLen := by
  cases key <;> simp [keyOf, Tryz.underlying9, mapKey] at h
  obtain ⟨h1, rfl⟩ := h
  exact ⟨_, rfl, rfl, h1⟩
set_option maxHeartbeats 4000000 in
set_option maxRecDepth 100000 in
theorem copy_any {w : World} {m h nm nh : Nat} {f g : ByteArray → Option Int} (hm : MF w m nm f) (hh : MF w h nh g) (hne : m ≠ h) (hN : nm + nh ≤ 1000000000) :
    Calls Tryz.prog 138 #[.map (some m), .map (some h)] w fun e w' => e = .returned (.tuple #[]) ∧ MF w' m (nm + nh) (fun s => (g s).orElse fun _ => f s) ∧ w.grownBy w' (some m) := by
  obtain ⟨D, hD, hS⟩ := hh
  have hml := hm.lt
  have hhl := hD.lt
  have hsz := hD.size_le
  have HS := Lib.hid hS
  clear hS
  go_enter Tryz.func138, Tryz.ntmps138
  go_wp2_with (first
    | (at_range; refine wpList_range_own _ rfl _ 187 rfl 9 3 lawS Tryz.underlying187 _ h nh _ rfl hD ?_; intro w0 hrg0 hg0 hs0)
    | go_in)
  go_frame
  have hm0 := hm.of_block (hg0.block m hml (by simp))
  have hm1 := hm0.congr (mix_start HS.out)
  go_loopw [4, 5] (fun _ _ wr => ∃ (left : Lit → Bool) (cnt k : Nat), wr.ranges Tryz.prog 9 (plainElem Tryz.prog 3) h w.heap.size nh D left cnt ∧ k + cnt ≤ nh ∧ MF wr m (nm + k) (mix f g left) ∧ w.grownBy wr (some m))
    (fun _ _ wr => wr.rangeLeft h w.heap.size)
  case atStart => exact ⟨_, _, 0, hrg0, by omega, hm1, hg0.but _⟩
  case round =>
    obtain ⟨left, cnt, k, hrg, hk, hmw, hgw⟩ := hrel
    go_wp2_with (first
      | (at_next; refine wpList_next_ranges _ rfl _ rfl 9 lawS (plainElem Tryz.prog 3) Value.string (Value.int .i64) (fun key k hk => by obtain ⟨x, e, _⟩ := keyOf_str_inv hk; exact ⟨x, e⟩) (fun v y hv => by obtain ⟨c, e, _⟩ := plainElem_int_inv Tryz.underlying3 hv; exact ⟨c, e⟩) h w.heap.size nh _ _ _ rfl hrg ?_ ?_)
      | go_in)
    · intro hc0 hl0
      go_wp2
      go_end0
      exact ⟨rfl, (hmw.mono (by omega)).congr fun s _ => mix_end hl0 s, hgw⟩
    · intro x c k1 y1 y2 w1 cnt1 hkx hlx hvy hat hrg1 hlt hg1 hs1 hen
      obtain ⟨x', e1, e5, hx⟩ := keyOf_str_inv hkx
      cases e1
      subst e5
      obtain ⟨c', e2, e3, hwc⟩ := plainElem_int_inv Tryz.underlying3 hvy
      cases e2
      simp only [Prod.mk.injEq] at e3
      obtain ⟨rfl, _⟩ := e3
      have hmr : m ≠ w.heap.size := by omega
      have hm2 := hmw.of_block (hg1.block m hmw.lt (fun e => by injection e with e; omega))
      have hgw1 := hgw.andThen hg1 (fun j hj => by cases hj; exact Or.inl (Nat.le_refl _))
      obtain ⟨w2, hr2, hm3, hg2⟩ := hm2.put Tryz.underlying186 (by simp only [maxLen]; omega) hx hwc
      go_wp2
      have hrg2 := hrg1.kept hg2 (fun e => by have := Option.some.inj e; omega) (fun e => by have := Option.some.inj e; omega)
      have hm4 := hm3.congr (fun s _ => mix_step (left := left) HS.out hx hat s)
      go_roundw
      case rel => exact ⟨_, cnt1, k + 1, hrg2, by omega, hm4, hgw1.andThen hg2 (fun j hj => by cases hj; exact Or.inr rfl)⟩
      case measure => rw [hrg2.left_eq, hrg.left_eq]; exact hlt
end Sc
end Go.Proofs.YthjflofcgdfekaaGreatDoor
namespace Go.Proofs.YthjflofcgdfekaaGreatDoor
open Go.RowKit Go.Op
namespace Sc
open Vm
variable {X : Wc} {w w1 : World} {K : Nat → Prop} {hv : Option Nat} {s : St} {N nm nh : Nat} {v1 v2 v3 v4 : Value}
theorem WSr.means_to (h : WSr X w K hv s N v1 v2 v3 v4 nm nh) {f : ByteArray → Int} {nm' N' : Nat} (hm : MM w1 X.mb nm' f) (hg : w.grownBy w1 (some X.mb)) (hN : s.bs.length + s.ms.length + s.bad.length + s.within.length + nm' + nh ≤ N') :
    WSr X w1 K hv { s with means := f } N' v1 v2 v3 v4 nm' nh ∧ Gx K w K w1 := by
  have hB : ∀ g, K g → g ≠ X.mb → w1.heap[g]? = w.heap[g]? := fun g hk hn => hg.block g (h.lt g hk).2 (fun e => hn (by injection e))
  obtain ⟨f0, m1, _⟩ := h.mm
  refine ⟨⟨(hB _ h.kb (fun e => row_ne_map h.row m1 e.symm)).trans h.row, own_block h.o1 fun g e => hB g (h.k1 g e) (fun e2 => own_ne_map h.o1 m1 (e2 ▸ e)), own_block h.o2 fun g e => hB g (h.k2 g e) (fun e2 => own_ne_map h.o2 m1 (e2 ▸ e)),
    own_block h.o3 fun g e => hB g (h.k3 g e) (fun e2 => own_ne_map h.o3 m1 (e2 ▸ e)), own_block h.o4 fun g e => hB g (h.k4 g e) (fun e2 => own_ne_map h.o4 m1 (e2 ▸ e)), hm, h.mh.of_block fun g e => hB g (h.kh g e) (fun e2 => h.ne (e2 ▸ e)), h.ne, hN, h.kb, h.km, h.kh, h.k1, h.k2, h.k3, h.k4, ?_⟩, ?_⟩
  · exact fun g hk => ⟨(h.lt g hk).1, Nat.lt_of_lt_of_le (h.lt g hk).2 hg.size⟩
  · exact ⟨hg.os, hg.tape, hg.output, hg.size, fun g h1 hn => hg.block g h1 (fun e => hn (by injection e with e; rw [e]; exact h.km)), fun g h => .inl h⟩
theorem getD_orElse (a b : Option Int) (d : Int) : (a.orElse fun _ => b).getD d = a.getD (b.getD d) := by cases a <;> rfl
set_option maxHeartbeats 8000000 in
set_option maxRecDepth 100000 in
theorem left_deferred {hb : Nat} {t : St} {l : Int} (h : WSr X w K (some hb) t N v1 v2 v3 v4 nm nh) (u : FrameMode) (p0 p1 p2 : Nat) (r0 : RowB w p0 185 #[X.p]) (r1 : RowB w p1 3 #[.int .i64 l]) (hv0 : Option Nat) (r2 : RowB w p2 187 #[.map hv0])
    (n0 : Nat) (o : St) (ho : HM w hv0 n0 o.here) (hne : hv0 ≠ some X.mb) (hl : t.lam = o.lam + l) (hL : 0 ≤ o.lam ∧ o.lam ≤ 1000000) (_hl2 : l = 0 ∨ l = 1) (k0 : ¬ K p0) (k1 : ¬ K p1) (k2 : ¬ K p2) (kv : ∀ g, hv0 = some g → X.B ≤ g ∧ g < w.heap.size ∧ ¬ K g) (hN : N ≤ 100000000) :
    CallsD Tryz.prog 137 #[.pointer (some ⟨p0, 0, none⟩), .pointer (some ⟨p2, 0, none⟩), .pointer (some ⟨p1, 0, none⟩)] u w fun e u' w' => u' = u ∧ (e = .returned (.tuple #[]) ∧ WS X w' (fun g => K g ∨ hv0 = some g) hv0 (leave o t) (N + n0) ∧ Gx K w K w') := by
  obtain ⟨gm, hgm, hgg⟩ := h.mm
  have hgh : MF w hb nh t.here := h.mh
  have CC := Lib.hid (copy_any (w := w.drew) (hgm.of_block (w' := w.drew) rfl) (hgh.of_block (w' := w.drew) rfl) (fun e => h.ne (by rw [e])) (by have := h.sum; omega))
  have H := Lib.hid h
  have R0 := Lib.hid r0
  have R1 := Lib.hid r1
  have R2 := Lib.hid r2
  have HGG := Lib.hid hgg
  have HO := Lib.hid ho
  have K0 := Lib.hid k0
  have K1 := Lib.hid k1
  have K2 := Lib.hid k2
  have KV := Lib.hid kv
  have HW := Lib.hid h.row
  have HLL := Lib.hid hl
  have HNE := Lib.hid hne
  clear h r0 r1 r2 hgm hgg hgh ho k0 k1 k2 kv hl hne
  obtain ⟨b, mb, B⟩ := X
  simp only at *
  go_enter_d Tryz.func137, Tryz.ntmps137
  go_wp2_with fail
  refine wp_region_G (S := SG (fun w' => RowB w' b 189 (wcc v1 v2 v3 v4 mb (some hb) t.lam t.item) ∧ RowB w' p0 185 #[Wc.p ⟨b, mb, B⟩] ∧ RowB w' p1 3 #[.int .i64 l]) 98 (fun _ => True) 99 (fun _ => True)) (by kernel_rfl) ⟨⟨HW.out, R0.out, R1.out⟩, fun _ => trivial, fun _ => trivial⟩ (fun hS => ?_)
  obtain ⟨WD, hWD⟩ : ∃ WD, WD = w.drew := ⟨_, rfl⟩
  have H := Lib.hid (H.out.drew)
  have G1 := Lib.hid (Gx.drew K w)
  have R0 := Lib.hid (show RowB w.drew _ _ _ from R0.out)
  have R1 := Lib.hid (show RowB w.drew _ _ _ from R1.out)
  have R2 := Lib.hid (show RowB w.drew _ _ _ from R2.out)
  have HO := Lib.hid (HO.out.of_block (w' := w.drew) fun _ _ => rfl)
  have KV : Hid (∀ g, hv0 = some g → B ≤ g ∧ g < w.drew.heap.size ∧ ¬ K g) := KV.out
  rw [← hWD] at hS H G1 R0 R1 R2 HO KV CC ⊢
  clear hWD HW
  refine wpG_t0 (i := 0) (v := ?v1) rfl (by kernel_rfl) (fun _ _ _ h => h) hS (Or.inl ⟨by rfl, ?hy1⟩) ?rest1
  case hy1 => (intro w' hw; obtain ⟨q1, q2, q3⟩ := hw; have u0 := q1.cell; have u1 := q2.cell; have u2 := q3.cell; go_simp; try with_reducible rfl)
  replace hS := SG.set (i := 0) (by decide) (by decide) hS
  try simp only [pL]
  refine wpG_t0 (i := 1) (v := ?v2) rfl (by kernel_rfl) (fun _ _ _ h => h) hS (Or.inl ⟨by rfl, ?hy2⟩) ?rest2
  case hy2 => (intro w' hw; obtain ⟨q1, q2, q3⟩ := hw; have u0 := q1.cell; have u1 := q2.cell; have u2 := q3.cell; go_simp; try with_reducible rfl)
  replace hS := SG.set (i := 1) (by decide) (by decide) hS
  try simp only [pL]
  refine wpG_t0 (i := 2) (v := ?v3) rfl (by kernel_rfl) (fun _ _ _ h => h) hS (Or.inl ⟨by rfl, ?hy3⟩) ?rest3
  case hy3 => (intro w' hw; obtain ⟨q1, q2, q3⟩ := hw; have u0 := q1.cell; have u1 := q2.cell; have u2 := q3.cell; go_simp; try with_reducible rfl)
  replace hS := SG.set (i := 2) (by decide) (by decide) hS
  try simp only [pL]
  refine wpG_t0 (i := 3) (v := ?v4) rfl (by kernel_rfl) (fun _ _ _ h => h) hS (Or.inl ⟨by rfl, ?hy4⟩) ?rest4
  case hy4 => (intro w' hw; obtain ⟨q1, q2, q3⟩ := hw; have u0 := q1.cell; have u1 := q2.cell; have u2 := q3.cell; go_simp; try with_reducible rfl)
  replace hS := SG.set (i := 3) (by decide) (by decide) hS
  try simp only [pL]
  refine wpG_t0 (i := 4) (v := ?v5) rfl (by kernel_rfl) (fun _ _ _ h => h) hS (Or.inl ⟨by rfl, ?hy5⟩) ?rest5
  case hy5 => (intro w' hw; obtain ⟨q1, q2, q3⟩ := hw; have u0 := q1.cell; have u1 := q2.cell; have u2 := q3.cell; go_simp; try with_reducible rfl)
  replace hS := SG.set (i := 4) (by decide) (by decide) hS
  try simp only [pL]
  refine wpG_t0 (i := 5) (v := ?v6) rfl (by kernel_rfl) (fun _ _ _ h => h) hS (Or.inl ⟨by rfl, ?hy6⟩) ?rest6
  case hy6 => (intro w' hw; obtain ⟨q1, q2, q3⟩ := hw; have u0 := q1.cell; have u1 := q2.cell; have u2 := q3.cell; go_simp; try with_reducible rfl)
  replace hS := SG.set (i := 5) (by decide) (by decide) hS
  try simp only [pL]
  refine wpG_t0 (i := 6) (v := ?v7) rfl (by kernel_rfl) (fun _ _ _ h => h) hS (Or.inl ⟨by rfl, ?hy7⟩) ?rest7
  case hy7 => (intro w' hw; obtain ⟨q1, q2, q3⟩ := hw; have u0 := q1.cell; have u1 := q2.cell; have u2 := q3.cell; go_simp; try with_reducible rfl)
  replace hS := SG.set (i := 6) (by decide) (by decide) hS
  try simp only [pL]
  refine wpG_t0 (i := 7) (v := ?v8) rfl (by kernel_rfl) (fun _ _ _ h => h) hS (Or.inl ⟨by rfl, ?hy8⟩) ?rest8
  case hy8 => (intro w' hw; obtain ⟨q1, q2, q3⟩ := hw; have u0 := q1.cell; have u1 := q2.cell; have u2 := q3.cell; go_simp; try with_reducible rfl)
  replace hS := SG.set (i := 7) (by decide) (by decide) hS
  try simp only [pL]
  clear hS
  refine wpG_ready (rs := [8]) (by kernel_rfl) (by simp) ?_
  refine RG.cons rfl rfl (fun K' hK => ?_) RG.nil
  go_simp
  refine CC.out.mono ?_
  rintro e W3 ⟨rfl, hm, hg⟩
  clear CC
  go_wp2_with fail
  have hMM : MM W3 mb (nm + nh) (fun x => (t.here x).getD (t.means x)) := ⟨_, hm, fun x => by rw [getD_orElse, HGG.out]⟩
  have FIN := Lib.hid (H.out.means_to hMM hg (N' := N + nh) (by have := H.out.sum; omega))
  have hk : ∀ g, ¬ K g → some g ≠ some mb := fun g hn e => hn (by injection e with e; rw [e]; exact H.out.km)
  have R0 := Lib.hid (show RowB W3 p0 185 _ from (hg.block _ R0.out.lt (hk _ K0.out)).trans R0.out)
  have R1 := Lib.hid (show RowB W3 p1 3 _ from (hg.block _ R1.out.lt (hk _ K1.out)).trans R1.out)
  have R2 := Lib.hid (show RowB W3 p2 187 _ from (hg.block _ R2.out.lt (hk _ K2.out)).trans R2.out)
  have HO := Lib.hid (HO.out.of_block (w' := W3) fun g e => hg.block _ (KV.out g e).2.1 (fun e2 => HNE.out (by rw [e, e2])))
  have KV : Hid (∀ g, hv0 = some g → B ≤ g ∧ g < W3.heap.size ∧ ¬ K g) := fun g e => ⟨(KV.out g e).1, Nat.lt_of_lt_of_le (KV.out g e).2.1 hg.size, (KV.out g e).2.2⟩
  clear hm hg hMM hk
  refine hK.out _ _ ⟨⟨FIN.out.1.row, R0.out, R1.out⟩, fun _ => trivial, fun _ => trivial⟩ (fun hS => ?_)
  clear hK K'
  try simp only [pL]
  clear hS
  refine wpG_done (by kernel_rfl) ?_ _
  have G2 := Lib.hid (G1.out.trans FIN.out.2)
  have HP := Lib.hid (FIN.out.1.put_here (hv' := hv0) (n' := n0) (N' := N + n0) (f := o.here) (K' := fun g => K g ∨ hv0 = some g) HO.out HNE.out (fun g hk _ => .inl hk) (fun g e => .inr e) (fun g hk => hk) (fun g e => ⟨(KV.out g e).1, (KV.out g e).2.1⟩) (by have := H.out.sum; dsimp only; omega))
  have y0 := R0.out.cell
  have y2 := R2.out.cell
  have yc := FIN.out.1.row.cell
  have yt := FIN.out.1.row.thaw
  go_wp2_with fail
  clear y0 y2 yc yt
  obtain ⟨W4, hW4⟩ : ∃ W4, W4 = W3.setCell ⟨b, 4, none⟩ (.map hv0) := ⟨_, rfl⟩
  have HKB : K b := H.out.kb
  have G3 := Lib.hid (put_gx G2.out (p := ⟨b, 4, none⟩) HKB (.map hv0))
  have R0 := Lib.hid (R0.out.far (p := ⟨b, 4, none⟩) (fun e => K0.out (by rw [e]; exact HKB)) (.map hv0))
  have R1 := Lib.hid (R1.out.far (p := ⟨b, 4, none⟩) (fun e => K1.out (by rw [e]; exact HKB)) (.map hv0))
  have H5 := Lib.hid HP.out.1
  rw [← hW4] at H5 G3 R0 R1 ⊢
  clear hW4 HP FIN G2 H G1
  obtain ⟨tl, htl⟩ : ∃ tl, tl = t.lam := ⟨_, rfl⟩
  obtain ⟨ti, hti⟩ : ∃ ti, ti = t.item := ⟨_, rfl⟩
  have HW : Hid (RowB W4 b 189 (wcc v1 v2 v3 v4 mb hv0 tl ti)) := by rw [htl, hti]; exact H5.out.row
  rw [← htl] at HLL
  have HTL := Lib.hid htl
  clear htl hti
  have e1 : IntKind.i64.wrap (tl - l) = o.lam := by have h1 := HLL.out; have h2 := hL; rw [IntKind.wrap_i64]; omega
  refine wp_region_G (S := SG (fun _ => True) 8 (fun w' => RowB w' b 189 (wcc v1 v2 v3 v4 mb hv0 tl ti) ∧ RowB w' p0 185 #[Wc.p ⟨b, mb, B⟩] ∧ RowB w' p1 3 #[.int .i64 l]) 99 (fun _ => True)) (by kernel_rfl) ⟨trivial, fun _ => ⟨HW.out, R0.out, R1.out⟩, fun _ => trivial⟩ (fun hS => ?_)
  obtain ⟨WD, hWD⟩ : ∃ WD, WD = W4.drew := ⟨_, rfl⟩
  have H5 := Lib.hid (H5.out.drew)
  have G3 := Lib.hid (G3.out.trans (Gx.drew K W4))
  have HW := Lib.hid (show RowB W4.drew _ _ _ from HW.out)
  rw [← hWD] at hS H5 G3 HW ⊢
  clear hWD
  refine wpG_t1 (i := 0) (v := ?v9) rfl (by kernel_rfl) (fun _ _ _ h => h) hS (Or.inl ⟨by rfl, ?hy9⟩) ?rest9
  case hy9 => (intro w' hw; obtain ⟨_, q1, q2, q3⟩ := hw; have u0 := q1.cell; have u1 := q2.cell; have u2 := q3.cell; go_simp; try with_reducible rfl)
  replace hS := SG.set (i := 0) (by decide) (by decide) hS
  try simp only [pL]
  refine wpG_t1 (i := 1) (v := ?v10) rfl (by kernel_rfl) (fun _ _ _ h => h) hS (Or.inl ⟨by rfl, ?hy10⟩) ?rest10
  case hy10 => (intro w' hw; obtain ⟨_, q1, q2, q3⟩ := hw; have u0 := q1.cell; have u1 := q2.cell; have u2 := q3.cell; go_simp; try with_reducible rfl)
  replace hS := SG.set (i := 1) (by decide) (by decide) hS
  try simp only [pL]
  refine wpG_t1 (i := 2) (v := ?v11) rfl (by kernel_rfl) (fun _ _ _ h => h) hS (Or.inl ⟨by rfl, ?hy11⟩) ?rest11
  case hy11 => (intro w' hw; obtain ⟨_, q1, q2, q3⟩ := hw; have u0 := q1.cell; have u1 := q2.cell; have u2 := q3.cell; go_simp; try with_reducible rfl)
  replace hS := SG.set (i := 2) (by decide) (by decide) hS
  try simp only [pL]
  refine wpG_t1 (i := 3) (v := ?v12) rfl (by kernel_rfl) (fun _ _ _ h => h) hS (Or.inl ⟨by rfl, ?hy12⟩) ?rest12
  case hy12 => (intro w' hw; obtain ⟨_, q1, q2, q3⟩ := hw; have u0 := q1.cell; have u1 := q2.cell; have u2 := q3.cell; go_simp; try with_reducible rfl)
  replace hS := SG.set (i := 3) (by decide) (by decide) hS
  try simp only [pL]
  refine wpG_t1 (i := 4) (v := ?v13) rfl (by kernel_rfl) (fun _ _ _ h => h) hS (Or.inl ⟨by rfl, ?hy13⟩) ?rest13
  case hy13 => (intro w' hw; obtain ⟨_, q1, q2, q3⟩ := hw; have u0 := q1.cell; have u1 := q2.cell; have u2 := q3.cell; go_simp; try with_reducible rfl)
  replace hS := SG.set (i := 4) (by decide) (by decide) hS
  try simp only [pL]
  refine wpG_t1 (i := 5) (v := ?v14) rfl (by kernel_rfl) (fun _ _ _ h => h) hS (Or.inl ⟨by rfl, ?hy14⟩) ?rest14
  case hy14 => (intro w' hw; obtain ⟨_, q1, q2, q3⟩ := hw; have u0 := q1.cell; have u1 := q2.cell; have u2 := q3.cell; go_simp; try with_reducible rfl)
  replace hS := SG.set (i := 5) (by decide) (by decide) hS
  try simp only [pL]
  refine wpG_t0 (i := 6) (v := ?v15) rfl (by kernel_rfl) (fun _ _ _ h => h) hS (Or.inl ⟨by rfl, ?hy15⟩) ?rest15
  case hy15 => (intro w' hw; go_simp; try with_reducible rfl)
  replace hS := SG.set (i := 6) (by decide) (by decide) hS
  try simp only [pL]
  refine wpG_t0 (i := 7) (v := ?v16) rfl (by kernel_rfl) (fun _ _ _ h => h) hS (Or.inl ⟨by rfl, ?hy16⟩) ?rest16
  case hy16 => (intro w' hw; go_simp; try with_reducible rfl)
  replace hS := SG.set (i := 7) (by decide) (by decide) hS
  try simp only [pL]
  clear hS
  have yc := HW.out.cell
  have yt := HW.out.thaw
  refine wpG_ready (rs := [8]) (by kernel_rfl) (by simp) ?_
  refine RG.cons rfl rfl (fun K' hK => ?_) RG.nil
  go_simp
  clear yc yt
  refine hK.out _ _ ⟨trivial, fun h => absurd (h : true = false) (by decide), fun _ => trivial⟩ (fun hS => ?_)
  clear hK K'
  try simp only [pL]
  clear hS e1
  refine wpG_done (by kernel_rfl) ?_ _
  have FE := H5.out.put_lam o.lam
  go_end0
  exact ⟨rfl, ⟨_, _, _, _, _, _, FE.1⟩, put_gx G3.out (p := ⟨b, 5, none⟩) HKB _⟩
end Sc
end Go.Proofs.YthjflofcgdfekaaGreatDoor
namespace Go.Proofs.YthjflofcgdfekaaGreatDoor
open Go.RowKit Go.Op
namespace Sc
open Vm
theorem wp_nopanic {P : Program} {c : Code} {a : Act} {w : World} {Q : Exit → Act → World → Prop} (h : c.wp P (fun e a w => e = .normal ∧ Q .normal a w) a w) : c.wp P Q a w :=
  wp_mono h fun _e _a _w ⟨he, hq⟩ => he ▸ hq
def Thru (X : Wc) (w : World) (K : Nat → Prop) (N d : Nat) (s : St) (l : Int) (f : St → St) (cl : Nat) (caps : Array Value) : Prop :=
  ∀ (hb N1 : Nat) (w1 : World) (K1 : Nat → Prop), WS X w1 K1 (some hb) (enter l s) N1 → N1 ≤ N → w.heap.size ≤ w1.heap.size → (∀ g, g < w.heap.size → ¬ K g → w1.heap[g]? = w.heap[g]?) → (∀ g, K1 g → K g ∨ w.heap.size ≤ g) →
    Calls Tryz.prog cl caps w1 (Ans X w1 K1 (some hb) (f (enter l s)) (N1 + d))
set_option maxHeartbeats 8000000 in
set_option maxRecDepth 100000 in
theorem through_any {X : Wc} {w : World} {K : Nat → Prop} {hv : Option Nat} {s : St} {N nm nh : Nat} {v1 v2 v3 v4 : Value} (h : WSr X w K hv s N v1 v2 v3 v4 nm nh) (l : Int) (hl2 : l = 0 ∨ l = 1) (hL : 0 ≤ s.lam ∧ s.lam < 1000000) (cl : Nat) (caps : Array Value) (f : St → St) (d : Nat)
    (HF : Thru X w K N d s l f cl caps) (HC : ∀ w, (callFunc cl caps).run Tryz.prog w = .ok (.enter cl caps) w) (hlam : (f (enter l s)).lam = s.lam + l) (hN : N + d ≤ 100000000) :
    Calls Tryz.prog 105 #[X.p, .int .i64 l, .func (.func cl) #[] caps] w (Ans X w K hv (leave s (f (enter l s))) (N + d)) := by
  have hmm := @run_makeMap Tryz.prog
  obtain ⟨Wa, hWa⟩ : ∃ Wa, Wa = (w.alloc (.cells #[X.p] 185)).alloc (.cells #[.int .i64 l] 3) := ⟨_, rfl⟩
  have Ha := (h.alloc (.cells #[X.p] 185)).alloc (.cells #[.int .i64 l] 3)
  have A0 := (RowB.new w 185 #[X.p]).alloc (.cells #[.int .i64 l] 3)
  have A1 := RowB.new (w.alloc (.cells #[X.p] 185)) 3 #[.int .i64 l]
  have S1 : (w.alloc (.cells #[X.p] 185)).heap.size = w.heap.size + 1 := by simp
  have S2 : Wa.heap.size = w.heap.size + 2 := by rw [hWa]; simp
  rw [S1] at A1
  rw [← hWa] at Ha A0 A1
  obtain ⟨Wx, hWx⟩ : ∃ Wx, Wx = Wa.alloc (.cells #[.map hv] 187) := ⟨_, rfl⟩
  have Hc := Ha.alloc (.cells #[.map hv] 187)
  have C0 := A0.alloc (.cells #[.map hv] 187)
  have C1 := A1.alloc (.cells #[.map hv] 187)
  have C2 := RowB.new Wa 187 #[.map hv]
  have S3 : Wx.heap.size = w.heap.size + 3 := by rw [hWx]; simp [S2]
  rw [S2] at C2
  rw [← hWx] at Hc C0 C1 C2
  obtain ⟨Wd, hWd⟩ : ∃ Wd, Wd = Wx.alloc (.map #[] 0) := ⟨_, rfl⟩
  have Hd := Hc.alloc (.map #[] 0)
  have D0 := C0.alloc (.map #[] 0)
  have D1 := C1.alloc (.map #[] 0)
  have D2 := C2.alloc (.map #[] 0)
  have DM := MF.new Wx
  have S4 : Wd.heap.size = w.heap.size + 4 := by rw [hWd]; simp [S3]
  rw [S3] at DM
  rw [← hWd] at Hd D0 D1 D2 DM
  have hkn : ∀ g, w.heap.size ≤ g → ¬ K g := fun g hg hk => by have := (h.lt g hk).2; omega
  have HE := Hd.put_here (hv' := some (w.heap.size + 3)) (n' := 0) (N' := N - nh) (f := fun _ => none) (K' := fun g => (K g ∧ some g ≠ hv) ∨ some (w.heap.size + 3) = some g) DM (fun e => by injection e with e; exact hkn _ (by omega) (e ▸ h.km)) (fun g hk hn => .inl ⟨hk, hn⟩) (fun g e => .inr e) (fun g hk => hk.imp (fun h => h.1) id)
    (fun g e => by injection e with e; subst e; exact ⟨by have := (h.lt _ h.kb); omega, by omega⟩) (by have := h.sum; omega)
  have H := Lib.hid h
  have GA : Gx K w K Wd := by rw [hWd, hWx, hWa]; exact (((Gx.alloc K w _).trans (Gx.alloc K _ _)).trans (Gx.alloc K _ _)).trans (Gx.alloc K _ _)
  have GA := Lib.hid GA
  have HF := Lib.hid HF
  have HKN := Lib.hid hkn
  have HLAM := Lib.hid hlam
  have ya := Ha.row.cell
  have z0 := D0.cell
  have zd := Hd.row.cell
  have zt := Hd.row.thaw
  rw [hWa] at ya
  rw [hWd, hWx, hWa] at z0 zd zt
  have HD := Lib.hid Hd
  have HEE := Lib.hid HE
  have R0 := Lib.hid D0
  have R1 := Lib.hid D1
  have R2 := Lib.hid D2
  have SZ := Lib.hid (show Wa.heap.size = w.heap.size + 2 ∧ Wx.heap.size = w.heap.size + 3 ∧ Wd.heap.size = w.heap.size + 4 from ⟨S2, S3, S4⟩)
  have HWA := Lib.hid hWa
  have HWC := Lib.hid hWx
  have HWD := Lib.hid hWd
  obtain ⟨b, mb, B⟩ := X
  simp only at *
  clear h Ha A0 A1 S1 S2 Hc C0 C1 C2 S3 Hd D0 D1 D2 DM S4 hkn HE hlam hWa hWx hWd
  go_enter_defers Tryz.func105, Tryz.ntmps105
  go_wp2_with fail
  rw [show w.heap.size + 1 + 1 + 1 = w.heap.size + 3 from rfl, show w.heap.size + 1 + 1 = w.heap.size + 2 from rfl, ← HWA.out, ← HWC.out, ← HWD.out]
  clear ya z0 zd zt HWA HWC
  obtain ⟨p0, hp0⟩ : ∃ p0, p0 = w.heap.size := ⟨_, rfl⟩
  obtain ⟨p1, hp1⟩ : ∃ p1, p1 = w.heap.size + 1 := ⟨_, rfl⟩
  obtain ⟨p2, hp2⟩ : ∃ p2, p2 = w.heap.size + 2 := ⟨_, rfl⟩
  obtain ⟨p3, hp3⟩ : ∃ p3, p3 = w.heap.size + 3 := ⟨_, rfl⟩
  have HP := Lib.hid (show p0 = w.heap.size ∧ p1 = w.heap.size + 1 ∧ p2 = w.heap.size + 2 ∧ p3 = w.heap.size + 3 from ⟨hp0, hp1, hp2, hp3⟩)
  rw [← hp1] at R1 ⊢
  rw [← hp2] at R2 ⊢
  rw [← hp3] at HEE ⊢
  rw [← hp0] at R0 ⊢
  clear hp0 hp1 hp2 hp3
  have NB : Hid (p0 ≠ b ∧ p1 ≠ b ∧ p2 ≠ b) := by have h1 := (H.out.lt _ H.out.kb).2; have h2 := HP.out; simp only at h1; exact ⟨by omega, by omega, by omega⟩
  obtain ⟨We, hWe⟩ : ∃ We, We = Wd.setCell ⟨b, 4, none⟩ (.map (some p3)) := ⟨_, rfl⟩
  have R0 := Lib.hid (R0.out.far (p := ⟨b, 4, none⟩) NB.out.1 (.map (some p3)))
  have R1 := Lib.hid (R1.out.far (p := ⟨b, 4, none⟩) NB.out.2.1 (.map (some p3)))
  have R2 := Lib.hid (R2.out.far (p := ⟨b, 4, none⟩) NB.out.2.2 (.map (some p3)))
  have HE := Lib.hid HEE.out.1
  have GE := Lib.hid (put_gx GA.out (p := ⟨b, 4, none⟩) H.out.kb (.map (some p3)))
  have HO := Lib.hid (HD.out.mh.of_block (w' := Wd.setCell ⟨b, 4, none⟩ (.map (some p3))) fun g e => Below.heap_setCell Wd ⟨b, 4, none⟩ _ g (row_ne_map HD.out.row (HD.out.hv_ne e)))
  rw [← hWe] at R0 R1 R2 HE GE HO ⊢
  clear HEE hWe HD HWD
  have e1 : IntKind.i64.wrap (s.lam + l) = s.lam + l := by rw [IntKind.wrap_i64]; omega
  obtain ⟨sl, hsl⟩ : ∃ sl, sl = s.lam := ⟨_, rfl⟩
  obtain ⟨si, hsi⟩ : ∃ si, si = s.item := ⟨_, rfl⟩
  have HW : Hid (RowB We b 189 (wcc v1 v2 v3 v4 mb (some p3) sl si)) := by rw [hsl, hsi]; exact HE.out.row
  have HSL := Lib.hid hsl
  rw [← hsl] at e1
  clear hsl hsi
  refine wp_nopanic ?_
  refine wp_region_G (S := SG (fun _ => True) 8 (fun w' => RowB w' b 189 (wcc v1 v2 v3 v4 mb (some p3) sl si) ∧ RowB w' p0 185 #[Wc.p ⟨b, mb, B⟩] ∧ RowB w' p1 3 #[.int .i64 l]) 99 (fun _ => True)) (by kernel_rfl) ⟨trivial, fun _ => ⟨HW.out, R0.out, R1.out⟩, fun _ => trivial⟩ (fun hS => ?_)
  obtain ⟨WD, hWD⟩ : ∃ WD, WD = We.drew := ⟨_, rfl⟩
  have HE := Lib.hid (HE.out.drew)
  have GE := Lib.hid (GE.out.trans (Gx.drew K We))
  have HW := Lib.hid (show RowB We.drew _ _ _ from HW.out)
  have R0 := Lib.hid (show RowB We.drew _ _ _ from R0.out)
  have R1 := Lib.hid (show RowB We.drew _ _ _ from R1.out)
  have R2 := Lib.hid (show RowB We.drew _ _ _ from R2.out)
  have HO := Lib.hid (HO.out.of_block (w' := We.drew) fun _ _ => rfl)
  rw [← hWD] at hS HE GE HW R0 R1 R2 HO ⊢
  clear hWD
  refine wpG_t1 (i := 0) (v := ?v1) rfl (by kernel_rfl) (fun _ _ _ h => nomatch h.1) hS (Or.inl ⟨by rfl, ?hy1⟩) ?rest1
  case hy1 => (intro w' hw; obtain ⟨_, q1, q2, q3⟩ := hw; have u0 := q1.cell; have u1 := q2.cell; have u2 := q3.cell; go_simp; try with_reducible rfl)
  replace hS := SG.set (i := 0) (by decide) (by decide) hS
  try simp only [pL]
  refine wpG_t1 (i := 1) (v := ?v2) rfl (by kernel_rfl) (fun _ _ _ h => nomatch h.1) hS (Or.inl ⟨by rfl, ?hy2⟩) ?rest2
  case hy2 => (intro w' hw; obtain ⟨_, q1, q2, q3⟩ := hw; have u0 := q1.cell; have u1 := q2.cell; have u2 := q3.cell; go_simp; try with_reducible rfl)
  replace hS := SG.set (i := 1) (by decide) (by decide) hS
  try simp only [pL]
  refine wpG_t1 (i := 2) (v := ?v3) rfl (by kernel_rfl) (fun _ _ _ h => nomatch h.1) hS (Or.inl ⟨by rfl, ?hy3⟩) ?rest3
  case hy3 => (intro w' hw; obtain ⟨_, q1, q2, q3⟩ := hw; have u0 := q1.cell; have u1 := q2.cell; have u2 := q3.cell; go_simp; try with_reducible rfl)
  replace hS := SG.set (i := 2) (by decide) (by decide) hS
  try simp only [pL]
  refine wpG_t1 (i := 3) (v := ?v4) rfl (by kernel_rfl) (fun _ _ _ h => nomatch h.1) hS (Or.inl ⟨by rfl, ?hy4⟩) ?rest4
  case hy4 => (intro w' hw; obtain ⟨_, q1, q2, q3⟩ := hw; have u0 := q1.cell; have u1 := q2.cell; have u2 := q3.cell; go_simp; try with_reducible rfl)
  replace hS := SG.set (i := 3) (by decide) (by decide) hS
  try simp only [pL]
  refine wpG_t1 (i := 4) (v := ?v5) rfl (by kernel_rfl) (fun _ _ _ h => nomatch h.1) hS (Or.inl ⟨by rfl, ?hy5⟩) ?rest5
  case hy5 => (intro w' hw; obtain ⟨_, q1, q2, q3⟩ := hw; have u0 := q1.cell; have u1 := q2.cell; have u2 := q3.cell; go_simp; try with_reducible rfl)
  replace hS := SG.set (i := 4) (by decide) (by decide) hS
  try simp only [pL]
  refine wpG_t1 (i := 5) (v := ?v6) rfl (by kernel_rfl) (fun _ _ _ h => nomatch h.1) hS (Or.inl ⟨by rfl, ?hy6⟩) ?rest6
  case hy6 => (intro w' hw; obtain ⟨_, q1, q2, q3⟩ := hw; have u0 := q1.cell; have u1 := q2.cell; have u2 := q3.cell; go_simp; try with_reducible rfl)
  replace hS := SG.set (i := 5) (by decide) (by decide) hS
  try simp only [pL]
  refine wpG_t0 (i := 6) (v := ?v7) rfl (by kernel_rfl) (fun _ _ _ h => nomatch h.1) hS (Or.inl ⟨by rfl, ?hy7⟩) ?rest7
  case hy7 => (intro w' hw; go_simp; try with_reducible rfl)
  replace hS := SG.set (i := 6) (by decide) (by decide) hS
  try simp only [pL]
  refine wpG_t0 (i := 7) (v := ?v8) rfl (by kernel_rfl) (fun _ _ _ h => nomatch h.1) hS (Or.inl ⟨by rfl, ?hy8⟩) ?rest8
  case hy8 => (intro w' hw; go_simp; try with_reducible rfl)
  replace hS := SG.set (i := 7) (by decide) (by decide) hS
  try simp only [pL]
  clear hS
  have yc := HW.out.cell
  have yt := HW.out.thaw
  refine wpG_ready (rs := [8]) (by kernel_rfl) (by simp) ?_
  refine RG.cons rfl rfl (fun K' hK => ?_) RG.nil
  go_simp
  clear yc yt
  refine hK.out _ _ ⟨trivial, fun h => absurd (h : true = false) (by decide), fun _ => trivial⟩ (fun hS => ?_)
  clear hK K'
  try simp only [pL]
  clear hS
  refine wpG_done (by kernel_rfl) ⟨rfl, ?_⟩ _
  obtain ⟨Wf, hWf⟩ : ∃ Wf, Wf = WD.setCell ⟨b, 5, none⟩ (.int .i64 (sl + l)) := ⟨_, rfl⟩
  have HFF := HE.out.put_lam (sl + l)
  have HF1 := Lib.hid HFF.1
  have GF := Lib.hid (put_gx GE.out (p := ⟨b, 5, none⟩) H.out.kb (.int .i64 (sl + l)))
  have R0 := Lib.hid (R0.out.far (p := ⟨b, 5, none⟩) NB.out.1 (.int .i64 (sl + l)))
  have R1 := Lib.hid (R1.out.far (p := ⟨b, 5, none⟩) NB.out.2.1 (.int .i64 (sl + l)))
  have R2 := Lib.hid (R2.out.far (p := ⟨b, 5, none⟩) NB.out.2.2 (.int .i64 (sl + l)))
  have HO := Lib.hid (HO.out.of_block (w' := WD.setCell ⟨b, 5, none⟩ (.int .i64 (sl + l))) fun g e => Below.heap_setCell WD ⟨b, 5, none⟩ _ g (fun e2 => by
    have m2 := HO.out
    rw [e] at m2
    exact row_ne_map HW.out m2 e2))
  rw [← hWf] at HF1 GF R0 R1 R2 HO ⊢
  rw [HSL.out] at HF1
  clear hWf HFF HE GE HW e1 HSL
  have hmf : ∀ (fn : Fn) (first cap : Array Value) (w : World), (Instr.makeFunc fn first cap).run Tryz.prog w = .ok (.func fn first cap) w := fun _ _ _ _ => rfl
  go_wp2_with fail
  have HN0 : nh ≤ N := by have := H.out.sum; omega
  refine (HF.out p3 (N - nh) Wf (fun g => (K g ∧ some g ≠ hv) ∨ some p3 = some g) ⟨_, _, _, _, _, _, HF1.out⟩ (by omega) GF.out.size (fun g hg hk => GF.out.block g hg hk) (fun g hg => hg.imp (fun h => h.1) (fun e => by injection e with e; have := HP.out; omega))).mono ?_
  rintro e W5 ⟨rfl, K2, ⟨u1, u2, u3, u4, m2, n2, h5⟩, g5⟩
  have hnk : ∀ g, g ≠ p3 → (K g → hv = some g) → ¬ ((K g ∧ some g ≠ hv) ∨ some p3 = some g) := fun g h1 h2 h => by
    rcases h with h | h
    · exact h.2 (h2 h.1).symm
    · injection h with h; exact h1 h.symm
  have hP := HP.out
  have hk0 := hnk p0 (by omega) (fun h => absurd h (HKN.out p0 (by omega)))
  have hk1 := hnk p1 (by omega) (fun h => absurd h (HKN.out p1 (by omega)))
  have hk2 := hnk p2 (by omega) (fun h => absurd h (HKN.out p2 (by omega)))
  have hkv : ∀ g, hv = some g → g < w.heap.size ∧ B ≤ g ∧ ¬ ((K g ∧ some g ≠ hv) ∨ some p3 = some g) := fun g e => ⟨(H.out.lt g (H.out.kh g e)).2, (H.out.lt g (H.out.kh g e)).1, hnk g (by have := (H.out.lt g (H.out.kh g e)).2; omega) (fun _ => e)⟩
  have hsz := GF.out.size
  have q0 := g5.row R0.out hk0
  have q1 := g5.row R1.out hk1
  have q2 := g5.row R2.out hk2
  have ho := HO.out.of_block (w' := W5) fun g e => g5.block g (Nat.lt_of_lt_of_le (hkv g e).1 hsz) (hkv g e).2.2
  have hK2 : ∀ g, g < Wf.heap.size → ¬ ((K g ∧ some g ≠ hv) ∨ some p3 = some g) → ¬ K2 g := fun g hg hn hk => by
    rcases g5.own g hk with h | h
    · exact hn h
    · omega
  have LD := Lib.hid (left_deferred h5 .returning p0 p1 p2 q0 q1 hv q2 nh s ho H.out.ne HLAM.out ⟨hL.1, by omega⟩ hl2 (hK2 _ R0.out.lt hk0) (hK2 _ R1.out.lt hk1) (hK2 _ R2.out.lt hk2) (fun g e => ⟨(hkv g e).2.1, Nat.lt_of_lt_of_le (Nat.lt_of_lt_of_le (hkv g e).1 hsz) g5.size, hK2 g (Nat.lt_of_lt_of_le (hkv g e).1 hsz) (hkv g e).2.2⟩) (by omega))
  have G5 := Lib.hid g5
  have HK2 := Lib.hid hK2
  have HNK := Lib.hid hnk
  clear h5 g5 q0 q1 q2 ho hK2 hnk hk0 hk1 hk2 hkv hsz hP
  go_wp2_with fail
  refine leaves_cons (f := 137) (args := #[.pointer (some ⟨p0, 0, none⟩), .pointer (some ⟨p2, 0, none⟩), .pointer (some ⟨p1, 0, none⟩)]) (by simp) (by simp [go_sem]) ?_
  refine LD.out.mono ?_
  rintro e u' w'' ⟨rfl, rfl, ⟨a1, a2, a3, a4, a5, a6, hws⟩, hg⟩
  refine ⟨_, results_none rfl _ _ _, rfl, _, ⟨a1, a2, a3, a4, a5, a6, hws.mono (by omega)⟩, ⟨hg.os.trans (G5.out.os.trans GF.out.os), hg.tape.trans (G5.out.tape.trans GF.out.tape), hg.output.trans (G5.out.output.trans GF.out.output), Nat.le_trans GF.out.size (Nat.le_trans G5.out.size hg.size), fun g h1 hn => ?_, fun g hgk => ?_⟩⟩
  · have hP := HP.out
    have h2 := Nat.lt_of_lt_of_le h1 GF.out.size
    have h3 := HNK.out g (by omega) (fun h => absurd h hn)
    exact (hg.block g (Nat.lt_of_lt_of_le h2 G5.out.size) (HK2.out g h2 h3)).trans ((G5.out.block g h2 h3).trans (GF.out.block g h1 hn))
  · rcases hgk with h | h
    · rcases G5.out.own g h with h | h
      · rcases h with h | h
        · exact .inl h.1
        · injection h with h; have hP := HP.out; exact .inr (by omega)
      · exact .inr (Nat.le_trans GF.out.size h)
    · exact .inl (H.out.kh g h)
end Sc
end Go.Proofs.YthjflofcgdfekaaGreatDoor
