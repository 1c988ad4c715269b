import Derived.Maps.Ext
import Derived.Maps.RangeWalk
import Derived.Test.YtnefnnoleeeedaaSI
import Derived.Defers
import Derived.Recover
import Derived.Deep.CutRange
import Derived.Deep.LoopGhost
import Derived.Shelf.SlSortCmp.KitK
import Derived.Sort.LotA
import Derived.StillTailTactics
import Derived.Shelf.SlGeneric
import Derived.BigRegion
namespace Go.Proofs.Ytnefnnoleeeedaa
open Go.RowKit Go.Op
namespace Sc
open Go.Maps
theorem MF.congr {w : World} {b n : Nat} {f g : ByteArray → Option Int} (h : MF w b n f) (e : ∀ s, s.size ≤ maxLen → f s = g s) : MF w b n g := by
  obtain ⟨D, h1, h2, h3⟩ := h
  exact ⟨D, h1, h2, fun s hs => by rw [← e s hs]; exact h3 s hs⟩
def mix (f g : ByteArray → Option Int) (left : Lit → Bool) (s : ByteArray) : Option Int := if left (kl s) = true then f s else (g s).orElse fun _ => f s
theorem mix_start {D : DataW Unit} {f g : ByteArray → Option Int} (h : Says D g) (s : ByteArray) (hs : s.size ≤ maxLen) : f s = mix f g (has D) s := by
  unfold mix
  rw [(h.2 s hs).1]
  cases g s <;> rfl
theorem mix_step {D : DataW Unit} {f g : ByteArray → Option Int} {left : Lit → Bool} (h : Says D g) {x : ByteArray} {c : Int} (hx : x.size ≤ maxLen) (hat : ∀ zd, D.atKey (kl x) zd = .lit (.int .i64 c)) (s : ByteArray) :
    up (mix f g left) x (some c) s = mix f g (fun z => left z && !z.sameKey (kl x)) s := by
  have hg : g x = some c := by
    obtain ⟨h1, h2⟩ := h.2 x hx
    rw [has_true_of_atKey hat] at h1
    rw [hat] at h2
    cases e : g x with
    | none => rw [e] at h1; cases h1
    | some v =>
      rw [e] at h2
      simp only [Option.getD_some, DataW.lit.injEq, Lit.int.injEq, true_and] at h2
      rw [h2]
  unfold up mix
  by_cases e : s = x
  · subst e
    rw [if_pos rfl]
    have := WideAt.sameKey_self (kl_is hx)
    simp [this, hg]
  · rw [if_neg e]
    have : (kl s).sameKey (kl x) = false := sameKey_ne (fun e' => e (kl_inj e'))
    simp [this]
theorem mix_end {f g : ByteArray → Option Int} {left : Lit → Bool} (h : ∀ k, left k = false) (s : ByteArray) : mix f g left s = (g s).orElse fun _ => f s := by
  unfold mix
  rw [h]
  simp
theorem keyOf_str_inv {key : Value} {k : Lit} (h : keyOf Try.prog 9 key = some k) : ∃ x, key = .string x ∧ k = kl x ∧ x.size ≤ maxLen := by
  cases key <;> simp [keyOf, Try.underlying9, mapKey] at h
  obtain ⟨h1, rfl⟩ := h
  exact ⟨_, rfl, rfl, h1⟩
set_option maxHeartbeats 4000000 in
set_option maxRecDepth 100000 in
theorem copy_any {w : World} {m h nm nh : Nat} {f g : ByteArray → Option Int} (hm : MF w m nm f) (hh : MF w h nh g) (hne : m ≠ h) (hN : nm + nh ≤ 1000000000) :
    Calls Try.prog 44 #[.map (some m), .map (some h)] w fun e w' => e = .returned (.tuple #[]) ∧ MF w' m (nm + nh) (fun s => (g s).orElse fun _ => f s) ∧ w.grownBy w' (some m) := by
  obtain ⟨D, hD, hS⟩ := hh
  have hml := hm.lt
  have hhl := hD.lt
  have hsz := hD.size_le
  have HS := Lib.hid hS
  clear hS
  go_enter Try.func44, Try.ntmps44
  go_wp2_with (first
    | (at_range; refine wpList_range_own _ rfl _ 70 rfl 9 3 lawS Try.underlying70 _ h nh _ rfl hD ?_; intro w0 hrg0 hg0 hs0)
    | go_in)
  go_frame
  have hm0 := hm.of_block (hg0.block m hml (by simp))
  have hm1 := hm0.congr (mix_start HS.out)
  go_loopw [4, 5] (fun _ _ wr => ∃ (left : Lit → Bool) (cnt k : Nat), wr.ranges Try.prog 9 (plainElem Try.prog 3) h w.heap.size nh D left cnt ∧ k + cnt ≤ nh ∧ MF wr m (nm + k) (mix f g left) ∧ w.grownBy wr (some m))
    (fun _ _ wr => wr.rangeLeft h w.heap.size)
  case atStart => exact ⟨_, _, 0, hrg0, by omega, hm1, hg0.but _⟩
  case round =>
    obtain ⟨left, cnt, k, hrg, hk, hmw, hgw⟩ := hrel
    go_wp2_with (first
      | (at_next; refine wpList_next_ranges _ rfl _ rfl 9 lawS (plainElem Try.prog 3) Value.string (Value.int .i64) (fun key k hk => by obtain ⟨x, e, _⟩ := keyOf_str_inv hk; exact ⟨x, e⟩) (fun v y hv => by obtain ⟨c, e, _⟩ := plainElem_int_inv Try.underlying3 hv; exact ⟨c, e⟩) h w.heap.size nh _ _ _ rfl hrg ?_ ?_)
      | go_in)
    · intro hc0 hl0
      go_wp2
      go_end0
      exact ⟨rfl, (hmw.mono (by omega)).congr fun s _ => mix_end hl0 s, hgw⟩
    · intro x c k1 y1 y2 w1 cnt1 hkx hlx hvy hat hrg1 hlt hg1 hs1 hen
      obtain ⟨x', e1, e5, hx⟩ := keyOf_str_inv hkx
      cases e1
      subst e5
      obtain ⟨c', e2, e3, hwc⟩ := plainElem_int_inv Try.underlying3 hvy
      cases e2
      simp only [Prod.mk.injEq] at e3
      obtain ⟨rfl, _⟩ := e3
      have hmr : m ≠ w.heap.size := by omega
      have hm2 := hmw.of_block (hg1.block m hmw.lt (fun e => by injection e with e; omega))
      have hgw1 := hgw.andThen hg1 (fun j hj => by cases hj; exact Or.inl (Nat.le_refl _))
      obtain ⟨w2, hr2, hm3, hg2⟩ := hm2.put Try.underlying69 (by simp only [maxLen]; omega) hx hwc
      go_wp2
      have hrg2 := hrg1.kept hg2 (fun e => by have := Option.some.inj e; omega) (fun e => by have := Option.some.inj e; omega)
      have hm4 := hm3.congr (fun s _ => mix_step (left := left) HS.out hx hat s)
      go_roundw
      case rel => exact ⟨_, cnt1, k + 1, hrg2, by omega, hm4, hgw1.andThen hg2 (fun j hj => by cases hj; exact Or.inr rfl)⟩
      case measure => rw [hrg2.left_eq, hrg.left_eq]; exact hlt
end Sc
end Go.Proofs.Ytnefnnoleeeedaa
namespace Go.Proofs.Ytnefnnoleeeedaa
open Go.RowKit Go.Op
namespace Sc
open Vm
variable {X : Wc} {w w1 : World} {K : Nat → Prop} {hv : Option Nat} {s : St} {N nm nh : Nat} {v1 v2 v3 v4 : Value}
theorem WSr.means_to (h : WSr X w K hv s N v1 v2 v3 v4 nm nh) {f : ByteArray → Int} {nm' N' : Nat} (hm : MM w1 X.mb nm' f) (hg : w.grownBy w1 (some X.mb)) (hN : s.bs.length + s.ms.length + s.bad.length + s.within.length + nm' + nh ≤ N') :
    WSr X w1 K hv { s with means := f } N' v1 v2 v3 v4 nm' nh ∧ Gx K w K w1 := by
  have hB : ∀ g, K g → g ≠ X.mb → w1.heap[g]? = w.heap[g]? := fun g hk hn => hg.block g (h.lt g hk).2 (fun e => hn (by injection e))
  obtain ⟨f0, m1, _⟩ := h.mm
  refine ⟨⟨(hB _ h.kb (fun e => row_ne_map h.row m1 e.symm)).trans h.row, own_block h.o1 fun g e => hB g (h.k1 g e) (fun e2 => own_ne_map h.o1 m1 (e2 ▸ e)), own_block h.o2 fun g e => hB g (h.k2 g e) (fun e2 => own_ne_map h.o2 m1 (e2 ▸ e)),
    own_block h.o3 fun g e => hB g (h.k3 g e) (fun e2 => own_ne_map h.o3 m1 (e2 ▸ e)), own_block h.o4 fun g e => hB g (h.k4 g e) (fun e2 => own_ne_map h.o4 m1 (e2 ▸ e)), hm, h.mh.of_block fun g e => hB g (h.kh g e) (fun e2 => h.ne (e2 ▸ e)), h.ne, hN, h.kb, h.km, h.kh, h.k1, h.k2, h.k3, h.k4, ?_⟩, ?_⟩
  · exact fun g hk => ⟨(h.lt g hk).1, Nat.lt_of_lt_of_le (h.lt g hk).2 hg.size⟩
  · exact ⟨hg.os, hg.tape, hg.output, hg.size, fun g h1 hn => hg.block g h1 (fun e => hn (by injection e with e; rw [e]; exact h.km)), fun g h => .inl h⟩
theorem getD_orElse (a b : Option Int) (d : Int) : (a.orElse fun _ => b).getD d = a.getD (b.getD d) := by cases a <;> rfl
set_option maxHeartbeats 8000000 in
set_option maxRecDepth 100000 in
theorem left_deferred {hb : Nat} {t : St} {l : Int} (h : WSr X w K (some hb) t N v1 v2 v3 v4 nm nh) (u : FrameMode) (p0 p1 p2 : Nat) (r0 : RowB w p0 68 #[X.p]) (r1 : RowB w p1 3 #[.int .i64 l]) (hv0 : Option Nat) (r2 : RowB w p2 70 #[.map hv0])
    (n0 : Nat) (o : St) (ho : HM w hv0 n0 o.here) (hne : hv0 ≠ some X.mb) (hl : t.lam = o.lam + l) (hL : 0 ≤ o.lam ∧ o.lam ≤ 1000000) (_hl2 : l = 0 ∨ l = 1) (k0 : ¬ K p0) (k1 : ¬ K p1) (k2 : ¬ K p2) (kv : ∀ g, hv0 = some g → X.B ≤ g ∧ g < w.heap.size ∧ ¬ K g) (hN : N ≤ 100000000) :
    CallsD Try.prog 43 #[.pointer (some ⟨p0, 0, none⟩), .pointer (some ⟨p2, 0, none⟩), .pointer (some ⟨p1, 0, none⟩)] u w fun e u' w' => u' = u ∧ (e = .returned (.tuple #[]) ∧ WS X w' (fun g => K g ∨ hv0 = some g) hv0 (leave o t) (N + n0) ∧ Gx K w K w') := by
  obtain ⟨gm, hgm, hgg⟩ := h.mm
  have hgh : MF w hb nh t.here := h.mh
  have CC := Lib.hid (copy_any (w := w.drew) (hgm.of_block (w' := w.drew) rfl) (hgh.of_block (w' := w.drew) rfl) (fun e => h.ne (by rw [e])) (by have := h.sum; omega))
  have H := Lib.hid h
  have R0 := Lib.hid r0
  have R1 := Lib.hid r1
  have R2 := Lib.hid r2
  have HGG := Lib.hid hgg
  have HO := Lib.hid ho
  have K0 := Lib.hid k0
  have K1 := Lib.hid k1
  have K2 := Lib.hid k2
  have KV := Lib.hid kv
  have HW := Lib.hid h.row
  have HLL := Lib.hid hl
  have HNE := Lib.hid hne
  clear h r0 r1 r2 hgm hgg hgh ho k0 k1 k2 kv hl hne
  obtain ⟨b, mb, B⟩ := X
  simp only at *
  go_enter_d Try.func43, Try.ntmps43
  go_wp2_with fail
  refine wp_region_G (S := SG (fun w' => RowB w' b 72 (wcc v1 v2 v3 v4 mb (some hb) t.lam t.item) ∧ RowB w' p0 68 #[Wc.p ⟨b, mb, B⟩] ∧ RowB w' p1 3 #[.int .i64 l]) 98 (fun _ => True) 99 (fun _ => True)) (by kernel_rfl) ⟨⟨HW.out, R0.out, R1.out⟩, fun _ => trivial, fun _ => trivial⟩ (fun hS => ?_)
  obtain ⟨WD, hWD⟩ : ∃ WD, WD = w.drew := ⟨_, rfl⟩
  have H := Lib.hid (H.out.drew)
  have G1 := Lib.hid (Gx.drew K w)
  have R0 := Lib.hid (show RowB w.drew _ _ _ from R0.out)
  have R1 := Lib.hid (show RowB w.drew _ _ _ from R1.out)
  have R2 := Lib.hid (show RowB w.drew _ _ _ from R2.out)
  have HO := Lib.hid (HO.out.of_block (w' := w.drew) fun _ _ => rfl)
  have KV : Hid (∀ g, hv0 = some g → B ≤ g ∧ g < w.drew.heap.size ∧ ¬ K g) := KV.out
  rw [← hWD] at hS H G1 R0 R1 R2 HO KV CC ⊢
  clear hWD HW
  refine wpG_t0 (i := 0) (v := ?v1) rfl (by kernel_rfl) (fun _ _ _ h => h) hS (Or.inl ⟨by rfl, ?hy1⟩) ?rest1
  case hy1 => (intro w' hw; obtain ⟨q1, q2, q3⟩ := hw; have u0 := q1.cell; have u1 := q2.cell; have u2 := q3.cell; go_simp; try with_reducible rfl)
  replace hS := SG.set (i := 0) (by decide) (by decide) hS
  try simp only [pL]
  refine wpG_t0 (i := 1) (v := ?v2) rfl (by kernel_rfl) (fun _ _ _ h => h) hS (Or.inl ⟨by rfl, ?hy2⟩) ?rest2
  case hy2 => (intro w' hw; obtain ⟨q1, q2, q3⟩ := hw; have u0 := q1.cell; have u1 := q2.cell; have u2 := q3.cell; go_simp; try with_reducible rfl)
  replace hS := SG.set (i := 1) (by decide) (by decide) hS
  try simp only [pL]
  refine wpG_t0 (i := 2) (v := ?v3) rfl (by kernel_rfl) (fun _ _ _ h => h) hS (Or.inl ⟨by rfl, ?hy3⟩) ?rest3
  case hy3 => (intro w' hw; obtain ⟨q1, q2, q3⟩ := hw; have u0 := q1.cell; have u1 := q2.cell; have u2 := q3.cell; go_simp; try with_reducible rfl)
  replace hS := SG.set (i := 2) (by decide) (by decide) hS
  try simp only [pL]
  refine wpG_t0 (i := 3) (v := ?v4) rfl (by kernel_rfl) (fun _ _ _ h => h) hS (Or.inl ⟨by rfl, ?hy4⟩) ?rest4
  case hy4 => (intro w' hw; obtain ⟨q1, q2, q3⟩ := hw; have u0 := q1.cell; have u1 := q2.cell; have u2 := q3.cell; go_simp; try with_reducible rfl)
  replace hS := SG.set (i := 3) (by decide) (by decide) hS
  try simp only [pL]
  refine wpG_t0 (i := 4) (v := ?v5) rfl (by kernel_rfl) (fun _ _ _ h => h) hS (Or.inl ⟨by rfl, ?hy5⟩) ?rest5
  case hy5 => (intro w' hw; obtain ⟨q1, q2, q3⟩ := hw; have u0 := q1.cell; have u1 := q2.cell; have u2 := q3.cell; go_simp; try with_reducible rfl)
  replace hS := SG.set (i := 4) (by decide) (by decide) hS
  try simp only [pL]
  refine wpG_t0 (i := 5) (v := ?v6) rfl (by kernel_rfl) (fun _ _ _ h => h) hS (Or.inl ⟨by rfl, ?hy6⟩) ?rest6
  case hy6 => (intro w' hw; obtain ⟨q1, q2, q3⟩ := hw; have u0 := q1.cell; have u1 := q2.cell; have u2 := q3.cell; go_simp; try with_reducible rfl)
  replace hS := SG.set (i := 5) (by decide) (by decide) hS
  try simp only [pL]
  refine wpG_t0 (i := 6) (v := ?v7) rfl (by kernel_rfl) (fun _ _ _ h => h) hS (Or.inl ⟨by rfl, ?hy7⟩) ?rest7
  case hy7 => (intro w' hw; obtain ⟨q1, q2, q3⟩ := hw; have u0 := q1.cell; have u1 := q2.cell; have u2 := q3.cell; go_simp; try with_reducible rfl)
  replace hS := SG.set (i := 6) (by decide) (by decide) hS
  try simp only [pL]
  refine wpG_t0 (i := 7) (v := ?v8) rfl (by kernel_rfl) (fun _ _ _ h => h) hS (Or.inl ⟨by rfl, ?hy8⟩) ?rest8
  case hy8 => (intro w' hw; obtain ⟨q1, q2, q3⟩ := hw; have u0 := q1.cell; have u1 := q2.cell; have u2 := q3.cell; go_simp; try with_reducible rfl)
  replace hS := SG.set (i := 7) (by decide) (by decide) hS
  try simp only [pL]
  clear hS
  refine wpG_ready (rs := [8]) (by kernel_rfl) (by simp) ?_
  refine RG.cons rfl rfl (fun K' hK => ?_) RG.nil
  go_simp
  refine CC.out.mono ?_
  rintro e W3 ⟨rfl, hm, hg⟩
  clear CC
  go_wp2_with fail
  have hMM : MM W3 mb (nm + nh) (fun x => (t.here x).getD (t.means x)) := ⟨_, hm, fun x => by rw [getD_orElse, HGG.out]⟩
  have FIN := Lib.hid (H.out.means_to hMM hg (N' := N + nh) (by have := H.out.sum; omega))
  have hk : ∀ g, ¬ K g → some g ≠ some mb := fun g hn e => hn (by injection e with e; rw [e]; exact H.out.km)
  have R0 := Lib.hid (show RowB W3 p0 68 _ from (hg.block _ R0.out.lt (hk _ K0.out)).trans R0.out)
  have R1 := Lib.hid (show RowB W3 p1 3 _ from (hg.block _ R1.out.lt (hk _ K1.out)).trans R1.out)
  have R2 := Lib.hid (show RowB W3 p2 70 _ from (hg.block _ R2.out.lt (hk _ K2.out)).trans R2.out)
  have HO := Lib.hid (HO.out.of_block (w' := W3) fun g e => hg.block _ (KV.out g e).2.1 (fun e2 => HNE.out (by rw [e, e2])))
  have KV : Hid (∀ g, hv0 = some g → B ≤ g ∧ g < W3.heap.size ∧ ¬ K g) := fun g e => ⟨(KV.out g e).1, Nat.lt_of_lt_of_le (KV.out g e).2.1 hg.size, (KV.out g e).2.2⟩
  clear hm hg hMM hk
  refine hK.out _ _ ⟨⟨FIN.out.1.row, R0.out, R1.out⟩, fun _ => trivial, fun _ => trivial⟩ (fun hS => ?_)
  clear hK K'
  try simp only [pL]
  clear hS
  refine wpG_done (by kernel_rfl) ?_ _
  have G2 := Lib.hid (G1.out.trans FIN.out.2)
  have HP := Lib.hid (FIN.out.1.put_here (hv' := hv0) (n' := n0) (N' := N + n0) (f := o.here) (K' := fun g => K g ∨ hv0 = some g) HO.out HNE.out (fun g hk _ => .inl hk) (fun g e => .inr e) (fun g hk => hk) (fun g e => ⟨(KV.out g e).1, (KV.out g e).2.1⟩) (by have := H.out.sum; dsimp only; omega))
  have y0 := R0.out.cell
  have y2 := R2.out.cell
  have yc := FIN.out.1.row.cell
  have yt := FIN.out.1.row.thaw
  go_wp2_with fail
  clear y0 y2 yc yt
  obtain ⟨W4, hW4⟩ : ∃ W4, W4 = W3.setCell ⟨b, 4, none⟩ (.map hv0) := ⟨_, rfl⟩
  have HKB : K b := H.out.kb
  have G3 := Lib.hid (put_gx G2.out (p := ⟨b, 4, none⟩) HKB (.map hv0))
  have R0 := Lib.hid (R0.out.far (p := ⟨b, 4, none⟩) (fun e => K0.out (by rw [e]; exact HKB)) (.map hv0))
  have R1 := Lib.hid (R1.out.far (p := ⟨b, 4, none⟩) (fun e => K1.out (by rw [e]; exact HKB)) (.map hv0))
  have H5 := Lib.hid HP.out.1
  rw [← hW4] at H5 G3 R0 R1 ⊢
  clear hW4 HP FIN G2 H G1
  obtain ⟨tl, htl⟩ : ∃ tl, tl = t.lam := ⟨_, rfl⟩
  obtain ⟨ti, hti⟩ : ∃ ti, ti = t.item := ⟨_, rfl⟩
  have HW : Hid (RowB W4 b 72 (wcc v1 v2 v3 v4 mb hv0 tl ti)) := by rw [htl, hti]; exact H5.out.row
  rw [← htl] at HLL
  have HTL := Lib.hid htl
  clear htl hti
  have e1 : IntKind.i64.wrap (tl - l) = o.lam := by have h1 := HLL.out; have h2 := hL; rw [IntKind.wrap_i64]; omega
  refine wp_region_G (S := SG (fun _ => True) 8 (fun w' => RowB w' b 72 (wcc v1 v2 v3 v4 mb hv0 tl ti) ∧ RowB w' p0 68 #[Wc.p ⟨b, mb, B⟩] ∧ RowB w' p1 3 #[.int .i64 l]) 99 (fun _ => True)) (by kernel_rfl) ⟨trivial, fun _ => ⟨HW.out, R0.out, R1.out⟩, fun _ => trivial⟩ (fun hS => ?_)
  obtain ⟨WD, hWD⟩ : ∃ WD, WD = W4.drew := ⟨_, rfl⟩
  have H5 := Lib.hid (H5.out.drew)
  have G3 := Lib.hid (G3.out.trans (Gx.drew K W4))
  have HW := Lib.hid (show RowB W4.drew _ _ _ from HW.out)
  rw [← hWD] at hS H5 G3 HW ⊢
  clear hWD
  refine wpG_t1 (i := 0) (v := ?v9) rfl (by kernel_rfl) (fun _ _ _ h => h) hS (Or.inl ⟨by rfl, ?hy9⟩) ?rest9
  case hy9 => (intro w' hw; obtain ⟨_, q1, q2, q3⟩ := hw; have u0 := q1.cell; have u1 := q2.cell; have u2 := q3.cell; go_simp; try with_reducible rfl)
  replace hS := SG.set (i := 0) (by decide) (by decide) hS
  try simp only [pL]
  refine wpG_t1 (i := 1) (v := ?v10) rfl (by kernel_rfl) (fun _ _ _ h => h) hS (Or.inl ⟨by rfl, ?hy10⟩) ?rest10
  case hy10 => (intro w' hw; obtain ⟨_, q1, q2, q3⟩ := hw; have u0 := q1.cell; have u1 := q2.cell; have u2 := q3.cell; go_simp; try with_reducible rfl)
  replace hS := SG.set (i := 1) (by decide) (by decide) hS
  try simp only [pL]
  refine wpG_t1 (i := 2) (v := ?v11) rfl (by kernel_rfl) (fun _ _ _ h => h) hS (Or.inl ⟨by rfl, ?hy11⟩) ?rest11
  case hy11 => (intro w' hw; obtain ⟨_, q1, q2, q3⟩ := hw; have u0 := q1.cell; have u1 := q2.cell; have u2 := q3.cell; go_simp; try with_reducible rfl)
  replace hS := SG.set (i := 2) (by decide) (by decide) hS
  try simp only [pL]
  refine wpG_t1 (i := 3) (v := ?v12) rfl (by kernel_rfl) (fun _ _ _ h => h) hS (Or.inl ⟨by rfl, ?hy12⟩) ?rest12
  case hy12 => (intro w' hw; obtain ⟨_, q1, q2, q3⟩ := hw; have u0 := q1.cell; have u1 := q2.cell; have u2 := q3.cell; go_simp; try with_reducible rfl)
  replace hS := SG.set (i := 3) (by decide) (by decide) hS
  try simp only [pL]
  refine wpG_t1 (i := 4) (v := ?v13) rfl (by kernel_rfl) (fun _ _ _ h => h) hS (Or.inl ⟨by rfl, ?hy13⟩) ?rest13
  case hy13 => (intro w' hw; obtain ⟨_, q1, q2, q3⟩ := hw; have u0 := q1.cell; have u1 := q2.cell; have u2 := q3.cell; go_simp; try with_reducible rfl)
  replace hS := SG.set (i := 4) (by decide) (by decide) hS
  try simp only [pL]
  refine wpG_t1 (i := 5) (v := ?v14) rfl (by kernel_rfl) (fun _ _ _ h => h) hS (Or.inl ⟨by rfl, ?hy14⟩) ?rest14
  case hy14 => (intro w' hw; obtain ⟨_, q1, q2, q3⟩ := hw; have u0 := q1.cell; have u1 := q2.cell; have u2 := q3.cell; go_simp; try with_reducible rfl)
  replace hS := SG.set (i := 5) (by decide) (by decide) hS
  try simp only [pL]
  refine wpG_t0 (i := 6) (v := ?v15) rfl (by kernel_rfl) (fun _ _ _ h => h) hS (Or.inl ⟨by rfl, ?hy15⟩) ?rest15
  case hy15 => (intro w' hw; go_simp; try with_reducible rfl)
  replace hS := SG.set (i := 6) (by decide) (by decide) hS
  try simp only [pL]
  refine wpG_t0 (i := 7) (v := ?v16) rfl (by kernel_rfl) (fun _ _ _ h => h) hS (Or.inl ⟨by rfl, ?hy16⟩) ?rest16
  case hy16 => (intro w' hw; go_simp; try with_reducible rfl)
  replace hS := SG.set (i := 7) (by decide) (by decide) hS
  try simp only [pL]
  clear hS
  have yc := HW.out.cell
  have yt := HW.out.thaw
  refine wpG_ready (rs := [8]) (by kernel_rfl) (by simp) ?_
  refine RG.cons rfl rfl (fun K' hK => ?_) RG.nil
  go_simp
  clear yc yt
  refine hK.out _ _ ⟨trivial, fun h => absurd (h : true = false) (by decide), fun _ => trivial⟩ (fun hS => ?_)
  clear hK K'
  try simp only [pL]
  clear hS e1
  refine wpG_done (by kernel_rfl) ?_ _
  have FE := H5.out.put_lam o.lam
  go_end0
  exact ⟨rfl, ⟨_, _, _, _, _, _, FE.1⟩, put_gx G3.out (p := ⟨b, 5, none⟩) HKB _⟩
end Sc
end Go.Proofs.Ytnefnnoleeeedaa
namespace Go.Proofs.Ytnefnnoleeeedaa
open Go.RowKit Go.Op
namespace Sc
open Vm
theorem wp_nopanic {P : Program} {c : Code} {a : Act} {w : World} {Q : Exit → Act → World → Prop} (h : c.wp P (fun e a w => e = .normal ∧ Q .normal a w) a w) : c.wp P Q a w :=
  wp_mono h fun _e _a _w ⟨he, hq⟩ => he ▸ hq
def Thru (X : Wc) (w : World) (K : Nat → Prop) (N d : Nat) (s : St) (l : Int) (f : St → St) (cl : Nat) (caps : Array Value) : Prop :=
  ∀ (hb N1 : Nat) (w1 : World) (K1 : Nat → Prop), WS X w1 K1 (some hb) (enter l s) N1 → N1 ≤ N → w.heap.size ≤ w1.heap.size → (∀ g, g < w.heap.size → ¬ K g → w1.heap[g]? = w.heap[g]?) → (∀ g, K1 g → K g ∨ w.heap.size ≤ g) →
    Calls Try.prog cl caps w1 (Ans X w1 K1 (some hb) (f (enter l s)) (N1 + d))
set_option maxHeartbeats 8000000 in
set_option maxRecDepth 100000 in
theorem through_any {X : Wc} {w : World} {K : Nat → Prop} {hv : Option Nat} {s : St} {N nm nh : Nat} {v1 v2 v3 v4 : Value} (h : WSr X w K hv s N v1 v2 v3 v4 nm nh) (l : Int) (hl2 : l = 0 ∨ l = 1) (hL : 0 ≤ s.lam ∧ s.lam < 1000000) (cl : Nat) (caps : Array Value) (f : St → St) (d : Nat)
    (HF : Thru X w K N d s l f cl caps) (HC : ∀ w, (callFunc cl caps).run Try.prog w = .ok (.enter cl caps) w) (hlam : (f (enter l s)).lam = s.lam + l) (hN : N + d ≤ 100000000) :
    Calls Try.prog 19 #[X.p, .int .i64 l, .func (.func cl) #[] caps] w (Ans X w K hv (leave s (f (enter l s))) (N + d)) := by
  have hmm := @run_makeMap Try.prog
  obtain ⟨Wa, hWa⟩ : ∃ Wa, Wa = (w.alloc (.cells #[X.p] 68)).alloc (.cells #[.int .i64 l] 3) := ⟨_, rfl⟩
  have Ha := (h.alloc (.cells #[X.p] 68)).alloc (.cells #[.int .i64 l] 3)
  have A0 := (RowB.new w 68 #[X.p]).alloc (.cells #[.int .i64 l] 3)
  have A1 := RowB.new (w.alloc (.cells #[X.p] 68)) 3 #[.int .i64 l]
  have S1 : (w.alloc (.cells #[X.p] 68)).heap.size = w.heap.size + 1 := by simp
  have S2 : Wa.heap.size = w.heap.size + 2 := by rw [hWa]; simp
  rw [S1] at A1
  rw [← hWa] at Ha A0 A1
  obtain ⟨Wx, hWx⟩ : ∃ Wx, Wx = Wa.alloc (.cells #[.map hv] 70) := ⟨_, rfl⟩
  have Hc := Ha.alloc (.cells #[.map hv] 70)
  have C0 := A0.alloc (.cells #[.map hv] 70)
  have C1 := A1.alloc (.cells #[.map hv] 70)
  have C2 := RowB.new Wa 70 #[.map hv]
  have S3 : Wx.heap.size = w.heap.size + 3 := by rw [hWx]; simp [S2]
  rw [S2] at C2
  rw [← hWx] at Hc C0 C1 C2
  obtain ⟨Wd, hWd⟩ : ∃ Wd, Wd = Wx.alloc (.map #[] 0) := ⟨_, rfl⟩
  have Hd := Hc.alloc (.map #[] 0)
  have D0 := C0.alloc (.map #[] 0)
  have D1 := C1.alloc (.map #[] 0)
  have D2 := C2.alloc (.map #[] 0)
  have DM := MF.new Wx
  have S4 : Wd.heap.size = w.heap.size + 4 := by rw [hWd]; simp [S3]
  rw [S3] at DM
  rw [← hWd] at Hd D0 D1 D2 DM
  have hkn : ∀ g, w.heap.size ≤ g → ¬ K g := fun g hg hk => by have := (h.lt g hk).2; omega
  have HE := Hd.put_here (hv' := some (w.heap.size + 3)) (n' := 0) (N' := N - nh) (f := fun _ => none) (K' := fun g => (K g ∧ some g ≠ hv) ∨ some (w.heap.size + 3) = some g) DM (fun e => by injection e with e; exact hkn _ (by omega) (e ▸ h.km)) (fun g hk hn => .inl ⟨hk, hn⟩) (fun g e => .inr e) (fun g hk => hk.imp (fun h => h.1) id)
    (fun g e => by injection e with e; subst e; exact ⟨by have := (h.lt _ h.kb); omega, by omega⟩) (by have := h.sum; omega)
  have H := Lib.hid h
  have GA : Gx K w K Wd := by rw [hWd, hWx, hWa]; exact (((Gx.alloc K w _).trans (Gx.alloc K _ _)).trans (Gx.alloc K _ _)).trans (Gx.alloc K _ _)
  have GA := Lib.hid GA
  have HF := Lib.hid HF
  have HKN := Lib.hid hkn
  have HLAM := Lib.hid hlam
  have ya := Ha.row.cell
  have z0 := D0.cell
  have zd := Hd.row.cell
  have zt := Hd.row.thaw
  rw [hWa] at ya
  rw [hWd, hWx, hWa] at z0 zd zt
  have HD := Lib.hid Hd
  have HEE := Lib.hid HE
  have R0 := Lib.hid D0
  have R1 := Lib.hid D1
  have R2 := Lib.hid D2
  have SZ := Lib.hid (show Wa.heap.size = w.heap.size + 2 ∧ Wx.heap.size = w.heap.size + 3 ∧ Wd.heap.size = w.heap.size + 4 from ⟨S2, S3, S4⟩)
  have HWA := Lib.hid hWa
  have HWC := Lib.hid hWx
  have HWD := Lib.hid hWd
  obtain ⟨b, mb, B⟩ := X
  simp only at *
  clear h Ha A0 A1 S1 S2 Hc C0 C1 C2 S3 Hd D0 D1 D2 DM S4 hkn HE hlam hWa hWx hWd
  go_enter_defers Try.func19, Try.ntmps19
  go_wp2_with fail
  rw [show w.heap.size + 1 + 1 + 1 = w.heap.size + 3 from rfl, show w.heap.size + 1 + 1 = w.heap.size + 2 from rfl, ← HWA.out, ← HWC.out, ← HWD.out]
  clear ya z0 zd zt HWA HWC
  obtain ⟨p0, hp0⟩ : ∃ p0, p0 = w.heap.size := ⟨_, rfl⟩
  obtain ⟨p1, hp1⟩ : ∃ p1, p1 = w.heap.size + 1 := ⟨_, rfl⟩
  obtain ⟨p2, hp2⟩ : ∃ p2, p2 = w.heap.size + 2 := ⟨_, rfl⟩
  obtain ⟨p3, hp3⟩ : ∃ p3, p3 = w.heap.size + 3 := ⟨_, rfl⟩
  have HP := Lib.hid (show p0 = w.heap.size ∧ p1 = w.heap.size + 1 ∧ p2 = w.heap.size + 2 ∧ p3 = w.heap.size + 3 from ⟨hp0, hp1, hp2, hp3⟩)
  rw [← hp1] at R1 ⊢
  rw [← hp2] at R2 ⊢
  rw [← hp3] at HEE ⊢
  rw [← hp0] at R0 ⊢
  clear hp0 hp1 hp2 hp3
  have NB : Hid (p0 ≠ b ∧ p1 ≠ b ∧ p2 ≠ b) := by have h1 := (H.out.lt _ H.out.kb).2; have h2 := HP.out; simp only at h1; exact ⟨by omega, by omega, by omega⟩
  obtain ⟨We, hWe⟩ : ∃ We, We = Wd.setCell ⟨b, 4, none⟩ (.map (some p3)) := ⟨_, rfl⟩
  have R0 := Lib.hid (R0.out.far (p := ⟨b, 4, none⟩) NB.out.1 (.map (some p3)))
  have R1 := Lib.hid (R1.out.far (p := ⟨b, 4, none⟩) NB.out.2.1 (.map (some p3)))
  have R2 := Lib.hid (R2.out.far (p := ⟨b, 4, none⟩) NB.out.2.2 (.map (some p3)))
  have HE := Lib.hid HEE.out.1
  have GE := Lib.hid (put_gx GA.out (p := ⟨b, 4, none⟩) H.out.kb (.map (some p3)))
  have HO := Lib.hid (HD.out.mh.of_block (w' := Wd.setCell ⟨b, 4, none⟩ (.map (some p3))) fun g e => Below.heap_setCell Wd ⟨b, 4, none⟩ _ g (row_ne_map HD.out.row (HD.out.hv_ne e)))
  rw [← hWe] at R0 R1 R2 HE GE HO ⊢
  clear HEE hWe HD HWD
  have e1 : IntKind.i64.wrap (s.lam + l) = s.lam + l := by rw [IntKind.wrap_i64]; omega
  obtain ⟨sl, hsl⟩ : ∃ sl, sl = s.lam := ⟨_, rfl⟩
  obtain ⟨si, hsi⟩ : ∃ si, si = s.item := ⟨_, rfl⟩
  have HW : Hid (RowB We b 72 (wcc v1 v2 v3 v4 mb (some p3) sl si)) := by rw [hsl, hsi]; exact HE.out.row
  have HSL := Lib.hid hsl
  rw [← hsl] at e1
  clear hsl hsi
  refine wp_nopanic ?_
  refine wp_region_G (S := SG (fun _ => True) 8 (fun w' => RowB w' b 72 (wcc v1 v2 v3 v4 mb (some p3) sl si) ∧ RowB w' p0 68 #[Wc.p ⟨b, mb, B⟩] ∧ RowB w' p1 3 #[.int .i64 l]) 99 (fun _ => True)) (by kernel_rfl) ⟨trivial, fun _ => ⟨HW.out, R0.out, R1.out⟩, fun _ => trivial⟩ (fun hS => ?_)
  obtain ⟨WD, hWD⟩ : ∃ WD, WD = We.drew := ⟨_, rfl⟩
  have HE := Lib.hid (HE.out.drew)
  have GE := Lib.hid (GE.out.trans (Gx.drew K We))
  have HW := Lib.hid (show RowB We.drew _ _ _ from HW.out)
  have R0 := Lib.hid (show RowB We.drew _ _ _ from R0.out)
  have R1 := Lib.hid (show RowB We.drew _ _ _ from R1.out)
  have R2 := Lib.hid (show RowB We.drew _ _ _ from R2.out)
  have HO := Lib.hid (HO.out.of_block (w' := We.drew) fun _ _ => rfl)
  rw [← hWD] at hS HE GE HW R0 R1 R2 HO ⊢
  clear hWD
  refine wpG_t1 (i := 0) (v := ?v1) rfl (by kernel_rfl) (fun _ _ _ h => nomatch h.1) hS (Or.inl ⟨by rfl, ?hy1⟩) ?rest1
  case hy1 => (intro w' hw; obtain ⟨_, q1, q2, q3⟩ := hw; have u0 := q1.cell; have u1 := q2.cell; have u2 := q3.cell; go_simp; try with_reducible rfl)
  replace hS := SG.set (i := 0) (by decide) (by decide) hS
  try simp only [pL]
  refine wpG_t1 (i := 1) (v := ?v2) rfl (by kernel_rfl) (fun _ _ _ h => nomatch h.1) hS (Or.inl ⟨by rfl, ?hy2⟩) ?rest2
  case hy2 => (intro w' hw; obtain ⟨_, q1, q2, q3⟩ := hw; have u0 := q1.cell; have u1 := q2.cell; have u2 := q3.cell; go_simp; try with_reducible rfl)
  replace hS := SG.set (i := 1) (by decide) (by decide) hS
  try simp only [pL]
  refine wpG_t1 (i := 2) (v := ?v3) rfl (by kernel_rfl) (fun _ _ _ h => nomatch h.1) hS (Or.inl ⟨by rfl, ?hy3⟩) ?rest3
  case hy3 => (intro w' hw; obtain ⟨_, q1, q2, q3⟩ := hw; have u0 := q1.cell; have u1 := q2.cell; have u2 := q3.cell; go_simp; try with_reducible rfl)
  replace hS := SG.set (i := 2) (by decide) (by decide) hS
  try simp only [pL]
  refine wpG_t1 (i := 3) (v := ?v4) rfl (by kernel_rfl) (fun _ _ _ h => nomatch h.1) hS (Or.inl ⟨by rfl, ?hy4⟩) ?rest4
  case hy4 => (intro w' hw; obtain ⟨_, q1, q2, q3⟩ := hw; have u0 := q1.cell; have u1 := q2.cell; have u2 := q3.cell; go_simp; try with_reducible rfl)
  replace hS := SG.set (i := 3) (by decide) (by decide) hS
  try simp only [pL]
  refine wpG_t1 (i := 4) (v := ?v5) rfl (by kernel_rfl) (fun _ _ _ h => nomatch h.1) hS (Or.inl ⟨by rfl, ?hy5⟩) ?rest5
  case hy5 => (intro w' hw; obtain ⟨_, q1, q2, q3⟩ := hw; have u0 := q1.cell; have u1 := q2.cell; have u2 := q3.cell; go_simp; try with_reducible rfl)
  replace hS := SG.set (i := 4) (by decide) (by decide) hS
  try simp only [pL]
  refine wpG_t1 (i := 5) (v := ?v6) rfl (by kernel_rfl) (fun _ _ _ h => nomatch h.1) hS (Or.inl ⟨by rfl, ?hy6⟩) ?rest6
  case hy6 => (intro w' hw; obtain ⟨_, q1, q2, q3⟩ := hw; have u0 := q1.cell; have u1 := q2.cell; have u2 := q3.cell; go_simp; try with_reducible rfl)
  replace hS := SG.set (i := 5) (by decide) (by decide) hS
  try simp only [pL]
  refine wpG_t0 (i := 6) (v := ?v7) rfl (by kernel_rfl) (fun _ _ _ h => nomatch h.1) hS (Or.inl ⟨by rfl, ?hy7⟩) ?rest7
  case hy7 => (intro w' hw; go_simp; try with_reducible rfl)
  replace hS := SG.set (i := 6) (by decide) (by decide) hS
  try simp only [pL]
  refine wpG_t0 (i := 7) (v := ?v8) rfl (by kernel_rfl) (fun _ _ _ h => nomatch h.1) hS (Or.inl ⟨by rfl, ?hy8⟩) ?rest8
  case hy8 => (intro w' hw; go_simp; try with_reducible rfl)
  replace hS := SG.set (i := 7) (by decide) (by decide) hS
  try simp only [pL]
  clear hS
  have yc := HW.out.cell
  have yt := HW.out.thaw
  refine wpG_ready (rs := [8]) (by kernel_rfl) (by simp) ?_
  refine RG.cons rfl rfl (fun K' hK => ?_) RG.nil
  go_simp
  clear yc yt
  refine hK.out _ _ ⟨trivial, fun h => absurd (h : true = false) (by decide), fun _ => trivial⟩ (fun hS => ?_)
  clear hK K'
  try simp only [pL]
  clear hS
  refine wpG_done (by kernel_rfl) ⟨rfl, ?_⟩ _
  obtain ⟨Wf, hWf⟩ : ∃ Wf, Wf = WD.setCell ⟨b, 5, none⟩ (.int .i64 (sl + l)) := ⟨_, rfl⟩
  have HFF := HE.out.put_lam (sl + l)
  have HF1 := Lib.hid HFF.1
  have GF := Lib.hid (put_gx GE.out (p := ⟨b, 5, none⟩) H.out.kb (.int .i64 (sl + l)))
  have R0 := Lib.hid (R0.out.far (p := ⟨b, 5, none⟩) NB.out.1 (.int .i64 (sl + l)))
  have R1 := Lib.hid (R1.out.far (p := ⟨b, 5, none⟩) NB.out.2.1 (.int .i64 (sl + l)))
  have R2 := Lib.hid (R2.out.far (p := ⟨b, 5, none⟩) NB.out.2.2 (.int .i64 (sl + l)))
  have HO := Lib.hid (HO.out.of_block (w' := WD.setCell ⟨b, 5, none⟩ (.int .i64 (sl + l))) fun g e => Below.heap_setCell WD ⟨b, 5, none⟩ _ g (fun e2 => by
    have m2 := HO.out
    rw [e] at m2
    exact row_ne_map HW.out m2 e2))
  rw [← hWf] at HF1 GF R0 R1 R2 HO ⊢
  rw [HSL.out] at HF1
  clear hWf HFF HE GE HW e1 HSL
  have hmf : ∀ (fn : Fn) (first cap : Array Value) (w : World), (Instr.makeFunc fn first cap).run Try.prog w = .ok (.func fn first cap) w := fun _ _ _ _ => rfl
  go_wp2_with fail
  have HN0 : nh ≤ N := by have := H.out.sum; omega
  refine (HF.out p3 (N - nh) Wf (fun g => (K g ∧ some g ≠ hv) ∨ some p3 = some g) ⟨_, _, _, _, _, _, HF1.out⟩ (by omega) GF.out.size (fun g hg hk => GF.out.block g hg hk) (fun g hg => hg.imp (fun h => h.1) (fun e => by injection e with e; have := HP.out; omega))).mono ?_
  rintro e W5 ⟨rfl, K2, ⟨u1, u2, u3, u4, m2, n2, h5⟩, g5⟩
  have hnk : ∀ g, g ≠ p3 → (K g → hv = some g) → ¬ ((K g ∧ some g ≠ hv) ∨ some p3 = some g) := fun g h1 h2 h => by
    rcases h with h | h
    · exact h.2 (h2 h.1).symm
    · injection h with h; exact h1 h.symm
  have hP := HP.out
  have hk0 := hnk p0 (by omega) (fun h => absurd h (HKN.out p0 (by omega)))
  have hk1 := hnk p1 (by omega) (fun h => absurd h (HKN.out p1 (by omega)))
  have hk2 := hnk p2 (by omega) (fun h => absurd h (HKN.out p2 (by omega)))
  have hkv : ∀ g, hv = some g → g < w.heap.size ∧ B ≤ g ∧ ¬ ((K g ∧ some g ≠ hv) ∨ some p3 = some g) := fun g e => ⟨(H.out.lt g (H.out.kh g e)).2, (H.out.lt g (H.out.kh g e)).1, hnk g (by have := (H.out.lt g (H.out.kh g e)).2; omega) (fun _ => e)⟩
  have hsz := GF.out.size
  have q0 := g5.row R0.out hk0
  have q1 := g5.row R1.out hk1
  have q2 := g5.row R2.out hk2
  have ho := HO.out.of_block (w' := W5) fun g e => g5.block g (Nat.lt_of_lt_of_le (hkv g e).1 hsz) (hkv g e).2.2
  have hK2 : ∀ g, g < Wf.heap.size → ¬ ((K g ∧ some g ≠ hv) ∨ some p3 = some g) → ¬ K2 g := fun g hg hn hk => by
    rcases g5.own g hk with h | h
    · exact hn h
    · omega
  have LD := Lib.hid (left_deferred h5 .returning p0 p1 p2 q0 q1 hv q2 nh s ho H.out.ne HLAM.out ⟨hL.1, by omega⟩ hl2 (hK2 _ R0.out.lt hk0) (hK2 _ R1.out.lt hk1) (hK2 _ R2.out.lt hk2) (fun g e => ⟨(hkv g e).2.1, Nat.lt_of_lt_of_le (Nat.lt_of_lt_of_le (hkv g e).1 hsz) g5.size, hK2 g (Nat.lt_of_lt_of_le (hkv g e).1 hsz) (hkv g e).2.2⟩) (by omega))
  have G5 := Lib.hid g5
  have HK2 := Lib.hid hK2
  have HNK := Lib.hid hnk
  clear h5 g5 q0 q1 q2 ho hK2 hnk hk0 hk1 hk2 hkv hsz hP
  go_wp2_with fail
  refine leaves_cons (f := 43) (args := #[.pointer (some ⟨p0, 0, none⟩), .pointer (some ⟨p2, 0, none⟩), .pointer (some ⟨p1, 0, none⟩)]) (by simp) (by simp [go_sem]) ?_
  refine LD.out.mono ?_
  rintro e u' w'' ⟨rfl, rfl, ⟨a1, a2, a3, a4, a5, a6, hws⟩, hg⟩
  refine ⟨_, results_none rfl _ _ _, rfl, _, ⟨a1, a2, a3, a4, a5, a6, hws.mono (by omega)⟩, ⟨hg.os.trans (G5.out.os.trans GF.out.os), hg.tape.trans (G5.out.tape.trans GF.out.tape), hg.output.trans (G5.out.output.trans GF.out.output), Nat.le_trans GF.out.size (Nat.le_trans G5.out.size hg.size), fun g h1 hn => ?_, fun g hgk => ?_⟩⟩
  · have hP := HP.out
    have h2 := Nat.lt_of_lt_of_le h1 GF.out.size
    have h3 := HNK.out g (by omega) (fun h => absurd h hn)
    exact (hg.block g (Nat.lt_of_lt_of_le h2 G5.out.size) (HK2.out g h2 h3)).trans ((G5.out.block g h2 h3).trans (GF.out.block g h1 hn))
  · rcases hgk with h | h
    · rcases G5.out.own g h with h | h
      · rcases h with h | h
        · exact .inl h.1
        · injection h with h; have hP := HP.out; exact .inr (by omega)
      · exact .inr (Nat.le_trans GF.out.size h)
    · exact .inl (H.out.kh g h)
end Sc
end Go.Proofs.Ytnefnnoleeeedaa
namespace Go.Proofs.Ytnefnnoleeeedaa
open Go.RowKit Go.Op
namespace Sc
def NodeC (X : Wc) (h : Hi) (kk : Tr) : Prop := ∀ (w : World) (K : Nat → Prop) (hb : Nat) (s : St) (N : Nat) (A : Option Addr) (cap : Nat), WS X w K (some hb) s N → Ok s → 0 ≤ s.lam → s.lam + (kk.cnt + 1 : Nat) ≤ 1000000 → N + 4 * (kk.cnt + 1) ≤ 100000000 → TV w X.B kk A cap → h.word.size ≤ maxLen → X.B ≤ w.heap.size →
  Calls Try.prog 46 #[X.p, hvv h A kk.len cap] w (Ans X w K (some hb) (node h (nodes kk) s) (N + 4 * (kk.cnt + 1)))
def TK (X : Wc) (k : Tr) : Prop := ∀ i h kk r, k.drop i = .cons h kk r → NodeC X h kk
theorem WS.lt {X : Wc} {w : World} {K : Nat → Prop} {hv : Option Nat} {s : St} {N : Nat} (h : WS X w K hv s N) : ∀ g, K g → X.B ≤ g ∧ g < w.heap.size := by
  obtain ⟨_, _, _, _, _, _, h⟩ := h
  exact h.lt
theorem WS.alloc {X : Wc} {w : World} {K : Nat → Prop} {hv : Option Nat} {s : St} {N : Nat} (h : WS X w K hv s N) (o : Obj) : WS X (w.alloc o) K hv s N := by
  obtain ⟨a, b, c, d, e, f, h⟩ := h
  exact ⟨a, b, c, d, e, f, h.alloc o⟩
theorem WS.mono {X : Wc} {w : World} {K : Nat → Prop} {hv : Option Nat} {s : St} {N N' : Nat} (h : WS X w K hv s N) (hN : N ≤ N') : WS X w K hv s N' := by
  obtain ⟨a, b, c, d, e, f, h⟩ := h
  exact ⟨a, b, c, d, e, f, h.mono hN⟩
structure KidsR (X : Wc) (w : World) (K : Nat → Prop) (hb : Nat) (k : Tr) (s : St) (N : Nat) (i : Nat) (wr : World) : Prop where
  ex : ∃ (Ki : Nat → Prop) (si : St) (Ni : Nat), WS X wr Ki (some hb) si Ni ∧ Gx K w Ki wr ∧ Ok si ∧ si.lam = s.lam ∧ nodes (k.drop i) si = nodes k s ∧ Ni + 4 * (k.drop i).cnt ≤ N + 4 * k.cnt
set_option maxHeartbeats 8000000 in
set_option maxRecDepth 100000 in
theorem kids_any {X : Wc} (h : Hi) (k : Tr) (hk : TK X k) (w : World) (K : Nat → Prop) (hb : Nat) (s : St) (N : Nat) (A : Option Addr) (cap : Nat) (hs : WS X w K (some hb) s N) (ok : Ok s) (hL : 0 ≤ s.lam) (hL1 : s.lam + k.cnt ≤ 1000000) (hN : N + 4 * k.cnt ≤ 100000000) (ht : TV w X.B k A cap) (hB : X.B ≤ w.heap.size) :
    Calls Try.prog 65 #[X.p, hvv h A k.len cap] w (Ans X w K (some hb) (nodes k s) (N + 4 * k.cnt)) := by
  have HS := Lib.hid hs
  have HT := Lib.hid ht
  have HK := Lib.hid hk
  have HR0 : Hid (KidsR X w K hb k s N 0 (w.alloc (.cells (hcc h A k.len cap) 25))) := ⟨⟨K, s, N, hs.alloc _, Gx.alloc K w _, ok, rfl, by rw [Tr.drop_zero], by rw [Tr.drop_zero]; exact Nat.le_refl _⟩⟩
  obtain ⟨n0, hn0⟩ : ∃ n0, n0 = k.len := ⟨_, rfl⟩
  have HN0 := Lib.hid hn0
  have HNN := Lib.hid hN
  have HLL := Lib.hid hL1
  have hnl : n0 ≤ 1000000 := by have := Tr.len_cnt k; omega
  rw [← hn0] at HR0 ⊢
  clear hs ht hk hn0 hN hL1 ok
  obtain ⟨b, mb, B⟩ := X
  simp only [hcc] at *
  go_enter Try.func65, Try.ntmps65
  go_wp2_with fail
  go_loopg [9] (n0 + 1) (fun kx s9 wr => ∃ (i : Nat), s9 = .int .i64 i ∧ n0 - i ≤ kx ∧ i ≤ n0 ∧ Hid (KidsR ⟨b, mb, B⟩ w K hb k s N i wr))
  case atStart => exact ⟨0, rfl, by omega, by omega, HR0.out⟩
  case round =>
    obtain ⟨i, rfl, hkx, hin, HR⟩ := hrel
    obtain ⟨⟨Ki, si, Ni, hws, hgx, hok, hlm, hnd, hNi⟩⟩ := HR.out
    by_cases hi : i < n0
    · have hil : (i : Int) < (n0 : Int) := by omega
      obtain ⟨h', kk, e⟩ := Tr.drop_cons k i (by rw [← HN0.out]; exact hi)
      have hold := hgx.old HS.out.lt hB
      obtain ⟨hword, g, o, A2, c2, rfl, hg, hkk, c0, c1, c2', c3, c4, c5⟩ := TV.nth (HT.out.keep hold) e
      have hcn : (k.drop i).cnt = kk.cnt + (k.drop (i + 1)).cnt + 1 := by rw [e, Tr.cnt]
      have hdc := Tr.drop_cnt k i
      obtain ⟨j, hj⟩ : ∃ j, j = i + 1 := ⟨_, rfl⟩
      have e1 : IntKind.i64.wrap ((i : Int) + 1) = (j : Int) := by rw [IntKind.wrap_i64]; omega
      have hBw : B ≤ wr.heap.size := Nat.le_trans hB hgx.size
      have CC := Lib.hid (HK.out i h' kk _ e (wr.alloc (.cells (hcc h' A2 kk.len c2) 25)) Ki hb si Ni A2 c2 (hws.alloc _) hok (by rw [hlm]; exact hL) (by rw [hlm]; have := HLL.out; omega) (by have := HNN.out; omega) (hkk.keep (Old.of ((Below.refl _ _).alloc hBw _))) hword (by simp; omega))
      have HG0 := Lib.hid (hgx.trans (Gx.alloc Ki wr (.cells (hcc h' A2 kk.len c2) 25)))
      have hgo := Lib.hid (node_ok h' (nodes kk) kk.cnt (fun s a b c => nodes_ok kk s a b c) si hok (by rw [hlm]; exact hL) (by rw [hlm]; have := HLL.out; omega))
      have hnd2 : Hid (nodes (k.drop j) (node h' (nodes kk) si) = nodes k s) := by rw [← hnd, e, nodes, hj]; rfl
      have HM := Lib.hid hlm
      have HNi : Hid (Ni + 4 * (kk.cnt + 1) + 4 * (k.drop j).cnt ≤ N + 4 * k.cnt) := by rw [hj]; unfold Hid; omega
      have HJ := Lib.hid hj
      obtain ⟨nk, hnk⟩ : ∃ nk, nk = kk.len := ⟨_, rfl⟩
      obtain ⟨st, hst⟩ : ∃ st, st = node h' (nodes kk) si := ⟨_, rfl⟩
      obtain ⟨N2, hN2⟩ : ∃ N2, N2 = Ni + 4 * (kk.cnt + 1) := ⟨_, rfl⟩
      simp only [hcc, hvv] at CC HG0
      rw [← hnk] at c5 CC HG0
      rw [← hst] at CC hgo hnd2
      rw [← hN2] at CC HNi
      clear e hkk hcn hj hws hgx hok hlm hnd hNi hst hnk hN2 HR hdc hold hword
      go_wp2_with fail
      refine CC.out.mono ?_
      rintro e2 w2 ⟨rfl, K2, hws2, g2⟩
      have HR2 : Hid (KidsR ⟨b, mb, B⟩ w K hb k s N j w2) := ⟨⟨K2, st, N2, hws2, HG0.out.trans g2, hgo.out.ok, hgo.out.lam.trans HM.out, hnd2.out, HNi.out⟩⟩
      clear hws2 g2 CC HG0 hgo hnd2 HM HNi
      go_wp2_with fail
      have hj := HJ.out
      go_roundg (n0 - j)
      case measure => omega
      case rel => exact ⟨j, rfl, by omega, by omega, HR2.out⟩
    · have hi2 : i = n0 := by omega
      have hd1 : decide ((i : Int) < (n0 : Int)) = false := decide_eq_false (by omega)
      rw [Tr.drop_len k i (by rw [← HN0.out]; omega)] at hnd hNi
      simp only [nodes, Tr.cnt] at hnd hNi
      have FE : Hid (Ans ⟨b, mb, B⟩ w K (some hb) (nodes k s) (N + 4 * k.cnt) (.returned (.tuple #[])) wr) := ⟨rfl, Ki, by rw [← hnd]; exact hws.mono (by omega), hgx⟩
      clear hnd hNi hws hgx hok hlm hi2 HR
      go_wp2_with fail
      go_end0
      exact FE.out
set_option maxHeartbeats 4000000 in
set_option maxRecDepth 100000 in
theorem clo64_any {X : Wc} {h : Hi} {A : Option Addr} {n cap : Nat} {w : World} {R : Ending → World → Prop} (p0 p1 : Nat) (r0 : RowB w p0 68 #[X.p]) (r1 : RowB w p1 25 (hcc h A n cap)) (hc : Calls Try.prog 65 #[X.p, hvv h A n cap] w fun e w' => e = .returned (.tuple #[]) ∧ R e w') :
    Calls Try.prog 64 #[.pointer (some ⟨p0, 0, none⟩), .pointer (some ⟨p1, 0, none⟩)] w R := by
  have y0 := r0.cell
  have y1 := r1.cell
  have CC := Lib.hid hc
  obtain ⟨b, mb, B⟩ := X
  simp only [hcc, hvv] at *
  clear r0 r1 hc
  go_enter Try.func64, Try.ntmps64
  go_wp2_with fail
  refine CC.out.mono ?_
  rintro e w2 ⟨rfl, hR⟩
  go_wp2_with fail
  go_end0
  exact hR
set_option maxHeartbeats 4000000 in
set_option maxRecDepth 100000 in
theorem clo66_any {X : Wc} {h : Hi} {A : Option Addr} {n cap : Nat} {w : World} {R : Ending → World → Prop} (p0 p1 : Nat) (r0 : RowB w p0 68 #[X.p]) (r1 : RowB w p1 25 (hcc h A n cap)) (hc : Calls Try.prog 65 #[X.p, hvv h A n cap] w fun e w' => e = .returned (.tuple #[]) ∧ R e w') :
    Calls Try.prog 66 #[.pointer (some ⟨p0, 0, none⟩), .pointer (some ⟨p1, 0, none⟩)] w R := by
  have y0 := r0.cell
  have y1 := r1.cell
  have CC := Lib.hid hc
  obtain ⟨b, mb, B⟩ := X
  simp only [hcc, hvv] at *
  clear r0 r1 hc
  go_enter Try.func66, Try.ntmps66
  go_wp2_with fail
  refine CC.out.mono ?_
  rintro e w2 ⟨rfl, hR⟩
  go_wp2_with fail
  go_end0
  exact hR
end Sc
end Go.Proofs.Ytnefnnoleeeedaa
namespace Go.Proofs.Ytnefnnoleeeedaa
open Go.RowKit Go.Op
namespace Sc
open Vm
theorem Ans.from {X : Wc} {w w1 : World} {K : Nat → Prop} {hv : Option Nat} {t : St} {N N' : Nat} {e : Ending} {w' : World} (h : Ans X w1 K hv t N e w') (g : Gx K w K w1) (hN : N ≤ N') : Ans X w K hv t N' e w' := by
  obtain ⟨h1, K', h2, h3⟩ := h
  exact ⟨h1, K', h2.mono hN, g.trans h3⟩
theorem enterF (c : Nat) (caps : Array Value) (hf : c = 64 ∨ c = 66 ∨ c = 20) (w : World) : (callFunc c caps).run Try.prog w = .ok (.enter c caps) w := by
  rcases hf with rfl | rfl | rfl
  · simp [callFunc, Try.func64, Try.f64]
  · simp [callFunc, Try.func66, Try.f66]
  · simp [callFunc, Try.func20, Try.f20]
set_option maxHeartbeats 8000000 in
set_option maxRecDepth 100000 in
theorem node_any {X : Wc} (h : Hi) (k : Tr) (hk : TK X k) : NodeC X h k := by
  intro w K hb s N A cap hs ok hL hL1 hN ht hword hB
  obtain ⟨kd, fro, til, word, at_⟩ := h
  obtain ⟨nk, hnk⟩ : ∃ nk, nk = k.len := ⟨_, rfl⟩
  have HS := Lib.hid hs
  have OK := Lib.hid ok
  have G1 := Lib.hid ((Gx.alloc K w (.cells #[X.p] 68)).trans (Gx.alloc K _ (.cells #[.int .i64 kd, .int .i64 fro, .int .i64 til, .string word, .int .i64 at_, .slice A nk cap] 25)))
  have H1 := Lib.hid ((hs.alloc (.cells #[X.p] 68)).alloc (.cells #[.int .i64 kd, .int .i64 fro, .int .i64 til, .string word, .int .i64 at_, .slice A nk cap] 25))
  have R0 := Lib.hid ((RowB.new w 68 #[X.p]).alloc (.cells #[.int .i64 kd, .int .i64 fro, .int .i64 til, .string word, .int .i64 at_, .slice A nk cap] 25))
  have R1 := Lib.hid (RowB.new (w.alloc (.cells #[X.p] 68)) 25 #[.int .i64 kd, .int .i64 fro, .int .i64 til, .string word, .int .i64 at_, .slice A nk cap])
  have E1 : (w.alloc (.cells #[X.p] 68)).heap.size = w.heap.size + 1 := by simp
  rw [E1] at R1
  clear E1
  have K0 : Hid (¬ K w.heap.size) := fun hk => by have := (hs.lt _ hk).2; omega
  have K1 : Hid (¬ K (w.heap.size + 1)) := fun hk => by have := (hs.lt _ hk).2; omega
  have HT := Lib.hid ht
  have HO : Hid (∀ w' K', Gx K w K' w' → Old X.B w w') := fun w' K' g => g.old hs.lt hB
  have HOK : Hid (∀ s', Ok s' → 0 ≤ s'.lam → s'.lam + k.cnt ≤ 1000000 → Goes s' (nodes k s')) := fun s' a b c => nodes_ok k s' a b c
  have HKD : Hid (∀ (w : World) (K : Nat → Prop) (hb : Nat) (s : St) (N : Nat), WS X w K (some hb) s N → Ok s → 0 ≤ s.lam → s.lam + k.cnt ≤ 1000000 → N + 4 * k.cnt ≤ 100000000 → TV w X.B k A cap → X.B ≤ w.heap.size →
      Calls Try.prog 65 #[X.p, hvv ⟨kd, fro, til, word, at_⟩ A nk cap] w (Ans X w K (some hb) (nodes k s) (N + 4 * k.cnt))) := fun w K hb s N a b c d e f g => by rw [hnk]; exact kids_any _ k hk w K hb s N A cap a b c d e f g
  obtain ⟨b, mb, B⟩ := X
  simp only [hvv] at *
  rw [← hnk]
  have HN := Lib.hid hN
  have HL1 := Lib.hid hL1
  clear hs ok ht hk hnk hN hL1
  by_cases h2 : kd = 2
  · subst h2
    go_enter Try.func46, Try.ntmps46
    go_wp2_with fail
    go_end0
    exact ⟨rfl, K, by unfold node; rw [if_pos rfl]; exact H1.out.mono (by omega), G1.out⟩
  have b2 : (kd == 2) = false := by rw [beq_eq_false_iff_ne]; exact h2
  by_cases h3 : kd = 3
  · subst h3
    obtain ⟨v1, v2, v3, v4, nm, nh, h1⟩ := H1.out
    have HTH : Thru ⟨b, mb, B⟩ ((w.alloc (.cells #[Wc.p ⟨b, mb, B⟩] 68)).alloc (.cells #[.int .i64 3, .int .i64 fro, .int .i64 til, .string word, .int .i64 at_, .slice A nk cap] 25)) K N (4 * k.cnt) s 0 (nodes k) 64 #[.pointer (some ⟨w.heap.size, 0, none⟩), .pointer (some ⟨w.heap.size + 1, 0, none⟩)] := fun hb2 N1 w1 Kx a1 a2 a3 a4 a5 => by
      have q0 : RowB w1 w.heap.size 68 _ := (a4 _ R0.out.lt K0.out).trans R0.out
      have q1 : RowB w1 (w.heap.size + 1) 25 _ := (a4 _ R1.out.lt K1.out).trans R1.out
      refine clo64_any (h := ⟨3, fro, til, word, at_⟩) _ _ q0 q1 ((HKD.out w1 Kx hb2 (enter 0 s) N1 a1 (enter_ok 0 OK.out) (by show 0 ≤ s.lam + 0; omega) (by show s.lam + 0 + k.cnt ≤ 1000000; have := HL1.out; omega) (by have := HN.out; omega) (HT.out.keep ?_) ?_).mono fun e w' h => ⟨h.1, h⟩)
      · exact fun g hg => (a4 g (by simp; omega) (fun hk => by have := (HS.out.lt g hk).1; simp only at this; omega)).trans (HO.out _ _ G1.out g hg)
      · have h2 := G1.out.size; exact Nat.le_trans (Nat.le_trans hB h2) a3
    have hgo := HOK.out (enter 0 s) (enter_ok 0 OK.out) (by show 0 ≤ s.lam + 0; omega) (by show s.lam + 0 + k.cnt ≤ 1000000; have := HL1.out; omega)
    have CT := Lib.hid (through_any h1 0 (by decide) ⟨hL, by have := HL1.out; omega⟩ 64 _ (nodes k) (4 * k.cnt) HTH (enterF _ _ (by decide)) hgo.lam (by have := HN.out; omega))
    clear HTH hgo h1
    have hmf : ∀ (fn : Fn) (first cap : Array Value) (w : World), (Instr.makeFunc fn first cap).run Try.prog w = .ok (.func fn first cap) w := fun _ _ _ _ => rfl
    go_enter Try.func46, Try.ntmps46
    go_wp2_with fail
    refine CT.out.mono ?_
    intro e w2 hA
    obtain ⟨rfl, hA2⟩ := hA
    have HA := Lib.hid hA2
    clear hA2 CT
    go_wp2_with fail
    go_end0
    exact Ans.from (w1 := ((w.alloc (.cells #[Wc.p ⟨b, mb, B⟩] 68)).alloc (.cells #[.int .i64 3, .int .i64 fro, .int .i64 til, .string word, .int .i64 at_, .slice A nk cap] 25))) ⟨rfl, by unfold node; rw [if_neg (by simp), if_pos (.inl rfl)]; exact HA.out⟩ G1.out (by omega)
  have b3 : (kd == 3) = false := by rw [beq_eq_false_iff_ne]; exact h3
  by_cases h6 : kd = 6
  · subst h6
    obtain ⟨v1, v2, v3, v4, nm, nh, h1⟩ := H1.out
    have HTH : Thru ⟨b, mb, B⟩ ((w.alloc (.cells #[Wc.p ⟨b, mb, B⟩] 68)).alloc (.cells #[.int .i64 6, .int .i64 fro, .int .i64 til, .string word, .int .i64 at_, .slice A nk cap] 25)) K N (4 * k.cnt) s 0 (nodes k) 64 #[.pointer (some ⟨w.heap.size, 0, none⟩), .pointer (some ⟨w.heap.size + 1, 0, none⟩)] := fun hb2 N1 w1 Kx a1 a2 a3 a4 a5 => by
      have q0 : RowB w1 w.heap.size 68 _ := (a4 _ R0.out.lt K0.out).trans R0.out
      have q1 : RowB w1 (w.heap.size + 1) 25 _ := (a4 _ R1.out.lt K1.out).trans R1.out
      refine clo64_any (h := ⟨6, fro, til, word, at_⟩) _ _ q0 q1 ((HKD.out w1 Kx hb2 (enter 0 s) N1 a1 (enter_ok 0 OK.out) (by show 0 ≤ s.lam + 0; omega) (by show s.lam + 0 + k.cnt ≤ 1000000; have := HL1.out; omega) (by have := HN.out; omega) (HT.out.keep ?_) ?_).mono fun e w' h => ⟨h.1, h⟩)
      · exact fun g hg => (a4 g (by simp; omega) (fun hk => by have := (HS.out.lt g hk).1; simp only at this; omega)).trans (HO.out _ _ G1.out g hg)
      · have h2 := G1.out.size; exact Nat.le_trans (Nat.le_trans hB h2) a3
    have hgo := HOK.out (enter 0 s) (enter_ok 0 OK.out) (by show 0 ≤ s.lam + 0; omega) (by show s.lam + 0 + k.cnt ≤ 1000000; have := HL1.out; omega)
    have CT := Lib.hid (through_any h1 0 (by decide) ⟨hL, by have := HL1.out; omega⟩ 64 _ (nodes k) (4 * k.cnt) HTH (enterF _ _ (by decide)) hgo.lam (by have := HN.out; omega))
    clear HTH hgo h1
    have hmf : ∀ (fn : Fn) (first cap : Array Value) (w : World), (Instr.makeFunc fn first cap).run Try.prog w = .ok (.func fn first cap) w := fun _ _ _ _ => rfl
    go_enter Try.func46, Try.ntmps46
    go_wp2_with fail
    refine CT.out.mono ?_
    intro e w2 hA
    obtain ⟨rfl, hA2⟩ := hA
    have HA := Lib.hid hA2
    clear hA2 CT
    go_wp2_with fail
    go_end0
    exact Ans.from (w1 := ((w.alloc (.cells #[Wc.p ⟨b, mb, B⟩] 68)).alloc (.cells #[.int .i64 6, .int .i64 fro, .int .i64 til, .string word, .int .i64 at_, .slice A nk cap] 25))) ⟨rfl, by unfold node; rw [if_neg (by simp), if_pos (.inr rfl)]; exact HA.out⟩ G1.out (by omega)
  have b6 : (kd == 6) = false := by rw [beq_eq_false_iff_ne]; exact h6
  by_cases h28 : kd = 28
  · subst h28
    obtain ⟨v1, v2, v3, v4, nm, nh, h1⟩ := H1.out
    have HTH : Thru ⟨b, mb, B⟩ ((w.alloc (.cells #[Wc.p ⟨b, mb, B⟩] 68)).alloc (.cells #[.int .i64 28, .int .i64 fro, .int .i64 til, .string word, .int .i64 at_, .slice A nk cap] 25)) K N (4 * k.cnt) s 1 (nodes k) 66 #[.pointer (some ⟨w.heap.size, 0, none⟩), .pointer (some ⟨w.heap.size + 1, 0, none⟩)] := fun hb2 N1 w1 Kx a1 a2 a3 a4 a5 => by
      have q0 : RowB w1 w.heap.size 68 _ := (a4 _ R0.out.lt K0.out).trans R0.out
      have q1 : RowB w1 (w.heap.size + 1) 25 _ := (a4 _ R1.out.lt K1.out).trans R1.out
      refine clo66_any (h := ⟨28, fro, til, word, at_⟩) _ _ q0 q1 ((HKD.out w1 Kx hb2 (enter 1 s) N1 a1 (enter_ok 1 OK.out) (by show 0 ≤ s.lam + 1; omega) (by show s.lam + 1 + k.cnt ≤ 1000000; have := HL1.out; omega) (by have := HN.out; omega) (HT.out.keep ?_) ?_).mono fun e w' h => ⟨h.1, h⟩)
      · exact fun g hg => (a4 g (by simp; omega) (fun hk => by have := (HS.out.lt g hk).1; simp only at this; omega)).trans (HO.out _ _ G1.out g hg)
      · have h2 := G1.out.size; exact Nat.le_trans (Nat.le_trans hB h2) a3
    have hgo := HOK.out (enter 1 s) (enter_ok 1 OK.out) (by show 0 ≤ s.lam + 1; omega) (by show s.lam + 1 + k.cnt ≤ 1000000; have := HL1.out; omega)
    have CT := Lib.hid (through_any h1 1 (by decide) ⟨hL, by have := HL1.out; omega⟩ 66 _ (nodes k) (4 * k.cnt) HTH (enterF _ _ (by decide)) hgo.lam (by have := HN.out; omega))
    clear HTH hgo h1
    have hmf : ∀ (fn : Fn) (first cap : Array Value) (w : World), (Instr.makeFunc fn first cap).run Try.prog w = .ok (.func fn first cap) w := fun _ _ _ _ => rfl
    go_enter Try.func46, Try.ntmps46
    go_wp2_with fail
    refine CT.out.mono ?_
    intro e w2 hA
    obtain ⟨rfl, hA2⟩ := hA
    have HA := Lib.hid hA2
    clear hA2 CT
    go_wp2_with fail
    go_end0
    exact Ans.from (w1 := ((w.alloc (.cells #[Wc.p ⟨b, mb, B⟩] 68)).alloc (.cells #[.int .i64 28, .int .i64 fro, .int .i64 til, .string word, .int .i64 at_, .slice A nk cap] 25))) ⟨rfl, by unfold node; rw [if_neg (by simp), if_neg (by simp), if_pos rfl]; exact HA.out⟩ G1.out (by omega)
  have b28 : (kd == 28) = false := by rw [beq_eq_false_iff_ne]; exact h28
  by_cases h5 : kd = 5
  · subst h5
    obtain ⟨v1, v2, v3, v4, nm, nh, h1⟩ := H1.out
    have CT := Lib.hid (bind_any h1 OK.out ⟨5, fro, til, word, at_⟩ A nk cap 3 (by have := HN.out; omega) hword)
    clear h1
    simp only [hvv] at CT
    go_enter Try.func46, Try.ntmps46
    go_wp2_with fail
    refine CT.out.mono ?_
    intro e w2 hA
    obtain ⟨rfl, hA2⟩ := hA
    have HA := Lib.hid hA2
    clear hA2 CT
    go_wp2_with fail
    go_end0
    exact Ans.from (w1 := ((w.alloc (.cells #[Wc.p ⟨b, mb, B⟩] 68)).alloc (.cells #[.int .i64 5, .int .i64 fro, .int .i64 til, .string word, .int .i64 at_, .slice A nk cap] 25))) ⟨rfl, by unfold node; rw [if_neg (by simp), if_neg (by simp), if_neg (by simp), if_pos rfl]; exact HA.out⟩ G1.out (by omega)
  have b5 : (kd == 5) = false := by rw [beq_eq_false_iff_ne]; exact h5
  by_cases h7 : kd = 7
  · subst h7
    have CT := Lib.hid (HKD.out ((w.alloc (.cells #[Wc.p ⟨b, mb, B⟩] 68)).alloc (.cells #[.int .i64 7, .int .i64 fro, .int .i64 til, .string word, .int .i64 at_, .slice A nk cap] 25)) K hb s N H1.out OK.out hL (by have := HL1.out; omega) (by have := HN.out; omega) (HT.out.keep (HO.out _ _ G1.out)) (by have h2 := G1.out.size; omega))
    have hgo := Lib.hid (HOK.out s OK.out hL (by have := HL1.out; omega))
    go_enter Try.func46, Try.ntmps46
    go_wp2_with fail
    refine CT.out.mono ?_
    rintro e w2 ⟨rfl, K2, ⟨v1, v2, v3, v4, nm, nh, h2'⟩, g2⟩
    have q0 := g2.row R0.out K0.out
    have q1 := g2.row R1.out K1.out
    have CB := Lib.hid (bind_any h2' hgo.out.ok ⟨7, fro, til, word, at_⟩ A nk cap 4 (by have := HN.out; omega) hword)
    have G2 := Lib.hid (G1.out.trans g2)
    have y0 := q0.cell
    have y1 := q1.cell
    clear h2' g2 q0 q1 CT
    simp only [hvv] at CB
    go_wp2_with fail
    refine CB.out.mono ?_
    intro e w3 hA
    obtain ⟨rfl, K3, hA1, hA2⟩ := hA
    have HA := Lib.hid hA1
    have HA2 := Lib.hid hA2
    clear hA1 hA2 CB y0 y1
    go_wp2_with fail
    go_end0
    refine ⟨rfl, K3, ?_, G2.out.trans HA2.out⟩
    unfold node
    rw [if_neg (by simp), if_neg (by simp), if_neg (by simp), if_neg (by simp), if_pos rfl]
    exact HA.out.mono (by omega)
  have b7 : (kd == 7) = false := by rw [beq_eq_false_iff_ne]; exact h7
  by_cases h8 : kd = 8
  · subst h8
    obtain ⟨v1, v2, v3, v4, nm, nh, h1⟩ := H1.out
    have CT := Lib.hid (mention_any h1 OK.out ⟨hL, by have := HL1.out; omega⟩ ⟨8, fro, til, word, at_⟩ A nk cap true (by have := HN.out; omega) hword)
    clear h1
    simp only [hvv] at CT
    have hgo := Lib.hid (mention_ok at_ word true OK.out)
    go_enter Try.func46, Try.ntmps46
    go_wp2_with fail
    refine CT.out.mono ?_
    rintro e w2 ⟨rfl, K2, hws2, g2⟩
    have q0 := g2.row R0.out K0.out
    have q1 := g2.row R1.out K1.out
    have G2 := Lib.hid (G1.out.trans g2)
    have CB := Lib.hid (HKD.out w2 K2 hb (mention at_ word true s) (N + 2) hws2 hgo.out.ok (by rw [hgo.out.lam]; exact hL) (by rw [hgo.out.lam]; have := HL1.out; omega) (by have := HN.out; omega) (HT.out.keep (HO.out _ _ G2.out)) (by have h2 := G2.out.size; omega))
    have y0 := q0.cell
    have y1 := q1.cell
    clear hws2 g2 q0 q1 CT
    go_wp2_with fail
    refine CB.out.mono ?_
    intro e w3 hA
    obtain ⟨rfl, K3, hA1, hA2⟩ := hA
    have HA := Lib.hid hA1
    have HA2 := Lib.hid hA2
    clear hA1 hA2 CB y0 y1
    go_wp2_with fail
    go_end0
    refine ⟨rfl, K3, ?_, G2.out.trans HA2.out⟩
    unfold node
    rw [if_neg (by simp), if_neg (by simp), if_neg (by simp), if_neg (by simp), if_neg (by simp), if_pos rfl]
    exact HA.out.mono (by omega)
  have b8 : (kd == 8) = false := by rw [beq_eq_false_iff_ne]; exact h8
  by_cases h23 : kd = 23
  · subst h23
    obtain ⟨v1, v2, v3, v4, nm, nh, h1⟩ := H1.out
    have CT := Lib.hid (mention_any h1 OK.out ⟨hL, by have := HL1.out; omega⟩ ⟨23, fro, til, word, at_⟩ A nk cap false (by have := HN.out; omega) hword)
    clear h1
    simp only [hvv] at CT
    go_enter Try.func46, Try.ntmps46
    go_wp2_with fail
    refine CT.out.mono ?_
    intro e w2 hA
    obtain ⟨rfl, hA2⟩ := hA
    have HA := Lib.hid hA2
    clear hA2 CT
    go_wp2_with fail
    go_end0
    exact Ans.from (w1 := ((w.alloc (.cells #[Wc.p ⟨b, mb, B⟩] 68)).alloc (.cells #[.int .i64 23, .int .i64 fro, .int .i64 til, .string word, .int .i64 at_, .slice A nk cap] 25))) ⟨rfl, by unfold node; rw [if_neg (by simp), if_neg (by simp), if_neg (by simp), if_neg (by simp), if_neg (by simp), if_neg (by simp), if_pos rfl]; exact HA.out⟩ G1.out (by omega)
  have b23 : (kd == 23) = false := by rw [beq_eq_false_iff_ne]; exact h23
  have CT := Lib.hid (HKD.out ((w.alloc (.cells #[Wc.p ⟨b, mb, B⟩] 68)).alloc (.cells #[.int .i64 kd, .int .i64 fro, .int .i64 til, .string word, .int .i64 at_, .slice A nk cap] 25)) K hb s N H1.out OK.out hL (by have := HL1.out; omega) (by have := HN.out; omega) (HT.out.keep (HO.out _ _ G1.out)) (by have h2 := G1.out.size; omega))
  go_enter Try.func46, Try.ntmps46
  go_wp2_with fail
  refine CT.out.mono ?_
  intro e w2 hA
  obtain ⟨rfl, hA2⟩ := hA
  have HA := Lib.hid hA2
  clear hA2 CT
  go_wp2_with fail
  go_end0
  exact Ans.from (w1 := ((w.alloc (.cells #[Wc.p ⟨b, mb, B⟩] 68)).alloc (.cells #[.int .i64 kd, .int .i64 fro, .int .i64 til, .string word, .int .i64 at_, .slice A nk cap] 25))) ⟨rfl, by unfold node; rw [if_neg h2, if_neg (by simp only [not_or]; exact ⟨h3, h6⟩), if_neg h28, if_neg h5, if_neg h7, if_neg h8, if_neg h23]; exact HA.out⟩ G1.out (by omega)
theorem tk_all (X : Wc) : ∀ k : Tr, TK X k
  | .nil => fun i h kk r e => by rw [Tr.drop_nil] at e; cases e
  | .cons h' k' r' => fun i => match i with
    | 0 => fun h kk r e => by
      rw [Tr.drop] at e
      injection e with e1 e2 e3
      subst e1 e2 e3
      exact node_any h' k' (tk_all X k')
    | i + 1 => fun h kk r e => by
      rw [Tr.drop] at e
      exact tk_all X r' i h kk r e
end Sc
end Go.Proofs.Ytnefnnoleeeedaa
namespace Go.Proofs.Ytnefnnoleeeedaa
open Go.RowKit Go.Op
namespace Sc
open Vm
theorem Ok.item {s : St} (h : Ok s) (i : Int) : Ok { s with item := i } := ⟨h.len, h.means, h.here, h.win⟩
def FR (X : Wc) (w : World) (K : Nat → Prop) (hb : Nat) (lam : Int) (goal : St) (rest : St → St) (c M : Nat) (wr : World) : Prop :=
  ∃ (Ki : Nat → Prop) (si : St) (Ni : Nat), WS X wr Ki (some hb) si Ni ∧ Gx K w Ki wr ∧ Ok si ∧ si.lam = lam ∧ rest si = goal ∧ Ni + c ≤ M
theorem bind1_ok (h : Hi) {s : St} (ok : Ok s) (hL : 0 ≤ s.lam ∧ s.lam ≤ 1000000) : Goes s (bind1 h s) := by
  unfold bind1
  split
  · exact bind_ok _ _ _ ok hL
  · split
    · exact bind_ok _ _ _ ok hL
    · exact .refl ok
theorem WS.item {X : Wc} {w : World} {K : Nat → Prop} {hv : Option Nat} {s : St} {N : Nat} (h : WS X w K hv s N) (l : Int) : WS X (w.setCell ⟨X.b, 7, none⟩ (.int .i64 l)) K hv { s with item := l } N ∧ Gx K w K (w.setCell ⟨X.b, 7, none⟩ (.int .i64 l)) := by
  obtain ⟨a, b, c, d, e, f, h⟩ := h
  exact ⟨⟨a, b, c, d, e, f, (h.put_item l).1⟩, (h.put_item l).2⟩
set_option maxHeartbeats 16000000 in
set_option maxRecDepth 100000 in
theorem file_any {X : Wc} (k : Tr) (w : World) (K : Nat → Prop) (hb : Nat) (s : St) (N : Nat) (A : Option Addr) (cap : Nat) (hs : WS X w K (some hb) s N) (ok : Ok s) (hL : 0 ≤ s.lam) (hL1 : s.lam + k.cnt ≤ 1000000) (hN : N + 8 * k.cnt ≤ 100000000) (ht : TV w X.B k A cap) (hB : X.B ≤ w.heap.size) :
    Calls Try.prog 21 #[X.p, .slice A k.len cap] w (Ans X w K (some hb) (items 0 k (binds 0 k s)) (N + 8 * k.cnt)) := by
  have HS := Lib.hid hs
  have HT := Lib.hid ht
  have HK := Lib.hid (tk_all X k)
  obtain ⟨goal, hgoal⟩ : ∃ goal, goal = items 0 k (binds 0 k s) := ⟨_, rfl⟩
  obtain ⟨lam, hlam⟩ : ∃ lam, lam = s.lam := ⟨_, rfl⟩
  rw [← hgoal]
  rw [← hlam] at hL hL1
  have HR0 : Hid (FR X w K hb lam goal (fun s => items 0 k (binds 0 (k.drop 0) s)) (8 * k.cnt) (N + 8 * k.cnt) w) := ⟨K, s, N, hs, Gx.refl K w, ok, hlam.symm, by rw [Tr.drop_zero]; exact hgoal.symm, Nat.le_refl _⟩
  obtain ⟨n0, hn0⟩ : ∃ n0, n0 = k.len := ⟨_, rfl⟩
  have HN0 := Lib.hid hn0
  have HNN := Lib.hid hN
  have HLL := Lib.hid hL1
  have hlc := Tr.len_cnt k
  have HC := Lib.hid hlc
  have hnl : n0 ≤ 1000000 := by omega
  rw [← hn0] at hlc ⊢
  clear hs ht hn0 hN hL1 ok hgoal hlam
  obtain ⟨b, mb, B⟩ := X
  simp only at *
  go_enter Try.func21, Try.ntmps21
  go_wp2_with fail
  go_loopg [10] (n0 + 1) (fun kx s10 wr => ∃ (i : Nat), s10 = .int .i64 i ∧ n0 - i ≤ kx ∧ i ≤ n0 ∧ Hid (FR ⟨b, mb, B⟩ w K hb lam goal (fun s => items 0 k (binds i (k.drop i) s)) (8 * k.cnt - 4 * i) (N + 8 * k.cnt) wr))
  case atStart => exact ⟨0, rfl, by omega, by omega, HR0.out⟩
  case round =>
    obtain ⟨i, rfl, hkx, hin, HR⟩ := hrel
    obtain ⟨Ki, si, Ni, hws, hgx, hok, hlm, hnd, hNi⟩ := HR.out
    by_cases hi : i < n0
    · have hil : (i : Int) < (n0 : Int) := by omega
      obtain ⟨⟨kd, fro, til, word, at_⟩, kk, e⟩ := Tr.drop_cons k i (by rw [← HN0.out]; exact hi)
      have hold := hgx.old HS.out.lt hB
      obtain ⟨hword, g, o, A2, c2, rfl, hg, hkk, c0, c1, c2', c3, c4, c5⟩ := TV.nth (HT.out.keep hold) e
      simp only at c0 c1 c2' c3 c4 hword
      obtain ⟨j, hj⟩ : ∃ j, j = i + 1 := ⟨_, rfl⟩
      have e1 : IntKind.i64.wrap ((i : Int) + 1) = (j : Int) := by rw [IntKind.wrap_i64]; omega
      have hBw : B ≤ wr.heap.size := Nat.le_trans hB hgx.size
      have hcn : (k.drop i).cnt = kk.cnt + (k.drop j).cnt + 1 := by rw [hj, e, Tr.cnt]
      have hdc := Tr.drop_cnt k i
      obtain ⟨nk, hnk⟩ : ∃ nk, nk = kk.len := ⟨_, rfl⟩
      have HW1 := (hws.alloc (.cells #[.int .i64 kd, .int .i64 fro, .int .i64 til, .string word, .int .i64 at_, .slice A2 nk c2] 25)).item (i : Int)
      have HWS := Lib.hid HW1.1
      have HGX := Lib.hid ((hgx.trans (Gx.alloc Ki wr (.cells #[.int .i64 kd, .int .i64 fro, .int .i64 til, .string word, .int .i64 at_, .slice A2 nk c2] 25))).trans HW1.2)
      obtain ⟨q1, q2, q3, q4, q5, q6, hwr⟩ := hws.alloc (.cells #[.int .i64 kd, .int .i64 fro, .int .i64 til, .string word, .int .i64 at_, .slice A2 nk c2] 25)
      have yc := hwr.row.cell
      have yt := hwr.row.thaw
      have hbw : wr.heap.size ≠ b := fun e2 => by have := (hws.lt b (by obtain ⟨_, _, _, _, _, _, h⟩ := hws; exact h.kb)).2; omega
      have y5 := ((RowB.new wr 25 #[.int .i64 kd, .int .i64 fro, .int .i64 til, .string word, .int .i64 at_, .slice A2 nk c2]).far (p := ⟨b, 7, none⟩) hbw (.int .i64 i)).cell
      have HKK : Hid (TV ((wr.alloc (.cells #[.int .i64 kd, .int .i64 fro, .int .i64 til, .string word, .int .i64 at_, .slice A2 nk c2] 25)).setCell ⟨b, 7, none⟩ (.int .i64 i)) B kk A2 c2) := hkk.keep fun g hg => (Below.heap_setCell _ ⟨b, 7, none⟩ _ g (fun e2 => by have h1 : B ≤ b := (hwr.lt _ hwr.kb).1; have hg' : g < B := hg; have e3 : g = b := e2; omega)).trans (Below.heap_alloc _ _ g (by have hg' : g < B := hg; omega))
      have HOK := Lib.hid hok
      have HLM := Lib.hid hlm
      have HNi := Lib.hid hNi
      have HJ := Lib.hid hj
      have HE := Lib.hid e
      have HWD := Lib.hid hword
      have HBW := Lib.hid hBw
      have HNK := Lib.hid hnk
      have HCN : Hid ((k.drop i).cnt = kk.cnt + (k.drop j).cnt + 1 ∧ (k.drop i).cnt ≤ k.cnt) := ⟨hcn, hdc⟩
      have HND : Hid (items 0 k (binds j (k.drop j) (bind1 ⟨kd, fro, til, word, at_⟩ { si with item := (i : Int) })) = goal) := by
        have hnd2 : items 0 k (binds i (k.drop i) si) = goal := hnd
        rw [← hnd2, e, hj]
        rfl
      simp only [] at yc yt
      rw [← hnk] at c5
      clear hws hgx hok hlm hnd hNi hj e hold hword hkk hBw hcn hdc hwr HW1 hbw HR hnk
      by_cases k2 : kd = 2
      · subst k2
        obtain ⟨v1, v2, v3, v4, nm, nh, hw1⟩ := HWS.out
        have CB := Lib.hid (bind_any hw1 (HOK.out.item _) ⟨2, fro, til, word, at_⟩ A2 nk c2 1 (by have := HNi.out; have := HNN.out; omega) HWD.out)
        have hgo := Lib.hid (bind_ok at_ word 1 (HOK.out.item (i : Int)) (by show 0 ≤ si.lam ∧ si.lam ≤ 1000000; rw [HLM.out]; have := HLL.out; omega))
        simp only [hvv] at CB
        clear hw1
        go_wp2_with fail
        refine CB.out.mono ?_
        rintro e2 w2 ⟨rfl, K2, hws2, g2⟩
        have HR2 : Hid (FR ⟨b, mb, B⟩ w K hb lam goal (fun s => items 0 k (binds j (k.drop j) s)) (8 * k.cnt - 4 * j) (N + 8 * k.cnt) w2) := ⟨K2, _, _, hws2, HGX.out.trans g2, hgo.out.ok, hgo.out.lam.trans HLM.out, by have := HND.out; simp only [bind1] at this; first | exact this | simpa using this, by have := HNi.out; have := HJ.out; have := HC.out; have := HN0.out; omega⟩
        clear hws2 g2 CB HWS HGX HOK HLM HND HNi hgo y5 yc yt
        go_wp2_with fail
        have hj := HJ.out
        go_roundg (n0 - j)
        case measure => omega
        case rel => exact ⟨j, rfl, by omega, by omega, HR2.out⟩
      · have k2' : (kd == 2) = false := by rw [beq_eq_false_iff_ne]; exact k2
        by_cases k3 : kd = 3
        · subst k3
          obtain ⟨v1, v2, v3, v4, nm, nh, hw1⟩ := HWS.out
          have CB := Lib.hid (bind_any hw1 (HOK.out.item _) ⟨3, fro, til, word, at_⟩ A2 nk c2 2 (by have := HNi.out; have := HNN.out; omega) HWD.out)
          have hgo := Lib.hid (bind_ok at_ word 2 (HOK.out.item (i : Int)) (by show 0 ≤ si.lam ∧ si.lam ≤ 1000000; rw [HLM.out]; have := HLL.out; omega))
          simp only [hvv] at CB
          clear hw1
          go_wp2_with fail
          refine CB.out.mono ?_
          rintro e2 w2 ⟨rfl, K2, hws2, g2⟩
          have HR2 : Hid (FR ⟨b, mb, B⟩ w K hb lam goal (fun s => items 0 k (binds j (k.drop j) s)) (8 * k.cnt - 4 * j) (N + 8 * k.cnt) w2) := ⟨K2, _, _, hws2, HGX.out.trans g2, hgo.out.ok, hgo.out.lam.trans HLM.out, by have := HND.out; simp only [bind1] at this; first | exact this | simpa using this, by have := HNi.out; have := HJ.out; have := HC.out; have := HN0.out; omega⟩
          clear hws2 g2 CB HWS HGX HOK HLM HND HNi hgo y5 yc yt
          go_wp2_with fail
          have hj := HJ.out
          go_roundg (n0 - j)
          case measure => omega
          case rel => exact ⟨j, rfl, by omega, by omega, HR2.out⟩
        · have k3' : (kd == 3) = false := by rw [beq_eq_false_iff_ne]; exact k3
          have HR2 : Hid (FR ⟨b, mb, B⟩ w K hb lam goal (fun s => items 0 k (binds j (k.drop j) s)) (8 * k.cnt - 4 * j) (N + 8 * k.cnt) ((wr.alloc (.cells #[.int .i64 kd, .int .i64 fro, .int .i64 til, .string word, .int .i64 at_, .slice A2 nk c2] 25)).setCell ⟨b, 7, none⟩ (.int .i64 i))) :=
            ⟨Ki, { si with item := (i : Int) }, Ni, HWS.out, HGX.out, HOK.out.item _, HLM.out, by have := HND.out; simp only [bind1, if_neg k2, if_neg k3] at this; exact this, by have := HNi.out; have := HJ.out; omega⟩
          clear HWS HGX HOK HLM HND HNi
          go_wp2_with fail
          have hj := HJ.out
          go_roundg (n0 - j)
          case measure => omega
          case rel => exact ⟨j, rfl, by omega, by omega, HR2.out⟩
    · have hi2 : i = n0 := by omega
      have hd1 : decide ((i : Int) < (n0 : Int)) = false := decide_eq_false (by omega)
      rw [Tr.drop_len k i (by rw [← HN0.out]; omega)] at hnd
      simp only [binds] at hnd
      have HR0 : Hid (FR ⟨b, mb, B⟩ w K hb lam goal (fun s => items 0 (k.drop 0) s) (4 * (k.drop 0).cnt) (N + 8 * k.cnt) wr) := ⟨Ki, si, Ni, hws, hgx, hok, hlm, by rw [Tr.drop_zero]; exact hnd, by rw [Tr.drop_zero]; have := HC.out; have := HN0.out; omega⟩
      clear hnd hNi hws hgx hok hlm hi2 HR
      go_wp2_with fail
      go_loopg [34] (n0 + 1) (fun kx s34 wr => ∃ (i : Nat), s34 = .int .i64 i ∧ n0 - i ≤ kx ∧ i ≤ n0 ∧ Hid (FR ⟨b, mb, B⟩ w K hb lam goal (fun s => items i (k.drop i) s) (4 * (k.drop i).cnt) (N + 8 * k.cnt) wr))
      case atStart => exact ⟨0, rfl, by omega, by omega, HR0.out⟩
      case round =>
        obtain ⟨i, rfl, hkx, hin, HR⟩ := hrel
        obtain ⟨Ki, si, Ni, hws, hgx, hok, hlm, hnd, hNi⟩ := HR.out
        by_cases hi : i < n0
        · have hil : (i : Int) < (n0 : Int) := by omega
          obtain ⟨⟨kd, fro, til, word, at_⟩, kk, e⟩ := Tr.drop_cons k i (by rw [← HN0.out]; exact hi)
          have hold := hgx.old HS.out.lt hB
          obtain ⟨hword, g, o, A2, c2, rfl, hg, hkk, c0, c1, c2', c3, c4, c5⟩ := TV.nth (HT.out.keep hold) e
          simp only at c0 c1 c2' c3 c4 hword
          obtain ⟨j, hj⟩ : ∃ j, j = i + 1 := ⟨_, rfl⟩
          have e1 : IntKind.i64.wrap ((i : Int) + 1) = (j : Int) := by rw [IntKind.wrap_i64]; omega
          have hBw : B ≤ wr.heap.size := Nat.le_trans hB hgx.size
          have hcn : (k.drop i).cnt = kk.cnt + (k.drop j).cnt + 1 := by rw [hj, e, Tr.cnt]
          have hdc := Tr.drop_cnt k i
          obtain ⟨nk, hnk⟩ : ∃ nk, nk = kk.len := ⟨_, rfl⟩
          have HW1 := (hws.alloc (.cells #[.int .i64 kd, .int .i64 fro, .int .i64 til, .string word, .int .i64 at_, .slice A2 nk c2] 25)).item (i : Int)
          have HWS := Lib.hid HW1.1
          have HGX := Lib.hid ((hgx.trans (Gx.alloc Ki wr (.cells #[.int .i64 kd, .int .i64 fro, .int .i64 til, .string word, .int .i64 at_, .slice A2 nk c2] 25))).trans HW1.2)
          obtain ⟨q1, q2, q3, q4, q5, q6, hwr⟩ := hws.alloc (.cells #[.int .i64 kd, .int .i64 fro, .int .i64 til, .string word, .int .i64 at_, .slice A2 nk c2] 25)
          have yc := hwr.row.cell
          have yt := hwr.row.thaw
          have hbw : wr.heap.size ≠ b := fun e2 => by have := (hws.lt b (by obtain ⟨_, _, _, _, _, _, h⟩ := hws; exact h.kb)).2; omega
          have y5 := ((RowB.new wr 25 #[.int .i64 kd, .int .i64 fro, .int .i64 til, .string word, .int .i64 at_, .slice A2 nk c2]).far (p := ⟨b, 7, none⟩) hbw (.int .i64 i)).cell
          have HKK : Hid (TV ((wr.alloc (.cells #[.int .i64 kd, .int .i64 fro, .int .i64 til, .string word, .int .i64 at_, .slice A2 nk c2] 25)).setCell ⟨b, 7, none⟩ (.int .i64 i)) B kk A2 c2) := hkk.keep fun g hg => (Below.heap_setCell _ ⟨b, 7, none⟩ _ g (fun e2 => by have h1 : B ≤ b := (hwr.lt _ hwr.kb).1; have hg' : g < B := hg; have e3 : g = b := e2; omega)).trans (Below.heap_alloc _ _ g (by have hg' : g < B := hg; omega))
          have HOK := Lib.hid hok
          have HLM := Lib.hid hlm
          have HNi := Lib.hid hNi
          have HJ := Lib.hid hj
          have HE := Lib.hid e
          have HWD := Lib.hid hword
          have HBW := Lib.hid hBw
          have HNK := Lib.hid hnk
          have HCN : Hid ((k.drop i).cnt = kk.cnt + (k.drop j).cnt + 1 ∧ (k.drop i).cnt ≤ k.cnt) := ⟨hcn, hdc⟩
          have HND : Hid (items j (k.drop j) (node ⟨kd, fro, til, word, at_⟩ (nodes kk) { si with item := (i : Int) }) = goal) := by
            have hnd2 : items i (k.drop i) si = goal := hnd
            rw [← hnd2, e, hj]
            rfl
          simp only [] at yc yt
          rw [← hnk] at c5
          clear hws hgx hok hlm hnd hNi hj e hold hword hkk hBw hcn hdc hwr HW1 hbw HR hnk
          have CC := Lib.hid (HK.out i ⟨kd, fro, til, word, at_⟩ kk _ HE.out ((wr.alloc (.cells #[.int .i64 kd, .int .i64 fro, .int .i64 til, .string word, .int .i64 at_, .slice A2 nk c2] 25)).setCell ⟨b, 7, none⟩ (.int .i64 i)) Ki hb { si with item := (i : Int) } Ni A2 c2 HWS.out (HOK.out.item _) (by show 0 ≤ si.lam; rw [HLM.out]; exact hL) (by show si.lam + _ ≤ _; rw [HLM.out]; have := HLL.out; have := HCN.out; omega) (by have := HNN.out; have := HNi.out; have := HCN.out; omega) HKK.out HWD.out (by have := HBW.out; simpa [World.setCell] using Nat.le_succ_of_le this))
          have hgo := Lib.hid (node_ok ⟨kd, fro, til, word, at_⟩ (nodes kk) kk.cnt (fun s a b c => nodes_ok kk s a b c) { si with item := (i : Int) } (HOK.out.item _) (by show 0 ≤ si.lam; rw [HLM.out]; exact hL) (by show si.lam + _ ≤ _; rw [HLM.out]; have := HLL.out; have := HCN.out; omega))
          rw [← HNK.out] at CC
          simp only [hvv] at CC
          go_wp2_with fail
          refine CC.out.mono ?_
          rintro e2 w2 ⟨rfl, K2, hws2, g2⟩
          have HR2 : Hid (FR ⟨b, mb, B⟩ w K hb lam goal (fun s => items j (k.drop j) s) (4 * (k.drop j).cnt) (N + 8 * k.cnt) w2) := ⟨K2, _, _, hws2, HGX.out.trans g2, hgo.out.ok, hgo.out.lam.trans HLM.out, HND.out, by have := HNi.out; have := HCN.out; omega⟩
          clear hws2 g2 CC HWS HGX HOK HLM HND HNi hgo y5 yc yt
          go_wp2_with fail
          have hj := HJ.out
          go_roundg (n0 - j)
          case measure => omega
          case rel => exact ⟨j, rfl, by omega, by omega, HR2.out⟩
        · have hi2 : i = n0 := by omega
          have hd1 : decide ((i : Int) < (n0 : Int)) = false := decide_eq_false (by omega)
          rw [Tr.drop_len k i (by rw [← HN0.out]; omega)] at hnd hNi
          simp only [items, Tr.cnt] at hnd hNi
          have FE : Hid (Ans ⟨b, mb, B⟩ w K (some hb) goal (N + 8 * k.cnt) (.returned (.tuple #[])) wr) := ⟨rfl, Ki, by rw [← hnd]; exact hws.mono (by omega), hgx⟩
          clear hnd hNi hws hgx hok hlm hi2 HR
          go_wp2_with fail
          go_end0
          exact FE.out
end Sc
end Go.Proofs.Ytnefnnoleeeedaa
namespace Go.Proofs.Ytnefnnoleeeedaa
open Go.RowKit Go.Sort
namespace Sb
structure Be where
  a : Int
  c : Int
  t : Nat
instance : Inhabited Be := ⟨⟨0, 0, 0⟩⟩
def enc2 (e : Be) : List Value := [.int .i64 e.a, .int .i64 e.c]
def sgn (a b : Int) : Int := if a < b then -1 else if b < a then 1 else 0
def cf (x y : Be) : Int := sgn x.a y.a
theorem ri {k : IntKind} {a b : Int} (h : a = b) : Ending.returned (.int k a) = .returned (.int k b) := by rw [h]
theorem isNaN_any (a : Int) (w : World) : Calls Try.prog 48 #[.int .i64 a] w fun e w' => e = .returned (.bool false) ∧ w' = w := by
  go_enter Try.func48, Try.ntmps48
  go_wp2
  go_ret
  exact ⟨by simp, rfl⟩
set_option maxHeartbeats 1000000 in
theorem compare_any (a b : Int) (w : World) : Calls Try.prog 24 #[.int .i64 a, .int .i64 b] w fun e w' => e = .returned (.int .i64 (sgn a b)) ∧ w' = w := by
  go_enter Try.func24, Try.ntmps24
  go_wp2_with (go_at_call 48; refine (isNaN_any _ _).mono ?_; rintro e w' ⟨rfl, rfl⟩)
  all_goals
    go_ret
    refine ⟨ri ?_, rfl⟩
    unfold sgn
    (repeat' split) <;> omega
set_option maxHeartbeats 2000000 in
set_option maxRecDepth 100000 in
theorem lt23_any (x y : Be) (w : World) : Calls Try.prog 23 #[.agg #[.int .i64 x.a, .int .i64 x.c], .agg #[.int .i64 y.a, .int .i64 y.c]] w fun e w' => e = .returned (.int .i64 (cf x y)) ∧ ∃ q os, w' = Go.Sort.grow (w.drewN q) os := by
  obtain ⟨r, hr⟩ : ∃ r, r = cf x y := ⟨_, rfl⟩
  rw [← hr]
  unfold cf at hr
  go_enter Try.func23, Try.ntmps23
  go_wp2_with (go_at_call 24; refine (compare_any _ _ _).mono ?_; rintro e w' ⟨rfl, rfl⟩)
  rw [← hr]
  go_ret
  refine ⟨by first | rfl | simp, 0, #[.cells #[.int .i64 x.a, .int .i64 x.c] 50] ++ #[.cells #[.int .i64 y.a, .int .i64 y.c] 50], ?_⟩
  rw [alloc_eq_grow, alloc_eq_grow, grow_grow]
  rfl
end Sb
end Go.Proofs.Ytnefnnoleeeedaa
namespace Go.Proofs.Ytnefnnoleeeedaa
open Go.RowKit Go.Sort Go.Proofs Go.Shelf
namespace Sb
def ins20_ren : Go.Shelf.Ren := ⟨fun | 20 => 68 | n => n, fun | 24 => 50 | 22 => 32 | 3 => 3 | 25 => 77 | 4 => 4 | 0 => 0 | n => n, fun | n => n⟩
theorem ins20 : Go.Proofs.SlLaysF0.n20 Try.prog ins20_ren := {
  mixed := by kernel_rfl
  f20 := ⟨Try.f68.name, by kernel_rfl, Try.func68.trans (congrArg some (by kernel_rfl))⟩
  t0 := Try.underlying0
  a0 := Try.isAgg0
  z0 := Try.sizeOf0
  v0 := Try.zeroValue0
  t3 := Try.underlying3
  a3 := Try.isAgg3
  z3 := Try.sizeOf3
  v3 := Try.zeroValue3
  t4 := Try.underlying4
  a4 := Try.isAgg4
  z4 := Try.sizeOf4
  v4 := Try.zeroValue4
  t22 := Try.underlying32
  a22 := Try.isAgg32
  z22 := Try.sizeOf32
  v22 := Try.zeroValue32
  t25 := Try.underlying77
  a25 := Try.isAgg77
  z25 := Try.sizeOf77
  v25 := Try.zeroValue77 }
theorem enter23 : ∀ args w, (callFunc 23 args).run Try.prog w = .ok (.enter 23 args) w := enters_of Try.func23 (by kernel_rfl) rfl
theorem cmpLays23 (blk off size : Nat) (w : World) : CmpLays Try.prog 23 #[] enc2 2 cf blk off size w :=
  fun _ _ _ _ x y => lt23_any x y _
theorem enc2_len (x : Be) : (enc2 x).length = 2 := rfl
theorem enc2_one (x : Be) : ∀ v ∈ enc2 x, v.oneCell' = true := by
  intro v hv
  simp [enc2] at hv
  rcases hv with rfl | rfl <;> rfl
theorem ltcf (x y : Be) : ltOf cf x y = decide (x.a < y.a) := by
  unfold ltOf cf sgn
  rw [Bool.eq_iff_iff, decide_eq_true_iff, decide_eq_true_iff]
  (repeat' split) <;> omega
theorem swocf : SWO (ltOf cf) where
  irrefl x := by rw [ltcf]; simp
  trans x y z h1 h2 := by
    rw [ltcf] at *
    simp only [decide_eq_true_iff] at *
    omega
  ntrans x y z h1 h2 := by
    rw [ltcf] at *
    simp only [decide_eq_false_iff_not] at *
    omega
def LT (x y : Be) : Bool := decide (x.a < y.a ∨ (x.a = y.a ∧ x.t < y.t))
theorem swoLT : SWO LT where
  irrefl x := by unfold LT; simp
  trans x y z h1 h2 := by
    unfold LT at *
    simp only [decide_eq_true_iff] at *
    omega
  ntrans x y z h1 h2 := by
    unfold LT at *
    simp only [decide_eq_false_iff_not] at *
    omega
abbrev at_ (d : Array Be) : Nat → Be := fun x => d[x]!
def Tied (d : Array Be) : Prop := ∀ i j, i < j → j < d.size → (at_ d i).a = (at_ d j).a → (at_ d i).t < (at_ d j).t
theorem cmp_yes {x y : Be} (h : cf x y < 0) : LT x y = true := by
  have := ltcf x y
  unfold ltOf at this
  unfold LT
  simp only [decide_eq_true_iff]
  rw [Bool.eq_iff_iff, decide_eq_true_iff, decide_eq_true_iff] at this
  exact .inl (this.1 h)
theorem cmp_no {d : Array Be} (hT : Tied d) {i j : Nat} (hij : i < j) (hj : j < d.size) (h : decide (cf d[j]! d[i]! < 0) = false) : LT (at_ d j) (at_ d i) = false := by
  have := ltcf d[j]! d[i]!
  unfold ltOf at this
  rw [this] at h
  have := hT i j hij hj
  unfold LT at_ at *
  simp only [decide_eq_false_iff_not] at *
  omega
theorem tied_lt {d : Array Be} (hT : Tied d) {i j : Nat} (hij : i < j) (hj : j < d.size) (h : LT (at_ d j) (at_ d i) = true) : (at_ d j).a < (at_ d i).a := by
  have := hT i j hij hj
  unfold LT at h
  simp only [decide_eq_true_iff] at h
  omega
theorem swp_tied {d : Array Be} (hT : Tied d) {j : Nat} (hj : j + 1 < d.size) (h : (at_ d (j + 1)).a < (at_ d j).a) : Tied (swp d (j + 1) j) := by
  intro x y hxy hy he
  have hs : (swp d (j + 1) j).size = d.size := by simp [swp]
  rw [hs] at hy
  have e : ∀ k, at_ (swp d (j + 1) j) k = if k = j then at_ d (j + 1) else if k = j + 1 then at_ d j else at_ d k := fun k => swp_get d hj (by omega) k
  rw [e, e] at he ⊢
  by_cases x1 : x = j
  · subst x1
    rw [if_pos rfl] at he ⊢
    by_cases y1 : y = x + 1
    · subst y1
      rw [if_neg (by omega), if_pos rfl] at he
      omega
    · rw [if_neg (by omega), if_neg y1] at he ⊢
      exact hT _ _ (by omega) hy he
  · rw [if_neg x1] at he ⊢
    by_cases x2 : x = j + 1
    · subst x2
      rw [if_pos rfl, if_neg (by omega), if_neg (by omega)] at he
      rw [if_pos rfl, if_neg (by omega), if_neg (by omega)]
      exact hT _ _ (by omega) hy he
    · rw [if_neg x2] at he ⊢
      by_cases y1 : y = j
      · subst y1
        rw [if_pos rfl] at he ⊢
        exact hT _ _ (by omega) hj he
      · rw [if_neg y1] at he ⊢
        by_cases y2 : y = j + 1
        · subst y2
          rw [if_pos rfl] at he ⊢
          exact hT _ _ (by omega) (by omega) he
        · rw [if_neg y2] at he ⊢
          exact hT _ _ hxy hy he
theorem insInner_tied (a : Nat) : ∀ (j : Nat) (d : Array Be), j < d.size → Tied d → Tied (insInner (ltOf cf) a j d) ∧ (insInner (ltOf cf) a j d).size = d.size
  | 0, d, _, h => ⟨h, rfl⟩
  | j + 1, d, hj, h => by
    rw [insInner]
    split
    · rename_i hc
      simp only [Bool.and_eq_true, decide_eq_true_eq] at hc
      have h1 := hc.2
      rw [ltcf, decide_eq_true_iff] at h1
      have hs : (swp d (j + 1) j).size = d.size := by simp [swp]
      obtain ⟨r1, r2⟩ := insInner_tied a j (swp d (j + 1) j) (by rw [hs]; omega) (swp_tied h hj h1)
      exact ⟨r1, r2.trans hs⟩
    · exact ⟨h, rfl⟩
theorem insOuter_tied (a b : Nat) : ∀ (n i : Nat) (d : Array Be), b - i ≤ n → b ≤ d.size → Tied d → Tied (insOuter (ltOf cf) a b i d)
  | 0, i, d, hn, hb, h => by
    rw [insOuter, if_neg (by omega)]
    exact h
  | n + 1, i, d, hn, hb, h => by
    rw [insOuter]
    split
    · obtain ⟨r1, r2⟩ := insInner_tied a i d (by omega) h
      exact insOuter_tied a b n (i + 1) _ (by omega) (by rw [r2]; exact hb) r1
    · exact h
end Sb
end Go.Proofs.Ytnefnnoleeeedaa
namespace Go.Proofs.Ytnefnnoleeeedaa
open Go.RowKit Go.Sort Go.Proofs Go.Shelf
namespace Sb
def srg (d : Nat → Be) (a b n x : Nat) : Be := if a ≤ x ∧ x < a + n then d (x - a + b) else if b ≤ x ∧ x < b + n then d (x - b + a) else d x
def rot (d : Nat → Be) (a m b x : Nat) : Be := if a ≤ x ∧ x < b then (if x < a + (b - m) then d (x + m - a) else d (x - (b - m))) else d x
theorem swk_cells {w0 W : World} {blk off : Nat} {d0 dk : Array Be} (S : SWK enc2 2 w0 blk off dk W) (R : RowK enc2 2 w0 blk off d0) (hs : dk.size = d0.size) (i : Nat) (hi : i < dk.size) :
    (W.cell? ⟨blk, off + i * 2, none⟩ = some (.int .i64 dk[i]!.a) ∧ W.cell? ⟨blk, off + i * 2 + 1, none⟩ = some (.int .i64 dk[i]!.c)) ∧
      W.frozen? ⟨blk, off + i * 2, none⟩ = false ∧ W.frozen? ⟨blk, off + i * 2 + 1, none⟩ = false := by
  have h := S.holds R.hblk R.hH hs
  have h0 := h.cell (c := 0) hi (by decide)
  have h1 := h.cell (c := 1) hi (by decide)
  exact ⟨⟨h0.1, h1.1⟩, h0.2, h1.2⟩
def sw6 (w : World) (blk p q : Nat) (X Y : Be) : World := ((((w.setCell ⟨blk, p, none⟩ (.int .i64 Y.a)).setCell ⟨blk, p + 1, none⟩ (.int .i64 Y.c)).setCell ⟨blk, q, none⟩ (.int .i64 X.a)).setCell ⟨blk, q + 1, none⟩ (.int .i64 X.c)).drew
theorem drew_set (w : World) (p : Addr) (v : Value) : (w.setCell p v).drew = w.drew.setCell p v := rfl
theorem swk_sw6 {w0 W : World} {blk off : Nat} {d0 dk : Array Be} (S : SWK enc2 2 w0 blk off dk W) (R : RowK enc2 2 w0 blk off d0) (i j : Nat) (hi : i < dk.size) (hj : j < dk.size) :
    SWK enc2 2 w0 blk off (swp dk i j) (sw6 W blk (off + i * 2) (off + j * 2) dk[i]! dk[j]!) := by
  have h := S.swapped R i j hi hj
  have e : sw6 W blk (off + i * 2) (off + j * 2) dk[i]! dk[j]! = (W.drew.setCells blk (off + i * 2) (enc2 dk[j]!)).setCells blk (off + j * 2) (enc2 dk[i]!) := by
    unfold sw6 enc2
    simp only [drew_set, World.setCells]
  rw [e]
  exact h
theorem swp_sw {d dk : Array Be} {lo hi i j : Nat} (h : PermIn lo hi d dk) (hi1 : lo ≤ i) (hi2 : i < hi) (hj1 : lo ≤ j) (hj2 : j < hi) (hh : hi ≤ d.size) : PermIn lo hi d (swp dk i j) :=
  permIn_trans _ _ _ _ _ h (swp_permIn dk lo hi i j hi1 hi2 hj1 hj2 (by rw [h.1]; exact hh))
theorem srg_step {d dk : Array Be} {a b n i : Nat} (h : ∀ x, dk[x]! = srg (at_ d) a b i x) (hab : a + n ≤ b) (hi : i < n) (hb : b + n ≤ dk.size) (x : Nat) : (swp dk (a + i) (b + i))[x]! = srg (at_ d) a b (i + 1) x := by
  rw [swp_get dk (by omega) (by omega), h, h, h]
  unfold srg at_
  (repeat' split) <;> first | omega | rfl | (congr 1; omega)
set_option maxHeartbeats 4000000 in
set_option maxRecDepth 1000000 in
theorem swapRange_any (blk off cap a b n : Nat) (g : Nat) (cb : Array Value) (d0 d : Array Be) (w0 w : World)
    (R : RowK enc2 2 w0 blk off d0) (hs : d0.size = d.size) (S : SWK enc2 2 w0 blk off d w) (hab : a + n ≤ b) (hb : b + n ≤ d.size) (hsz : d.size < 4611686018427387904) (lo hi : Nat) (hlo : lo ≤ a) (hhi : b + n ≤ hi) (hhs : hi ≤ d.size) :
    Calls Try.prog 96 #[.slice (some ⟨blk, off, none⟩) d.size cap, .int .i64 a, .int .i64 b, .int .i64 n, .func (.func g) #[] cb] w fun e w' => e = .returned (.tuple #[]) ∧ ∃ d', SWK enc2 2 w0 blk off d' w' ∧ d'.size = d.size ∧ PermIn lo hi d d' ∧ ∀ x, d'[x]! = srg (at_ d) a b n x := by
  have S0 : Aside (SWK enc2 2 w0 blk off d w) := S
  clear S
  go_enter Try.func96, Try.ntmps96
  go_wp2_with fail
  go_loopg [10] n (fun kx s10 wr => ∃ (i : Nat) (dk : Array Be), s10 = .int .i64 i ∧ i ≤ n ∧ n - i ≤ kx ∧ dk.size = d.size ∧ Aside (SWK enc2 2 w0 blk off dk wr) ∧ Hid (PermIn lo hi d dk) ∧ Hid (∀ x, dk[x]! = srg (at_ d) a b i x))
  case atStart => exact ⟨0, d, rfl, by omega, by omega, rfl, S0, permIn_refl _ _ _, fun x => by unfold srg; rw [if_neg (by omega), if_neg (by omega)]⟩
  case round =>
    clear S0
    obtain ⟨i, dk, rfl, hin, hkx, hds, S1, HP, HE⟩ := hrel
    by_cases hlt : i < n
    · have h1 : (i : Int) < (n : Int) := by omega
      have ea : ((a : Int) + (i : Int)).toNat = a + i := by omega
      have eb : ((b : Int) + (i : Int)).toNat = b + i := by omega
      have pa : (0 : Int) ≤ (a : Int) + (i : Int) := by omega
      have pb : (0 : Int) ≤ (b : Int) + (i : Int) := by omega
      have ba : (a : Int) + (i : Int) < (d.size : Int) := by omega
      have bb : (b : Int) + (i : Int) < (d.size : Int) := by omega
      have ra : IntKind.i64.wrap ((a : Int) + (i : Int)) = (a : Int) + (i : Int) := by rw [IntKind.wrap_i64]; omega
      have rb : IntKind.i64.wrap ((b : Int) + (i : Int)) = (b : Int) + (i : Int) := by rw [IntKind.wrap_i64]; omega
      have S2 : Aside _ := swk_sw6 S1.out R (a + i) (b + i) (by omega) (by omega)
      obtain ⟨⟨x0, x1⟩, x3, x4⟩ := swk_cells S1.out R (by omega) (a + i) (by omega)
      obtain ⟨⟨y0, y1⟩, y3, y4⟩ := swk_cells S1.out R (by omega) (b + i) (by omega)
      obtain ⟨X, hX⟩ : ∃ X, X = dk[a + i]! := ⟨_, rfl⟩
      obtain ⟨Y, hY⟩ : ∃ Y, Y = dk[b + i]! := ⟨_, rfl⟩
      rw [← hX] at x0 x1
      rw [← hY] at y0 y1
      rw [← hX, ← hY] at S2
      obtain ⟨W', hW'⟩ : ∃ W', W' = sw6 wr blk (off + (a + i) * 2) (off + (b + i) * 2) X Y := ⟨_, rfl⟩
      rw [← hW'] at S2
      have EW := Lib.hid hW'
      clear S1 hX hY hW'
      go_wp2_with fail
      go_big_region
      change Exit.inBlock 1 _ Exit.normal _ (sw6 wr blk (off + (a + i) * 2) (off + (b + i) * 2) X Y)
      rw [← EW.out]
      clear x0 x1 x3 x4 y0 y1 y3 y4 EW
      go_wp2
      go_roundg (n - (i + 1))
      case measure => omega
      case rel => exact ⟨i + 1, swp dk (a + i) (b + i), by go_num, by omega, by omega, by rw [size_swp]; exact hds, S2, swp_sw HP.out (by omega) (by omega) (by omega) (by omega) hhs, srg_step HE.out hab hlt (by omega)⟩
    · obtain rfl : i = n := by omega
      go_wp2
      go_end0
      exact ⟨rfl, dk, S1.out, hds, HP.out, HE.out⟩
end Sb
end Go.Proofs.Ytnefnnoleeeedaa
namespace Go.Proofs.Ytnefnnoleeeedaa
open Go.RowKit Go.Sort Go.Proofs Go.Shelf
namespace Sb
theorem rot_more {d : Nat → Be} {d2 : Nat → Be} {m i j : Nat} (hj : 0 < j) (hij : j < i) (hi : i ≤ m) (h : ∀ x, d2 x = srg d (m - i) m j x) (x : Nat) : rot d2 (m - (i - j)) m (m + j) x = rot d (m - i) m (m + j) x := by
  unfold rot
  simp only [h]
  unfold srg
  (repeat' split) <;> first | omega | rfl | (congr 1; omega)
theorem rot_less {d : Nat → Be} {d2 : Nat → Be} {m i j : Nat} (h0 : 0 < i) (hij : i < j) (hi : i ≤ m) (h : ∀ x, d2 x = srg d (m - i) (m + j - i) i x) (x : Nat) : rot d2 (m - i) m (m + (j - i)) x = rot d (m - i) m (m + j) x := by
  unfold rot
  simp only [h]
  unfold srg
  (repeat' split) <;> first | omega | rfl | (congr 1; omega)
theorem rot_one {d : Nat → Be} {d2 : Nat → Be} {m i : Nat} (h0 : 0 < i) (hi : i ≤ m) (h : ∀ x, d2 x = srg d (m - i) m i x) (x : Nat) : d2 x = rot d (m - i) m (m + i) x := by
  unfold rot
  simp only [h]
  unfold srg
  (repeat' split) <;> first | omega | rfl | (congr 1; omega)
set_option maxHeartbeats 4000000 in
set_option maxRecDepth 1000000 in
theorem rotate_any (blk off cap a m b : Nat) (g : Nat) (cb : Array Value) (d0 d : Array Be) (w0 w : World)
    (R : RowK enc2 2 w0 blk off d0) (hs : d0.size = d.size) (S : SWK enc2 2 w0 blk off d w) (ham : a < m) (hmb : m < b) (hb : b ≤ d.size) (hsz : d.size < 4611686018427387904) :
    Calls Try.prog 87 #[.slice (some ⟨blk, off, none⟩) d.size cap, .int .i64 a, .int .i64 m, .int .i64 b, .func (.func g) #[] cb] w fun e w' => e = .returned (.tuple #[]) ∧ ∃ d', SWK enc2 2 w0 blk off d' w' ∧ d'.size = d.size ∧ PermIn a b d d' ∧ ∀ x, d'[x]! = rot (at_ d) a m b x := by
  have S0 : Aside (SWK enc2 2 w0 blk off d w) := S
  clear S
  go_enter Try.func87, Try.ntmps87
  go_wp2_with fail
  go_loopg [10, 11] (m - a + (b - m)) (fun kx s10 s11 wr => ∃ (i j : Nat) (dk : Array Be), s10 = .int .i64 i ∧ s11 = .int .i64 j ∧ 0 < i ∧ 0 < j ∧ i ≤ m - a ∧ j ≤ b - m ∧ i + j ≤ kx ∧ dk.size = d.size ∧ Aside (SWK enc2 2 w0 blk off dk wr) ∧ Hid (PermIn a b d dk) ∧ Hid (∀ x, rot (at_ dk) (m - i) m (m + j) x = rot (at_ d) a m b x))
  case atStart => exact ⟨m - a, b - m, d, by go_num, by go_num, by omega, by omega, by omega, by omega, by omega, rfl, S0, permIn_refl _ _ _, fun x => by rw [show m - (m - a) = a by omega, show m + (b - m) = b by omega]⟩
  case round =>
    clear S0
    obtain ⟨i, j, dk, rfl, rfl, hi0, hj0, hia, hjb, hkx, hds, S1, HP, HE⟩ := hrel
    have e1 : ((m - i : Nat) : Int) = (m : Int) - (i : Int) := by omega
    by_cases hij : i = j
    · subst hij
      have c := swapRange_any blk off cap (m - i) m i g cb d0 dk w0 wr R (by omega) S1.out (by omega) (by omega) (by omega) a b (by omega) (by omega) (by omega)
      rw [e1, hds] at c
      have C := Lib.hid c
      clear c S1
      go_wp2_with fail
      refine C.out.mono ?_
      rintro e w2 ⟨rfl, d2, s2, z2, p2, x2⟩
      have S2 : Aside _ := s2
      have P2 := Lib.hid p2
      have X2 := Lib.hid x2
      clear s2 p2 x2
      go_wp2
      go_end0
      exact ⟨rfl, d2, S2.out, by omega, permIn_trans _ _ _ _ _ HP.out P2.out, fun x => by rw [← HE.out]; exact rot_one (d := at_ dk) (d2 := at_ d2) hi0 (by omega) X2.out x⟩
    · have hne : ((i : Int) == (j : Int)) = false := by simpa using (by omega : (i : Int) ≠ (j : Int))
      by_cases hlt : j < i
      · have hlt' : (j : Int) < (i : Int) := by omega
        have c := swapRange_any blk off cap (m - i) m j g cb d0 dk w0 wr R (by omega) S1.out (by omega) (by omega) (by omega) a b (by omega) (by omega) (by omega)
        rw [e1, hds] at c
        have C := Lib.hid c
        have E2 : ((i - j : Nat) : Int) = (i : Int) - (j : Int) := by omega
        clear c S1 hij
        go_wp2_with fail
        refine C.out.mono ?_
        rintro e w2 ⟨rfl, d2, s2, z2, p2, x2⟩
        have S2 : Aside _ := s2
        have P2 := Lib.hid p2
        have X2 := Lib.hid x2
        clear s2 p2 x2
        go_wp2
        go_roundg (i - j + j)
        case measure => omega
        case rel => exact ⟨i - j, j, d2, by rw [E2], rfl, by omega, by omega, by omega, by omega, by omega, by omega, S2, permIn_trans _ _ _ _ _ HP.out P2.out, fun x => by rw [← HE.out]; exact rot_more (d := at_ dk) (d2 := at_ d2) hj0 hlt (by omega) X2.out x⟩
      · have hlt' : (i : Int) < (j : Int) := by omega
        have hd : decide ((j : Int) < (i : Int)) = false := by simp; omega
        have c := swapRange_any blk off cap (m - i) (m + j - i) i g cb d0 dk w0 wr R (by omega) S1.out (by omega) (by omega) (by omega) a b (by omega) (by omega) (by omega)
        rw [e1, hds, show ((m + j - i : Nat) : Int) = (m : Int) + (j : Int) - (i : Int) by omega] at c
        have C := Lib.hid c
        have E2 : ((j - i : Nat) : Int) = (j : Int) - (i : Int) := by omega
        clear c S1 hij hlt
        go_wp2_with fail
        refine C.out.mono ?_
        rintro e w2 ⟨rfl, d2, s2, z2, p2, x2⟩
        have S2 : Aside _ := s2
        have P2 := Lib.hid p2
        have X2 := Lib.hid x2
        clear s2 p2 x2
        go_wp2
        go_roundg (i + (j - i))
        case measure => omega
        case rel => exact ⟨i, j - i, d2, rfl, by rw [E2], by omega, by omega, by omega, by omega, by omega, by omega, S2, permIn_trans _ _ _ _ _ HP.out P2.out, fun x => by rw [← HE.out]; exact rot_less (d := at_ dk) (d2 := at_ d2) hi0 (by omega) (by omega) X2.out x⟩
end Sb
end Go.Proofs.Ytnefnnoleeeedaa
