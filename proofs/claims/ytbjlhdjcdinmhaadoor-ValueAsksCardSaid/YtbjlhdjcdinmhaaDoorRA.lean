/- Contracts: whether a value is what a type says, by the program. -/
import Derived.Test.YtbjlhdjcdinmhaaDoorQZ
import Derived.Test.YtbjlhdjcdinmhaaDoorQM
namespace Go.Proofs.YtbjlhdjcdinmhaaDoor
open Go.RowKit Go.Op
namespace Vm
theorem all_take {α : Type} {q : α → Bool} {l : List α} {i : Nat} {t : α} (e : l[i]? = some t) (h : (l.take i).all q = true) (k : q t = true) : (l.take (i + 1)).all q = true := by
  rw [List.take_add_one, e]
  simp [h, k]
theorem all_no {α : Type} {q : α → Bool} {l : List α} {t : α} (h : t ∈ l) (k : q t = false) : l.all q = false := by
  cases e : l.all q
  · rfl
  · rw [List.all_eq_true] at e
    rw [e t h] at k
    cases k
set_option maxHeartbeats 8000000 in
set_option maxRecDepth 100000 in
theorem hasn_any (w : World) (k : VH) (ns : List ByteArray) (ps : List Vl) (P P' : Nat → Prop) (An : Option Addr) (cn : Nat) (A : Option Addr) (c : Nat) (hN : NV w P ns An cn) (h : VV w P ps A c) (hl : ns.length ≤ 1000001) (hr : (Vl.mk k ns ps).right = true)
    (tn : List ByteArray) (Bn : Option Addr) (dn : Nat) (hM : NV w P' tn Bn dn) (hm : tn.length ≤ 1000001) :
    Calls Tryd.prog 45 #[.agg (varr k An ns.length cn A ps.length c), .slice Bn tn.length dn] w fun e w' => e = .returned (.bool (tn.all fun x => ((Vl.mk k ns ps).field x).isSome)) ∧ Below w.heap.size w w' := by
  have b1 := bel1 w (.cells (varr k An ns.length cn A ps.length c) 34)
  have R1 := Lib.hid (RowB.new w 34 (varr k An ns.length cn A ps.length c))
  obtain ⟨W, hW⟩ : ∃ W, W = w.alloc (.cells (varr k An ns.length cn A ps.length c) 34) := ⟨_, rfl⟩
  rw [← hW] at b1 R1
  have HB1 := Lib.hid b1
  have HC : Hid (∀ w' x, Below W.heap.size W w' → Calls Tryd.prog 17 #[.agg (varr k An ns.length cn A ps.length c), .string x] w' (FieldQ P ((Vl.mk k ns ps).field x) w')) := fun w' x hb => pfield_any w' k ns ps x P An cn A c ((hN.below b1).below hb) ((h.below b1).below hb) hl hr
  have HM := Lib.hid (hM.below b1)
  obtain ⟨n, hn⟩ : ∃ n, n = tn.length := ⟨_, rfl⟩
  have HN := Lib.hid hn
  rw [← hn] at hm ⊢
  obtain ⟨q, hq⟩ : ∃ q : ByteArray → Bool, q = fun x => ((Vl.mk k ns ps).field x).isSome := ⟨_, rfl⟩
  rw [← hq]
  have HQ := Lib.hid hq
  generalize ns.length = n1 at *
  generalize ps.length = m1 at *
  clear hN h hl hr hM b1 hn hq
  go_enter Tryd.func45, Tryd.ntmps45
  go_wp2_with fail
  rw [← hW]
  clear hW
  go_loopg [11] (n + 1) (fun kx s11 wr => ∃ i : Nat, s11 = .int .i64 i ∧ n - i ≤ kx ∧ i ≤ n ∧ Hid ((tn.take i).all q = true) ∧ Hid (Below W.heap.size W wr))
  case atStart => exact ⟨0, rfl, by omega, by omega, by simp [Hid], Below.refl _ _⟩
  case round =>
    obtain ⟨i, rfl, hkx, hin, HA, HB⟩ := hrel
    have RX := Lib.hid (R1.out.below HB.out R1.out.lt)
    have rx := RX.out.cell
    by_cases hi : i < n
    · have hil : (i : Int) < (n : Int) := by omega
      obtain ⟨s, e⟩ := get_lt (l := tn) (i := i) (by rw [← HN.out]; exact hi)
      obtain ⟨g, o, hA, _, hg, z0, _⟩ := (HM.out.below HB.out).nth e
      have HE := Lib.hid e
      have HMEM := Lib.hid (List.mem_of_getElem? e)
      obtain ⟨j, hj⟩ : ∃ j, j = i + 1 := ⟨_, rfl⟩
      have CC := Lib.hid (HC.out wr s HB.out)
      have HQS : Hid (q s = ((Vl.mk k ns ps).field s).isSome) := by unfold Hid; rw [HQ.out]
      obtain ⟨o2, ho2⟩ : ∃ o, o = (Vl.mk k ns ps).field s := ⟨_, rfl⟩
      rw [← ho2] at CC HQS
      subst hA
      clear e ho2
      go_wp2_with fail
      refine CC.out.mono ?_
      rintro e w2 ⟨h2, hq2⟩
      have HB2 := Lib.hid (HB.out.trans (h2.mono HB.out.size))
      cases o2 with
      | none =>
        obtain rfl := hq2
        have HF := Lib.hid (all_no HMEM.out HQS.out)
        have HB3 := Lib.hid (HB2.out.trans ((bel1 w2 (.cells zvc 34)).mono HB2.out.size))
        clear h2 CC z0 rx HB
        go_wp2_with fail
        (first | go_ret | go_ret2)
        exact ⟨by rw [HF.out]; rfl, HB1.out.trans (HB3.out.mono HB1.out.size)⟩
      | some p =>
        obtain ⟨An2, cn2, A2, c2, rfl, _⟩ := hq2
        have HF := Lib.hid (all_take HE.out HA.out HQS.out)
        obtain ⟨kp, np, pp⟩ := p
        have HB3 := Lib.hid (HB2.out.trans ((bel1 w2 (.cells (varr kp An2 np.length cn2 A2 pp.length c2) 34)).mono HB2.out.size))
        clear h2 CC z0 rx HB
        simp only [vv, hd_mk, names_mk, parts_mk]
        go_wp2_with fail
        go_roundg (n - j)
        case measure => omega
        case rel => exact ⟨j, by rw [hj]; go_num, by omega, by omega, by rw [hj]; exact HF.out, HB3.out⟩
    · have hil : ¬ (i : Int) < (n : Int) := by omega
      obtain rfl : i = n := by omega
      have HF : Hid (tn.all q = true) := by
        have h := HA.out
        rw [List.take_of_length_le (by rw [← HN.out]; exact Nat.le_refl _)] at h
        exact h
      clear hi
      go_wp2_with fail
      (first | go_ret | go_ret2)
      exact ⟨by rw [HF.out]; rfl, HB1.out.trans (HB.out.mono HB1.out.size)⟩
end Vm
end Go.Proofs.YtbjlhdjcdinmhaaDoor
