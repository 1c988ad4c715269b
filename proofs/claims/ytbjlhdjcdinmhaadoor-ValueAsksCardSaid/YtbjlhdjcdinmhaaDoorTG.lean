/- Contract: is a value what a type says, by the document (f21)? -/
import Derived.Test.YtbjlhdjcdinmhaaDoorTF
import Derived.Test.YtbjlhdjcdinmhaaDoorRB
namespace Go.Proofs.YtbjlhdjcdinmhaaDoor
open Go.RowKit Go.Op
namespace Vm
def hasN (ns : List ByteArray) (x : ByteArray) : Bool := ns.any (fun y => decide (y = x))
def rfitB (k : VH) (ns : List ByteArray) (kt : Int) (tn : List ByteArray) (m : Nat) : Bool :=
  if kt = 0 then true else if kt ≠ k.kind then false else if kt = 4 then k.n == (m : Int) - 1 else if kt = 3 then tn.all (hasN ns) else true
theorem fit_same {k : VH} {ns : List ByteArray} {ps : List Vl} (hr : (Vl.mk k ns ps).right = true) (kt : Int) (tn : List ByteArray) (m : Nat) : fitB (.mk k ns ps) kt tn m = rfitB k ns kt tn m := by
  unfold fitB rfitB
  rw [hd_mk]
  by_cases h0 : kt = 0
  · rw [if_pos h0, if_pos h0]
  rw [if_neg h0, if_neg h0]
  by_cases h1 : kt ≠ k.kind
  · rw [if_pos h1, if_pos h1]
  rw [if_neg h1, if_neg h1]
  by_cases h3 : kt = 3
  · rw [if_pos h3, if_neg (by omega), if_pos h3]
    have hk : k.kind = 3 := by omega
    have hlen : ns.length = ps.length := by
      rcases right_cases hr with ⟨h, _⟩ | ⟨h, _⟩ | ⟨h, _⟩ | ⟨_, _, _, h, _⟩ <;> omega
    have e : ∀ x, ((Vl.mk k ns ps).field x).isSome = hasN ns x := fun x => by
      unfold Vl.field hasN
      rw [hd_mk, if_pos hk, names_mk, parts_mk, Bool.eq_iff_iff, List.any_eq_true]
      constructor
      · intro h
        obtain ⟨p, hp⟩ := Option.isSome_iff_exists.1 h
        exact ⟨x, (lk_mem hp).2, by simp⟩
      · rintro ⟨y, hy, e⟩
        obtain rfl : y = x := by simpa using e
        obtain ⟨p, hp⟩ := lk_some hlen hy
        rw [hp]
        rfl
    exact congrArg (fun f => tn.all f) (funext e)
  · rw [if_neg h3, if_neg h3]
theorem hasN_take {ns : List ByteArray} {x y : ByteArray} {i : Nat} (e : ns[i]? = some y) : hasN (ns.take (i + 1)) x = (hasN (ns.take i) x || decide (y = x)) := by
  unfold hasN
  rw [List.take_add_one, e, List.any_append]
  simp
set_option maxHeartbeats 8000000 in
set_option maxRecDepth 100000 in
theorem rfits_any (w : World) (k : VH) (ns : List ByteArray) (P P' : Nat → Prop) (An : Option Addr) (cn : Nat) (A : Option Addr) (np c : Nat) (hN : NV w P ns An cn) (hl : ns.length ≤ 1000001)
    (kt : Int) (tn : List ByteArray) (Bn : Option Addr) (dn : Nat) (hM : NV w P' tn Bn dn) (hm : tn.length ≤ 1000001) (B : Option Addr) (q d : Nat) (hm2 : q ≤ 140737488355328) :
    Calls Tryd.prog 21 #[.agg (varr k An ns.length cn A np c), .agg #[.int .i64 kt, .slice Bn tn.length dn, .slice B q d]] w fun e w' => e = .returned (.bool (rfitB k ns kt tn q)) ∧ Below w.heap.size w w' := by
  have hN := hN.low
  have hM := hM.low
  obtain ⟨n, hn⟩ : ∃ n, n = ns.length := ⟨_, rfl⟩
  obtain ⟨m, hmm⟩ : ∃ m, m = tn.length := ⟨_, rfl⟩
  have HN := Lib.hid hn
  have HM := Lib.hid hmm
  have hn1 : n ≤ 1000001 := by omega
  have hm1 : m ≤ 1000001 := by omega
  rw [← hn, ← hmm]
  have b1 := bel1 w (.cells (varr k An n cn A np c) 25)
  have b2 := b1.trans ((bel1 (w.alloc (.cells (varr k An n cn A np c) 25)) (.cells #[.int .i64 kt, .slice Bn m dn, .slice B q d] 28)).mono b1.size)
  obtain ⟨W, hW⟩ : ∃ W, W = (w.alloc (.cells (varr k An n cn A np c) 25)).alloc (.cells #[.int .i64 kt, .slice Bn m dn, .slice B q d] 28) := ⟨_, rfl⟩
  have RV : Hid (RowB W w.heap.size 25 (varr k An n cn A np c)) := by rw [hW]; exact (RowB.new w 25 _).alloc _
  have RT : Hid (RowB W (w.heap.size + 1) 28 #[.int .i64 kt, .slice Bn m dn, .slice B q d]) := by
    have := RowB.new (w.alloc (.cells (varr k An n cn A np c) 25)) 28 #[.int .i64 kt, .slice Bn m dn, .slice B q d]
    rw [hW]
    unfold Hid
    simpa using this
  rw [← hW] at b2
  have HB := Lib.hid b2
  have HNV := Lib.hid hN
  have HTV := Lib.hid hM
  obtain ⟨r, hr⟩ : ∃ r, r = rfitB k ns kt tn q := ⟨_, rfl⟩
  rw [← hr]
  unfold rfitB at hr
  have HR := Lib.hid hr
  have q1 : IntKind.i64.wrap ((q : Int) - 1) = (q : Int) - 1 := by rw [IntKind.wrap_i64]; omega
  have r1 := RV.out.cell
  have r2 := RT.out.cell
  have e2 := hW
  clear hN hM b1 b2 hn hmm hW hr hl hm hm2
  obtain ⟨kd, kn, ks⟩ := k
  simp only [varr] at e2 r1 r2 RV RT HR
  by_cases h0 : kt = 0
  · have HF : Hid (r = true) := by unfold Hid; rw [HR.out, if_pos h0]
    have x0 : (kt == 0) = true := by rw [beq_iff_eq]; exact h0
    clear HR h0
    go_enter Tryd.func21, Tryd.ntmps21
    go_wp2_with fail
    rw [← e2]
    (first | go_ret | go_ret2)
    exact ⟨by rw [HF.out]; rfl, HB.out⟩
  have x0 : (kt == 0) = false := by rw [beq_eq_false_iff_ne]; exact h0
  by_cases h1 : kt ≠ kd
  · have HF : Hid (r = false) := by unfold Hid; rw [HR.out, if_neg h0, if_pos h1]
    have x1 : (kd != kt) = true := by rw [bne_iff_ne]; exact fun e => h1 e.symm
    clear HR h0 h1
    go_enter Tryd.func21, Tryd.ntmps21
    go_wp2_with fail
    rw [← e2]
    (first | go_ret | go_ret2)
    exact ⟨by rw [HF.out]; rfl, HB.out⟩
  have hke : kd = kt := by omega
  subst hke
  by_cases h4 : kd = 4
  · have HF : Hid (r = (kn == (q : Int) - 1)) := by unfold Hid; rw [HR.out, if_neg h0, if_neg h1, if_pos h4]
    have x4 : (kd == 4) = true := by rw [beq_iff_eq]; exact h4
    clear HR h0 h1 h4
    go_enter Tryd.func21, Tryd.ntmps21
    go_wp2_with fail
    rw [← e2]
    (first | go_ret | go_ret2)
    exact ⟨by rw [HF.out]; rfl, HB.out⟩
  have x4 : (kd == 4) = false := by rw [beq_eq_false_iff_ne]; exact h4
  by_cases h3 : ¬ kd = 3
  · have HF : Hid (r = true) := by unfold Hid; rw [HR.out, if_neg h0, if_neg h1, if_neg h4, if_neg h3]
    have x3 : (kd == 3) = false := by rw [beq_eq_false_iff_ne]; exact h3
    clear HR h0 h1 h4 h3
    by_cases hm0 : m = 0
    · have hml : ¬ (0 : Int) < (m : Int) := by omega
      clear hm0
      go_enter Tryd.func21, Tryd.ntmps21
      go_wp2_with fail
      rw [← e2]
      go_loopg [5] 1 (fun kx s5 wr => s5 = .int .i64 0 ∧ 1 - 0 ≤ kx + 1 ∧ Hid (W = wr))
      case atStart => exact ⟨rfl, by omega, rfl⟩
      case round =>
        obtain ⟨rfl, _, HW⟩ := hrel
        obtain rfl := HW.out
        have r1 := RV.out.cell
        have r2 := RT.out.cell
        go_wp2_with fail
        (first | go_ret | go_ret2)
        exact ⟨by rw [HF.out]; rfl, by first | exact HB.out | (rw [← e2]; exact HB.out)⟩
    · have hml : (0 : Int) < (m : Int) := by omega
      clear hm0
      go_enter Tryd.func21, Tryd.ntmps21
      go_wp2_with fail
      rw [← e2]
      go_loopg [5] 1 (fun kx s5 wr => s5 = .int .i64 0 ∧ 1 - 0 ≤ kx + 1 ∧ Hid (W = wr))
      case atStart => exact ⟨rfl, by omega, rfl⟩
      case round =>
        obtain ⟨rfl, _, HW⟩ := hrel
        obtain rfl := HW.out
        have r1 := RV.out.cell
        have r2 := RT.out.cell
        go_wp2_with fail
        (first | go_ret | go_ret2)
        exact ⟨by rw [HF.out]; rfl, by first | exact HB.out | (rw [← e2]; exact HB.out)⟩
  have h3 : kd = 3 := by omega
  subst h3
  have HR2 : Hid (r = tn.all (hasN ns)) := by unfold Hid; rw [HR.out, if_neg h0, if_neg h1, if_neg h4, if_pos rfl]
  clear HR h0 h1 h4 x0 x4
  go_enter Tryd.func21, Tryd.ntmps21
  go_wp2_with fail
  rw [← e2]
  clear e2 r1 r2
  go_loopg [5] (m + 1) (fun kx s5 wr => ∃ i : Nat, s5 = .int .i64 i ∧ m - i ≤ kx ∧ i ≤ m ∧ Hid (Below W.heap.size W wr) ∧ Hid ((tn.take i).all (hasN ns) = true))
  case atStart => exact ⟨0, rfl, by omega, by omega, Below.refl _ _, by simp [Hid]⟩
  case round =>
    obtain ⟨i, rfl, hkx, hin, HWr, HQ⟩ := hrel
    have HBr : Hid (Below w.heap.size w wr) := HB.out.trans (HWr.out.mono HB.out.size)
    have r1 := (RV.out.below HWr.out RV.out.lt).cell
    have r2 := (RT.out.below HWr.out RT.out.lt).cell
    by_cases hi : i < m
    · have hil : (i : Int) < (m : Int) := by omega
      obtain ⟨x, ex⟩ := get_lt (l := tn) (i := i) (by rw [← HM.out]; exact hi)
      have EX := Lib.hid ex
      obtain ⟨j, hj⟩ : ∃ j, j = i + 1 := ⟨_, rfl⟩
      clear ex
      go_wp2_with fail
      clear r1 r2
      obtain ⟨U, rfl⟩ : ∃ U, U = wr := ⟨_, rfl⟩
      go_loopg [6, 7] (n + 1) (fun kx s6 s7 wr => ∃ (b : Bool) (h : Nat), s6 = .bool b ∧ s7 = .int .i64 h ∧ n - h ≤ kx ∧ h ≤ n ∧ Hid (Below U.heap.size U wr) ∧ Hid (b = hasN (ns.take h) x))
      case atStart => exact ⟨false, 0, rfl, rfl, by omega, by omega, Below.refl _ _, by simp [Hid, hasN]⟩
      case round =>
        obtain ⟨b, h, rfl, rfl, hkx2, hhn, HUr, HQb⟩ := hrel
        have HWr2 : Hid (Below W.heap.size W wr) := HWr.out.trans (HUr.out.mono HWr.out.size)
        have HBr2 : Hid (Below w.heap.size w wr) := HB.out.trans (HWr2.out.mono HB.out.size)
        have r1 := (RV.out.below HWr2.out RV.out.lt).cell
        have r2 := (RT.out.below HWr2.out RT.out.lt).cell
        by_cases hh : h < n
        · have hhl : (h : Int) < (n : Int) := by omega
          obtain ⟨y, ey⟩ := get_lt (l := ns) (i := h) (by rw [← HN.out]; exact hh)
          obtain ⟨g0, o0, hA0, hP0, hg0, y0, _⟩ := (HNV.out.below HBr2.out).nth ey
          obtain ⟨g1, o1, hA1, hP1, hg1, y1, _⟩ := (HTV.out.below HBr2.out).nth EX.out
          obtain ⟨bb, hbb⟩ : ∃ bb, bb = decide (y = x) := ⟨_, rfl⟩
          have hxe : (y.toList == x.toList) = bb := by rw [beq_ba, hbb]
          obtain ⟨f, hf⟩ : ∃ f, f = h + 1 := ⟨_, rfl⟩
          have HT1 : Hid (hasN (ns.take f) x = (b || bb)) := by unfold Hid; rw [hf, hasN_take ey, ← HQb.out, hbb]
          have im : (i : Int) < (m : Int) := hil
          subst hA0 hA1
          clear ey hP0 hP1 hbb HQb
          go_upto_region 14 with fail
          cases b with
          | true =>
            go_quiet (fail)
            go_wp2_with fail
            go_roundg (n - f)
            case measure => omega
            case rel => exact ⟨true, f, rfl, by rw [hf]; go_num, by omega, by omega, below_drewN HUr.out _, by rw [HT1.out]; rfl⟩
          | false =>
            go_quiet (fail)
            go_wp2_with fail
            go_roundg (n - f)
            case measure => omega
            case rel => exact ⟨bb, f, rfl, by rw [hf]; go_num, by omega, by omega, below_drewN HUr.out _, by rw [HT1.out]; rfl⟩
        · have hhl : ¬ (h : Int) < (n : Int) := by omega
          obtain rfl : n = h := by omega
          have hb := HQb.out
          rw [List.take_of_length_le (by rw [← HN.out]; exact Nat.le_refl _)] at hb
          cases b with
          | true =>
            have HQ2 : Hid ((tn.take j).all (hasN ns) = true) := by unfold Hid; rw [hj]; exact all_take EX.out HQ.out hb.symm
            clear hb HQb HQ
            go_wp2_with fail
            go_roundg (m - j)
            case measure => omega
            case rel => exact ⟨j, by rw [hj]; go_num, by omega, by omega, HWr2.out, HQ2.out⟩
          | false =>
            have HF : Hid (r = false) := by unfold Hid; rw [HR2.out]; exact all_no (List.mem_of_getElem? EX.out) hb.symm
            clear hb HQb HQ
            go_wp2_with fail
            (first | go_ret | go_ret2)
            exact ⟨by rw [HF.out]; rfl, HBr2.out⟩
    · have hil : ¬ (i : Int) < (m : Int) := by omega
      obtain rfl : m = i := by omega
      have HF : Hid (r = true) := by
        have h := HQ.out
        rw [List.take_of_length_le (by rw [← HM.out]; exact Nat.le_refl _)] at h
        unfold Hid
        rw [HR2.out, h]
      clear hi
      go_wp2_with fail
      (first | go_ret | go_ret2)
      exact ⟨by rw [HF.out]; rfl, HBr.out⟩
end Vm
end Go.Proofs.YtbjlhdjcdinmhaaDoor
