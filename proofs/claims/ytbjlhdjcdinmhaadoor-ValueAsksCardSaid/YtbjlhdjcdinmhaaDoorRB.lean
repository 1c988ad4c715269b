/- Contracts: whether a value is what a type says, by the program: Fits. -/
import Derived.Test.YtbjlhdjcdinmhaaDoorRA
namespace Go.Proofs.YtbjlhdjcdinmhaaDoor
open Go.RowKit Go.Op
namespace Vm
/-- Does a value fit a type of this kind, of these names, of so many parts? -/
def fitB (v : Vl) (kt : Int) (tn : List ByteArray) (m : Nat) : Bool :=
  if kt = 0 then true else if kt ≠ v.hd.kind then false else if kt = 3 then tn.all (fun x => (v.field x).isSome) else if kt = 4 then v.hd.n == (m : Int) - 1 else true
set_option maxHeartbeats 8000000 in
set_option maxRecDepth 100000 in
theorem fits_any (w : World) (k : VH) (ns : List ByteArray) (ps : List Vl) (P P' : Nat → Prop) (An : Option Addr) (cn : Nat) (A : Option Addr) (c : Nat) (hN : NV w P ns An cn) (h : VV w P ps A c) (hl : ns.length ≤ 1000001) (hr : (Vl.mk k ns ps).right = true)
    (kt : Int) (tn : List ByteArray) (Bn : Option Addr) (dn : Nat) (hM : NV w P' tn Bn dn) (hm : tn.length ≤ 1000001) (B : Option Addr) (m d : Nat) (hm2 : m ≤ 140737488355328) :
    Calls Tryd.prog 20 #[.agg (varr k An ns.length cn A ps.length c), .agg #[.int .i64 kt, .slice Bn tn.length dn, .slice B m d]] w fun e w' => e = .returned (.bool (fitB (.mk k ns ps) kt tn m)) ∧ Below w.heap.size w w' := by
  have b1 := bel1 w (.cells (varr k An ns.length cn A ps.length c) 34)
  have b2 := b1.trans ((bel1 (w.alloc (.cells (varr k An ns.length cn A ps.length c) 34)) (.cells #[.int .i64 kt, .slice Bn tn.length dn, .slice B m d] 28)).mono b1.size)
  have R1 := Lib.hid ((RowB.new w 34 (varr k An ns.length cn A ps.length c)).alloc (.cells #[.int .i64 kt, .slice Bn tn.length dn, .slice B m d] 28))
  have R2 := Lib.hid (RowB.new (w.alloc (.cells (varr k An ns.length cn A ps.length c) 34)) 28 #[.int .i64 kt, .slice Bn tn.length dn, .slice B m d])
  have hs2 : (w.alloc (.cells (varr k An ns.length cn A ps.length c) 34)).heap.size = w.heap.size + 1 := by simp
  rw [hs2] at R2
  obtain ⟨W, hW⟩ : ∃ W, W = (w.alloc (.cells (varr k An ns.length cn A ps.length c) 34)).alloc (.cells #[.int .i64 kt, .slice Bn tn.length dn, .slice B m d] 28) := ⟨_, rfl⟩
  rw [← hW] at b2 R1 R2
  have HB2 := Lib.hid b2
  have C := Lib.hid (hasn_any W k ns ps P P' An cn A c (hN.below b2) (h.below b2) hl hr tn Bn dn (hM.below b2) hm)
  have r1 := R1.out.cell
  have r2 := R2.out.cell
  obtain ⟨r, hrr⟩ : ∃ r, r = fitB (.mk k ns ps) kt tn m := ⟨_, rfl⟩
  rw [← hrr]
  unfold fitB at hrr
  rw [hd_mk] at hrr
  have HR := Lib.hid hrr
  generalize (tn.all fun x => ((Vl.mk k ns ps).field x).isSome) = z at *
  generalize tn.length = n1 at *
  generalize ns.length = n2 at *
  generalize ps.length = n3 at *
  have q1 : IntKind.i64.wrap ((m : Int) - 1) = (m : Int) - 1 := by rw [IntKind.wrap_i64]; omega
  clear b1 b2 hs2 hN h hl hr hM hm hm2 hrr R1 R2
  by_cases h0 : kt = 0
  · have HF : Hid (r = true) := by unfold Hid; rw [HR.out, if_pos h0]
    have e0 : (kt == 0) = true := by rw [beq_iff_eq]; exact h0
    clear HR C h0
    go_enter Tryd.func20, Tryd.ntmps20
    go_wp2_with fail
    rw [← hW]
    (first | go_ret | go_ret2)
    exact ⟨by rw [HF.out]; rfl, HB2.out⟩
  have e0 : (kt == 0) = false := by rw [beq_eq_false_iff_ne]; exact h0
  by_cases h1 : kt ≠ k.kind
  · have HF : Hid (r = false) := by unfold Hid; rw [HR.out, if_neg h0, if_pos h1]
    have e1 : (kt != k.kind) = true := by rw [bne_iff_ne]; exact h1
    clear HR C h0 h1
    go_enter Tryd.func20, Tryd.ntmps20
    go_wp2_with fail
    rw [← hW]
    (first | go_ret | go_ret2)
    exact ⟨by rw [HF.out]; rfl, HB2.out⟩
  have e1 : (kt != k.kind) = false := by simpa using h1
  by_cases h3 : kt = 3
  · have HF : Hid (r = z) := by unfold Hid; rw [HR.out, if_neg h0, if_neg h1, if_pos h3]
    have e3 : (kt == 3) = true := by rw [beq_iff_eq]; exact h3
    clear HR h0 h1 h3
    go_enter Tryd.func20, Tryd.ntmps20
    go_wp2_with fail
    rw [← hW]
    refine C.out.mono ?_
    rintro e w1 ⟨rfl, h1⟩
    have HB3 := Lib.hid (HB2.out.trans (h1.mono HB2.out.size))
    clear h1 C r1 r2
    go_wp2_with fail
    (first | go_ret | go_ret2)
    exact ⟨by rw [HF.out]; rfl, HB3.out⟩
  have e3 : (kt == 3) = false := by rw [beq_eq_false_iff_ne]; exact h3
  by_cases h4 : kt = 4
  · have HF : Hid (r = (k.n == (m : Int) - 1)) := by unfold Hid; rw [HR.out, if_neg h0, if_neg h1, if_neg h3, if_pos h4]
    have e4 : (kt == 4) = true := by rw [beq_iff_eq]; exact h4
    clear HR C h0 h1 h3 h4
    go_enter Tryd.func20, Tryd.ntmps20
    go_wp2_with fail
    rw [← hW]
    (first | go_ret | go_ret2)
    exact ⟨by rw [HF.out]; rfl, HB2.out⟩
  have e4 : (kt == 4) = false := by rw [beq_eq_false_iff_ne]; exact h4
  have HF : Hid (r = true) := by unfold Hid; rw [HR.out, if_neg h0, if_neg h1, if_neg h3, if_neg h4]
  clear HR C h0 h1 h3 h4
  go_enter Tryd.func20, Tryd.ntmps20
  go_wp2_with fail
  rw [← hW]
  (first | go_ret | go_ret2)
  exact ⟨by rw [HF.out]; rfl, HB2.out⟩
end Vm
end Go.Proofs.YtbjlhdjcdinmhaaDoor
