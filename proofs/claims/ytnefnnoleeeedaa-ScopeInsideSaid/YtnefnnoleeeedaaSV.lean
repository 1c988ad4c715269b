/- The walk of the law on trees: two maps of one tree. -/
import Derived.Deep.CutRange
import Derived.Laws.StructEq
import Derived.Test.YtnefnnoleeeedaaMAW
namespace Go.Proofs.Ytnefnnoleeeedaa
open Go.RowKit Go.Op
namespace Sc
open Vm

open Sb
theorem ne45 (a k i : Int) (s : ByteArray) (w : World) : (binOp .neq 45 (.agg #[.int .i64 a, .int .i64 k, .string s, .int .i64 i]) (.agg #[.int .i64 a, .int .i64 k, .string s, .int .i64 i])).run Try.prog w = .ok (.bool false) w := by
  have u3 := Try.underlying3
  have a3 := Try.isAgg3
  have z3 := Try.sizeOf3
  have u9 := Try.underlying9
  have a9 := Try.isAgg9
  have z9 := Try.sizeOf9
  have hS : Try.prog.underlying 45 = some (.struct (Try.prog.fieldsOf 45)) := by kernel_rfl
  have hp : Try.prog.stoodInHeld 45 = false := by kernel_rfl
  rw [run_neq_struct, show (10000 : Nat) = 9999 + 1 from rfl, run_equalIn_agg w 9999 45 _ _ hS hp]
  simp only [Program.fieldsOf, Try.underlying45]
  go_simp
theorem ne47 (a t f : Int) (b : Bool) (w : World) : (binOp .neq 47 (.agg #[.int .i64 a, .int .i64 t, .bool b, .int .i64 f]) (.agg #[.int .i64 a, .int .i64 t, .bool b, .int .i64 f])).run Try.prog w = .ok (.bool false) w := by
  have u3 := Try.underlying3
  have a3 := Try.isAgg3
  have z3 := Try.sizeOf3
  have u9 := Try.underlying4
  have a9 := Try.isAgg4
  have z9 := Try.sizeOf4
  have hS : Try.prog.underlying 47 = some (.struct (Try.prog.fieldsOf 47)) := by kernel_rfl
  have hp : Try.prog.stoodInHeld 47 = false := by kernel_rfl
  rw [run_neq_struct, show (10000 : Nat) = 9999 + 1 from rfl, run_equalIn_agg w 9999 47 _ _ hS hp]
  simp only [Program.fieldsOf, Try.underlying47]
  go_simp
theorem ne50 (a t : Int) (w : World) : (binOp .neq 50 (.agg #[.int .i64 a, .int .i64 t]) (.agg #[.int .i64 a, .int .i64 t])).run Try.prog w = .ok (.bool false) w := by
  have u3 := Try.underlying3
  have a3 := Try.isAgg3
  have z3 := Try.sizeOf3
  have hS : Try.prog.underlying 50 = some (.struct (Try.prog.fieldsOf 50)) := by kernel_rfl
  have hp : Try.prog.stoodInHeld 50 = false := by kernel_rfl
  rw [run_neq_struct, show (10000 : Nat) = 9999 + 1 from rfl, run_equalIn_agg w 9999 50 _ _ hS hp]
  simp only [Program.fieldsOf, Try.underlying50]
  go_simp
/-- A map's rows, from lo on, ahead of hi. -/
def RowsIn (w : World) (lo hi : Nat) (st : St) (A1 A2 A3 : Option Addr) (l3 : List (Int × Int)) : Prop :=
  RowAt w lo hi bdC 4 A1 st.bs ∧ RowAt w lo hi mnC 4 A2 st.ms ∧ RowAt w lo hi baC 2 A3 l3 ∧ StSort st.bad l3 ∧ hi ≤ w.heap.size ∧ st.bs.length + st.ms.length + st.bad.length ≤ 100000000
theorem RowsIn.keep {w w' : World} {lo hi : Nat} {st : St} {A1 A2 A3 : Option Addr} {l3 : List (Int × Int)} (h : RowsIn w lo hi st A1 A2 A3 l3) (hs : w.heap.size ≤ w'.heap.size) (hb : ∀ g, lo ≤ g → g < hi → w'.heap[g]? = w.heap[g]?) : RowsIn w' lo hi st A1 A2 A3 l3 :=
  ⟨h.1.keep hb, h.2.1.keep hb, h.2.2.1.keep hb, h.2.2.2.1, Nat.le_trans h.2.2.2.2.1 hs, h.2.2.2.2.2⟩
theorem RowsIn.below {w w' : World} {lo hi : Nat} {st : St} {A1 A2 A3 : Option Addr} {l3 : List (Int × Int)} (h : RowsIn w lo hi st A1 A2 A3 l3) (hb : Below w.heap.size w w') : RowsIn w' lo hi st A1 A2 A3 l3 :=
  h.keep hb.size fun g _ h2 => hb.block g (Nat.lt_of_lt_of_le h2 h.2.2.2.2.1)
/-- Two maps of one tree. -/
structure Two (w wx : World) (st : St) (h3 h4 lo hi lo' hi' : Nat) (A1 A2 A3 B1 B2 B3 : Option Addr) (c1 c2 c3 d1 d2 d3 : Nat) (l3 m3 : List (Int × Int)) : Prop where
  r3 : RowB wx h3 34 #[.slice A1 st.bs.length c1, .slice A2 st.ms.length c2, .slice A3 st.bad.length c3]
  r4 : RowB wx h4 34 #[.slice B1 st.bs.length d1, .slice B2 st.ms.length d2, .slice B3 st.bad.length d3]
  i3 : RowsIn wx lo hi st A1 A2 A3 l3
  i4 : RowsIn wx lo' hi' st B1 B2 B3 m3
  be : Below w.heap.size w wx
theorem Two.drew {w wx : World} {st : St} {h3 h4 lo hi lo' hi' : Nat} {A1 A2 A3 B1 B2 B3 : Option Addr} {c1 c2 c3 d1 d2 d3 : Nat} {l3 m3 : List (Int × Int)} (h : Two w wx st h3 h4 lo hi lo' hi' A1 A2 A3 B1 B2 B3 c1 c2 c3 d1 d2 d3 l3 m3) : Two w wx.drew st h3 h4 lo hi lo' hi' A1 A2 A3 B1 B2 B3 c1 c2 c3 d1 d2 d3 l3 m3 :=
  ⟨h.r3, h.r4, h.i3, h.i4, Below.drew h.be⟩
def set3 (w : World) (h : Nat) (a b c : Value) : World := ((w.setCell ⟨h, 0, none⟩ a).setCell ⟨h, 1, none⟩ b).setCell ⟨h, 2, none⟩ c
theorem set3_block (w : World) (h : Nat) (a b c : Value) {g : Nat} (hg : g ≠ h) : (set3 w h a b c).heap[g]? = w.heap[g]? :=
  (Below.heap_setCell _ ⟨h, 2, none⟩ _ g hg).trans ((Below.heap_setCell _ ⟨h, 1, none⟩ _ g hg).trans (Below.heap_setCell _ ⟨h, 0, none⟩ _ g hg))
theorem set3_size (w : World) (h : Nat) (a b c : Value) : (set3 w h a b c).heap.size = w.heap.size := by simp [set3, World.setCell]
theorem two_fin {w W : World} {st : St} {h3 h4 lo hi lo' hi' : Nat} {A1 A2 A3 B1 B2 B3 : Option Addr} {c1 c2 c3 d1 d2 d3 : Nat} {l3 m3 : List (Int × Int)} (z3 : RowB W h3 34 #[.slice none 0 0, .slice none 0 0, .slice none 0 0]) (z4 : RowB W h4 34 #[.slice none 0 0, .slice none 0 0, .slice none 0 0]) (i3 : RowsIn W lo hi st A1 A2 A3 l3) (i4 : RowsIn W lo' hi' st B1 B2 B3 m3) (be : Below w.heap.size w W)
    (s : h3 ≠ h4 ∧ (h3 < lo ∨ hi ≤ h3) ∧ (h3 < lo' ∨ hi' ≤ h3) ∧ (h4 < lo ∨ hi ≤ h4) ∧ (h4 < lo' ∨ hi' ≤ h4) ∧ w.heap.size ≤ h3 ∧ w.heap.size ≤ h4) :
    Two w (set3 (set3 W h3 (.slice A1 st.bs.length c1) (.slice A2 st.ms.length c2) (.slice A3 st.bad.length c3)) h4 (.slice B1 st.bs.length d1) (.slice B2 st.ms.length d2) (.slice B3 st.bad.length d3)) st h3 h4 lo hi lo' hi' A1 A2 A3 B1 B2 B3 c1 c2 c3 d1 d2 d3 l3 m3 := by
  have p3 := ((z3.put 0 (.slice A1 st.bs.length c1)).put 1 (.slice A2 st.ms.length c2)).put 2 (.slice A3 st.bad.length c3)
  have q4 : RowB (set3 W h3 (.slice A1 st.bs.length c1) (.slice A2 st.ms.length c2) (.slice A3 st.bad.length c3)) h4 34 _ := (set3_block W h3 _ _ _ (fun e => s.1 e.symm)).trans z4
  refine ⟨(set3_block _ h4 _ _ _ s.1).trans p3, ((q4.put 0 _).put 1 _).put 2 _, i3.keep (by rw [set3_size, set3_size]; exact Nat.le_refl _) fun g h1 h2 => (set3_block _ _ _ _ _ (by omega)).trans (set3_block _ _ _ _ _ (by omega)), i4.keep (by rw [set3_size, set3_size]; exact Nat.le_refl _) fun g h1 h2 => (set3_block _ _ _ _ _ (by omega)).trans (set3_block _ _ _ _ _ (by omega)), ?_⟩
  exact (((((be.setCell (p := ⟨h3, 0, none⟩) s.2.2.2.2.2.1 _).setCell (p := ⟨h3, 1, none⟩) s.2.2.2.2.2.1 _).setCell (p := ⟨h3, 2, none⟩) s.2.2.2.2.2.1 _).setCell (p := ⟨h4, 0, none⟩) s.2.2.2.2.2.2 _).setCell (p := ⟨h4, 1, none⟩) s.2.2.2.2.2.2 _).setCell (p := ⟨h4, 2, none⟩) s.2.2.2.2.2.2 _

set_option maxHeartbeats 40000000 in
set_option maxRecDepth 100000 in
theorem trees_walk {w : World} (h : Hi) (k : Tr) (A : Option Addr) (cap : Nat) (ht : TV w w.heap.size k A cap) : Calls Try.prog 4 #[hvv h A k.len cap] w fun e w' => e = .returned (.bool true) ∧ Below w.heap.size w w' := by
  obtain ⟨st, hst⟩ : ∃ st, st = ofS h k := ⟨_, rfl⟩
  have HOF : Hid (k.cnt ≤ 100000 → ∀ W, Below w.heap.size w W → Calls Try.prog 10 #[hvv h A k.len cap] W (OfA W st)) := fun hc W hb => by rw [hst]; exact of_any h k A cap ((ht.keep (Old.of hb)).up hb.size) hc
  have HSM : Hid (∀ W, Below w.heap.size w W → Calls Try.prog 12 #[hvv h A k.len cap, .int .i64 300, .int .i64 50] W fun e w' => ∃ b : Bool, e = .returned (.bool b) ∧ (b = true → k.cnt + 1 ≤ 300) ∧ Below W.heap.size W w') := fun W hb => small_any 300 50 h k A cap w.heap.size W (ht.keep (Old.of hb)) hb.size (by decide) (by decide)
  obtain ⟨kd, fro, til, word, at_⟩ := h
  obtain ⟨n, hn⟩ : ∃ n, n = k.len := ⟨_, rfl⟩
  rw [← hn] at HOF HSM ⊢
  simp only [hvv] at HOF HSM ⊢
  obtain ⟨W1, hW1⟩ : ∃ W1, W1 = w.alloc (.cells #[.int .i64 kd, .int .i64 fro, .int .i64 til, .string word, .int .i64 at_, .slice A n cap] 25) := ⟨_, rfl⟩
  have HB1 := Lib.hid (show Below w.heap.size w W1 by rw [hW1]; exact belA w _)
  have R1 := Lib.hid (show RowB W1 w.heap.size 25 #[.int .i64 kd, .int .i64 fro, .int .i64 til, .string word, .int .i64 at_, .slice A n cap] by rw [hW1]; exact RowB.new w 25 _)
  have HS := Lib.hid (HSM.out W1 HB1.out)
  have HWA := Lib.hid hW1
  clear ht hst hn hW1 HSM
  go_enter Try.func4, Try.ntmps4
  go_wp2_with fail
  rw [← HWA.out]
  refine HS.out.mono ?_
  rintro e w2 ⟨b, rfl, hb0, hb2⟩
  have HB2 := Lib.hid (HB1.out.trans (hb2.mono HB1.out.size))
  have R2 := Lib.hid (R1.out.below hb2 R1.out.lt)
  have HC0 := Lib.hid hb0
  clear hb0 hb2 HS HB1 R1 HWA
  obtain ⟨bx, hbx⟩ : ∃ bx, bx = w.heap.size := ⟨_, rfl⟩
  have HBX := Lib.hid hbx
  rw [← hbx] at R2 ⊢
  clear hbx
  cases b with
  | false =>
    have CA := Lib.hid (awake_any w2)
    go_wp2_with fail
    refine CA.out.mono ?_
    rintro e w3 ⟨rfl, hb3⟩
    have HB3 := Lib.hid (HB2.out.trans (hb3.mono HB2.out.size))
    clear hb3 CA
    go_wp2_with fail
    (first | go_ret | go_ret2)
    exact ⟨by first | rfl | simp, HB3.out⟩
  | true =>
    have HCN : Hid (k.cnt ≤ 100000) := by have := HC0.out rfl; unfold Hid; omega
    have CO : Hid (∀ W, Below w.heap.size w W → Calls Try.prog 10 #[.agg #[.int .i64 kd, .int .i64 fro, .int .i64 til, .string word, .int .i64 at_, .slice A n cap]] W (OfA W st)) := HOF.out HCN.out
    clear HC0 HOF HCN
    go_wp2_with fail
    go_cut [3, 4] from 12 to 15 (fun s3 s4 wx => ∃ (h3 h4 lo hi lo' hi' : Nat) (A1 A2 A3 B1 B2 B3 : Option Addr) (c1 c2 c3 d1 d2 d3 : Nat) (l3 m3 : List (Int × Int)), s3 = .pointer (some ⟨h3, 0, none⟩) ∧ s4 = .pointer (some ⟨h4, 0, none⟩) ∧ Hid (Two w wx st h3 h4 lo hi lo' hi' A1 A2 A3 B1 B2 B3 c1 c2 c3 d1 d2 d3 l3 m3))
    case first =>
      refine wp_region_G (S := SG (fun w' => Below w2.drew.heap.size w2.drew w') 98 (fun _ => True) 99 (fun _ => True)) (by kernel_rfl) ⟨Below.refl _ _, fun _ => trivial, fun _ => trivial⟩ (fun hS => ?_)
      obtain ⟨WD, hWD⟩ : ∃ WD, WD = w2.drew := ⟨_, rfl⟩
      have HB := Lib.hid (Below.drew HB2.out)
      have HR := Lib.hid (show RowB w2.drew bx 25 _ from R2.out)
      rw [← hWD] at hS HB HR ⊢
      clear hWD HB2 R2
      have HD := Lib.hid (Below.refl WD.heap.size WD)
      have HL := Lib.hid HR.out.lt
      refine wpG_take0 (i := 0) (v := ?v1) rfl (by kernel_rfl) (by kernel_rfl) (by kernel_rfl) (by decide) (by decide) (fun _ _ _ h => h) hS (Or.inl ⟨by rfl, ?hy1⟩) ?rest1
      case hy1 => (intro w' hw; have q := HR.out.below hw HL.out; have u0 := q.cell; go_simp; try with_reducible rfl)
      replace hS := SG.set (i := 0) (by decide) (by decide) hS
      try simp only [Act.put, List.setIfInBounds_toArray, List.set_cons_zero, List.set_cons_succ]
      refine wpG_take0 (i := 2) (v := ?v2) rfl (by kernel_rfl) (by kernel_rfl) (by kernel_rfl) (by decide) (by decide) (fun _ _ _ h => h) hS (Or.inl ⟨by rfl, ?hy2⟩) ?rest2
      case hy2 => (intro w' hw; have q := HR.out.below hw HL.out; have u0 := q.cell; go_simp; try with_reducible rfl)
      replace hS := SG.set (i := 2) (by decide) (by decide) hS
      try simp only [Act.put, List.setIfInBounds_toArray, List.set_cons_zero, List.set_cons_succ]
      have hwd : w.heap.size ≤ WD.heap.size := HB.out.size
      refine wpG_ready (rs := [1, 4, 5]) (by kernel_rfl) (by simp) ?_
      refine RG.cons rfl rfl (fun K' hK => ?_) (RG.cons rfl rfl (fun K' hK => ?_) (RG.cons rfl rfl (fun K' hK => ?_) RG.nil))
      · go_simp
        refine (CO.out WD HB.out).mono ?_
        rintro e X1 ⟨A1, c1, A2, c2, A3, c3, l3, rfl, hss, k1, k2, k3, _, _, _, hbd, hb⟩
        go_wp2_with fail
        obtain ⟨lo, hlo⟩ : ∃ x, x = WD.heap.size := ⟨_, rfl⟩
        obtain ⟨hi, hhi⟩ : ∃ x, x = X1.heap.size := ⟨_, rfl⟩
        have M1 := Lib.hid (show RowsIn X1 lo hi st A1 A2 A3 l3 by rw [hlo, hhi]; exact ⟨k1, k2, k3, hss, Nat.le_refl _, hbd⟩)
        have i1 : WD.heap.size ≤ lo ∧ lo ≤ WD.heap.size ∧ X1.heap.size ≤ hi ∧ hi ≤ X1.heap.size ∧ WD.heap.size ≤ X1.heap.size := ⟨by omega, by omega, by omega, by omega, hb.size⟩
        have HB := Lib.hid (HB.out.trans (hb.mono HB.out.size))
        have HD := Lib.hid (HD.out.trans (hb.mono HD.out.size))
        clear hss k1 k2 k3 hbd hb hlo hhi
        refine hK.out _ _ ⟨HD.out, fun _ => trivial, fun _ => trivial⟩ (fun hS => ?_)
        clear hK K'
        try simp only [Act.put, List.setIfInBounds_toArray, List.set_cons_zero, List.set_cons_succ]
        refine wpG_ready (rs := [3, 4, 5]) (by kernel_rfl) (by simp) ?_
        refine RG.cons rfl rfl (fun K' hK => ?_) (RG.cons rfl rfl (fun K' hK => ?_) (RG.cons rfl rfl (fun K' hK => ?_) RG.nil))
        · go_simp
          refine (CO.out X1 HB.out).mono ?_
          rintro e X2 ⟨B1, d1, B2, d2, B3, d3, m3, rfl, hss, k1, k2, k3, _, _, _, hbd, hb⟩
          go_wp2_with fail
          obtain ⟨lo', hloz⟩ : ∃ x, x = X1.heap.size := ⟨_, rfl⟩
          obtain ⟨hi', hhiz⟩ : ∃ x, x = X2.heap.size := ⟨_, rfl⟩
          have M2 := Lib.hid (show RowsIn X2 lo' hi' st B1 B2 B3 m3 by rw [hloz, hhiz]; exact ⟨k1, k2, k3, hss, Nat.le_refl _, hbd⟩)
          have i2 : X1.heap.size ≤ lo' ∧ lo' ≤ X1.heap.size ∧ X2.heap.size ≤ hi' ∧ hi' ≤ X2.heap.size ∧ X1.heap.size ≤ X2.heap.size := ⟨by omega, by omega, by omega, by omega, hb.size⟩
          have M1 := Lib.hid (M1.out.below hb)
          have HB := Lib.hid (HB.out.trans (hb.mono HB.out.size))
          have HD := Lib.hid (HD.out.trans (hb.mono HD.out.size))
          clear hss k1 k2 k3 hbd hb hloz hhiz
          refine hK.out _ _ ⟨HD.out, fun _ => trivial, fun _ => trivial⟩ (fun hS => ?_)
          clear hK K'
          try simp only [Act.put, List.setIfInBounds_toArray, List.set_cons_zero, List.set_cons_succ]
          refine wpG_ready (rs := [4, 5]) (by kernel_rfl) (by simp) ?_
          refine RG.cons rfl rfl (fun K' hK => ?_) (RG.cons rfl rfl (fun K' hK => ?_) RG.nil)
          · obtain ⟨h3, eh3⟩ : ∃ x, x = X2.heap.size := ⟨_, rfl⟩
            obtain ⟨X3, eX3⟩ : ∃ x, x = X2.alloc (.cells #[.slice none 0 0, .slice none 0 0, .slice none 0 0] 34) := ⟨_, rfl⟩
            have R3 := Lib.hid (show RowB X3 h3 34 #[.slice none 0 0, .slice none 0 0, .slice none 0 0] by rw [eX3, eh3]; exact RowB.new X2 34 _)
            have i3 : h3 ≤ X2.heap.size ∧ X2.heap.size ≤ h3 ∧ X2.heap.size < X3.heap.size := ⟨by omega, by omega, by rw [eX3]; simp⟩
            have hb : Below X2.heap.size X2 X3 := by rw [eX3]; exact belA X2 _
            have M1 := Lib.hid (M1.out.below hb)
            have M2 := Lib.hid (M2.out.below hb)
            have HB := Lib.hid (HB.out.trans (hb.mono HB.out.size))
            have HD := Lib.hid (HD.out.trans (hb.mono HD.out.size))
            clear hb
            go_simp
            rw [← eh3, ← eX3]
            clear eh3 eX3
            refine hK.out _ _ ⟨HD.out, fun _ => trivial, fun _ => trivial⟩ (fun hS => ?_)
            clear hK K'
            try simp only [Act.put, List.setIfInBounds_toArray, List.set_cons_zero, List.set_cons_succ]
            refine wpG_ready (rs := [5]) (by kernel_rfl) (by simp) ?_
            refine RG.cons rfl rfl (fun K' hK => ?_) RG.nil
            · obtain ⟨h4, eh4⟩ : ∃ x, x = X3.heap.size := ⟨_, rfl⟩
              obtain ⟨X4, eX4⟩ : ∃ x, x = X3.alloc (.cells #[.slice none 0 0, .slice none 0 0, .slice none 0 0] 34) := ⟨_, rfl⟩
              have R4 := Lib.hid (show RowB X4 h4 34 #[.slice none 0 0, .slice none 0 0, .slice none 0 0] by rw [eX4, eh4]; exact RowB.new X3 34 _)
              have i4 : h4 ≤ X3.heap.size ∧ X3.heap.size ≤ h4 ∧ X3.heap.size < X4.heap.size := ⟨by omega, by omega, by rw [eX4]; simp⟩
              have hb : Below X3.heap.size X3 X4 := by rw [eX4]; exact belA X3 _
              have M1 := Lib.hid (M1.out.below hb)
              have M2 := Lib.hid (M2.out.below hb)
              have R3 := Lib.hid (R3.out.below hb R3.out.lt)
              have HB := Lib.hid (HB.out.trans (hb.mono HB.out.size))
              have HD := Lib.hid (HD.out.trans (hb.mono HD.out.size))
              clear hb
              go_simp
              rw [← eh4, ← eX4]
              clear eh4 eX4
              refine hK.out _ _ ⟨HD.out, fun _ => trivial, fun _ => trivial⟩ (fun hS => ?_)
              clear hK K'
              try simp only [Act.put, List.setIfInBounds_toArray, List.set_cons_zero, List.set_cons_succ]
              have HF := Lib.hid (two_fin (c1 := c1) (c2 := c2) (c3 := c3) (d1 := d1) (d2 := d2) (d3 := d3) R3.out R4.out M1.out M2.out HB.out (by omega))
              have HD6 := Lib.hid (((HD.out.setCell (p := ⟨h3, 0, none⟩) (by show WD.heap.size ≤ h3; omega) (.slice A1 st.bs.length c1)).setCell (p := ⟨h3, 1, none⟩) (by show WD.heap.size ≤ h3; omega) (.slice A2 st.ms.length c2)).setCell (p := ⟨h3, 2, none⟩) (by show WD.heap.size ≤ h3; omega) (.slice A3 st.bad.length c3))
              have hq4 : h4 ≠ h3 := by omega
              have Q4 := Lib.hid (show RowB (set3 X4 h3 (.slice A1 st.bs.length c1) (.slice A2 st.ms.length c2) (.slice A3 st.bad.length c3)) h4 34 _ from (set3_block X4 h3 _ _ _ hq4).trans R4.out)
              have yc := R3.out.cell
              have yt := R3.out.thaw
              refine wpG_ready (rs := [6]) (by kernel_rfl) (by simp) ?_
              refine RG.cons rfl rfl (fun K' hK => ?_) RG.nil
              go_simp
              clear yc yt
              refine hK.out _ _ ⟨HD6.out, fun _ => trivial, fun _ => trivial⟩ (fun hS => ?_)
              clear hK K'
              try simp only [Act.put, List.setIfInBounds_toArray, List.set_cons_zero, List.set_cons_succ]
              clear hS
              have yc := Q4.out.cell
              have yt := Q4.out.thaw
              unfold set3 at yc yt
              have HD7 := Lib.hid (((HD6.out.setCell (p := ⟨h4, 0, none⟩) (by show WD.heap.size ≤ h4; omega) (.slice B1 st.bs.length d1)).setCell (p := ⟨h4, 1, none⟩) (by show WD.heap.size ≤ h4; omega) (.slice B2 st.ms.length d2)).setCell (p := ⟨h4, 2, none⟩) (by show WD.heap.size ≤ h4; omega) (.slice B3 st.bad.length d3))
              refine wpG_ready (rs := [7]) (by kernel_rfl) (by simp) ?_
              refine RG.cons rfl rfl (fun K' hK => ?_) RG.nil
              go_simp
              clear yc yt
              refine hK.out _ _ ⟨HD7.out, fun _ => trivial, fun _ => trivial⟩ (fun hS => ?_)
              clear hK K'
              try simp only [Act.put, List.setIfInBounds_toArray, List.set_cons_zero, List.set_cons_succ]
              clear hS
              refine wpG_done (by kernel_rfl) ?_ _
              go_wp2_with fail
              go_meet
              exact ⟨h3, h4, lo, hi, lo', hi', A1, A2, A3, B1, B2, B3, c1, c2, c3, d1, d2, d3, l3, m3, rfl, rfl, HF.out⟩
          · obtain ⟨h4, eh4⟩ : ∃ x, x = X2.heap.size := ⟨_, rfl⟩
            obtain ⟨X5, eX5⟩ : ∃ x, x = X2.alloc (.cells #[.slice none 0 0, .slice none 0 0, .slice none 0 0] 34) := ⟨_, rfl⟩
            have R4 := Lib.hid (show RowB X5 h4 34 #[.slice none 0 0, .slice none 0 0, .slice none 0 0] by rw [eX5, eh4]; exact RowB.new X2 34 _)
            have i5 : h4 ≤ X2.heap.size ∧ X2.heap.size ≤ h4 ∧ X2.heap.size < X5.heap.size := ⟨by omega, by omega, by rw [eX5]; simp⟩
            have hb : Below X2.heap.size X2 X5 := by rw [eX5]; exact belA X2 _
            have M1 := Lib.hid (M1.out.below hb)
            have M2 := Lib.hid (M2.out.below hb)
            have HB := Lib.hid (HB.out.trans (hb.mono HB.out.size))
            have HD := Lib.hid (HD.out.trans (hb.mono HD.out.size))
            clear hb
            go_simp
            rw [← eh4, ← eX5]
            clear eh4 eX5
            refine hK.out _ _ ⟨HD.out, fun _ => trivial, fun _ => trivial⟩ (fun hS => ?_)
            clear hK K'
            try simp only [Act.put, List.setIfInBounds_toArray, List.set_cons_zero, List.set_cons_succ]
            refine wpG_ready (rs := [4]) (by kernel_rfl) (by simp) ?_
            refine RG.cons rfl rfl (fun K' hK => ?_) RG.nil
            · obtain ⟨h3, eh3⟩ : ∃ x, x = X5.heap.size := ⟨_, rfl⟩
              obtain ⟨X6, eX6⟩ : ∃ x, x = X5.alloc (.cells #[.slice none 0 0, .slice none 0 0, .slice none 0 0] 34) := ⟨_, rfl⟩
              have R3 := Lib.hid (show RowB X6 h3 34 #[.slice none 0 0, .slice none 0 0, .slice none 0 0] by rw [eX6, eh3]; exact RowB.new X5 34 _)
              have i6 : h3 ≤ X5.heap.size ∧ X5.heap.size ≤ h3 ∧ X5.heap.size < X6.heap.size := ⟨by omega, by omega, by rw [eX6]; simp⟩
              have hb : Below X5.heap.size X5 X6 := by rw [eX6]; exact belA X5 _
              have M1 := Lib.hid (M1.out.below hb)
              have M2 := Lib.hid (M2.out.below hb)
              have R4 := Lib.hid (R4.out.below hb R4.out.lt)
              have HB := Lib.hid (HB.out.trans (hb.mono HB.out.size))
              have HD := Lib.hid (HD.out.trans (hb.mono HD.out.size))
              clear hb
              go_simp
              rw [← eh3, ← eX6]
              clear eh3 eX6
              refine hK.out _ _ ⟨HD.out, fun _ => trivial, fun _ => trivial⟩ (fun hS => ?_)
              clear hK K'
              try simp only [Act.put, List.setIfInBounds_toArray, List.set_cons_zero, List.set_cons_succ]
              have HF := Lib.hid (two_fin (c1 := c1) (c2 := c2) (c3 := c3) (d1 := d1) (d2 := d2) (d3 := d3) R3.out R4.out M1.out M2.out HB.out (by omega))
              have HD6 := Lib.hid (((HD.out.setCell (p := ⟨h3, 0, none⟩) (by show WD.heap.size ≤ h3; omega) (.slice A1 st.bs.length c1)).setCell (p := ⟨h3, 1, none⟩) (by show WD.heap.size ≤ h3; omega) (.slice A2 st.ms.length c2)).setCell (p := ⟨h3, 2, none⟩) (by show WD.heap.size ≤ h3; omega) (.slice A3 st.bad.length c3))
              have hq4 : h4 ≠ h3 := by omega
              have Q4 := Lib.hid (show RowB (set3 X6 h3 (.slice A1 st.bs.length c1) (.slice A2 st.ms.length c2) (.slice A3 st.bad.length c3)) h4 34 _ from (set3_block X6 h3 _ _ _ hq4).trans R4.out)
              have yc := R3.out.cell
              have yt := R3.out.thaw
              refine wpG_ready (rs := [6]) (by kernel_rfl) (by simp) ?_
              refine RG.cons rfl rfl (fun K' hK => ?_) RG.nil
              go_simp
              clear yc yt
              refine hK.out _ _ ⟨HD6.out, fun _ => trivial, fun _ => trivial⟩ (fun hS => ?_)
              clear hK K'
              try simp only [Act.put, List.setIfInBounds_toArray, List.set_cons_zero, List.set_cons_succ]
              clear hS
              have yc := Q4.out.cell
              have yt := Q4.out.thaw
              unfold set3 at yc yt
              have HD7 := Lib.hid (((HD6.out.setCell (p := ⟨h4, 0, none⟩) (by show WD.heap.size ≤ h4; omega) (.slice B1 st.bs.length d1)).setCell (p := ⟨h4, 1, none⟩) (by show WD.heap.size ≤ h4; omega) (.slice B2 st.ms.length d2)).setCell (p := ⟨h4, 2, none⟩) (by show WD.heap.size ≤ h4; omega) (.slice B3 st.bad.length d3))
              refine wpG_ready (rs := [7]) (by kernel_rfl) (by simp) ?_
              refine RG.cons rfl rfl (fun K' hK => ?_) RG.nil
              go_simp
              clear yc yt
              refine hK.out _ _ ⟨HD7.out, fun _ => trivial, fun _ => trivial⟩ (fun hS => ?_)
              clear hK K'
              try simp only [Act.put, List.setIfInBounds_toArray, List.set_cons_zero, List.set_cons_succ]
              clear hS
              refine wpG_done (by kernel_rfl) ?_ _
              go_wp2_with fail
              go_meet
              exact ⟨h3, h4, lo, hi, lo', hi', A1, A2, A3, B1, B2, B3, c1, c2, c3, d1, d2, d3, l3, m3, rfl, rfl, HF.out⟩
        · obtain ⟨h3, eh3⟩ : ∃ x, x = X1.heap.size := ⟨_, rfl⟩
          obtain ⟨X7, eX7⟩ : ∃ x, x = X1.alloc (.cells #[.slice none 0 0, .slice none 0 0, .slice none 0 0] 34) := ⟨_, rfl⟩
          have R3 := Lib.hid (show RowB X7 h3 34 #[.slice none 0 0, .slice none 0 0, .slice none 0 0] by rw [eX7, eh3]; exact RowB.new X1 34 _)
          have i7 : h3 ≤ X1.heap.size ∧ X1.heap.size ≤ h3 ∧ X1.heap.size < X7.heap.size := ⟨by omega, by omega, by rw [eX7]; simp⟩
          have hb : Below X1.heap.size X1 X7 := by rw [eX7]; exact belA X1 _
          have M1 := Lib.hid (M1.out.below hb)
          have HB := Lib.hid (HB.out.trans (hb.mono HB.out.size))
          have HD := Lib.hid (HD.out.trans (hb.mono HD.out.size))
          clear hb
          go_simp
          rw [← eh3, ← eX7]
          clear eh3 eX7
          refine hK.out _ _ ⟨HD.out, fun _ => trivial, fun _ => trivial⟩ (fun hS => ?_)
          clear hK K'
          try simp only [Act.put, List.setIfInBounds_toArray, List.set_cons_zero, List.set_cons_succ]
          refine wpG_ready (rs := [3, 5]) (by kernel_rfl) (by simp) ?_
          refine RG.cons rfl rfl (fun K' hK => ?_) (RG.cons rfl rfl (fun K' hK => ?_) RG.nil)
          · go_simp
            refine (CO.out X7 HB.out).mono ?_
            rintro e X8 ⟨B1, d1, B2, d2, B3, d3, m3, rfl, hss, k1, k2, k3, _, _, _, hbd, hb⟩
            go_wp2_with fail
            obtain ⟨lo', hloz⟩ : ∃ x, x = X7.heap.size := ⟨_, rfl⟩
            obtain ⟨hi', hhiz⟩ : ∃ x, x = X8.heap.size := ⟨_, rfl⟩
            have M2 := Lib.hid (show RowsIn X8 lo' hi' st B1 B2 B3 m3 by rw [hloz, hhiz]; exact ⟨k1, k2, k3, hss, Nat.le_refl _, hbd⟩)
            have i8 : X7.heap.size ≤ lo' ∧ lo' ≤ X7.heap.size ∧ X8.heap.size ≤ hi' ∧ hi' ≤ X8.heap.size ∧ X7.heap.size ≤ X8.heap.size := ⟨by omega, by omega, by omega, by omega, hb.size⟩
            have M1 := Lib.hid (M1.out.below hb)
            have R3 := Lib.hid (R3.out.below hb R3.out.lt)
            have HB := Lib.hid (HB.out.trans (hb.mono HB.out.size))
            have HD := Lib.hid (HD.out.trans (hb.mono HD.out.size))
            clear hss k1 k2 k3 hbd hb hloz hhiz
            refine hK.out _ _ ⟨HD.out, fun _ => trivial, fun _ => trivial⟩ (fun hS => ?_)
            clear hK K'
            try simp only [Act.put, List.setIfInBounds_toArray, List.set_cons_zero, List.set_cons_succ]
            refine wpG_ready (rs := [5]) (by kernel_rfl) (by simp) ?_
            refine RG.cons rfl rfl (fun K' hK => ?_) RG.nil
            · obtain ⟨h4, eh4⟩ : ∃ x, x = X8.heap.size := ⟨_, rfl⟩
              obtain ⟨X9, eX9⟩ : ∃ x, x = X8.alloc (.cells #[.slice none 0 0, .slice none 0 0, .slice none 0 0] 34) := ⟨_, rfl⟩
              have R4 := Lib.hid (show RowB X9 h4 34 #[.slice none 0 0, .slice none 0 0, .slice none 0 0] by rw [eX9, eh4]; exact RowB.new X8 34 _)
              have i9 : h4 ≤ X8.heap.size ∧ X8.heap.size ≤ h4 ∧ X8.heap.size < X9.heap.size := ⟨by omega, by omega, by rw [eX9]; simp⟩
              have hb : Below X8.heap.size X8 X9 := by rw [eX9]; exact belA X8 _
              have M1 := Lib.hid (M1.out.below hb)
              have R3 := Lib.hid (R3.out.below hb R3.out.lt)
              have M2 := Lib.hid (M2.out.below hb)
              have HB := Lib.hid (HB.out.trans (hb.mono HB.out.size))
              have HD := Lib.hid (HD.out.trans (hb.mono HD.out.size))
              clear hb
              go_simp
              rw [← eh4, ← eX9]
              clear eh4 eX9
              refine hK.out _ _ ⟨HD.out, fun _ => trivial, fun _ => trivial⟩ (fun hS => ?_)
              clear hK K'
              try simp only [Act.put, List.setIfInBounds_toArray, List.set_cons_zero, List.set_cons_succ]
              have HF := Lib.hid (two_fin (c1 := c1) (c2 := c2) (c3 := c3) (d1 := d1) (d2 := d2) (d3 := d3) R3.out R4.out M1.out M2.out HB.out (by omega))
              have HD6 := Lib.hid (((HD.out.setCell (p := ⟨h3, 0, none⟩) (by show WD.heap.size ≤ h3; omega) (.slice A1 st.bs.length c1)).setCell (p := ⟨h3, 1, none⟩) (by show WD.heap.size ≤ h3; omega) (.slice A2 st.ms.length c2)).setCell (p := ⟨h3, 2, none⟩) (by show WD.heap.size ≤ h3; omega) (.slice A3 st.bad.length c3))
              have hq4 : h4 ≠ h3 := by omega
              have Q4 := Lib.hid (show RowB (set3 X9 h3 (.slice A1 st.bs.length c1) (.slice A2 st.ms.length c2) (.slice A3 st.bad.length c3)) h4 34 _ from (set3_block X9 h3 _ _ _ hq4).trans R4.out)
              have yc := R3.out.cell
              have yt := R3.out.thaw
              refine wpG_ready (rs := [6]) (by kernel_rfl) (by simp) ?_
              refine RG.cons rfl rfl (fun K' hK => ?_) RG.nil
              go_simp
              clear yc yt
              refine hK.out _ _ ⟨HD6.out, fun _ => trivial, fun _ => trivial⟩ (fun hS => ?_)
              clear hK K'
              try simp only [Act.put, List.setIfInBounds_toArray, List.set_cons_zero, List.set_cons_succ]
              clear hS
              have yc := Q4.out.cell
              have yt := Q4.out.thaw
              unfold set3 at yc yt
              have HD7 := Lib.hid (((HD6.out.setCell (p := ⟨h4, 0, none⟩) (by show WD.heap.size ≤ h4; omega) (.slice B1 st.bs.length d1)).setCell (p := ⟨h4, 1, none⟩) (by show WD.heap.size ≤ h4; omega) (.slice B2 st.ms.length d2)).setCell (p := ⟨h4, 2, none⟩) (by show WD.heap.size ≤ h4; omega) (.slice B3 st.bad.length d3))
              refine wpG_ready (rs := [7]) (by kernel_rfl) (by simp) ?_
              refine RG.cons rfl rfl (fun K' hK => ?_) RG.nil
              go_simp
              clear yc yt
              refine hK.out _ _ ⟨HD7.out, fun _ => trivial, fun _ => trivial⟩ (fun hS => ?_)
              clear hK K'
              try simp only [Act.put, List.setIfInBounds_toArray, List.set_cons_zero, List.set_cons_succ]
              clear hS
              refine wpG_done (by kernel_rfl) ?_ _
              go_wp2_with fail
              go_meet
              exact ⟨h3, h4, lo, hi, lo', hi', A1, A2, A3, B1, B2, B3, c1, c2, c3, d1, d2, d3, l3, m3, rfl, rfl, HF.out⟩
          · obtain ⟨h4, eh4⟩ : ∃ x, x = X7.heap.size := ⟨_, rfl⟩
            obtain ⟨X10, eX10⟩ : ∃ x, x = X7.alloc (.cells #[.slice none 0 0, .slice none 0 0, .slice none 0 0] 34) := ⟨_, rfl⟩
            have R4 := Lib.hid (show RowB X10 h4 34 #[.slice none 0 0, .slice none 0 0, .slice none 0 0] by rw [eX10, eh4]; exact RowB.new X7 34 _)
            have i10 : h4 ≤ X7.heap.size ∧ X7.heap.size ≤ h4 ∧ X7.heap.size < X10.heap.size := ⟨by omega, by omega, by rw [eX10]; simp⟩
            have hb : Below X7.heap.size X7 X10 := by rw [eX10]; exact belA X7 _
            have M1 := Lib.hid (M1.out.below hb)
            have R3 := Lib.hid (R3.out.below hb R3.out.lt)
            have HB := Lib.hid (HB.out.trans (hb.mono HB.out.size))
            have HD := Lib.hid (HD.out.trans (hb.mono HD.out.size))
            clear hb
            go_simp
            rw [← eh4, ← eX10]
            clear eh4 eX10
            refine hK.out _ _ ⟨HD.out, fun _ => trivial, fun _ => trivial⟩ (fun hS => ?_)
            clear hK K'
            try simp only [Act.put, List.setIfInBounds_toArray, List.set_cons_zero, List.set_cons_succ]
            refine wpG_ready (rs := [3]) (by kernel_rfl) (by simp) ?_
            refine RG.cons rfl rfl (fun K' hK => ?_) RG.nil
            · go_simp
              refine (CO.out X10 HB.out).mono ?_
              rintro e X11 ⟨B1, d1, B2, d2, B3, d3, m3, rfl, hss, k1, k2, k3, _, _, _, hbd, hb⟩
              go_wp2_with fail
              obtain ⟨lo', hloz⟩ : ∃ x, x = X10.heap.size := ⟨_, rfl⟩
              obtain ⟨hi', hhiz⟩ : ∃ x, x = X11.heap.size := ⟨_, rfl⟩
              have M2 := Lib.hid (show RowsIn X11 lo' hi' st B1 B2 B3 m3 by rw [hloz, hhiz]; exact ⟨k1, k2, k3, hss, Nat.le_refl _, hbd⟩)
              have i11 : X10.heap.size ≤ lo' ∧ lo' ≤ X10.heap.size ∧ X11.heap.size ≤ hi' ∧ hi' ≤ X11.heap.size ∧ X10.heap.size ≤ X11.heap.size := ⟨by omega, by omega, by omega, by omega, hb.size⟩
              have M1 := Lib.hid (M1.out.below hb)
              have R3 := Lib.hid (R3.out.below hb R3.out.lt)
              have R4 := Lib.hid (R4.out.below hb R4.out.lt)
              have HB := Lib.hid (HB.out.trans (hb.mono HB.out.size))
              have HD := Lib.hid (HD.out.trans (hb.mono HD.out.size))
              clear hss k1 k2 k3 hbd hb hloz hhiz
              refine hK.out _ _ ⟨HD.out, fun _ => trivial, fun _ => trivial⟩ (fun hS => ?_)
              clear hK K'
              try simp only [Act.put, List.setIfInBounds_toArray, List.set_cons_zero, List.set_cons_succ]
              have HF := Lib.hid (two_fin (c1 := c1) (c2 := c2) (c3 := c3) (d1 := d1) (d2 := d2) (d3 := d3) R3.out R4.out M1.out M2.out HB.out (by omega))
              have HD6 := Lib.hid (((HD.out.setCell (p := ⟨h3, 0, none⟩) (by show WD.heap.size ≤ h3; omega) (.slice A1 st.bs.length c1)).setCell (p := ⟨h3, 1, none⟩) (by show WD.heap.size ≤ h3; omega) (.slice A2 st.ms.length c2)).setCell (p := ⟨h3, 2, none⟩) (by show WD.heap.size ≤ h3; omega) (.slice A3 st.bad.length c3))
              have hq4 : h4 ≠ h3 := by omega
              have Q4 := Lib.hid (show RowB (set3 X11 h3 (.slice A1 st.bs.length c1) (.slice A2 st.ms.length c2) (.slice A3 st.bad.length c3)) h4 34 _ from (set3_block X11 h3 _ _ _ hq4).trans R4.out)
              have yc := R3.out.cell
              have yt := R3.out.thaw
              refine wpG_ready (rs := [6]) (by kernel_rfl) (by simp) ?_
              refine RG.cons rfl rfl (fun K' hK => ?_) RG.nil
              go_simp
              clear yc yt
              refine hK.out _ _ ⟨HD6.out, fun _ => trivial, fun _ => trivial⟩ (fun hS => ?_)
              clear hK K'
              try simp only [Act.put, List.setIfInBounds_toArray, List.set_cons_zero, List.set_cons_succ]
              clear hS
              have yc := Q4.out.cell
              have yt := Q4.out.thaw
              unfold set3 at yc yt
              have HD7 := Lib.hid (((HD6.out.setCell (p := ⟨h4, 0, none⟩) (by show WD.heap.size ≤ h4; omega) (.slice B1 st.bs.length d1)).setCell (p := ⟨h4, 1, none⟩) (by show WD.heap.size ≤ h4; omega) (.slice B2 st.ms.length d2)).setCell (p := ⟨h4, 2, none⟩) (by show WD.heap.size ≤ h4; omega) (.slice B3 st.bad.length d3))
              refine wpG_ready (rs := [7]) (by kernel_rfl) (by simp) ?_
              refine RG.cons rfl rfl (fun K' hK => ?_) RG.nil
              go_simp
              clear yc yt
              refine hK.out _ _ ⟨HD7.out, fun _ => trivial, fun _ => trivial⟩ (fun hS => ?_)
              clear hK K'
              try simp only [Act.put, List.setIfInBounds_toArray, List.set_cons_zero, List.set_cons_succ]
              clear hS
              refine wpG_done (by kernel_rfl) ?_ _
              go_wp2_with fail
              go_meet
              exact ⟨h3, h4, lo, hi, lo', hi', A1, A2, A3, B1, B2, B3, c1, c2, c3, d1, d2, d3, l3, m3, rfl, rfl, HF.out⟩
        · obtain ⟨h4, eh4⟩ : ∃ x, x = X1.heap.size := ⟨_, rfl⟩
          obtain ⟨X12, eX12⟩ : ∃ x, x = X1.alloc (.cells #[.slice none 0 0, .slice none 0 0, .slice none 0 0] 34) := ⟨_, rfl⟩
          have R4 := Lib.hid (show RowB X12 h4 34 #[.slice none 0 0, .slice none 0 0, .slice none 0 0] by rw [eX12, eh4]; exact RowB.new X1 34 _)
          have i12 : h4 ≤ X1.heap.size ∧ X1.heap.size ≤ h4 ∧ X1.heap.size < X12.heap.size := ⟨by omega, by omega, by rw [eX12]; simp⟩
          have hb : Below X1.heap.size X1 X12 := by rw [eX12]; exact belA X1 _
          have M1 := Lib.hid (M1.out.below hb)
          have HB := Lib.hid (HB.out.trans (hb.mono HB.out.size))
          have HD := Lib.hid (HD.out.trans (hb.mono HD.out.size))
          clear hb
          go_simp
          rw [← eh4, ← eX12]
          clear eh4 eX12
          refine hK.out _ _ ⟨HD.out, fun _ => trivial, fun _ => trivial⟩ (fun hS => ?_)
          clear hK K'
          try simp only [Act.put, List.setIfInBounds_toArray, List.set_cons_zero, List.set_cons_succ]
          refine wpG_ready (rs := [3, 4]) (by kernel_rfl) (by simp) ?_
          refine RG.cons rfl rfl (fun K' hK => ?_) (RG.cons rfl rfl (fun K' hK => ?_) RG.nil)
          · go_simp
            refine (CO.out X12 HB.out).mono ?_
            rintro e X13 ⟨B1, d1, B2, d2, B3, d3, m3, rfl, hss, k1, k2, k3, _, _, _, hbd, hb⟩
            go_wp2_with fail
            obtain ⟨lo', hloz⟩ : ∃ x, x = X12.heap.size := ⟨_, rfl⟩
            obtain ⟨hi', hhiz⟩ : ∃ x, x = X13.heap.size := ⟨_, rfl⟩
            have M2 := Lib.hid (show RowsIn X13 lo' hi' st B1 B2 B3 m3 by rw [hloz, hhiz]; exact ⟨k1, k2, k3, hss, Nat.le_refl _, hbd⟩)
            have i13 : X12.heap.size ≤ lo' ∧ lo' ≤ X12.heap.size ∧ X13.heap.size ≤ hi' ∧ hi' ≤ X13.heap.size ∧ X12.heap.size ≤ X13.heap.size := ⟨by omega, by omega, by omega, by omega, hb.size⟩
            have M1 := Lib.hid (M1.out.below hb)
            have R4 := Lib.hid (R4.out.below hb R4.out.lt)
            have HB := Lib.hid (HB.out.trans (hb.mono HB.out.size))
            have HD := Lib.hid (HD.out.trans (hb.mono HD.out.size))
            clear hss k1 k2 k3 hbd hb hloz hhiz
            refine hK.out _ _ ⟨HD.out, fun _ => trivial, fun _ => trivial⟩ (fun hS => ?_)
            clear hK K'
            try simp only [Act.put, List.setIfInBounds_toArray, List.set_cons_zero, List.set_cons_succ]
            refine wpG_ready (rs := [4]) (by kernel_rfl) (by simp) ?_
            refine RG.cons rfl rfl (fun K' hK => ?_) RG.nil
            · obtain ⟨h3, eh3⟩ : ∃ x, x = X13.heap.size := ⟨_, rfl⟩
              obtain ⟨X14, eX14⟩ : ∃ x, x = X13.alloc (.cells #[.slice none 0 0, .slice none 0 0, .slice none 0 0] 34) := ⟨_, rfl⟩
              have R3 := Lib.hid (show RowB X14 h3 34 #[.slice none 0 0, .slice none 0 0, .slice none 0 0] by rw [eX14, eh3]; exact RowB.new X13 34 _)
              have i14 : h3 ≤ X13.heap.size ∧ X13.heap.size ≤ h3 ∧ X13.heap.size < X14.heap.size := ⟨by omega, by omega, by rw [eX14]; simp⟩
              have hb : Below X13.heap.size X13 X14 := by rw [eX14]; exact belA X13 _
              have M1 := Lib.hid (M1.out.below hb)
              have R4 := Lib.hid (R4.out.below hb R4.out.lt)
              have M2 := Lib.hid (M2.out.below hb)
              have HB := Lib.hid (HB.out.trans (hb.mono HB.out.size))
              have HD := Lib.hid (HD.out.trans (hb.mono HD.out.size))
              clear hb
              go_simp
              rw [← eh3, ← eX14]
              clear eh3 eX14
              refine hK.out _ _ ⟨HD.out, fun _ => trivial, fun _ => trivial⟩ (fun hS => ?_)
              clear hK K'
              try simp only [Act.put, List.setIfInBounds_toArray, List.set_cons_zero, List.set_cons_succ]
              have HF := Lib.hid (two_fin (c1 := c1) (c2 := c2) (c3 := c3) (d1 := d1) (d2 := d2) (d3 := d3) R3.out R4.out M1.out M2.out HB.out (by omega))
              have HD6 := Lib.hid (((HD.out.setCell (p := ⟨h3, 0, none⟩) (by show WD.heap.size ≤ h3; omega) (.slice A1 st.bs.length c1)).setCell (p := ⟨h3, 1, none⟩) (by show WD.heap.size ≤ h3; omega) (.slice A2 st.ms.length c2)).setCell (p := ⟨h3, 2, none⟩) (by show WD.heap.size ≤ h3; omega) (.slice A3 st.bad.length c3))
              have hq4 : h4 ≠ h3 := by omega
              have Q4 := Lib.hid (show RowB (set3 X14 h3 (.slice A1 st.bs.length c1) (.slice A2 st.ms.length c2) (.slice A3 st.bad.length c3)) h4 34 _ from (set3_block X14 h3 _ _ _ hq4).trans R4.out)
              have yc := R3.out.cell
              have yt := R3.out.thaw
              refine wpG_ready (rs := [6]) (by kernel_rfl) (by simp) ?_
              refine RG.cons rfl rfl (fun K' hK => ?_) RG.nil
              go_simp
              clear yc yt
              refine hK.out _ _ ⟨HD6.out, fun _ => trivial, fun _ => trivial⟩ (fun hS => ?_)
              clear hK K'
              try simp only [Act.put, List.setIfInBounds_toArray, List.set_cons_zero, List.set_cons_succ]
              clear hS
              have yc := Q4.out.cell
              have yt := Q4.out.thaw
              unfold set3 at yc yt
              have HD7 := Lib.hid (((HD6.out.setCell (p := ⟨h4, 0, none⟩) (by show WD.heap.size ≤ h4; omega) (.slice B1 st.bs.length d1)).setCell (p := ⟨h4, 1, none⟩) (by show WD.heap.size ≤ h4; omega) (.slice B2 st.ms.length d2)).setCell (p := ⟨h4, 2, none⟩) (by show WD.heap.size ≤ h4; omega) (.slice B3 st.bad.length d3))
              refine wpG_ready (rs := [7]) (by kernel_rfl) (by simp) ?_
              refine RG.cons rfl rfl (fun K' hK => ?_) RG.nil
              go_simp
              clear yc yt
              refine hK.out _ _ ⟨HD7.out, fun _ => trivial, fun _ => trivial⟩ (fun hS => ?_)
              clear hK K'
              try simp only [Act.put, List.setIfInBounds_toArray, List.set_cons_zero, List.set_cons_succ]
              clear hS
              refine wpG_done (by kernel_rfl) ?_ _
              go_wp2_with fail
              go_meet
              exact ⟨h3, h4, lo, hi, lo', hi', A1, A2, A3, B1, B2, B3, c1, c2, c3, d1, d2, d3, l3, m3, rfl, rfl, HF.out⟩
          · obtain ⟨h3, eh3⟩ : ∃ x, x = X12.heap.size := ⟨_, rfl⟩
            obtain ⟨X15, eX15⟩ : ∃ x, x = X12.alloc (.cells #[.slice none 0 0, .slice none 0 0, .slice none 0 0] 34) := ⟨_, rfl⟩
            have R3 := Lib.hid (show RowB X15 h3 34 #[.slice none 0 0, .slice none 0 0, .slice none 0 0] by rw [eX15, eh3]; exact RowB.new X12 34 _)
            have i15 : h3 ≤ X12.heap.size ∧ X12.heap.size ≤ h3 ∧ X12.heap.size < X15.heap.size := ⟨by omega, by omega, by rw [eX15]; simp⟩
            have hb : Below X12.heap.size X12 X15 := by rw [eX15]; exact belA X12 _
            have M1 := Lib.hid (M1.out.below hb)
            have R4 := Lib.hid (R4.out.below hb R4.out.lt)
            have HB := Lib.hid (HB.out.trans (hb.mono HB.out.size))
            have HD := Lib.hid (HD.out.trans (hb.mono HD.out.size))
            clear hb
            go_simp
            rw [← eh3, ← eX15]
            clear eh3 eX15
            refine hK.out _ _ ⟨HD.out, fun _ => trivial, fun _ => trivial⟩ (fun hS => ?_)
            clear hK K'
            try simp only [Act.put, List.setIfInBounds_toArray, List.set_cons_zero, List.set_cons_succ]
            refine wpG_ready (rs := [3]) (by kernel_rfl) (by simp) ?_
            refine RG.cons rfl rfl (fun K' hK => ?_) RG.nil
            · go_simp
              refine (CO.out X15 HB.out).mono ?_
              rintro e X16 ⟨B1, d1, B2, d2, B3, d3, m3, rfl, hss, k1, k2, k3, _, _, _, hbd, hb⟩
              go_wp2_with fail
              obtain ⟨lo', hloz⟩ : ∃ x, x = X15.heap.size := ⟨_, rfl⟩
              obtain ⟨hi', hhiz⟩ : ∃ x, x = X16.heap.size := ⟨_, rfl⟩
              have M2 := Lib.hid (show RowsIn X16 lo' hi' st B1 B2 B3 m3 by rw [hloz, hhiz]; exact ⟨k1, k2, k3, hss, Nat.le_refl _, hbd⟩)
              have i16 : X15.heap.size ≤ lo' ∧ lo' ≤ X15.heap.size ∧ X16.heap.size ≤ hi' ∧ hi' ≤ X16.heap.size ∧ X15.heap.size ≤ X16.heap.size := ⟨by omega, by omega, by omega, by omega, hb.size⟩
              have M1 := Lib.hid (M1.out.below hb)
              have R4 := Lib.hid (R4.out.below hb R4.out.lt)
              have R3 := Lib.hid (R3.out.below hb R3.out.lt)
              have HB := Lib.hid (HB.out.trans (hb.mono HB.out.size))
              have HD := Lib.hid (HD.out.trans (hb.mono HD.out.size))
              clear hss k1 k2 k3 hbd hb hloz hhiz
              refine hK.out _ _ ⟨HD.out, fun _ => trivial, fun _ => trivial⟩ (fun hS => ?_)
              clear hK K'
              try simp only [Act.put, List.setIfInBounds_toArray, List.set_cons_zero, List.set_cons_succ]
              have HF := Lib.hid (two_fin (c1 := c1) (c2 := c2) (c3 := c3) (d1 := d1) (d2 := d2) (d3 := d3) R3.out R4.out M1.out M2.out HB.out (by omega))
              have HD6 := Lib.hid (((HD.out.setCell (p := ⟨h3, 0, none⟩) (by show WD.heap.size ≤ h3; omega) (.slice A1 st.bs.length c1)).setCell (p := ⟨h3, 1, none⟩) (by show WD.heap.size ≤ h3; omega) (.slice A2 st.ms.length c2)).setCell (p := ⟨h3, 2, none⟩) (by show WD.heap.size ≤ h3; omega) (.slice A3 st.bad.length c3))
              have hq4 : h4 ≠ h3 := by omega
              have Q4 := Lib.hid (show RowB (set3 X16 h3 (.slice A1 st.bs.length c1) (.slice A2 st.ms.length c2) (.slice A3 st.bad.length c3)) h4 34 _ from (set3_block X16 h3 _ _ _ hq4).trans R4.out)
              have yc := R3.out.cell
              have yt := R3.out.thaw
              refine wpG_ready (rs := [6]) (by kernel_rfl) (by simp) ?_
              refine RG.cons rfl rfl (fun K' hK => ?_) RG.nil
              go_simp
              clear yc yt
              refine hK.out _ _ ⟨HD6.out, fun _ => trivial, fun _ => trivial⟩ (fun hS => ?_)
              clear hK K'
              try simp only [Act.put, List.setIfInBounds_toArray, List.set_cons_zero, List.set_cons_succ]
              clear hS
              have yc := Q4.out.cell
              have yt := Q4.out.thaw
              unfold set3 at yc yt
              have HD7 := Lib.hid (((HD6.out.setCell (p := ⟨h4, 0, none⟩) (by show WD.heap.size ≤ h4; omega) (.slice B1 st.bs.length d1)).setCell (p := ⟨h4, 1, none⟩) (by show WD.heap.size ≤ h4; omega) (.slice B2 st.ms.length d2)).setCell (p := ⟨h4, 2, none⟩) (by show WD.heap.size ≤ h4; omega) (.slice B3 st.bad.length d3))
              refine wpG_ready (rs := [7]) (by kernel_rfl) (by simp) ?_
              refine RG.cons rfl rfl (fun K' hK => ?_) RG.nil
              go_simp
              clear yc yt
              refine hK.out _ _ ⟨HD7.out, fun _ => trivial, fun _ => trivial⟩ (fun hS => ?_)
              clear hK K'
              try simp only [Act.put, List.setIfInBounds_toArray, List.set_cons_zero, List.set_cons_succ]
              clear hS
              refine wpG_done (by kernel_rfl) ?_ _
              go_wp2_with fail
              go_meet
              exact ⟨h3, h4, lo, hi, lo', hi', A1, A2, A3, B1, B2, B3, c1, c2, c3, d1, d2, d3, l3, m3, rfl, rfl, HF.out⟩
      · obtain ⟨h3, eh3⟩ : ∃ x, x = WD.heap.size := ⟨_, rfl⟩
        obtain ⟨X17, eX17⟩ : ∃ x, x = WD.alloc (.cells #[.slice none 0 0, .slice none 0 0, .slice none 0 0] 34) := ⟨_, rfl⟩
        have R3 := Lib.hid (show RowB X17 h3 34 #[.slice none 0 0, .slice none 0 0, .slice none 0 0] by rw [eX17, eh3]; exact RowB.new WD 34 _)
        have i17 : h3 ≤ WD.heap.size ∧ WD.heap.size ≤ h3 ∧ WD.heap.size < X17.heap.size := ⟨by omega, by omega, by rw [eX17]; simp⟩
        have hb : Below WD.heap.size WD X17 := by rw [eX17]; exact belA WD _
        have HB := Lib.hid (HB.out.trans (hb.mono HB.out.size))
        have HD := Lib.hid (HD.out.trans (hb.mono HD.out.size))
        clear hb
        go_simp
        rw [← eh3, ← eX17]
        clear eh3 eX17
        refine hK.out _ _ ⟨HD.out, fun _ => trivial, fun _ => trivial⟩ (fun hS => ?_)
        clear hK K'
        try simp only [Act.put, List.setIfInBounds_toArray, List.set_cons_zero, List.set_cons_succ]
        refine wpG_ready (rs := [1, 5]) (by kernel_rfl) (by simp) ?_
        refine RG.cons rfl rfl (fun K' hK => ?_) (RG.cons rfl rfl (fun K' hK => ?_) RG.nil)
        · go_simp
          refine (CO.out X17 HB.out).mono ?_
          rintro e X18 ⟨A1, c1, A2, c2, A3, c3, l3, rfl, hss, k1, k2, k3, _, _, _, hbd, hb⟩
          go_wp2_with fail
          obtain ⟨lo, hlo⟩ : ∃ x, x = X17.heap.size := ⟨_, rfl⟩
          obtain ⟨hi, hhi⟩ : ∃ x, x = X18.heap.size := ⟨_, rfl⟩
          have M1 := Lib.hid (show RowsIn X18 lo hi st A1 A2 A3 l3 by rw [hlo, hhi]; exact ⟨k1, k2, k3, hss, Nat.le_refl _, hbd⟩)
          have i18 : X17.heap.size ≤ lo ∧ lo ≤ X17.heap.size ∧ X18.heap.size ≤ hi ∧ hi ≤ X18.heap.size ∧ X17.heap.size ≤ X18.heap.size := ⟨by omega, by omega, by omega, by omega, hb.size⟩
          have R3 := Lib.hid (R3.out.below hb R3.out.lt)
          have HB := Lib.hid (HB.out.trans (hb.mono HB.out.size))
          have HD := Lib.hid (HD.out.trans (hb.mono HD.out.size))
          clear hss k1 k2 k3 hbd hb hlo hhi
          refine hK.out _ _ ⟨HD.out, fun _ => trivial, fun _ => trivial⟩ (fun hS => ?_)
          clear hK K'
          try simp only [Act.put, List.setIfInBounds_toArray, List.set_cons_zero, List.set_cons_succ]
          refine wpG_ready (rs := [3, 5]) (by kernel_rfl) (by simp) ?_
          refine RG.cons rfl rfl (fun K' hK => ?_) (RG.cons rfl rfl (fun K' hK => ?_) RG.nil)
          · go_simp
            refine (CO.out X18 HB.out).mono ?_
            rintro e X19 ⟨B1, d1, B2, d2, B3, d3, m3, rfl, hss, k1, k2, k3, _, _, _, hbd, hb⟩
            go_wp2_with fail
            obtain ⟨lo', hloz⟩ : ∃ x, x = X18.heap.size := ⟨_, rfl⟩
            obtain ⟨hi', hhiz⟩ : ∃ x, x = X19.heap.size := ⟨_, rfl⟩
            have M2 := Lib.hid (show RowsIn X19 lo' hi' st B1 B2 B3 m3 by rw [hloz, hhiz]; exact ⟨k1, k2, k3, hss, Nat.le_refl _, hbd⟩)
            have i19 : X18.heap.size ≤ lo' ∧ lo' ≤ X18.heap.size ∧ X19.heap.size ≤ hi' ∧ hi' ≤ X19.heap.size ∧ X18.heap.size ≤ X19.heap.size := ⟨by omega, by omega, by omega, by omega, hb.size⟩
            have R3 := Lib.hid (R3.out.below hb R3.out.lt)
            have M1 := Lib.hid (M1.out.below hb)
            have HB := Lib.hid (HB.out.trans (hb.mono HB.out.size))
            have HD := Lib.hid (HD.out.trans (hb.mono HD.out.size))
            clear hss k1 k2 k3 hbd hb hloz hhiz
            refine hK.out _ _ ⟨HD.out, fun _ => trivial, fun _ => trivial⟩ (fun hS => ?_)
            clear hK K'
            try simp only [Act.put, List.setIfInBounds_toArray, List.set_cons_zero, List.set_cons_succ]
            refine wpG_ready (rs := [5]) (by kernel_rfl) (by simp) ?_
            refine RG.cons rfl rfl (fun K' hK => ?_) RG.nil
            · obtain ⟨h4, eh4⟩ : ∃ x, x = X19.heap.size := ⟨_, rfl⟩
              obtain ⟨X20, eX20⟩ : ∃ x, x = X19.alloc (.cells #[.slice none 0 0, .slice none 0 0, .slice none 0 0] 34) := ⟨_, rfl⟩
              have R4 := Lib.hid (show RowB X20 h4 34 #[.slice none 0 0, .slice none 0 0, .slice none 0 0] by rw [eX20, eh4]; exact RowB.new X19 34 _)
              have i20 : h4 ≤ X19.heap.size ∧ X19.heap.size ≤ h4 ∧ X19.heap.size < X20.heap.size := ⟨by omega, by omega, by rw [eX20]; simp⟩
              have hb : Below X19.heap.size X19 X20 := by rw [eX20]; exact belA X19 _
              have R3 := Lib.hid (R3.out.below hb R3.out.lt)
              have M1 := Lib.hid (M1.out.below hb)
              have M2 := Lib.hid (M2.out.below hb)
              have HB := Lib.hid (HB.out.trans (hb.mono HB.out.size))
              have HD := Lib.hid (HD.out.trans (hb.mono HD.out.size))
              clear hb
              go_simp
              rw [← eh4, ← eX20]
              clear eh4 eX20
              refine hK.out _ _ ⟨HD.out, fun _ => trivial, fun _ => trivial⟩ (fun hS => ?_)
              clear hK K'
              try simp only [Act.put, List.setIfInBounds_toArray, List.set_cons_zero, List.set_cons_succ]
              have HF := Lib.hid (two_fin (c1 := c1) (c2 := c2) (c3 := c3) (d1 := d1) (d2 := d2) (d3 := d3) R3.out R4.out M1.out M2.out HB.out (by omega))
              have HD6 := Lib.hid (((HD.out.setCell (p := ⟨h3, 0, none⟩) (by show WD.heap.size ≤ h3; omega) (.slice A1 st.bs.length c1)).setCell (p := ⟨h3, 1, none⟩) (by show WD.heap.size ≤ h3; omega) (.slice A2 st.ms.length c2)).setCell (p := ⟨h3, 2, none⟩) (by show WD.heap.size ≤ h3; omega) (.slice A3 st.bad.length c3))
              have hq4 : h4 ≠ h3 := by omega
              have Q4 := Lib.hid (show RowB (set3 X20 h3 (.slice A1 st.bs.length c1) (.slice A2 st.ms.length c2) (.slice A3 st.bad.length c3)) h4 34 _ from (set3_block X20 h3 _ _ _ hq4).trans R4.out)
              have yc := R3.out.cell
              have yt := R3.out.thaw
              refine wpG_ready (rs := [6]) (by kernel_rfl) (by simp) ?_
              refine RG.cons rfl rfl (fun K' hK => ?_) RG.nil
              go_simp
              clear yc yt
              refine hK.out _ _ ⟨HD6.out, fun _ => trivial, fun _ => trivial⟩ (fun hS => ?_)
              clear hK K'
              try simp only [Act.put, List.setIfInBounds_toArray, List.set_cons_zero, List.set_cons_succ]
              clear hS
              have yc := Q4.out.cell
              have yt := Q4.out.thaw
              unfold set3 at yc yt
              have HD7 := Lib.hid (((HD6.out.setCell (p := ⟨h4, 0, none⟩) (by show WD.heap.size ≤ h4; omega) (.slice B1 st.bs.length d1)).setCell (p := ⟨h4, 1, none⟩) (by show WD.heap.size ≤ h4; omega) (.slice B2 st.ms.length d2)).setCell (p := ⟨h4, 2, none⟩) (by show WD.heap.size ≤ h4; omega) (.slice B3 st.bad.length d3))
              refine wpG_ready (rs := [7]) (by kernel_rfl) (by simp) ?_
              refine RG.cons rfl rfl (fun K' hK => ?_) RG.nil
              go_simp
              clear yc yt
              refine hK.out _ _ ⟨HD7.out, fun _ => trivial, fun _ => trivial⟩ (fun hS => ?_)
              clear hK K'
              try simp only [Act.put, List.setIfInBounds_toArray, List.set_cons_zero, List.set_cons_succ]
              clear hS
              refine wpG_done (by kernel_rfl) ?_ _
              go_wp2_with fail
              go_meet
              exact ⟨h3, h4, lo, hi, lo', hi', A1, A2, A3, B1, B2, B3, c1, c2, c3, d1, d2, d3, l3, m3, rfl, rfl, HF.out⟩
          · obtain ⟨h4, eh4⟩ : ∃ x, x = X18.heap.size := ⟨_, rfl⟩
            obtain ⟨X21, eX21⟩ : ∃ x, x = X18.alloc (.cells #[.slice none 0 0, .slice none 0 0, .slice none 0 0] 34) := ⟨_, rfl⟩
            have R4 := Lib.hid (show RowB X21 h4 34 #[.slice none 0 0, .slice none 0 0, .slice none 0 0] by rw [eX21, eh4]; exact RowB.new X18 34 _)
            have i21 : h4 ≤ X18.heap.size ∧ X18.heap.size ≤ h4 ∧ X18.heap.size < X21.heap.size := ⟨by omega, by omega, by rw [eX21]; simp⟩
            have hb : Below X18.heap.size X18 X21 := by rw [eX21]; exact belA X18 _
            have R3 := Lib.hid (R3.out.below hb R3.out.lt)
            have M1 := Lib.hid (M1.out.below hb)
            have HB := Lib.hid (HB.out.trans (hb.mono HB.out.size))
            have HD := Lib.hid (HD.out.trans (hb.mono HD.out.size))
            clear hb
            go_simp
            rw [← eh4, ← eX21]
            clear eh4 eX21
            refine hK.out _ _ ⟨HD.out, fun _ => trivial, fun _ => trivial⟩ (fun hS => ?_)
            clear hK K'
            try simp only [Act.put, List.setIfInBounds_toArray, List.set_cons_zero, List.set_cons_succ]
            refine wpG_ready (rs := [3]) (by kernel_rfl) (by simp) ?_
            refine RG.cons rfl rfl (fun K' hK => ?_) RG.nil
            · go_simp
              refine (CO.out X21 HB.out).mono ?_
              rintro e X22 ⟨B1, d1, B2, d2, B3, d3, m3, rfl, hss, k1, k2, k3, _, _, _, hbd, hb⟩
              go_wp2_with fail
              obtain ⟨lo', hloz⟩ : ∃ x, x = X21.heap.size := ⟨_, rfl⟩
              obtain ⟨hi', hhiz⟩ : ∃ x, x = X22.heap.size := ⟨_, rfl⟩
              have M2 := Lib.hid (show RowsIn X22 lo' hi' st B1 B2 B3 m3 by rw [hloz, hhiz]; exact ⟨k1, k2, k3, hss, Nat.le_refl _, hbd⟩)
              have i22 : X21.heap.size ≤ lo' ∧ lo' ≤ X21.heap.size ∧ X22.heap.size ≤ hi' ∧ hi' ≤ X22.heap.size ∧ X21.heap.size ≤ X22.heap.size := ⟨by omega, by omega, by omega, by omega, hb.size⟩
              have R3 := Lib.hid (R3.out.below hb R3.out.lt)
              have M1 := Lib.hid (M1.out.below hb)
              have R4 := Lib.hid (R4.out.below hb R4.out.lt)
              have HB := Lib.hid (HB.out.trans (hb.mono HB.out.size))
              have HD := Lib.hid (HD.out.trans (hb.mono HD.out.size))
              clear hss k1 k2 k3 hbd hb hloz hhiz
              refine hK.out _ _ ⟨HD.out, fun _ => trivial, fun _ => trivial⟩ (fun hS => ?_)
              clear hK K'
              try simp only [Act.put, List.setIfInBounds_toArray, List.set_cons_zero, List.set_cons_succ]
              have HF := Lib.hid (two_fin (c1 := c1) (c2 := c2) (c3 := c3) (d1 := d1) (d2 := d2) (d3 := d3) R3.out R4.out M1.out M2.out HB.out (by omega))
              have HD6 := Lib.hid (((HD.out.setCell (p := ⟨h3, 0, none⟩) (by show WD.heap.size ≤ h3; omega) (.slice A1 st.bs.length c1)).setCell (p := ⟨h3, 1, none⟩) (by show WD.heap.size ≤ h3; omega) (.slice A2 st.ms.length c2)).setCell (p := ⟨h3, 2, none⟩) (by show WD.heap.size ≤ h3; omega) (.slice A3 st.bad.length c3))
              have hq4 : h4 ≠ h3 := by omega
              have Q4 := Lib.hid (show RowB (set3 X22 h3 (.slice A1 st.bs.length c1) (.slice A2 st.ms.length c2) (.slice A3 st.bad.length c3)) h4 34 _ from (set3_block X22 h3 _ _ _ hq4).trans R4.out)
              have yc := R3.out.cell
              have yt := R3.out.thaw
              refine wpG_ready (rs := [6]) (by kernel_rfl) (by simp) ?_
              refine RG.cons rfl rfl (fun K' hK => ?_) RG.nil
              go_simp
              clear yc yt
              refine hK.out _ _ ⟨HD6.out, fun _ => trivial, fun _ => trivial⟩ (fun hS => ?_)
              clear hK K'
              try simp only [Act.put, List.setIfInBounds_toArray, List.set_cons_zero, List.set_cons_succ]
              clear hS
              have yc := Q4.out.cell
              have yt := Q4.out.thaw
              unfold set3 at yc yt
              have HD7 := Lib.hid (((HD6.out.setCell (p := ⟨h4, 0, none⟩) (by show WD.heap.size ≤ h4; omega) (.slice B1 st.bs.length d1)).setCell (p := ⟨h4, 1, none⟩) (by show WD.heap.size ≤ h4; omega) (.slice B2 st.ms.length d2)).setCell (p := ⟨h4, 2, none⟩) (by show WD.heap.size ≤ h4; omega) (.slice B3 st.bad.length d3))
              refine wpG_ready (rs := [7]) (by kernel_rfl) (by simp) ?_
              refine RG.cons rfl rfl (fun K' hK => ?_) RG.nil
              go_simp
              clear yc yt
              refine hK.out _ _ ⟨HD7.out, fun _ => trivial, fun _ => trivial⟩ (fun hS => ?_)
              clear hK K'
              try simp only [Act.put, List.setIfInBounds_toArray, List.set_cons_zero, List.set_cons_succ]
              clear hS
              refine wpG_done (by kernel_rfl) ?_ _
              go_wp2_with fail
              go_meet
              exact ⟨h3, h4, lo, hi, lo', hi', A1, A2, A3, B1, B2, B3, c1, c2, c3, d1, d2, d3, l3, m3, rfl, rfl, HF.out⟩
        · obtain ⟨h4, eh4⟩ : ∃ x, x = X17.heap.size := ⟨_, rfl⟩
          obtain ⟨X23, eX23⟩ : ∃ x, x = X17.alloc (.cells #[.slice none 0 0, .slice none 0 0, .slice none 0 0] 34) := ⟨_, rfl⟩
          have R4 := Lib.hid (show RowB X23 h4 34 #[.slice none 0 0, .slice none 0 0, .slice none 0 0] by rw [eX23, eh4]; exact RowB.new X17 34 _)
          have i23 : h4 ≤ X17.heap.size ∧ X17.heap.size ≤ h4 ∧ X17.heap.size < X23.heap.size := ⟨by omega, by omega, by rw [eX23]; simp⟩
          have hb : Below X17.heap.size X17 X23 := by rw [eX23]; exact belA X17 _
          have R3 := Lib.hid (R3.out.below hb R3.out.lt)
          have HB := Lib.hid (HB.out.trans (hb.mono HB.out.size))
          have HD := Lib.hid (HD.out.trans (hb.mono HD.out.size))
          clear hb
          go_simp
          rw [← eh4, ← eX23]
          clear eh4 eX23
          refine hK.out _ _ ⟨HD.out, fun _ => trivial, fun _ => trivial⟩ (fun hS => ?_)
          clear hK K'
          try simp only [Act.put, List.setIfInBounds_toArray, List.set_cons_zero, List.set_cons_succ]
          refine wpG_ready (rs := [1]) (by kernel_rfl) (by simp) ?_
          refine RG.cons rfl rfl (fun K' hK => ?_) RG.nil
          · go_simp
            refine (CO.out X23 HB.out).mono ?_
            rintro e X24 ⟨A1, c1, A2, c2, A3, c3, l3, rfl, hss, k1, k2, k3, _, _, _, hbd, hb⟩
            go_wp2_with fail
            obtain ⟨lo, hlo⟩ : ∃ x, x = X23.heap.size := ⟨_, rfl⟩
            obtain ⟨hi, hhi⟩ : ∃ x, x = X24.heap.size := ⟨_, rfl⟩
            have M1 := Lib.hid (show RowsIn X24 lo hi st A1 A2 A3 l3 by rw [hlo, hhi]; exact ⟨k1, k2, k3, hss, Nat.le_refl _, hbd⟩)
            have i24 : X23.heap.size ≤ lo ∧ lo ≤ X23.heap.size ∧ X24.heap.size ≤ hi ∧ hi ≤ X24.heap.size ∧ X23.heap.size ≤ X24.heap.size := ⟨by omega, by omega, by omega, by omega, hb.size⟩
            have R3 := Lib.hid (R3.out.below hb R3.out.lt)
            have R4 := Lib.hid (R4.out.below hb R4.out.lt)
            have HB := Lib.hid (HB.out.trans (hb.mono HB.out.size))
            have HD := Lib.hid (HD.out.trans (hb.mono HD.out.size))
            clear hss k1 k2 k3 hbd hb hlo hhi
            refine hK.out _ _ ⟨HD.out, fun _ => trivial, fun _ => trivial⟩ (fun hS => ?_)
            clear hK K'
            try simp only [Act.put, List.setIfInBounds_toArray, List.set_cons_zero, List.set_cons_succ]
            refine wpG_ready (rs := [3]) (by kernel_rfl) (by simp) ?_
            refine RG.cons rfl rfl (fun K' hK => ?_) RG.nil
            · go_simp
              refine (CO.out X24 HB.out).mono ?_
              rintro e X25 ⟨B1, d1, B2, d2, B3, d3, m3, rfl, hss, k1, k2, k3, _, _, _, hbd, hb⟩
              go_wp2_with fail
              obtain ⟨lo', hloz⟩ : ∃ x, x = X24.heap.size := ⟨_, rfl⟩
              obtain ⟨hi', hhiz⟩ : ∃ x, x = X25.heap.size := ⟨_, rfl⟩
              have M2 := Lib.hid (show RowsIn X25 lo' hi' st B1 B2 B3 m3 by rw [hloz, hhiz]; exact ⟨k1, k2, k3, hss, Nat.le_refl _, hbd⟩)
              have i25 : X24.heap.size ≤ lo' ∧ lo' ≤ X24.heap.size ∧ X25.heap.size ≤ hi' ∧ hi' ≤ X25.heap.size ∧ X24.heap.size ≤ X25.heap.size := ⟨by omega, by omega, by omega, by omega, hb.size⟩
              have R3 := Lib.hid (R3.out.below hb R3.out.lt)
              have R4 := Lib.hid (R4.out.below hb R4.out.lt)
              have M1 := Lib.hid (M1.out.below hb)
              have HB := Lib.hid (HB.out.trans (hb.mono HB.out.size))
              have HD := Lib.hid (HD.out.trans (hb.mono HD.out.size))
              clear hss k1 k2 k3 hbd hb hloz hhiz
              refine hK.out _ _ ⟨HD.out, fun _ => trivial, fun _ => trivial⟩ (fun hS => ?_)
              clear hK K'
              try simp only [Act.put, List.setIfInBounds_toArray, List.set_cons_zero, List.set_cons_succ]
              have HF := Lib.hid (two_fin (c1 := c1) (c2 := c2) (c3 := c3) (d1 := d1) (d2 := d2) (d3 := d3) R3.out R4.out M1.out M2.out HB.out (by omega))
              have HD6 := Lib.hid (((HD.out.setCell (p := ⟨h3, 0, none⟩) (by show WD.heap.size ≤ h3; omega) (.slice A1 st.bs.length c1)).setCell (p := ⟨h3, 1, none⟩) (by show WD.heap.size ≤ h3; omega) (.slice A2 st.ms.length c2)).setCell (p := ⟨h3, 2, none⟩) (by show WD.heap.size ≤ h3; omega) (.slice A3 st.bad.length c3))
              have hq4 : h4 ≠ h3 := by omega
              have Q4 := Lib.hid (show RowB (set3 X25 h3 (.slice A1 st.bs.length c1) (.slice A2 st.ms.length c2) (.slice A3 st.bad.length c3)) h4 34 _ from (set3_block X25 h3 _ _ _ hq4).trans R4.out)
              have yc := R3.out.cell
              have yt := R3.out.thaw
              refine wpG_ready (rs := [6]) (by kernel_rfl) (by simp) ?_
              refine RG.cons rfl rfl (fun K' hK => ?_) RG.nil
              go_simp
              clear yc yt
              refine hK.out _ _ ⟨HD6.out, fun _ => trivial, fun _ => trivial⟩ (fun hS => ?_)
              clear hK K'
              try simp only [Act.put, List.setIfInBounds_toArray, List.set_cons_zero, List.set_cons_succ]
              clear hS
              have yc := Q4.out.cell
              have yt := Q4.out.thaw
              unfold set3 at yc yt
              have HD7 := Lib.hid (((HD6.out.setCell (p := ⟨h4, 0, none⟩) (by show WD.heap.size ≤ h4; omega) (.slice B1 st.bs.length d1)).setCell (p := ⟨h4, 1, none⟩) (by show WD.heap.size ≤ h4; omega) (.slice B2 st.ms.length d2)).setCell (p := ⟨h4, 2, none⟩) (by show WD.heap.size ≤ h4; omega) (.slice B3 st.bad.length d3))
              refine wpG_ready (rs := [7]) (by kernel_rfl) (by simp) ?_
              refine RG.cons rfl rfl (fun K' hK => ?_) RG.nil
              go_simp
              clear yc yt
              refine hK.out _ _ ⟨HD7.out, fun _ => trivial, fun _ => trivial⟩ (fun hS => ?_)
              clear hK K'
              try simp only [Act.put, List.setIfInBounds_toArray, List.set_cons_zero, List.set_cons_succ]
              clear hS
              refine wpG_done (by kernel_rfl) ?_ _
              go_wp2_with fail
              go_meet
              exact ⟨h3, h4, lo, hi, lo', hi', A1, A2, A3, B1, B2, B3, c1, c2, c3, d1, d2, d3, l3, m3, rfl, rfl, HF.out⟩
      · obtain ⟨h4, eh4⟩ : ∃ x, x = WD.heap.size := ⟨_, rfl⟩
        obtain ⟨X26, eX26⟩ : ∃ x, x = WD.alloc (.cells #[.slice none 0 0, .slice none 0 0, .slice none 0 0] 34) := ⟨_, rfl⟩
        have R4 := Lib.hid (show RowB X26 h4 34 #[.slice none 0 0, .slice none 0 0, .slice none 0 0] by rw [eX26, eh4]; exact RowB.new WD 34 _)
        have i26 : h4 ≤ WD.heap.size ∧ WD.heap.size ≤ h4 ∧ WD.heap.size < X26.heap.size := ⟨by omega, by omega, by rw [eX26]; simp⟩
        have hb : Below WD.heap.size WD X26 := by rw [eX26]; exact belA WD _
        have HB := Lib.hid (HB.out.trans (hb.mono HB.out.size))
        have HD := Lib.hid (HD.out.trans (hb.mono HD.out.size))
        clear hb
        go_simp
        rw [← eh4, ← eX26]
        clear eh4 eX26
        refine hK.out _ _ ⟨HD.out, fun _ => trivial, fun _ => trivial⟩ (fun hS => ?_)
        clear hK K'
        try simp only [Act.put, List.setIfInBounds_toArray, List.set_cons_zero, List.set_cons_succ]
        refine wpG_ready (rs := [1, 4]) (by kernel_rfl) (by simp) ?_
        refine RG.cons rfl rfl (fun K' hK => ?_) (RG.cons rfl rfl (fun K' hK => ?_) RG.nil)
        · go_simp
          refine (CO.out X26 HB.out).mono ?_
          rintro e X27 ⟨A1, c1, A2, c2, A3, c3, l3, rfl, hss, k1, k2, k3, _, _, _, hbd, hb⟩
          go_wp2_with fail
          obtain ⟨lo, hlo⟩ : ∃ x, x = X26.heap.size := ⟨_, rfl⟩
          obtain ⟨hi, hhi⟩ : ∃ x, x = X27.heap.size := ⟨_, rfl⟩
          have M1 := Lib.hid (show RowsIn X27 lo hi st A1 A2 A3 l3 by rw [hlo, hhi]; exact ⟨k1, k2, k3, hss, Nat.le_refl _, hbd⟩)
          have i27 : X26.heap.size ≤ lo ∧ lo ≤ X26.heap.size ∧ X27.heap.size ≤ hi ∧ hi ≤ X27.heap.size ∧ X26.heap.size ≤ X27.heap.size := ⟨by omega, by omega, by omega, by omega, hb.size⟩
          have R4 := Lib.hid (R4.out.below hb R4.out.lt)
          have HB := Lib.hid (HB.out.trans (hb.mono HB.out.size))
          have HD := Lib.hid (HD.out.trans (hb.mono HD.out.size))
          clear hss k1 k2 k3 hbd hb hlo hhi
          refine hK.out _ _ ⟨HD.out, fun _ => trivial, fun _ => trivial⟩ (fun hS => ?_)
          clear hK K'
          try simp only [Act.put, List.setIfInBounds_toArray, List.set_cons_zero, List.set_cons_succ]
          refine wpG_ready (rs := [3, 4]) (by kernel_rfl) (by simp) ?_
          refine RG.cons rfl rfl (fun K' hK => ?_) (RG.cons rfl rfl (fun K' hK => ?_) RG.nil)
          · go_simp
            refine (CO.out X27 HB.out).mono ?_
            rintro e X28 ⟨B1, d1, B2, d2, B3, d3, m3, rfl, hss, k1, k2, k3, _, _, _, hbd, hb⟩
            go_wp2_with fail
            obtain ⟨lo', hloz⟩ : ∃ x, x = X27.heap.size := ⟨_, rfl⟩
            obtain ⟨hi', hhiz⟩ : ∃ x, x = X28.heap.size := ⟨_, rfl⟩
            have M2 := Lib.hid (show RowsIn X28 lo' hi' st B1 B2 B3 m3 by rw [hloz, hhiz]; exact ⟨k1, k2, k3, hss, Nat.le_refl _, hbd⟩)
            have i28 : X27.heap.size ≤ lo' ∧ lo' ≤ X27.heap.size ∧ X28.heap.size ≤ hi' ∧ hi' ≤ X28.heap.size ∧ X27.heap.size ≤ X28.heap.size := ⟨by omega, by omega, by omega, by omega, hb.size⟩
            have R4 := Lib.hid (R4.out.below hb R4.out.lt)
            have M1 := Lib.hid (M1.out.below hb)
            have HB := Lib.hid (HB.out.trans (hb.mono HB.out.size))
            have HD := Lib.hid (HD.out.trans (hb.mono HD.out.size))
            clear hss k1 k2 k3 hbd hb hloz hhiz
            refine hK.out _ _ ⟨HD.out, fun _ => trivial, fun _ => trivial⟩ (fun hS => ?_)
            clear hK K'
            try simp only [Act.put, List.setIfInBounds_toArray, List.set_cons_zero, List.set_cons_succ]
            refine wpG_ready (rs := [4]) (by kernel_rfl) (by simp) ?_
            refine RG.cons rfl rfl (fun K' hK => ?_) RG.nil
            · obtain ⟨h3, eh3⟩ : ∃ x, x = X28.heap.size := ⟨_, rfl⟩
              obtain ⟨X29, eX29⟩ : ∃ x, x = X28.alloc (.cells #[.slice none 0 0, .slice none 0 0, .slice none 0 0] 34) := ⟨_, rfl⟩
              have R3 := Lib.hid (show RowB X29 h3 34 #[.slice none 0 0, .slice none 0 0, .slice none 0 0] by rw [eX29, eh3]; exact RowB.new X28 34 _)
              have i29 : h3 ≤ X28.heap.size ∧ X28.heap.size ≤ h3 ∧ X28.heap.size < X29.heap.size := ⟨by omega, by omega, by rw [eX29]; simp⟩
              have hb : Below X28.heap.size X28 X29 := by rw [eX29]; exact belA X28 _
              have R4 := Lib.hid (R4.out.below hb R4.out.lt)
              have M1 := Lib.hid (M1.out.below hb)
              have M2 := Lib.hid (M2.out.below hb)
              have HB := Lib.hid (HB.out.trans (hb.mono HB.out.size))
              have HD := Lib.hid (HD.out.trans (hb.mono HD.out.size))
              clear hb
              go_simp
              rw [← eh3, ← eX29]
              clear eh3 eX29
              refine hK.out _ _ ⟨HD.out, fun _ => trivial, fun _ => trivial⟩ (fun hS => ?_)
              clear hK K'
              try simp only [Act.put, List.setIfInBounds_toArray, List.set_cons_zero, List.set_cons_succ]
              have HF := Lib.hid (two_fin (c1 := c1) (c2 := c2) (c3 := c3) (d1 := d1) (d2 := d2) (d3 := d3) R3.out R4.out M1.out M2.out HB.out (by omega))
              have HD6 := Lib.hid (((HD.out.setCell (p := ⟨h3, 0, none⟩) (by show WD.heap.size ≤ h3; omega) (.slice A1 st.bs.length c1)).setCell (p := ⟨h3, 1, none⟩) (by show WD.heap.size ≤ h3; omega) (.slice A2 st.ms.length c2)).setCell (p := ⟨h3, 2, none⟩) (by show WD.heap.size ≤ h3; omega) (.slice A3 st.bad.length c3))
              have hq4 : h4 ≠ h3 := by omega
              have Q4 := Lib.hid (show RowB (set3 X29 h3 (.slice A1 st.bs.length c1) (.slice A2 st.ms.length c2) (.slice A3 st.bad.length c3)) h4 34 _ from (set3_block X29 h3 _ _ _ hq4).trans R4.out)
              have yc := R3.out.cell
              have yt := R3.out.thaw
              refine wpG_ready (rs := [6]) (by kernel_rfl) (by simp) ?_
              refine RG.cons rfl rfl (fun K' hK => ?_) RG.nil
              go_simp
              clear yc yt
              refine hK.out _ _ ⟨HD6.out, fun _ => trivial, fun _ => trivial⟩ (fun hS => ?_)
              clear hK K'
              try simp only [Act.put, List.setIfInBounds_toArray, List.set_cons_zero, List.set_cons_succ]
              clear hS
              have yc := Q4.out.cell
              have yt := Q4.out.thaw
              unfold set3 at yc yt
              have HD7 := Lib.hid (((HD6.out.setCell (p := ⟨h4, 0, none⟩) (by show WD.heap.size ≤ h4; omega) (.slice B1 st.bs.length d1)).setCell (p := ⟨h4, 1, none⟩) (by show WD.heap.size ≤ h4; omega) (.slice B2 st.ms.length d2)).setCell (p := ⟨h4, 2, none⟩) (by show WD.heap.size ≤ h4; omega) (.slice B3 st.bad.length d3))
              refine wpG_ready (rs := [7]) (by kernel_rfl) (by simp) ?_
              refine RG.cons rfl rfl (fun K' hK => ?_) RG.nil
              go_simp
              clear yc yt
              refine hK.out _ _ ⟨HD7.out, fun _ => trivial, fun _ => trivial⟩ (fun hS => ?_)
              clear hK K'
              try simp only [Act.put, List.setIfInBounds_toArray, List.set_cons_zero, List.set_cons_succ]
              clear hS
              refine wpG_done (by kernel_rfl) ?_ _
              go_wp2_with fail
              go_meet
              exact ⟨h3, h4, lo, hi, lo', hi', A1, A2, A3, B1, B2, B3, c1, c2, c3, d1, d2, d3, l3, m3, rfl, rfl, HF.out⟩
          · obtain ⟨h3, eh3⟩ : ∃ x, x = X27.heap.size := ⟨_, rfl⟩
            obtain ⟨X30, eX30⟩ : ∃ x, x = X27.alloc (.cells #[.slice none 0 0, .slice none 0 0, .slice none 0 0] 34) := ⟨_, rfl⟩
            have R3 := Lib.hid (show RowB X30 h3 34 #[.slice none 0 0, .slice none 0 0, .slice none 0 0] by rw [eX30, eh3]; exact RowB.new X27 34 _)
            have i30 : h3 ≤ X27.heap.size ∧ X27.heap.size ≤ h3 ∧ X27.heap.size < X30.heap.size := ⟨by omega, by omega, by rw [eX30]; simp⟩
            have hb : Below X27.heap.size X27 X30 := by rw [eX30]; exact belA X27 _
            have R4 := Lib.hid (R4.out.below hb R4.out.lt)
            have M1 := Lib.hid (M1.out.below hb)
            have HB := Lib.hid (HB.out.trans (hb.mono HB.out.size))
            have HD := Lib.hid (HD.out.trans (hb.mono HD.out.size))
            clear hb
            go_simp
            rw [← eh3, ← eX30]
            clear eh3 eX30
            refine hK.out _ _ ⟨HD.out, fun _ => trivial, fun _ => trivial⟩ (fun hS => ?_)
            clear hK K'
            try simp only [Act.put, List.setIfInBounds_toArray, List.set_cons_zero, List.set_cons_succ]
            refine wpG_ready (rs := [3]) (by kernel_rfl) (by simp) ?_
            refine RG.cons rfl rfl (fun K' hK => ?_) RG.nil
            · go_simp
              refine (CO.out X30 HB.out).mono ?_
              rintro e X31 ⟨B1, d1, B2, d2, B3, d3, m3, rfl, hss, k1, k2, k3, _, _, _, hbd, hb⟩
              go_wp2_with fail
              obtain ⟨lo', hloz⟩ : ∃ x, x = X30.heap.size := ⟨_, rfl⟩
              obtain ⟨hi', hhiz⟩ : ∃ x, x = X31.heap.size := ⟨_, rfl⟩
              have M2 := Lib.hid (show RowsIn X31 lo' hi' st B1 B2 B3 m3 by rw [hloz, hhiz]; exact ⟨k1, k2, k3, hss, Nat.le_refl _, hbd⟩)
              have i31 : X30.heap.size ≤ lo' ∧ lo' ≤ X30.heap.size ∧ X31.heap.size ≤ hi' ∧ hi' ≤ X31.heap.size ∧ X30.heap.size ≤ X31.heap.size := ⟨by omega, by omega, by omega, by omega, hb.size⟩
              have R4 := Lib.hid (R4.out.below hb R4.out.lt)
              have M1 := Lib.hid (M1.out.below hb)
              have R3 := Lib.hid (R3.out.below hb R3.out.lt)
              have HB := Lib.hid (HB.out.trans (hb.mono HB.out.size))
              have HD := Lib.hid (HD.out.trans (hb.mono HD.out.size))
              clear hss k1 k2 k3 hbd hb hloz hhiz
              refine hK.out _ _ ⟨HD.out, fun _ => trivial, fun _ => trivial⟩ (fun hS => ?_)
              clear hK K'
              try simp only [Act.put, List.setIfInBounds_toArray, List.set_cons_zero, List.set_cons_succ]
              have HF := Lib.hid (two_fin (c1 := c1) (c2 := c2) (c3 := c3) (d1 := d1) (d2 := d2) (d3 := d3) R3.out R4.out M1.out M2.out HB.out (by omega))
              have HD6 := Lib.hid (((HD.out.setCell (p := ⟨h3, 0, none⟩) (by show WD.heap.size ≤ h3; omega) (.slice A1 st.bs.length c1)).setCell (p := ⟨h3, 1, none⟩) (by show WD.heap.size ≤ h3; omega) (.slice A2 st.ms.length c2)).setCell (p := ⟨h3, 2, none⟩) (by show WD.heap.size ≤ h3; omega) (.slice A3 st.bad.length c3))
              have hq4 : h4 ≠ h3 := by omega
              have Q4 := Lib.hid (show RowB (set3 X31 h3 (.slice A1 st.bs.length c1) (.slice A2 st.ms.length c2) (.slice A3 st.bad.length c3)) h4 34 _ from (set3_block X31 h3 _ _ _ hq4).trans R4.out)
              have yc := R3.out.cell
              have yt := R3.out.thaw
              refine wpG_ready (rs := [6]) (by kernel_rfl) (by simp) ?_
              refine RG.cons rfl rfl (fun K' hK => ?_) RG.nil
              go_simp
              clear yc yt
              refine hK.out _ _ ⟨HD6.out, fun _ => trivial, fun _ => trivial⟩ (fun hS => ?_)
              clear hK K'
              try simp only [Act.put, List.setIfInBounds_toArray, List.set_cons_zero, List.set_cons_succ]
              clear hS
              have yc := Q4.out.cell
              have yt := Q4.out.thaw
              unfold set3 at yc yt
              have HD7 := Lib.hid (((HD6.out.setCell (p := ⟨h4, 0, none⟩) (by show WD.heap.size ≤ h4; omega) (.slice B1 st.bs.length d1)).setCell (p := ⟨h4, 1, none⟩) (by show WD.heap.size ≤ h4; omega) (.slice B2 st.ms.length d2)).setCell (p := ⟨h4, 2, none⟩) (by show WD.heap.size ≤ h4; omega) (.slice B3 st.bad.length d3))
              refine wpG_ready (rs := [7]) (by kernel_rfl) (by simp) ?_
              refine RG.cons rfl rfl (fun K' hK => ?_) RG.nil
              go_simp
              clear yc yt
              refine hK.out _ _ ⟨HD7.out, fun _ => trivial, fun _ => trivial⟩ (fun hS => ?_)
              clear hK K'
              try simp only [Act.put, List.setIfInBounds_toArray, List.set_cons_zero, List.set_cons_succ]
              clear hS
              refine wpG_done (by kernel_rfl) ?_ _
              go_wp2_with fail
              go_meet
              exact ⟨h3, h4, lo, hi, lo', hi', A1, A2, A3, B1, B2, B3, c1, c2, c3, d1, d2, d3, l3, m3, rfl, rfl, HF.out⟩
        · obtain ⟨h3, eh3⟩ : ∃ x, x = X26.heap.size := ⟨_, rfl⟩
          obtain ⟨X32, eX32⟩ : ∃ x, x = X26.alloc (.cells #[.slice none 0 0, .slice none 0 0, .slice none 0 0] 34) := ⟨_, rfl⟩
          have R3 := Lib.hid (show RowB X32 h3 34 #[.slice none 0 0, .slice none 0 0, .slice none 0 0] by rw [eX32, eh3]; exact RowB.new X26 34 _)
          have i32 : h3 ≤ X26.heap.size ∧ X26.heap.size ≤ h3 ∧ X26.heap.size < X32.heap.size := ⟨by omega, by omega, by rw [eX32]; simp⟩
          have hb : Below X26.heap.size X26 X32 := by rw [eX32]; exact belA X26 _
          have R4 := Lib.hid (R4.out.below hb R4.out.lt)
          have HB := Lib.hid (HB.out.trans (hb.mono HB.out.size))
          have HD := Lib.hid (HD.out.trans (hb.mono HD.out.size))
          clear hb
          go_simp
          rw [← eh3, ← eX32]
          clear eh3 eX32
          refine hK.out _ _ ⟨HD.out, fun _ => trivial, fun _ => trivial⟩ (fun hS => ?_)
          clear hK K'
          try simp only [Act.put, List.setIfInBounds_toArray, List.set_cons_zero, List.set_cons_succ]
          refine wpG_ready (rs := [1]) (by kernel_rfl) (by simp) ?_
          refine RG.cons rfl rfl (fun K' hK => ?_) RG.nil
          · go_simp
            refine (CO.out X32 HB.out).mono ?_
            rintro e X33 ⟨A1, c1, A2, c2, A3, c3, l3, rfl, hss, k1, k2, k3, _, _, _, hbd, hb⟩
            go_wp2_with fail
            obtain ⟨lo, hlo⟩ : ∃ x, x = X32.heap.size := ⟨_, rfl⟩
            obtain ⟨hi, hhi⟩ : ∃ x, x = X33.heap.size := ⟨_, rfl⟩
            have M1 := Lib.hid (show RowsIn X33 lo hi st A1 A2 A3 l3 by rw [hlo, hhi]; exact ⟨k1, k2, k3, hss, Nat.le_refl _, hbd⟩)
            have i33 : X32.heap.size ≤ lo ∧ lo ≤ X32.heap.size ∧ X33.heap.size ≤ hi ∧ hi ≤ X33.heap.size ∧ X32.heap.size ≤ X33.heap.size := ⟨by omega, by omega, by omega, by omega, hb.size⟩
            have R4 := Lib.hid (R4.out.below hb R4.out.lt)
            have R3 := Lib.hid (R3.out.below hb R3.out.lt)
            have HB := Lib.hid (HB.out.trans (hb.mono HB.out.size))
            have HD := Lib.hid (HD.out.trans (hb.mono HD.out.size))
            clear hss k1 k2 k3 hbd hb hlo hhi
            refine hK.out _ _ ⟨HD.out, fun _ => trivial, fun _ => trivial⟩ (fun hS => ?_)
            clear hK K'
            try simp only [Act.put, List.setIfInBounds_toArray, List.set_cons_zero, List.set_cons_succ]
            refine wpG_ready (rs := [3]) (by kernel_rfl) (by simp) ?_
            refine RG.cons rfl rfl (fun K' hK => ?_) RG.nil
            · go_simp
              refine (CO.out X33 HB.out).mono ?_
              rintro e X34 ⟨B1, d1, B2, d2, B3, d3, m3, rfl, hss, k1, k2, k3, _, _, _, hbd, hb⟩
              go_wp2_with fail
              obtain ⟨lo', hloz⟩ : ∃ x, x = X33.heap.size := ⟨_, rfl⟩
              obtain ⟨hi', hhiz⟩ : ∃ x, x = X34.heap.size := ⟨_, rfl⟩
              have M2 := Lib.hid (show RowsIn X34 lo' hi' st B1 B2 B3 m3 by rw [hloz, hhiz]; exact ⟨k1, k2, k3, hss, Nat.le_refl _, hbd⟩)
              have i34 : X33.heap.size ≤ lo' ∧ lo' ≤ X33.heap.size ∧ X34.heap.size ≤ hi' ∧ hi' ≤ X34.heap.size ∧ X33.heap.size ≤ X34.heap.size := ⟨by omega, by omega, by omega, by omega, hb.size⟩
              have R4 := Lib.hid (R4.out.below hb R4.out.lt)
              have R3 := Lib.hid (R3.out.below hb R3.out.lt)
              have M1 := Lib.hid (M1.out.below hb)
              have HB := Lib.hid (HB.out.trans (hb.mono HB.out.size))
              have HD := Lib.hid (HD.out.trans (hb.mono HD.out.size))
              clear hss k1 k2 k3 hbd hb hloz hhiz
              refine hK.out _ _ ⟨HD.out, fun _ => trivial, fun _ => trivial⟩ (fun hS => ?_)
              clear hK K'
              try simp only [Act.put, List.setIfInBounds_toArray, List.set_cons_zero, List.set_cons_succ]
              have HF := Lib.hid (two_fin (c1 := c1) (c2 := c2) (c3 := c3) (d1 := d1) (d2 := d2) (d3 := d3) R3.out R4.out M1.out M2.out HB.out (by omega))
              have HD6 := Lib.hid (((HD.out.setCell (p := ⟨h3, 0, none⟩) (by show WD.heap.size ≤ h3; omega) (.slice A1 st.bs.length c1)).setCell (p := ⟨h3, 1, none⟩) (by show WD.heap.size ≤ h3; omega) (.slice A2 st.ms.length c2)).setCell (p := ⟨h3, 2, none⟩) (by show WD.heap.size ≤ h3; omega) (.slice A3 st.bad.length c3))
              have hq4 : h4 ≠ h3 := by omega
              have Q4 := Lib.hid (show RowB (set3 X34 h3 (.slice A1 st.bs.length c1) (.slice A2 st.ms.length c2) (.slice A3 st.bad.length c3)) h4 34 _ from (set3_block X34 h3 _ _ _ hq4).trans R4.out)
              have yc := R3.out.cell
              have yt := R3.out.thaw
              refine wpG_ready (rs := [6]) (by kernel_rfl) (by simp) ?_
              refine RG.cons rfl rfl (fun K' hK => ?_) RG.nil
              go_simp
              clear yc yt
              refine hK.out _ _ ⟨HD6.out, fun _ => trivial, fun _ => trivial⟩ (fun hS => ?_)
              clear hK K'
              try simp only [Act.put, List.setIfInBounds_toArray, List.set_cons_zero, List.set_cons_succ]
              clear hS
              have yc := Q4.out.cell
              have yt := Q4.out.thaw
              unfold set3 at yc yt
              have HD7 := Lib.hid (((HD6.out.setCell (p := ⟨h4, 0, none⟩) (by show WD.heap.size ≤ h4; omega) (.slice B1 st.bs.length d1)).setCell (p := ⟨h4, 1, none⟩) (by show WD.heap.size ≤ h4; omega) (.slice B2 st.ms.length d2)).setCell (p := ⟨h4, 2, none⟩) (by show WD.heap.size ≤ h4; omega) (.slice B3 st.bad.length d3))
              refine wpG_ready (rs := [7]) (by kernel_rfl) (by simp) ?_
              refine RG.cons rfl rfl (fun K' hK => ?_) RG.nil
              go_simp
              clear yc yt
              refine hK.out _ _ ⟨HD7.out, fun _ => trivial, fun _ => trivial⟩ (fun hS => ?_)
              clear hK K'
              try simp only [Act.put, List.setIfInBounds_toArray, List.set_cons_zero, List.set_cons_succ]
              clear hS
              refine wpG_done (by kernel_rfl) ?_ _
              go_wp2_with fail
              go_meet
              exact ⟨h3, h4, lo, hi, lo', hi', A1, A2, A3, B1, B2, B3, c1, c2, c3, d1, d2, d3, l3, m3, rfl, rfl, HF.out⟩
    case rest =>
      obtain ⟨h3, h4, lo, hi, lo', hi', A1, A2, A3, B1, B2, B3, c1, c2, c3, d1, d2, d3, l3, m3, rfl, rfl, HT⟩ := hcut
      clear CO R2 HB2
      have hu : l3 = m3 := HT.out.i3.2.2.2.1.uniq HT.out.i4.2.2.2.1
      subst hu
      have hl3 : l3.length = st.bad.length := HT.out.i3.2.2.2.1.len
      have hbd : st.bs.length + st.ms.length + st.bad.length ≤ 100000000 := HT.out.i3.2.2.2.2.2
      obtain ⟨n1, hn1⟩ : ∃ n1, n1 = st.bs.length := ⟨_, rfl⟩
      obtain ⟨n2, hn2⟩ : ∃ n2, n2 = st.ms.length := ⟨_, rfl⟩
      obtain ⟨n3, hn3⟩ : ∃ n3, n3 = st.bad.length := ⟨_, rfl⟩
      have HN := Lib.hid (show n1 = st.bs.length ∧ n2 = st.ms.length ∧ n3 = st.bad.length from ⟨hn1, hn2, hn3⟩)
      have HL3 := Lib.hid hl3
      have hm : n1 + n2 + n3 ≤ 100000000 := by omega
      clear hbd hl3 hn1 hn2 hn3
      have y3 := HT.out.r3.cell
      have y4 := HT.out.r4.cell
      rw [← HN.out.1, ← HN.out.2.1, ← HN.out.2.2] at y3 y4
      go_wp2_with fail
      clear y3 y4
      have HT0 := HT
      clear HT
      go_loopg [44] (n1 + 1) (fun kx s wr => ∃ (i : Nat), s = .int .i64 i ∧ n1 - i ≤ kx ∧ i ≤ n1 ∧ Hid (Two w wr st h3 h4 lo hi lo' hi' A1 A2 A3 B1 B2 B3 c1 c2 c3 d1 d2 d3 l3 l3))
      case atStart => exact ⟨0, rfl, by omega, by omega, HT0.out⟩
      case round =>
        clear HT0
        obtain ⟨i, rfl, hkx, hin, HT⟩ := hrel
        by_cases hi1 : i < n1
        · have hil : (i : Int) < (n1 : Int) := by omega
          have hii : i < st.bs.length := by have := HN.out; have := HL3.out; omega
          obtain ⟨x, hx⟩ : ∃ x, st.bs[i]? = some x := ⟨st.bs[i], List.getElem?_eq_getElem hii⟩
          obtain ⟨g1, eg1, _, hg1, hc1⟩ := HT.out.i3.1 (by omega)
          obtain ⟨g2, eg2, _, hg2, hc2⟩ := HT.out.i4.1 (by omega)
          subst eg1 eg2
          have HC1 : Hid (∀ j u, (bdC x)[j]? = some u → wr.cell? ⟨g1, i * 4 + j, none⟩ = some u) := hc1 i x hx
          have HC2 : Hid (∀ j u, (bdC x)[j]? = some u → wr.cell? ⟨g2, i * 4 + j, none⟩ = some u) := hc2 i x hx
          clear hc1 hc2 hx hg1 hg2 hii
          have R3 := Lib.hid HT.out.r3
          have R4 := Lib.hid HT.out.r4
          rw [← HN.out.1, ← HN.out.2.1, ← HN.out.2.2] at R3 R4
          go_wp2_with fail
          refine wp_region_G (S := SG (fun w' => RowB w' h3 34 #[.slice (some ⟨g1, 0, none⟩) n1 c1, .slice A2 n2 c2, .slice A3 n3 c3] ∧ RowB w' h4 34 #[.slice (some ⟨g2, 0, none⟩) n1 d1, .slice B2 n2 d2, .slice B3 n3 d3] ∧ (∀ j u, (bdC x)[j]? = some u → w'.cell? ⟨g1, i * 4 + j, none⟩ = some u) ∧ ∀ j u, (bdC x)[j]? = some u → w'.cell? ⟨g2, i * 4 + j, none⟩ = some u) 98 (fun _ => True) 99 (fun _ => True)) (by kernel_rfl) ⟨⟨R3.out, R4.out, HC1.out, HC2.out⟩, fun _ => trivial, fun _ => trivial⟩ (fun hS => ?_)
          obtain ⟨WD, hWD⟩ : ∃ WD, WD = wr.drew := ⟨_, rfl⟩
          have HT := Lib.hid HT.out.drew
          rw [← hWD] at hS HT ⊢
          clear hWD HC1 HC2 R3 R4
          refine wpG_take0 (i := 0) (v := ?v3) rfl (by kernel_rfl) (by kernel_rfl) (by kernel_rfl) (by decide) (by decide) (fun _ _ _ h => h) hS (Or.inl ⟨by rfl, ?hy3⟩) ?rest3
          case hy3 => (intro w' hw; obtain ⟨q1, q2, q3, q4⟩ := hw; have u0 := q1.cell; have u1 := q2.cell; have d0 : w'.cell? ⟨g1, i * 4, none⟩ = some (.int .i64 x.at_) := q3 0 _ rfl; have e0 : w'.cell? ⟨g2, i * 4, none⟩ = some (.int .i64 x.at_) := q4 0 _ rfl; have d1 : w'.cell? ⟨g1, i * 4 + 1, none⟩ = some (.int .i64 x.kind) := q3 1 _ rfl; have e1 : w'.cell? ⟨g2, i * 4 + 1, none⟩ = some (.int .i64 x.kind) := q4 1 _ rfl; have d2 : w'.cell? ⟨g1, i * 4 + 2, none⟩ = some (.string x.word) := q3 2 _ rfl; have e2 : w'.cell? ⟨g2, i * 4 + 2, none⟩ = some (.string x.word) := q4 2 _ rfl; have d3 : w'.cell? ⟨g1, i * 4 + 3, none⟩ = some (.int .i64 x.item) := q3 3 _ rfl; have e3 : w'.cell? ⟨g2, i * 4 + 3, none⟩ = some (.int .i64 x.item) := q4 3 _ rfl; go_simp; try with_reducible rfl)
          replace hS := SG.set (i := 0) (by decide) (by decide) hS
          try simp only [Act.put, List.setIfInBounds_toArray, List.set_cons_zero, List.set_cons_succ]
          refine wpG_take0 (i := 1) (v := ?v4) rfl (by kernel_rfl) (by kernel_rfl) (by kernel_rfl) (by decide) (by decide) (fun _ _ _ h => h) hS (Or.inl ⟨by rfl, ?hy4⟩) ?rest4
          case hy4 => (intro w' hw; obtain ⟨q1, q2, q3, q4⟩ := hw; have u0 := q1.cell; have u1 := q2.cell; have d0 : w'.cell? ⟨g1, i * 4, none⟩ = some (.int .i64 x.at_) := q3 0 _ rfl; have e0 : w'.cell? ⟨g2, i * 4, none⟩ = some (.int .i64 x.at_) := q4 0 _ rfl; have d1 : w'.cell? ⟨g1, i * 4 + 1, none⟩ = some (.int .i64 x.kind) := q3 1 _ rfl; have e1 : w'.cell? ⟨g2, i * 4 + 1, none⟩ = some (.int .i64 x.kind) := q4 1 _ rfl; have d2 : w'.cell? ⟨g1, i * 4 + 2, none⟩ = some (.string x.word) := q3 2 _ rfl; have e2 : w'.cell? ⟨g2, i * 4 + 2, none⟩ = some (.string x.word) := q4 2 _ rfl; have d3 : w'.cell? ⟨g1, i * 4 + 3, none⟩ = some (.int .i64 x.item) := q3 3 _ rfl; have e3 : w'.cell? ⟨g2, i * 4 + 3, none⟩ = some (.int .i64 x.item) := q4 3 _ rfl; go_simp; try with_reducible rfl)
          replace hS := SG.set (i := 1) (by decide) (by decide) hS
          try simp only [Act.put, List.setIfInBounds_toArray, List.set_cons_zero, List.set_cons_succ]
          refine wpG_take0 (i := 2) (v := ?v5) rfl (by kernel_rfl) (by kernel_rfl) (by kernel_rfl) (by decide) (by decide) (fun _ _ _ h => h) hS (Or.inl ⟨by rfl, ?hy5⟩) ?rest5
          case hy5 => (intro w' hw; obtain ⟨q1, q2, q3, q4⟩ := hw; have u0 := q1.cell; have u1 := q2.cell; have d0 : w'.cell? ⟨g1, i * 4, none⟩ = some (.int .i64 x.at_) := q3 0 _ rfl; have e0 : w'.cell? ⟨g2, i * 4, none⟩ = some (.int .i64 x.at_) := q4 0 _ rfl; have d1 : w'.cell? ⟨g1, i * 4 + 1, none⟩ = some (.int .i64 x.kind) := q3 1 _ rfl; have e1 : w'.cell? ⟨g2, i * 4 + 1, none⟩ = some (.int .i64 x.kind) := q4 1 _ rfl; have d2 : w'.cell? ⟨g1, i * 4 + 2, none⟩ = some (.string x.word) := q3 2 _ rfl; have e2 : w'.cell? ⟨g2, i * 4 + 2, none⟩ = some (.string x.word) := q4 2 _ rfl; have d3 : w'.cell? ⟨g1, i * 4 + 3, none⟩ = some (.int .i64 x.item) := q3 3 _ rfl; have e3 : w'.cell? ⟨g2, i * 4 + 3, none⟩ = some (.int .i64 x.item) := q4 3 _ rfl; go_simp; try with_reducible rfl)
          replace hS := SG.set (i := 2) (by decide) (by decide) hS
          try simp only [Act.put, List.setIfInBounds_toArray, List.set_cons_zero, List.set_cons_succ]
          refine wpG_take0 (i := 3) (v := ?v6) rfl (by kernel_rfl) (by kernel_rfl) (by kernel_rfl) (by decide) (by decide) (fun _ _ _ h => h) hS (Or.inl ⟨by rfl, ?hy6⟩) ?rest6
          case hy6 => (intro w' hw; obtain ⟨q1, q2, q3, q4⟩ := hw; have u0 := q1.cell; have u1 := q2.cell; have d0 : w'.cell? ⟨g1, i * 4, none⟩ = some (.int .i64 x.at_) := q3 0 _ rfl; have e0 : w'.cell? ⟨g2, i * 4, none⟩ = some (.int .i64 x.at_) := q4 0 _ rfl; have d1 : w'.cell? ⟨g1, i * 4 + 1, none⟩ = some (.int .i64 x.kind) := q3 1 _ rfl; have e1 : w'.cell? ⟨g2, i * 4 + 1, none⟩ = some (.int .i64 x.kind) := q4 1 _ rfl; have d2 : w'.cell? ⟨g1, i * 4 + 2, none⟩ = some (.string x.word) := q3 2 _ rfl; have e2 : w'.cell? ⟨g2, i * 4 + 2, none⟩ = some (.string x.word) := q4 2 _ rfl; have d3 : w'.cell? ⟨g1, i * 4 + 3, none⟩ = some (.int .i64 x.item) := q3 3 _ rfl; have e3 : w'.cell? ⟨g2, i * 4 + 3, none⟩ = some (.int .i64 x.item) := q4 3 _ rfl; go_simp; try with_reducible rfl)
          replace hS := SG.set (i := 3) (by decide) (by decide) hS
          try simp only [Act.put, List.setIfInBounds_toArray, List.set_cons_zero, List.set_cons_succ]
          refine wpG_take0 (i := 4) (v := ?v7) rfl (by kernel_rfl) (by kernel_rfl) (by kernel_rfl) (by decide) (by decide) (fun _ _ _ h => h) hS (Or.inl ⟨by rfl, ?hy7⟩) ?rest7
          case hy7 => (intro w' hw; obtain ⟨q1, q2, q3, q4⟩ := hw; have u0 := q1.cell; have u1 := q2.cell; have d0 : w'.cell? ⟨g1, i * 4, none⟩ = some (.int .i64 x.at_) := q3 0 _ rfl; have e0 : w'.cell? ⟨g2, i * 4, none⟩ = some (.int .i64 x.at_) := q4 0 _ rfl; have d1 : w'.cell? ⟨g1, i * 4 + 1, none⟩ = some (.int .i64 x.kind) := q3 1 _ rfl; have e1 : w'.cell? ⟨g2, i * 4 + 1, none⟩ = some (.int .i64 x.kind) := q4 1 _ rfl; have d2 : w'.cell? ⟨g1, i * 4 + 2, none⟩ = some (.string x.word) := q3 2 _ rfl; have e2 : w'.cell? ⟨g2, i * 4 + 2, none⟩ = some (.string x.word) := q4 2 _ rfl; have d3 : w'.cell? ⟨g1, i * 4 + 3, none⟩ = some (.int .i64 x.item) := q3 3 _ rfl; have e3 : w'.cell? ⟨g2, i * 4 + 3, none⟩ = some (.int .i64 x.item) := q4 3 _ rfl; go_simp; try with_reducible rfl)
          replace hS := SG.set (i := 4) (by decide) (by decide) hS
          try simp only [Act.put, List.setIfInBounds_toArray, List.set_cons_zero, List.set_cons_succ]
          refine wpG_take0 (i := 5) (v := ?v8) rfl (by kernel_rfl) (by kernel_rfl) (by kernel_rfl) (by decide) (by decide) (fun _ _ _ h => h) hS (Or.inl ⟨by rfl, ?hy8⟩) ?rest8
          case hy8 => (intro w' hw; obtain ⟨q1, q2, q3, q4⟩ := hw; have u0 := q1.cell; have u1 := q2.cell; have d0 : w'.cell? ⟨g1, i * 4, none⟩ = some (.int .i64 x.at_) := q3 0 _ rfl; have e0 : w'.cell? ⟨g2, i * 4, none⟩ = some (.int .i64 x.at_) := q4 0 _ rfl; have d1 : w'.cell? ⟨g1, i * 4 + 1, none⟩ = some (.int .i64 x.kind) := q3 1 _ rfl; have e1 : w'.cell? ⟨g2, i * 4 + 1, none⟩ = some (.int .i64 x.kind) := q4 1 _ rfl; have d2 : w'.cell? ⟨g1, i * 4 + 2, none⟩ = some (.string x.word) := q3 2 _ rfl; have e2 : w'.cell? ⟨g2, i * 4 + 2, none⟩ = some (.string x.word) := q4 2 _ rfl; have d3 : w'.cell? ⟨g1, i * 4 + 3, none⟩ = some (.int .i64 x.item) := q3 3 _ rfl; have e3 : w'.cell? ⟨g2, i * 4 + 3, none⟩ = some (.int .i64 x.item) := q4 3 _ rfl; go_simp; try with_reducible rfl)
          replace hS := SG.set (i := 5) (by decide) (by decide) hS
          try simp only [Act.put, List.setIfInBounds_toArray, List.set_cons_zero, List.set_cons_succ]
          refine wpG_take0 (i := 6) (v := ?v9) rfl (by kernel_rfl) (by kernel_rfl) (by kernel_rfl) (by decide) (by decide) (fun _ _ _ h => h) hS (Or.inl ⟨by rfl, ?hy9⟩) ?rest9
          case hy9 => (intro w' hw; obtain ⟨q1, q2, q3, q4⟩ := hw; have u0 := q1.cell; have u1 := q2.cell; have d0 : w'.cell? ⟨g1, i * 4, none⟩ = some (.int .i64 x.at_) := q3 0 _ rfl; have e0 : w'.cell? ⟨g2, i * 4, none⟩ = some (.int .i64 x.at_) := q4 0 _ rfl; have d1 : w'.cell? ⟨g1, i * 4 + 1, none⟩ = some (.int .i64 x.kind) := q3 1 _ rfl; have e1 : w'.cell? ⟨g2, i * 4 + 1, none⟩ = some (.int .i64 x.kind) := q4 1 _ rfl; have d2 : w'.cell? ⟨g1, i * 4 + 2, none⟩ = some (.string x.word) := q3 2 _ rfl; have e2 : w'.cell? ⟨g2, i * 4 + 2, none⟩ = some (.string x.word) := q4 2 _ rfl; have d3 : w'.cell? ⟨g1, i * 4 + 3, none⟩ = some (.int .i64 x.item) := q3 3 _ rfl; have e3 : w'.cell? ⟨g2, i * 4 + 3, none⟩ = some (.int .i64 x.item) := q4 3 _ rfl; go_simp; try with_reducible rfl)
          replace hS := SG.set (i := 6) (by decide) (by decide) hS
          try simp only [Act.put, List.setIfInBounds_toArray, List.set_cons_zero, List.set_cons_succ]
          refine wpG_take0 (i := 7) (v := ?v10) rfl (by kernel_rfl) (by kernel_rfl) (by kernel_rfl) (by decide) (by decide) (fun _ _ _ h => h) hS (Or.inl ⟨by rfl, ?hy10⟩) ?rest10
          case hy10 => (intro w' hw; obtain ⟨q1, q2, q3, q4⟩ := hw; have u0 := q1.cell; have u1 := q2.cell; have d0 : w'.cell? ⟨g1, i * 4, none⟩ = some (.int .i64 x.at_) := q3 0 _ rfl; have e0 : w'.cell? ⟨g2, i * 4, none⟩ = some (.int .i64 x.at_) := q4 0 _ rfl; have d1 : w'.cell? ⟨g1, i * 4 + 1, none⟩ = some (.int .i64 x.kind) := q3 1 _ rfl; have e1 : w'.cell? ⟨g2, i * 4 + 1, none⟩ = some (.int .i64 x.kind) := q4 1 _ rfl; have d2 : w'.cell? ⟨g1, i * 4 + 2, none⟩ = some (.string x.word) := q3 2 _ rfl; have e2 : w'.cell? ⟨g2, i * 4 + 2, none⟩ = some (.string x.word) := q4 2 _ rfl; have d3 : w'.cell? ⟨g1, i * 4 + 3, none⟩ = some (.int .i64 x.item) := q3 3 _ rfl; have e3 : w'.cell? ⟨g2, i * 4 + 3, none⟩ = some (.int .i64 x.item) := q4 3 _ rfl; go_simp; try with_reducible rfl)
          replace hS := SG.set (i := 7) (by decide) (by decide) hS
          try simp only [Act.put, List.setIfInBounds_toArray, List.set_cons_zero, List.set_cons_succ]
          refine wpG_take0 (i := 8) (v := ?v11) rfl (by kernel_rfl) (by kernel_rfl) (by kernel_rfl) (by decide) (by decide) (fun _ _ _ h => h) hS (Or.inl ⟨by rfl, ?hy11⟩) ?rest11
          case hy11 => (intro w' hw; obtain ⟨q1, q2, q3, q4⟩ := hw; have u0 := q1.cell; have u1 := q2.cell; have d0 : w'.cell? ⟨g1, i * 4, none⟩ = some (.int .i64 x.at_) := q3 0 _ rfl; have e0 : w'.cell? ⟨g2, i * 4, none⟩ = some (.int .i64 x.at_) := q4 0 _ rfl; have d1 : w'.cell? ⟨g1, i * 4 + 1, none⟩ = some (.int .i64 x.kind) := q3 1 _ rfl; have e1 : w'.cell? ⟨g2, i * 4 + 1, none⟩ = some (.int .i64 x.kind) := q4 1 _ rfl; have d2 : w'.cell? ⟨g1, i * 4 + 2, none⟩ = some (.string x.word) := q3 2 _ rfl; have e2 : w'.cell? ⟨g2, i * 4 + 2, none⟩ = some (.string x.word) := q4 2 _ rfl; have d3 : w'.cell? ⟨g1, i * 4 + 3, none⟩ = some (.int .i64 x.item) := q3 3 _ rfl; have e3 : w'.cell? ⟨g2, i * 4 + 3, none⟩ = some (.int .i64 x.item) := q4 3 _ rfl; go_simp; try with_reducible rfl)
          replace hS := SG.set (i := 8) (by decide) (by decide) hS
          try simp only [Act.put, List.setIfInBounds_toArray, List.set_cons_zero, List.set_cons_succ]
          refine wpG_take0 (i := 9) (v := ?v12) rfl (by kernel_rfl) (by kernel_rfl) (by kernel_rfl) (by decide) (by decide) (fun _ _ _ h => h) hS (Or.inl ⟨by rfl, ?hy12⟩) ?rest12
          case hy12 => (intro w' hw; obtain ⟨q1, q2, q3, q4⟩ := hw; have u0 := q1.cell; have u1 := q2.cell; have d0 : w'.cell? ⟨g1, i * 4, none⟩ = some (.int .i64 x.at_) := q3 0 _ rfl; have e0 : w'.cell? ⟨g2, i * 4, none⟩ = some (.int .i64 x.at_) := q4 0 _ rfl; have d1 : w'.cell? ⟨g1, i * 4 + 1, none⟩ = some (.int .i64 x.kind) := q3 1 _ rfl; have e1 : w'.cell? ⟨g2, i * 4 + 1, none⟩ = some (.int .i64 x.kind) := q4 1 _ rfl; have d2 : w'.cell? ⟨g1, i * 4 + 2, none⟩ = some (.string x.word) := q3 2 _ rfl; have e2 : w'.cell? ⟨g2, i * 4 + 2, none⟩ = some (.string x.word) := q4 2 _ rfl; have d3 : w'.cell? ⟨g1, i * 4 + 3, none⟩ = some (.int .i64 x.item) := q3 3 _ rfl; have e3 : w'.cell? ⟨g2, i * 4 + 3, none⟩ = some (.int .i64 x.item) := q4 3 _ rfl; go_simp; try with_reducible rfl)
          replace hS := SG.set (i := 9) (by decide) (by decide) hS
          try simp only [Act.put, List.setIfInBounds_toArray, List.set_cons_zero, List.set_cons_succ]
          have hne := ne45 x.at_ x.kind x.item x.word
          refine wpG_take0 (i := 10) (v := ?v13) rfl (by kernel_rfl) (by kernel_rfl) (by kernel_rfl) (by decide) (by decide) (fun _ _ _ h => h) hS (Or.inl ⟨by rfl, ?hy13⟩) ?rest13
          case hy13 => (intro w' hw; go_simp; try with_reducible rfl)
          replace hS := SG.set (i := 10) (by decide) (by decide) hS
          try simp only [Act.put, List.setIfInBounds_toArray, List.set_cons_zero, List.set_cons_succ]
          clear hS hne
          refine wpG_done (by kernel_rfl) ?_ _
          go_wp2_with fail
          have hw1 : IntKind.i64.wrap ((i : Int) + 1) = ((i + 1 : Nat) : Int) := by rw [IntKind.wrap_i64]; omega
          try rw [hw1]
          go_roundg (n1 - (i + 1))
          case measure => omega
          case rel => exact ⟨i + 1, by first | rfl | rw [hw1] | simp, by omega, by omega, HT.out⟩
        · have hd1 : decide ((i : Int) < (n1 : Int)) = false := decide_eq_false (by omega)
          have y3 := HT.out.r3.cell
          have y4 := HT.out.r4.cell
          rw [← HN.out.1, ← HN.out.2.1, ← HN.out.2.2] at y3 y4
          go_wp2_with fail
          clear y3 y4
          have HT0 := HT
          clear HT
          go_loopg [62] (n2 + 1) (fun kx s wr => ∃ (i : Nat), s = .int .i64 i ∧ n2 - i ≤ kx ∧ i ≤ n2 ∧ Hid (Two w wr st h3 h4 lo hi lo' hi' A1 A2 A3 B1 B2 B3 c1 c2 c3 d1 d2 d3 l3 l3))
          case atStart => exact ⟨0, rfl, by omega, by omega, HT0.out⟩
          case round =>
            clear HT0
            obtain ⟨i, rfl, hkx, hin, HT⟩ := hrel
            by_cases hi1 : i < n2
            · have hil : (i : Int) < (n2 : Int) := by omega
              have hii : i < st.ms.length := by have := HN.out; have := HL3.out; omega
              obtain ⟨x, hx⟩ : ∃ x, st.ms[i]? = some x := ⟨st.ms[i], List.getElem?_eq_getElem hii⟩
              obtain ⟨g1, eg1, _, hg1, hc1⟩ := HT.out.i3.2.1 (by omega)
              obtain ⟨g2, eg2, _, hg2, hc2⟩ := HT.out.i4.2.1 (by omega)
              subst eg1 eg2
              have HC1 : Hid (∀ j u, (mnC x)[j]? = some u → wr.cell? ⟨g1, i * 4 + j, none⟩ = some u) := hc1 i x hx
              have HC2 : Hid (∀ j u, (mnC x)[j]? = some u → wr.cell? ⟨g2, i * 4 + j, none⟩ = some u) := hc2 i x hx
              clear hc1 hc2 hx hg1 hg2 hii
              have R3 := Lib.hid HT.out.r3
              have R4 := Lib.hid HT.out.r4
              rw [← HN.out.1, ← HN.out.2.1, ← HN.out.2.2] at R3 R4
              go_wp2_with fail
              refine wp_region_G (S := SG (fun w' => RowB w' h3 34 #[.slice A1 n1 c1, .slice (some ⟨g1, 0, none⟩) n2 c2, .slice A3 n3 c3] ∧ RowB w' h4 34 #[.slice B1 n1 d1, .slice (some ⟨g2, 0, none⟩) n2 d2, .slice B3 n3 d3] ∧ (∀ j u, (mnC x)[j]? = some u → w'.cell? ⟨g1, i * 4 + j, none⟩ = some u) ∧ ∀ j u, (mnC x)[j]? = some u → w'.cell? ⟨g2, i * 4 + j, none⟩ = some u) 98 (fun _ => True) 99 (fun _ => True)) (by kernel_rfl) ⟨⟨R3.out, R4.out, HC1.out, HC2.out⟩, fun _ => trivial, fun _ => trivial⟩ (fun hS => ?_)
              obtain ⟨WD, hWD⟩ : ∃ WD, WD = wr.drew := ⟨_, rfl⟩
              have HT := Lib.hid HT.out.drew
              rw [← hWD] at hS HT ⊢
              clear hWD HC1 HC2 R3 R4
              refine wpG_take0 (i := 0) (v := ?v14) rfl (by kernel_rfl) (by kernel_rfl) (by kernel_rfl) (by decide) (by decide) (fun _ _ _ h => h) hS (Or.inl ⟨by rfl, ?hy14⟩) ?rest14
              case hy14 => (intro w' hw; obtain ⟨q1, q2, q3, q4⟩ := hw; have u0 := q1.cell; have u1 := q2.cell; have d0 : w'.cell? ⟨g1, i * 4, none⟩ = some (.int .i64 x.at_) := q3 0 _ rfl; have e0 : w'.cell? ⟨g2, i * 4, none⟩ = some (.int .i64 x.at_) := q4 0 _ rfl; have d1 : w'.cell? ⟨g1, i * 4 + 1, none⟩ = some (.int .i64 x.to) := q3 1 _ rfl; have e1 : w'.cell? ⟨g2, i * 4 + 1, none⟩ = some (.int .i64 x.to) := q4 1 _ rfl; have d2 : w'.cell? ⟨g1, i * 4 + 2, none⟩ = some (.bool x.write) := q3 2 _ rfl; have e2 : w'.cell? ⟨g2, i * 4 + 2, none⟩ = some (.bool x.write) := q4 2 _ rfl; have d3 : w'.cell? ⟨g1, i * 4 + 3, none⟩ = some (.int .i64 x.far) := q3 3 _ rfl; have e3 : w'.cell? ⟨g2, i * 4 + 3, none⟩ = some (.int .i64 x.far) := q4 3 _ rfl; go_simp; try with_reducible rfl)
              replace hS := SG.set (i := 0) (by decide) (by decide) hS
              try simp only [Act.put, List.setIfInBounds_toArray, List.set_cons_zero, List.set_cons_succ]
              refine wpG_take0 (i := 1) (v := ?v15) rfl (by kernel_rfl) (by kernel_rfl) (by kernel_rfl) (by decide) (by decide) (fun _ _ _ h => h) hS (Or.inl ⟨by rfl, ?hy15⟩) ?rest15
              case hy15 => (intro w' hw; obtain ⟨q1, q2, q3, q4⟩ := hw; have u0 := q1.cell; have u1 := q2.cell; have d0 : w'.cell? ⟨g1, i * 4, none⟩ = some (.int .i64 x.at_) := q3 0 _ rfl; have e0 : w'.cell? ⟨g2, i * 4, none⟩ = some (.int .i64 x.at_) := q4 0 _ rfl; have d1 : w'.cell? ⟨g1, i * 4 + 1, none⟩ = some (.int .i64 x.to) := q3 1 _ rfl; have e1 : w'.cell? ⟨g2, i * 4 + 1, none⟩ = some (.int .i64 x.to) := q4 1 _ rfl; have d2 : w'.cell? ⟨g1, i * 4 + 2, none⟩ = some (.bool x.write) := q3 2 _ rfl; have e2 : w'.cell? ⟨g2, i * 4 + 2, none⟩ = some (.bool x.write) := q4 2 _ rfl; have d3 : w'.cell? ⟨g1, i * 4 + 3, none⟩ = some (.int .i64 x.far) := q3 3 _ rfl; have e3 : w'.cell? ⟨g2, i * 4 + 3, none⟩ = some (.int .i64 x.far) := q4 3 _ rfl; go_simp; try with_reducible rfl)
              replace hS := SG.set (i := 1) (by decide) (by decide) hS
              try simp only [Act.put, List.setIfInBounds_toArray, List.set_cons_zero, List.set_cons_succ]
              refine wpG_take0 (i := 2) (v := ?v16) rfl (by kernel_rfl) (by kernel_rfl) (by kernel_rfl) (by decide) (by decide) (fun _ _ _ h => h) hS (Or.inl ⟨by rfl, ?hy16⟩) ?rest16
              case hy16 => (intro w' hw; obtain ⟨q1, q2, q3, q4⟩ := hw; have u0 := q1.cell; have u1 := q2.cell; have d0 : w'.cell? ⟨g1, i * 4, none⟩ = some (.int .i64 x.at_) := q3 0 _ rfl; have e0 : w'.cell? ⟨g2, i * 4, none⟩ = some (.int .i64 x.at_) := q4 0 _ rfl; have d1 : w'.cell? ⟨g1, i * 4 + 1, none⟩ = some (.int .i64 x.to) := q3 1 _ rfl; have e1 : w'.cell? ⟨g2, i * 4 + 1, none⟩ = some (.int .i64 x.to) := q4 1 _ rfl; have d2 : w'.cell? ⟨g1, i * 4 + 2, none⟩ = some (.bool x.write) := q3 2 _ rfl; have e2 : w'.cell? ⟨g2, i * 4 + 2, none⟩ = some (.bool x.write) := q4 2 _ rfl; have d3 : w'.cell? ⟨g1, i * 4 + 3, none⟩ = some (.int .i64 x.far) := q3 3 _ rfl; have e3 : w'.cell? ⟨g2, i * 4 + 3, none⟩ = some (.int .i64 x.far) := q4 3 _ rfl; go_simp; try with_reducible rfl)
              replace hS := SG.set (i := 2) (by decide) (by decide) hS
              try simp only [Act.put, List.setIfInBounds_toArray, List.set_cons_zero, List.set_cons_succ]
              refine wpG_take0 (i := 3) (v := ?v17) rfl (by kernel_rfl) (by kernel_rfl) (by kernel_rfl) (by decide) (by decide) (fun _ _ _ h => h) hS (Or.inl ⟨by rfl, ?hy17⟩) ?rest17
              case hy17 => (intro w' hw; obtain ⟨q1, q2, q3, q4⟩ := hw; have u0 := q1.cell; have u1 := q2.cell; have d0 : w'.cell? ⟨g1, i * 4, none⟩ = some (.int .i64 x.at_) := q3 0 _ rfl; have e0 : w'.cell? ⟨g2, i * 4, none⟩ = some (.int .i64 x.at_) := q4 0 _ rfl; have d1 : w'.cell? ⟨g1, i * 4 + 1, none⟩ = some (.int .i64 x.to) := q3 1 _ rfl; have e1 : w'.cell? ⟨g2, i * 4 + 1, none⟩ = some (.int .i64 x.to) := q4 1 _ rfl; have d2 : w'.cell? ⟨g1, i * 4 + 2, none⟩ = some (.bool x.write) := q3 2 _ rfl; have e2 : w'.cell? ⟨g2, i * 4 + 2, none⟩ = some (.bool x.write) := q4 2 _ rfl; have d3 : w'.cell? ⟨g1, i * 4 + 3, none⟩ = some (.int .i64 x.far) := q3 3 _ rfl; have e3 : w'.cell? ⟨g2, i * 4 + 3, none⟩ = some (.int .i64 x.far) := q4 3 _ rfl; go_simp; try with_reducible rfl)
              replace hS := SG.set (i := 3) (by decide) (by decide) hS
              try simp only [Act.put, List.setIfInBounds_toArray, List.set_cons_zero, List.set_cons_succ]
              refine wpG_take0 (i := 4) (v := ?v18) rfl (by kernel_rfl) (by kernel_rfl) (by kernel_rfl) (by decide) (by decide) (fun _ _ _ h => h) hS (Or.inl ⟨by rfl, ?hy18⟩) ?rest18
              case hy18 => (intro w' hw; obtain ⟨q1, q2, q3, q4⟩ := hw; have u0 := q1.cell; have u1 := q2.cell; have d0 : w'.cell? ⟨g1, i * 4, none⟩ = some (.int .i64 x.at_) := q3 0 _ rfl; have e0 : w'.cell? ⟨g2, i * 4, none⟩ = some (.int .i64 x.at_) := q4 0 _ rfl; have d1 : w'.cell? ⟨g1, i * 4 + 1, none⟩ = some (.int .i64 x.to) := q3 1 _ rfl; have e1 : w'.cell? ⟨g2, i * 4 + 1, none⟩ = some (.int .i64 x.to) := q4 1 _ rfl; have d2 : w'.cell? ⟨g1, i * 4 + 2, none⟩ = some (.bool x.write) := q3 2 _ rfl; have e2 : w'.cell? ⟨g2, i * 4 + 2, none⟩ = some (.bool x.write) := q4 2 _ rfl; have d3 : w'.cell? ⟨g1, i * 4 + 3, none⟩ = some (.int .i64 x.far) := q3 3 _ rfl; have e3 : w'.cell? ⟨g2, i * 4 + 3, none⟩ = some (.int .i64 x.far) := q4 3 _ rfl; go_simp; try with_reducible rfl)
              replace hS := SG.set (i := 4) (by decide) (by decide) hS
              try simp only [Act.put, List.setIfInBounds_toArray, List.set_cons_zero, List.set_cons_succ]
              refine wpG_take0 (i := 5) (v := ?v19) rfl (by kernel_rfl) (by kernel_rfl) (by kernel_rfl) (by decide) (by decide) (fun _ _ _ h => h) hS (Or.inl ⟨by rfl, ?hy19⟩) ?rest19
              case hy19 => (intro w' hw; obtain ⟨q1, q2, q3, q4⟩ := hw; have u0 := q1.cell; have u1 := q2.cell; have d0 : w'.cell? ⟨g1, i * 4, none⟩ = some (.int .i64 x.at_) := q3 0 _ rfl; have e0 : w'.cell? ⟨g2, i * 4, none⟩ = some (.int .i64 x.at_) := q4 0 _ rfl; have d1 : w'.cell? ⟨g1, i * 4 + 1, none⟩ = some (.int .i64 x.to) := q3 1 _ rfl; have e1 : w'.cell? ⟨g2, i * 4 + 1, none⟩ = some (.int .i64 x.to) := q4 1 _ rfl; have d2 : w'.cell? ⟨g1, i * 4 + 2, none⟩ = some (.bool x.write) := q3 2 _ rfl; have e2 : w'.cell? ⟨g2, i * 4 + 2, none⟩ = some (.bool x.write) := q4 2 _ rfl; have d3 : w'.cell? ⟨g1, i * 4 + 3, none⟩ = some (.int .i64 x.far) := q3 3 _ rfl; have e3 : w'.cell? ⟨g2, i * 4 + 3, none⟩ = some (.int .i64 x.far) := q4 3 _ rfl; go_simp; try with_reducible rfl)
              replace hS := SG.set (i := 5) (by decide) (by decide) hS
              try simp only [Act.put, List.setIfInBounds_toArray, List.set_cons_zero, List.set_cons_succ]
              refine wpG_take0 (i := 6) (v := ?v20) rfl (by kernel_rfl) (by kernel_rfl) (by kernel_rfl) (by decide) (by decide) (fun _ _ _ h => h) hS (Or.inl ⟨by rfl, ?hy20⟩) ?rest20
              case hy20 => (intro w' hw; obtain ⟨q1, q2, q3, q4⟩ := hw; have u0 := q1.cell; have u1 := q2.cell; have d0 : w'.cell? ⟨g1, i * 4, none⟩ = some (.int .i64 x.at_) := q3 0 _ rfl; have e0 : w'.cell? ⟨g2, i * 4, none⟩ = some (.int .i64 x.at_) := q4 0 _ rfl; have d1 : w'.cell? ⟨g1, i * 4 + 1, none⟩ = some (.int .i64 x.to) := q3 1 _ rfl; have e1 : w'.cell? ⟨g2, i * 4 + 1, none⟩ = some (.int .i64 x.to) := q4 1 _ rfl; have d2 : w'.cell? ⟨g1, i * 4 + 2, none⟩ = some (.bool x.write) := q3 2 _ rfl; have e2 : w'.cell? ⟨g2, i * 4 + 2, none⟩ = some (.bool x.write) := q4 2 _ rfl; have d3 : w'.cell? ⟨g1, i * 4 + 3, none⟩ = some (.int .i64 x.far) := q3 3 _ rfl; have e3 : w'.cell? ⟨g2, i * 4 + 3, none⟩ = some (.int .i64 x.far) := q4 3 _ rfl; go_simp; try with_reducible rfl)
              replace hS := SG.set (i := 6) (by decide) (by decide) hS
              try simp only [Act.put, List.setIfInBounds_toArray, List.set_cons_zero, List.set_cons_succ]
              refine wpG_take0 (i := 7) (v := ?v21) rfl (by kernel_rfl) (by kernel_rfl) (by kernel_rfl) (by decide) (by decide) (fun _ _ _ h => h) hS (Or.inl ⟨by rfl, ?hy21⟩) ?rest21
              case hy21 => (intro w' hw; obtain ⟨q1, q2, q3, q4⟩ := hw; have u0 := q1.cell; have u1 := q2.cell; have d0 : w'.cell? ⟨g1, i * 4, none⟩ = some (.int .i64 x.at_) := q3 0 _ rfl; have e0 : w'.cell? ⟨g2, i * 4, none⟩ = some (.int .i64 x.at_) := q4 0 _ rfl; have d1 : w'.cell? ⟨g1, i * 4 + 1, none⟩ = some (.int .i64 x.to) := q3 1 _ rfl; have e1 : w'.cell? ⟨g2, i * 4 + 1, none⟩ = some (.int .i64 x.to) := q4 1 _ rfl; have d2 : w'.cell? ⟨g1, i * 4 + 2, none⟩ = some (.bool x.write) := q3 2 _ rfl; have e2 : w'.cell? ⟨g2, i * 4 + 2, none⟩ = some (.bool x.write) := q4 2 _ rfl; have d3 : w'.cell? ⟨g1, i * 4 + 3, none⟩ = some (.int .i64 x.far) := q3 3 _ rfl; have e3 : w'.cell? ⟨g2, i * 4 + 3, none⟩ = some (.int .i64 x.far) := q4 3 _ rfl; go_simp; try with_reducible rfl)
              replace hS := SG.set (i := 7) (by decide) (by decide) hS
              try simp only [Act.put, List.setIfInBounds_toArray, List.set_cons_zero, List.set_cons_succ]
              refine wpG_take0 (i := 8) (v := ?v22) rfl (by kernel_rfl) (by kernel_rfl) (by kernel_rfl) (by decide) (by decide) (fun _ _ _ h => h) hS (Or.inl ⟨by rfl, ?hy22⟩) ?rest22
              case hy22 => (intro w' hw; obtain ⟨q1, q2, q3, q4⟩ := hw; have u0 := q1.cell; have u1 := q2.cell; have d0 : w'.cell? ⟨g1, i * 4, none⟩ = some (.int .i64 x.at_) := q3 0 _ rfl; have e0 : w'.cell? ⟨g2, i * 4, none⟩ = some (.int .i64 x.at_) := q4 0 _ rfl; have d1 : w'.cell? ⟨g1, i * 4 + 1, none⟩ = some (.int .i64 x.to) := q3 1 _ rfl; have e1 : w'.cell? ⟨g2, i * 4 + 1, none⟩ = some (.int .i64 x.to) := q4 1 _ rfl; have d2 : w'.cell? ⟨g1, i * 4 + 2, none⟩ = some (.bool x.write) := q3 2 _ rfl; have e2 : w'.cell? ⟨g2, i * 4 + 2, none⟩ = some (.bool x.write) := q4 2 _ rfl; have d3 : w'.cell? ⟨g1, i * 4 + 3, none⟩ = some (.int .i64 x.far) := q3 3 _ rfl; have e3 : w'.cell? ⟨g2, i * 4 + 3, none⟩ = some (.int .i64 x.far) := q4 3 _ rfl; go_simp; try with_reducible rfl)
              replace hS := SG.set (i := 8) (by decide) (by decide) hS
              try simp only [Act.put, List.setIfInBounds_toArray, List.set_cons_zero, List.set_cons_succ]
              refine wpG_take0 (i := 9) (v := ?v23) rfl (by kernel_rfl) (by kernel_rfl) (by kernel_rfl) (by decide) (by decide) (fun _ _ _ h => h) hS (Or.inl ⟨by rfl, ?hy23⟩) ?rest23
              case hy23 => (intro w' hw; obtain ⟨q1, q2, q3, q4⟩ := hw; have u0 := q1.cell; have u1 := q2.cell; have d0 : w'.cell? ⟨g1, i * 4, none⟩ = some (.int .i64 x.at_) := q3 0 _ rfl; have e0 : w'.cell? ⟨g2, i * 4, none⟩ = some (.int .i64 x.at_) := q4 0 _ rfl; have d1 : w'.cell? ⟨g1, i * 4 + 1, none⟩ = some (.int .i64 x.to) := q3 1 _ rfl; have e1 : w'.cell? ⟨g2, i * 4 + 1, none⟩ = some (.int .i64 x.to) := q4 1 _ rfl; have d2 : w'.cell? ⟨g1, i * 4 + 2, none⟩ = some (.bool x.write) := q3 2 _ rfl; have e2 : w'.cell? ⟨g2, i * 4 + 2, none⟩ = some (.bool x.write) := q4 2 _ rfl; have d3 : w'.cell? ⟨g1, i * 4 + 3, none⟩ = some (.int .i64 x.far) := q3 3 _ rfl; have e3 : w'.cell? ⟨g2, i * 4 + 3, none⟩ = some (.int .i64 x.far) := q4 3 _ rfl; go_simp; try with_reducible rfl)
              replace hS := SG.set (i := 9) (by decide) (by decide) hS
              try simp only [Act.put, List.setIfInBounds_toArray, List.set_cons_zero, List.set_cons_succ]
              have hne := ne47 x.at_ x.to x.far x.write
              refine wpG_take0 (i := 10) (v := ?v24) rfl (by kernel_rfl) (by kernel_rfl) (by kernel_rfl) (by decide) (by decide) (fun _ _ _ h => h) hS (Or.inl ⟨by rfl, ?hy24⟩) ?rest24
              case hy24 => (intro w' hw; go_simp; try with_reducible rfl)
              replace hS := SG.set (i := 10) (by decide) (by decide) hS
              try simp only [Act.put, List.setIfInBounds_toArray, List.set_cons_zero, List.set_cons_succ]
              clear hS hne
              refine wpG_done (by kernel_rfl) ?_ _
              go_wp2_with fail
              have hw1 : IntKind.i64.wrap ((i : Int) + 1) = ((i + 1 : Nat) : Int) := by rw [IntKind.wrap_i64]; omega
              try rw [hw1]
              go_roundg (n2 - (i + 1))
              case measure => omega
              case rel => exact ⟨i + 1, by first | rfl | rw [hw1] | simp, by omega, by omega, HT.out⟩
            · have hd1 : decide ((i : Int) < (n2 : Int)) = false := decide_eq_false (by omega)
              have y3 := HT.out.r3.cell
              have y4 := HT.out.r4.cell
              rw [← HN.out.1, ← HN.out.2.1, ← HN.out.2.2] at y3 y4
              go_wp2_with fail
              clear y3 y4
              have HT0 := HT
              clear HT
              go_loopg [80] (n3 + 1) (fun kx s wr => ∃ (i : Nat), s = .int .i64 i ∧ n3 - i ≤ kx ∧ i ≤ n3 ∧ Hid (Two w wr st h3 h4 lo hi lo' hi' A1 A2 A3 B1 B2 B3 c1 c2 c3 d1 d2 d3 l3 l3))
              case atStart => exact ⟨0, rfl, by omega, by omega, HT0.out⟩
              case round =>
                clear HT0
                obtain ⟨i, rfl, hkx, hin, HT⟩ := hrel
                by_cases hi1 : i < n3
                · have hil : (i : Int) < (n3 : Int) := by omega
                  have hii : i < l3.length := by have := HN.out; have := HL3.out; omega
                  obtain ⟨x, hx⟩ : ∃ x, l3[i]? = some x := ⟨l3[i], List.getElem?_eq_getElem hii⟩
                  obtain ⟨g1, eg1, _, hg1, hc1⟩ := HT.out.i3.2.2.1 (by omega)
                  obtain ⟨g2, eg2, _, hg2, hc2⟩ := HT.out.i4.2.2.1 (by omega)
                  subst eg1 eg2
                  have HC1 : Hid (∀ j u, (baC x)[j]? = some u → wr.cell? ⟨g1, i * 2 + j, none⟩ = some u) := hc1 i x hx
                  have HC2 : Hid (∀ j u, (baC x)[j]? = some u → wr.cell? ⟨g2, i * 2 + j, none⟩ = some u) := hc2 i x hx
                  clear hc1 hc2 hx hg1 hg2 hii
                  have R3 := Lib.hid HT.out.r3
                  have R4 := Lib.hid HT.out.r4
                  rw [← HN.out.1, ← HN.out.2.1, ← HN.out.2.2] at R3 R4
                  go_wp2_with fail
                  refine wp_region_G (S := SG (fun w' => RowB w' h3 34 #[.slice A1 n1 c1, .slice A2 n2 c2, .slice (some ⟨g1, 0, none⟩) n3 c3] ∧ RowB w' h4 34 #[.slice B1 n1 d1, .slice B2 n2 d2, .slice (some ⟨g2, 0, none⟩) n3 d3] ∧ (∀ j u, (baC x)[j]? = some u → w'.cell? ⟨g1, i * 2 + j, none⟩ = some u) ∧ ∀ j u, (baC x)[j]? = some u → w'.cell? ⟨g2, i * 2 + j, none⟩ = some u) 98 (fun _ => True) 99 (fun _ => True)) (by kernel_rfl) ⟨⟨R3.out, R4.out, HC1.out, HC2.out⟩, fun _ => trivial, fun _ => trivial⟩ (fun hS => ?_)
                  obtain ⟨WD, hWD⟩ : ∃ WD, WD = wr.drew := ⟨_, rfl⟩
                  have HT := Lib.hid HT.out.drew
                  rw [← hWD] at hS HT ⊢
                  clear hWD HC1 HC2 R3 R4
                  refine wpG_take0 (i := 0) (v := ?v25) rfl (by kernel_rfl) (by kernel_rfl) (by kernel_rfl) (by decide) (by decide) (fun _ _ _ h => h) hS (Or.inl ⟨by rfl, ?hy25⟩) ?rest25
                  case hy25 => (intro w' hw; obtain ⟨q1, q2, q3, q4⟩ := hw; have u0 := q1.cell; have u1 := q2.cell; have d0 : w'.cell? ⟨g1, i * 2, none⟩ = some (.int .i64 x.1) := q3 0 _ rfl; have e0 : w'.cell? ⟨g2, i * 2, none⟩ = some (.int .i64 x.1) := q4 0 _ rfl; have d1 : w'.cell? ⟨g1, i * 2 + 1, none⟩ = some (.int .i64 x.2) := q3 1 _ rfl; have e1 : w'.cell? ⟨g2, i * 2 + 1, none⟩ = some (.int .i64 x.2) := q4 1 _ rfl; go_simp; try with_reducible rfl)
                  replace hS := SG.set (i := 0) (by decide) (by decide) hS
                  try simp only [Act.put, List.setIfInBounds_toArray, List.set_cons_zero, List.set_cons_succ]
                  refine wpG_take0 (i := 1) (v := ?v26) rfl (by kernel_rfl) (by kernel_rfl) (by kernel_rfl) (by decide) (by decide) (fun _ _ _ h => h) hS (Or.inl ⟨by rfl, ?hy26⟩) ?rest26
                  case hy26 => (intro w' hw; obtain ⟨q1, q2, q3, q4⟩ := hw; have u0 := q1.cell; have u1 := q2.cell; have d0 : w'.cell? ⟨g1, i * 2, none⟩ = some (.int .i64 x.1) := q3 0 _ rfl; have e0 : w'.cell? ⟨g2, i * 2, none⟩ = some (.int .i64 x.1) := q4 0 _ rfl; have d1 : w'.cell? ⟨g1, i * 2 + 1, none⟩ = some (.int .i64 x.2) := q3 1 _ rfl; have e1 : w'.cell? ⟨g2, i * 2 + 1, none⟩ = some (.int .i64 x.2) := q4 1 _ rfl; go_simp; try with_reducible rfl)
                  replace hS := SG.set (i := 1) (by decide) (by decide) hS
                  try simp only [Act.put, List.setIfInBounds_toArray, List.set_cons_zero, List.set_cons_succ]
                  refine wpG_take0 (i := 2) (v := ?v27) rfl (by kernel_rfl) (by kernel_rfl) (by kernel_rfl) (by decide) (by decide) (fun _ _ _ h => h) hS (Or.inl ⟨by rfl, ?hy27⟩) ?rest27
                  case hy27 => (intro w' hw; obtain ⟨q1, q2, q3, q4⟩ := hw; have u0 := q1.cell; have u1 := q2.cell; have d0 : w'.cell? ⟨g1, i * 2, none⟩ = some (.int .i64 x.1) := q3 0 _ rfl; have e0 : w'.cell? ⟨g2, i * 2, none⟩ = some (.int .i64 x.1) := q4 0 _ rfl; have d1 : w'.cell? ⟨g1, i * 2 + 1, none⟩ = some (.int .i64 x.2) := q3 1 _ rfl; have e1 : w'.cell? ⟨g2, i * 2 + 1, none⟩ = some (.int .i64 x.2) := q4 1 _ rfl; go_simp; try with_reducible rfl)
                  replace hS := SG.set (i := 2) (by decide) (by decide) hS
                  try simp only [Act.put, List.setIfInBounds_toArray, List.set_cons_zero, List.set_cons_succ]
                  refine wpG_take0 (i := 3) (v := ?v28) rfl (by kernel_rfl) (by kernel_rfl) (by kernel_rfl) (by decide) (by decide) (fun _ _ _ h => h) hS (Or.inl ⟨by rfl, ?hy28⟩) ?rest28
                  case hy28 => (intro w' hw; obtain ⟨q1, q2, q3, q4⟩ := hw; have u0 := q1.cell; have u1 := q2.cell; have d0 : w'.cell? ⟨g1, i * 2, none⟩ = some (.int .i64 x.1) := q3 0 _ rfl; have e0 : w'.cell? ⟨g2, i * 2, none⟩ = some (.int .i64 x.1) := q4 0 _ rfl; have d1 : w'.cell? ⟨g1, i * 2 + 1, none⟩ = some (.int .i64 x.2) := q3 1 _ rfl; have e1 : w'.cell? ⟨g2, i * 2 + 1, none⟩ = some (.int .i64 x.2) := q4 1 _ rfl; go_simp; try with_reducible rfl)
                  replace hS := SG.set (i := 3) (by decide) (by decide) hS
                  try simp only [Act.put, List.setIfInBounds_toArray, List.set_cons_zero, List.set_cons_succ]
                  refine wpG_take0 (i := 4) (v := ?v29) rfl (by kernel_rfl) (by kernel_rfl) (by kernel_rfl) (by decide) (by decide) (fun _ _ _ h => h) hS (Or.inl ⟨by rfl, ?hy29⟩) ?rest29
                  case hy29 => (intro w' hw; obtain ⟨q1, q2, q3, q4⟩ := hw; have u0 := q1.cell; have u1 := q2.cell; have d0 : w'.cell? ⟨g1, i * 2, none⟩ = some (.int .i64 x.1) := q3 0 _ rfl; have e0 : w'.cell? ⟨g2, i * 2, none⟩ = some (.int .i64 x.1) := q4 0 _ rfl; have d1 : w'.cell? ⟨g1, i * 2 + 1, none⟩ = some (.int .i64 x.2) := q3 1 _ rfl; have e1 : w'.cell? ⟨g2, i * 2 + 1, none⟩ = some (.int .i64 x.2) := q4 1 _ rfl; go_simp; try with_reducible rfl)
                  replace hS := SG.set (i := 4) (by decide) (by decide) hS
                  try simp only [Act.put, List.setIfInBounds_toArray, List.set_cons_zero, List.set_cons_succ]
                  refine wpG_take0 (i := 5) (v := ?v30) rfl (by kernel_rfl) (by kernel_rfl) (by kernel_rfl) (by decide) (by decide) (fun _ _ _ h => h) hS (Or.inl ⟨by rfl, ?hy30⟩) ?rest30
                  case hy30 => (intro w' hw; obtain ⟨q1, q2, q3, q4⟩ := hw; have u0 := q1.cell; have u1 := q2.cell; have d0 : w'.cell? ⟨g1, i * 2, none⟩ = some (.int .i64 x.1) := q3 0 _ rfl; have e0 : w'.cell? ⟨g2, i * 2, none⟩ = some (.int .i64 x.1) := q4 0 _ rfl; have d1 : w'.cell? ⟨g1, i * 2 + 1, none⟩ = some (.int .i64 x.2) := q3 1 _ rfl; have e1 : w'.cell? ⟨g2, i * 2 + 1, none⟩ = some (.int .i64 x.2) := q4 1 _ rfl; go_simp; try with_reducible rfl)
                  replace hS := SG.set (i := 5) (by decide) (by decide) hS
                  try simp only [Act.put, List.setIfInBounds_toArray, List.set_cons_zero, List.set_cons_succ]
                  refine wpG_take0 (i := 6) (v := ?v31) rfl (by kernel_rfl) (by kernel_rfl) (by kernel_rfl) (by decide) (by decide) (fun _ _ _ h => h) hS (Or.inl ⟨by rfl, ?hy31⟩) ?rest31
                  case hy31 => (intro w' hw; obtain ⟨q1, q2, q3, q4⟩ := hw; have u0 := q1.cell; have u1 := q2.cell; have d0 : w'.cell? ⟨g1, i * 2, none⟩ = some (.int .i64 x.1) := q3 0 _ rfl; have e0 : w'.cell? ⟨g2, i * 2, none⟩ = some (.int .i64 x.1) := q4 0 _ rfl; have d1 : w'.cell? ⟨g1, i * 2 + 1, none⟩ = some (.int .i64 x.2) := q3 1 _ rfl; have e1 : w'.cell? ⟨g2, i * 2 + 1, none⟩ = some (.int .i64 x.2) := q4 1 _ rfl; go_simp; try with_reducible rfl)
                  replace hS := SG.set (i := 6) (by decide) (by decide) hS
                  try simp only [Act.put, List.setIfInBounds_toArray, List.set_cons_zero, List.set_cons_succ]
                  refine wpG_take0 (i := 7) (v := ?v32) rfl (by kernel_rfl) (by kernel_rfl) (by kernel_rfl) (by decide) (by decide) (fun _ _ _ h => h) hS (Or.inl ⟨by rfl, ?hy32⟩) ?rest32
                  case hy32 => (intro w' hw; obtain ⟨q1, q2, q3, q4⟩ := hw; have u0 := q1.cell; have u1 := q2.cell; have d0 : w'.cell? ⟨g1, i * 2, none⟩ = some (.int .i64 x.1) := q3 0 _ rfl; have e0 : w'.cell? ⟨g2, i * 2, none⟩ = some (.int .i64 x.1) := q4 0 _ rfl; have d1 : w'.cell? ⟨g1, i * 2 + 1, none⟩ = some (.int .i64 x.2) := q3 1 _ rfl; have e1 : w'.cell? ⟨g2, i * 2 + 1, none⟩ = some (.int .i64 x.2) := q4 1 _ rfl; go_simp; try with_reducible rfl)
                  replace hS := SG.set (i := 7) (by decide) (by decide) hS
                  try simp only [Act.put, List.setIfInBounds_toArray, List.set_cons_zero, List.set_cons_succ]
                  refine wpG_take0 (i := 8) (v := ?v33) rfl (by kernel_rfl) (by kernel_rfl) (by kernel_rfl) (by decide) (by decide) (fun _ _ _ h => h) hS (Or.inl ⟨by rfl, ?hy33⟩) ?rest33
                  case hy33 => (intro w' hw; obtain ⟨q1, q2, q3, q4⟩ := hw; have u0 := q1.cell; have u1 := q2.cell; have d0 : w'.cell? ⟨g1, i * 2, none⟩ = some (.int .i64 x.1) := q3 0 _ rfl; have e0 : w'.cell? ⟨g2, i * 2, none⟩ = some (.int .i64 x.1) := q4 0 _ rfl; have d1 : w'.cell? ⟨g1, i * 2 + 1, none⟩ = some (.int .i64 x.2) := q3 1 _ rfl; have e1 : w'.cell? ⟨g2, i * 2 + 1, none⟩ = some (.int .i64 x.2) := q4 1 _ rfl; go_simp; try with_reducible rfl)
                  replace hS := SG.set (i := 8) (by decide) (by decide) hS
                  try simp only [Act.put, List.setIfInBounds_toArray, List.set_cons_zero, List.set_cons_succ]
                  refine wpG_take0 (i := 9) (v := ?v34) rfl (by kernel_rfl) (by kernel_rfl) (by kernel_rfl) (by decide) (by decide) (fun _ _ _ h => h) hS (Or.inl ⟨by rfl, ?hy34⟩) ?rest34
                  case hy34 => (intro w' hw; obtain ⟨q1, q2, q3, q4⟩ := hw; have u0 := q1.cell; have u1 := q2.cell; have d0 : w'.cell? ⟨g1, i * 2, none⟩ = some (.int .i64 x.1) := q3 0 _ rfl; have e0 : w'.cell? ⟨g2, i * 2, none⟩ = some (.int .i64 x.1) := q4 0 _ rfl; have d1 : w'.cell? ⟨g1, i * 2 + 1, none⟩ = some (.int .i64 x.2) := q3 1 _ rfl; have e1 : w'.cell? ⟨g2, i * 2 + 1, none⟩ = some (.int .i64 x.2) := q4 1 _ rfl; go_simp; try with_reducible rfl)
                  replace hS := SG.set (i := 9) (by decide) (by decide) hS
                  try simp only [Act.put, List.setIfInBounds_toArray, List.set_cons_zero, List.set_cons_succ]
                  have hne := ne50 x.1 x.2
                  refine wpG_take0 (i := 10) (v := ?v35) rfl (by kernel_rfl) (by kernel_rfl) (by kernel_rfl) (by decide) (by decide) (fun _ _ _ h => h) hS (Or.inl ⟨by rfl, ?hy35⟩) ?rest35
                  case hy35 => (intro w' hw; go_simp; try with_reducible rfl)
                  replace hS := SG.set (i := 10) (by decide) (by decide) hS
                  try simp only [Act.put, List.setIfInBounds_toArray, List.set_cons_zero, List.set_cons_succ]
                  clear hS hne
                  refine wpG_done (by kernel_rfl) ?_ _
                  go_wp2_with fail
                  have hw1 : IntKind.i64.wrap ((i : Int) + 1) = ((i + 1 : Nat) : Int) := by rw [IntKind.wrap_i64]; omega
                  try rw [hw1]
                  go_roundg (n3 - (i + 1))
                  case measure => omega
                  case rel => exact ⟨i + 1, by first | rfl | rw [hw1] | simp, by omega, by omega, HT.out⟩
                · have hd1 : decide ((i : Int) < (n3 : Int)) = false := decide_eq_false (by omega)
                  have y3 := HT.out.r3.cell
                  have y4 := HT.out.r4.cell
                  rw [← HN.out.1, ← HN.out.2.1, ← HN.out.2.2] at y3 y4
                  go_wp2_with fail
                  clear y3 y4
                  refine (awake_any wr).mono ?_
                  rintro e w9 ⟨rfl, hb9⟩
                  have HB9 := Lib.hid (HT.out.be.trans (hb9.mono HT.out.be.size))
                  clear hb9
                  go_wp2_with fail
                  (first | go_ret | go_ret2)
                  exact ⟨by first | rfl | simp, HB9.out⟩
end Sc
end Go.Proofs.Ytnefnnoleeeedaa
