/- The law EditSorts returns true, whatever it is given. -/
import Derived.Test.YtendbkbjmibchaaSJ
import Derived.Test.YtendbkbjmibchaaLight
import Derived.Laws.StructEq
import Derived.Deep.CutRange
import Derived.Shelf.SlicesE.Equal
namespace Go.Proofs.Ytendbkbjmibchaa
open Go.RowKit Go.Sort Go.Proofs Go.Shelf

/-- The edits that are not used yet. -/
def rem_ : List Bool → List Ed → List Ed
  | u :: us, e :: es => if u = true then rem_ us es else e :: rem_ us es
  | _, _ => []
theorem rem_none (es : List Ed) : rem_ (List.replicate es.length false) es = es := by
  induction es with
  | nil => rfl
  | cons e r ih => rw [List.length_cons, List.replicate_succ, rem_, if_neg (by simp), ih]
theorem rem_mem : ∀ (us : List Bool) (es : List Ed) (x : Ed), us.length = es.length → x ∈ rem_ us es → ∃ k, ∃ (h1 : k < us.length) (h2 : k < es.length), us[k] = false ∧ es[k] = x
  | [], [], x, _, h => by simp [rem_] at h
  | u :: us, e :: es, x, hl, h => by
    rw [rem_] at h
    have hl' : us.length = es.length := by simpa using hl
    by_cases hu : u = true
    · rw [if_pos hu] at h
      obtain ⟨k, h1, h2, h3, h4⟩ := rem_mem us es x hl' h
      exact ⟨k + 1, by simpa using h1, by simpa using h2, by simpa using h3, by simpa using h4⟩
    · rw [if_neg hu] at h
      rcases List.mem_cons.1 h with rfl | h
      · exact ⟨0, by simp, by simp, by simpa using hu, rfl⟩
      · obtain ⟨k, h1, h2, h3, h4⟩ := rem_mem us es x hl' h
        exact ⟨k + 1, by simpa using h1, by simpa using h2, by simpa using h3, by simpa using h4⟩
theorem rem_set : ∀ (us : List Bool) (es : List Ed) (k : Nat) (h1 : k < us.length) (h2 : k < es.length), us[k] = false → (rem_ us es).Perm (es[k] :: rem_ (us.set k true) es)
  | u :: us, e :: es, 0, _, _, h => by
    have hu : ¬ u = true := by simpa using h
    rw [rem_, if_neg hu, List.set_cons_zero, rem_, if_pos rfl]
    exact List.Perm.refl _
  | u :: us, e :: es, k + 1, h1, h2, h => by
    have ih := rem_set us es k (by simpa using h1) (by simpa using h2) (by simpa using h)
    rw [List.set_cons_succ, rem_, rem_]
    by_cases hu : u = true
    · rw [if_pos hu, if_pos hu]; exact ih
    · rw [if_neg hu, if_neg hu]
      exact (ih.cons e).trans (List.Perm.swap _ _ _)

def eqE (x y : Ed) : Bool := x.f == y.f && x.t == y.t && x.x.toList == y.x.toList
theorem eqE_iff (x y : Ed) : eqE x y = true ↔ x = y := by
  unfold eqE
  rw [Bool.and_eq_true, Bool.and_eq_true, beq_iff_eq, beq_iff_eq, beq_iff_eq, ByteArray.toList_eq, ByteArray.toList_eq]
  constructor
  · rintro ⟨⟨h1, h2⟩, h3⟩
    have h4 : x.x.data = y.x.data := Array.toList_inj.1 h3
    obtain ⟨xf, xt, ⟨xx⟩⟩ := x
    obtain ⟨yf, yt, ⟨yy⟩⟩ := y
    simp only at h1 h2 h4
    rw [h1, h2, h4]
  · rintro rfl
    exact ⟨⟨rfl, rfl⟩, rfl⟩
theorem eq68 (x y : Ed) (w : World) : (binOp .eql 68 (.agg #[.int .i64 x.f, .int .i64 x.t, .string x.x]) (.agg #[.int .i64 y.f, .int .i64 y.t, .string y.x])).run Try.prog w = .ok (.bool (eqE x y)) w := by
  have u3 := Try.underlying3
  have a3 := Try.isAgg3
  have z3 := Try.sizeOf3
  have u9 := Try.underlying9
  have a9 := Try.isAgg9
  have z9 := Try.sizeOf9
  have hS : Try.prog.underlying 68 = some (.struct (Try.prog.fieldsOf 68)) := by kernel_rfl
  have hp : Try.prog.stoodInHeld 68 = false := by kernel_rfl
  rw [run_eql_struct, show (10000 : Nat) = 9999 + 1 from rfl, run_equalIn_agg w 9999 68 _ _ hS hp]
  simp only [Program.fieldsOf, Try.underlying68]
  go_simp
  unfold eqE
  by_cases h1 : x.f = y.f <;> by_cases h2 : x.t = y.t <;> by_cases h3 : x.x.toList = y.x.toList <;> simp [h1, h2, h3]

set_option maxHeartbeats 4000000 in
set_option maxRecDepth 100000 in
theorem editSorts_walk (A : Option Addr) (cap : Nat) (es : List Ed) (w : World) (hes : Eds w w.heap.size A es) (hlm : es.length ≤ maxLen) (hx : ∀ e ∈ es, e.x.size ≤ 140737488351232) :
    Calls Try.prog 11 #[.slice A es.length cap] w fun e w' => e = .returned (.bool true) ∧ Below w.heap.size w w' := by
  unfold maxLen at hlm
  have HES := Lib.hid hes
  have HX : Hid (∀ e ∈ es, e.x.size ≤ 1000000000000000) := fun e he => by have := hx e he; omega
  clear hes hx
  cases hL : lightB 0 es
  · have HL := Lib.hid hL
    clear hL
    go_enter Try.func11, Try.ntmps11
    go_wp2_with fail
    refine (light_any ⟨#[]⟩ A cap es _ HES.out hlm (by show 0 ≤ _; omega) HX.out).mono ?_
    rintro e w1 ⟨rfl, hb⟩
    rw [show (⟨#[]⟩ : ByteArray).size = 0 from rfl, HL.out]
    have HB := Lib.hid hb
    clear hb
    go_wp2_with fail
    refine (awake_edit _).mono ?_
    rintro e w2 ⟨rfl, hb⟩
    have HB2 := Lib.hid (HB.out.trans (hb.mono HB.out.size))
    clear hb
    go_wp2
    go_ret
    exact ⟨rfl, HB2.out⟩
  · have HL := Lib.hid hL
    have hl6 : es.length ≤ 600 := by unfold lightB at hL; simp at hL; omega
    clear hL
    go_enter Try.func11, Try.ntmps11
    go_wp2_with fail
    refine (light_any ⟨#[]⟩ A cap es _ HES.out hlm (by show 0 ≤ _; omega) HX.out).mono ?_
    rintro e w1 ⟨rfl, hb⟩
    rw [show (⟨#[]⟩ : ByteArray).size = 0 from rfl, HL.out]
    have HB := Lib.hid hb
    clear hb
    go_wp2_with fail
    refine (sort_any A cap es _ ((HES.out.below HB.out).more HB.out.size) (by omega)).mono ?_
    rintro e w2 ⟨A2, c2, os, rfl, hol, hso, heo, hb⟩
    have HB2 := Lib.hid (HB.out.trans (hb.mono HB.out.size))
    have HSO := Lib.hid hso
    have HEO := Lib.hid heo
    have HOL := Lib.hid hol
    clear hb hso heo hol
    have IB : ∃ i0 : TypeInfo, Try.prog.info? 4 = some i0 ∧ i0.zero = some (.bool false) ∧ i0.size = 1 ∧ i0.bytes = 1 := by
      have : (Try.prog.info? 4).map (fun i => (i.zero, i.size, i.bytes)) = some (some (.bool false), 1, 1) := by kernel_rfl
      cases h : Try.prog.info? 4 with
      | none => rw [h] at this; cases this
      | some i0 => rw [h] at this; simp at this; exact ⟨i0, rfl, this.1, this.2.1, this.2.2⟩
    obtain ⟨i0, hi, hz0, hz1, hz2⟩ := IB
    go_wp2_with (at_make; refine wpList_make_full _ rfl _ _ 66 rfl w2.heap.size 4 i0 (.bool false) 1 Try.underlying66 hi hz0 hz1 .i64 .i64 _ _ es.length rfl rfl rfl rfl (by rw [hz2]; omega) (by unfold maxLen; omega) (Nat.le_refl _) ?_; intro w3 hown hgrow)
    have hub : Hid (RowB w3 w2.heap.size 4 (((List.replicate es.length false).map Value.bool).toArray)) := by
      unfold Hid
      rcases hown.2 with ⟨hv, _⟩ | ⟨g, cp, cur, hv, _, hh, h1, h2, h3, h4⟩
      · injection hv with hv _ _; cases hv
      · injection hv with hA _ hc
        injection hA with hA
        injection hA with hA _ _
        subst hA hc
        have e1 : cur.toList = (madeCells (Value.bool false).cells (es.length * 1)).toList := by
          rw [← h4, List.take_of_length_le (by rw [Array.length_toList, h3]; exact Nat.le_refl _)]
        have e2 : cur = ((List.replicate es.length false).map Value.bool).toArray := by
          apply Array.toList_inj.1
          rw [e1]
          simp only [madeCells, Nat.mul_one, Array.toList_map, Array.toList_range, List.map_replicate]
          apply List.ext_getElem
          · simp
          · intro j h5 h6
            simp [Value.cells, Nat.mod_one]
        unfold RowB
        rw [hh, e2]
    have hbu : Hid (RowKit.Below w2.heap.size w2 w3) := (RowKit.Below.refl _ _).grown hgrow (Nat.le_refl _) (by intro k hk; cases hk)
    clear hown hgrow
    obtain ⟨ub, hubv⟩ : ∃ ub, ub = w2.heap.size := ⟨_, rfl⟩
    rw [← hubv] at hub hbu HEO ⊢
    have hwu : w.heap.size ≤ ub := by have := HB2.out.size; omega
    have HES2 := Lib.hid ((HES.out.below HB2.out).more hwu)
    clear hubv
    go_wp2_with fail
    go_loopg [21] es.length (fun kx s21 wr => ∃ (i : Nat) (us : List Bool), s21 = .int .i64 i ∧ i ≤ es.length ∧ es.length - i ≤ kx ∧ Hid (us.length = es.length) ∧ Hid (RowB wr ub 4 ((us.map Value.bool).toArray)) ∧ Hid ((rem_ us es).Perm (os.drop i)) ∧ Hid (RowKit.Below ub w2 wr))
    case atStart => exact ⟨0, List.replicate es.length false, rfl, by omega, by omega, by unfold Hid; simp, hub, by unfold Hid; rw [rem_none, List.drop_zero]; exact HSO.out.1.symm, hbu⟩
    case round =>
      clear hub hbu
      obtain ⟨i, us, rfl, hin, hkx, UL, UB, UP, HBW⟩ := hrel
      have hubr : ub < wr.heap.size := UB.out.lt
      by_cases hlt : i < es.length
      · have hltz : (i : Int) < (es.length : Int) := by omega
        have hio : i < os.length := by rw [HOL.out]; omega
        obtain ⟨ob, off, rfl, hob, hcell⟩ := (HEO.out.below HBW.out) (by omega)
        have hobr : ob < wr.heap.size := by omega
        obtain ⟨x0, x1, x2⟩ := hcell i hio
        obtain ⟨X, hX⟩ : ∃ X, X = os[i] := ⟨_, rfl⟩
        rw [← hX] at x0 x1 x2
        have HCELL := Lib.hid hcell
        have HX2 := Lib.hid hX
        have HB3 := Lib.hid (HBW.out.alloc (Nat.le_of_lt (by have := HBW.out.size; omega)) (.cells #[.int .i64 X.f, .int .i64 X.t, .string X.x] 68))
        clear hcell hX
        have hr8 : ∀ (Q : Prop), (i = 0 → Q) → (0 < i → ∀ p : Ed, p = os[i - 1]'(by omega) → LT X p = false → Q) → Q := fun Q h1 h2 => by
          rcases Nat.eq_zero_or_pos i with h | h
          · exact h1 h
          · exact h2 h _ rfl (by rw [HX2.out]; exact HSO.out.2 (i - 1) i hio (by omega))
        have HR8 := Lib.hid hr8
        clear hr8
        go_upto_region 8 with fail
        go_cut [60] from 26 to 84 (fun s60 wx => s60 = .bool false ∧ ∃ nq, wx = (wr.alloc (.cells #[.int .i64 X.f, .int .i64 X.t, .string X.x] 68)).drewN nq)
        case first =>
          refine HR8.out _ (fun h0 => ?_) (fun h0 p hp hle => ?_)
          · have hd0 : decide (0 < i) = false := by simp; omega
            have hd1 : (i : Int) ≤ 0 := by omega
            clear h0
            go_quiet (fail)
            go_wp2_with fail
            go_meet
            exact ⟨rfl, _, rfl⟩
          · obtain ⟨q0, q1, q2⟩ := HCELL.out (i - 1) (by omega)
            rw [← hp] at q0 q1 q2
            have hkp : (1 : Int) ≤ (i : Int) := by omega
            have hkp2 : (0 : Int) < (i : Int) := by omega
            have hkp3 : (i : Int) - 1 < (es.length : Int) := by omega
            have hkp4 : ((i : Int) - 1).toNat = i - 1 := by omega
            have hkp5 : (0 : Int) ≤ (i : Int) - 1 := by omega
            rw [LT, ltcf, decide_eq_false_iff_not] at hle
            clear hp
            by_cases hpf : p.f = X.f
            · have g5 : (p.f == X.f) = true := by simpa using hpf
              have g6 : decide (X.f < p.f) = false := by simp; omega
              have g7 : decide (X.t < p.t) = false := by simp; omega
              clear hle hpf
              go_quiet (fail)
              go_wp2_with fail
              go_meet
              exact ⟨rfl, _, rfl⟩
            · have g5 : (p.f == X.f) = false := by simpa using hpf
              have g6 : decide (X.f < p.f) = false := by simp; omega
              clear hle hpf
              go_quiet (fail)
              go_wp2_with fail
              go_meet
              exact ⟨rfl, _, rfl⟩
        case rest =>
        obtain ⟨rfl, nq, rfl⟩ := hcut
        have xb0 : RowB ((wr.alloc (.cells #[.int .i64 X.f, .int .i64 X.t, .string X.x] 68)).drewN nq) wr.heap.size 68 #[.int .i64 X.f, .int .i64 X.t, .string X.x] := RowB.new wr 68 _
        have ub0 : RowB ((wr.alloc (.cells #[.int .i64 X.f, .int .i64 X.t, .string X.x] 68)).drewN nq) ub 4 ((us.map Value.bool).toArray) := UB.out.alloc _
        have bw0 : RowKit.Below ub w2 ((wr.alloc (.cells #[.int .i64 X.f, .int .i64 X.t, .string X.x] 68)).drewN nq) := below_drewN HB3.out nq
        obtain ⟨xb, hxb⟩ : ∃ xb, xb = wr.heap.size := ⟨_, rfl⟩
        rw [← hxb] at xb0 hubr hobr ⊢
        generalize (wr.alloc (.cells #[.int .i64 X.f, .int .i64 X.t, .string X.x] 68)).drewN nq = wq at xb0 ub0 bw0 ⊢
        have XB0 := Lib.hid xb0
        have UB0 := Lib.hid ub0
        have BW0 := Lib.hid bw0
        have XIN : Hid (X ∈ rem_ us es) := by
          unfold Hid
          rw [UP.out.mem_iff, List.drop_eq_getElem_cons hio, ← HX2.out]
          exact List.mem_cons_self
        clear xb0 ub0 bw0 UB HB3 HBW HR8 hxb x0 x1 x2
        go_wp2_with fail
        go_loopg [7, 63] es.length (fun kx s7 s63 wx => ∃ (k : Nat), s7 = .bool false ∧ s63 = .int .i64 k ∧ k ≤ es.length ∧ es.length - k ≤ kx ∧ Hid (RowB wx xb 68 #[.int .i64 X.f, .int .i64 X.t, .string X.x]) ∧ Hid (RowB wx ub 4 ((us.map Value.bool).toArray)) ∧ Hid (RowKit.Below ub w2 wx) ∧ Hid (∀ j (h1 : j < us.length) (h2 : j < es.length), j < k → us[j] = false → es[j] ≠ X))
        case atStart => exact ⟨0, rfl, rfl, by omega, by omega, XB0.out, UB0.out, BW0.out, fun j h1 h2 h3 => by omega⟩
        case round =>
          clear XB0 UB0 BW0
          obtain ⟨k, rfl, rfl, hkl, hkx2, XB1, UB1, BW1, NO⟩ := hrel
          by_cases hlk : k < es.length
          · have hkz : (k : Int) < (es.length : Int) := by omega
            obtain ⟨lb, lo, rfl, hlb, hcl⟩ := (HES2.out.below BW1.out) (by omega)
            obtain ⟨y0, y1, y2⟩ := hcl k hlk
            obtain ⟨Y, hY⟩ : ∃ Y, Y = es[k] := ⟨_, rfl⟩
            rw [← hY] at y0 y1 y2
            have HY := Lib.hid hY
            have hku : k < us.length := by rw [UL.out]; exact hlk
            obtain ⟨u, hu⟩ : ∃ u, u = us[k] := ⟨_, rfl⟩
            have uc : wr.cell? ⟨ub, k, none⟩ = some (.bool u) := by
              rw [UB1.out.cell k, hu]
              simp [hku]
            have uf : wr.frozen? ⟨ub, k, none⟩ = false := UB1.out.thaw k
            have hubx := UB1.out.lt
            have hxbx := XB1.out.lt
            have z0 : wr.cell? ⟨xb, 0, none⟩ = some (.int .i64 X.f) := XB1.out.cell 0
            have z1 : wr.cell? ⟨xb, 1, none⟩ = some (.int .i64 X.t) := XB1.out.cell 1
            have z2 : wr.cell? ⟨xb, 2, none⟩ = some (.string X.x) := XB1.out.cell 2
            have hlbx : lb < wr.heap.size := by omega
            have HU := Lib.hid hu
            have XB2 := Lib.hid (XB1.out.alloc (.cells #[.int .i64 Y.f, .int .i64 Y.t, .string Y.x] 68))
            have UB2 := Lib.hid (UB1.out.alloc (.cells #[.int .i64 Y.f, .int .i64 Y.t, .string Y.x] 68))
            have BW2 := Lib.hid (BW1.out.alloc (by have := BW1.out.size; omega) (.cells #[.int .i64 Y.f, .int .i64 Y.t, .string Y.x] 68))
            have q68 := fun w => eq68 X Y w
            clear hcl hY hu
            cases u
            · cases hq : eqE X Y
              · have hne : Hid (es[k] ≠ X) := fun h => by
                  have := (eqE_iff X Y).2 (by rw [HY.out, h])
                  rw [hq] at this
                  cases this
                have NO2 : Hid (∀ j (h1 : j < us.length) (h2 : j < es.length), j < k + 1 → us[j] = false → es[j] ≠ X) := fun j h1 h2 h3 h4 => by
                  rcases Nat.lt_or_ge j k with c | c
                  · exact NO.out j h1 h2 c h4
                  · obtain rfl : j = k := by omega
                    exact hne.out
                simp only [hq] at q68
                go_wp2_with fail
                go_roundg (es.length - (k + 1))
                case measure => omega
                case rel => exact ⟨k + 1, rfl, by go_num, by omega, by omega, XB2.out, UB2.out, BW2.out, NO2.out⟩
              · have heq : Hid (es[k] = X) := by
                  unfold Hid
                  rw [← HY.out]
                  exact ((eqE_iff X Y).1 hq).symm
                have UP2 : Hid ((rem_ (us.set k true) es).Perm (os.drop (i + 1))) := by
                  unfold Hid
                  have h1 := rem_set us es k hku hlk HU.out.symm
                  rw [heq.out] at h1
                  have h2 := UP.out
                  rw [List.drop_eq_getElem_cons hio, ← HX2.out] at h2
                  exact (List.perm_cons X).1 (h1.symm.trans h2)
                have UB3 : Hid (RowB ((wr.setCell ⟨ub, k, none⟩ (.bool true)).alloc (.cells #[.int .i64 Y.f, .int .i64 Y.t, .string Y.x] 68)) ub 4 (((us.set k true).map Value.bool).toArray)) := by
                  have := (UB1.out.put k (.bool true)).alloc (.cells #[.int .i64 Y.f, .int .i64 Y.t, .string Y.x] 68)
                  unfold Hid
                  rw [List.map_set]
                  simpa using this
                have BW3 : Hid (RowKit.Below ub w2 ((wr.setCell ⟨ub, k, none⟩ (.bool true)).alloc (.cells #[.int .i64 Y.f, .int .i64 Y.t, .string Y.x] 68))) := (BW1.out.setCell (p := ⟨ub, k, none⟩) (Nat.le_refl _) _).alloc (by have := BW1.out.size; simp [World.setCell]; omega) _
                have UL2 : Hid ((us.set k true).length = es.length) := by unfold Hid; rw [List.length_set]; exact UL.out
                simp only [hq] at q68
                go_wp2_with fail
                go_roundg (es.length - (i + 1))
                case measure => omega
                case rel => exact ⟨i + 1, us.set k true, by go_num, by omega, by omega, UL2.out, UB3.out, UP2.out, BW3.out⟩
            · have NO2 : Hid (∀ j (h1 : j < us.length) (h2 : j < es.length), j < k + 1 → us[j] = false → es[j] ≠ X) := fun j h1 h2 h3 h4 => by
                rcases Nat.lt_or_ge j k with c | c
                · exact NO.out j h1 h2 c h4
                · obtain rfl : j = k := by omega
                  rw [← HU.out] at h4
                  cases h4
              go_wp2_with fail
              go_roundg (es.length - (k + 1))
              case measure => omega
              case rel => exact ⟨k + 1, rfl, by go_num, by omega, by omega, XB2.out, UB2.out, BW2.out, NO2.out⟩
          · exfalso
            obtain ⟨j, h1, h2, h3, h4⟩ := rem_mem us es X UL.out XIN.out
            exact NO.out j h1 h2 (by omega) h3 h4
      · have hie : i = es.length := by omega
        have hiz : (es.length : Int) ≤ (i : Int) := by omega
        have BW2 := Lib.hid (HB2.out.trans (HBW.out.mono hwu))
        clear hlt hie
        go_wp2_with fail
        refine (awake_edit _).mono ?_
        rintro e w5 ⟨rfl, hb⟩
        have HB5 := Lib.hid (BW2.out.trans (hb.mono BW2.out.size))
        clear hb
        go_wp2
        go_ret
        exact ⟨rfl, HB5.out⟩
end Go.Proofs.Ytendbkbjmibchaa
