import Derived.Test.YtiabkkdeonepgaaGreatDoorXU
set_option maxRecDepth 100000
namespace Go.Proofs.YtiabkkdeonepgaaGreatDoor
open Go.RowKit
namespace Pg
open Ps
theorem enter139 : ∀ args w, (callFunc 139 args).run Tryz.prog w = .ok (.enter 139 args) w := enters_of Tryz.func139 (by kernel_rfl) rfl
theorem enter104 : ∀ args w, (callFunc 104 args).run Tryz.prog w = .ok (.enter 104 args) w := enters_of Tryz.func104 (by kernel_rfl) rfl
theorem enter125 : ∀ args w, (callFunc 125 args).run Tryz.prog w = .ok (.enter 125 args) w := enters_of Tryz.func125 (by kernel_rfl) rfl
theorem bel2 {w w' : World} {a c : Array Value} {s t : TypeId} (h : w' = (w.alloc (.cells a s)).alloc (.cells c t)) : Below w.heap.size w w' := by
  subst h
  exact (bel1 w _).alloc (by simp) _
theorem LbI.mk {b F : Nat} {w w' : World} {H : Nat} (h : w' = (w.alloc (.cells #[.pointer (some ⟨b, 0, none⟩)] 69)).alloc (.cells #[.func (.func F) #[.pointer (some ⟨b, 0, none⟩)] #[]] 52)) (hb : b < w.heap.size) (hH : w.heap.size = H) : LbI b F H w' := by
  subst h hH
  exact LbI.new b F w hb
theorem labelled_c (b F : Nat) (w : World) (H : Nat) (hb : b < w.heap.size) (hH : w.heap.size = H) :
    Calls Tryz.prog 123 #[.pointer (some ⟨b, 0, none⟩), .func (.func F) #[.pointer (some ⟨b, 0, none⟩)] #[]] w fun e w' => e = .returned (.func (.func 139) #[] #[.pointer (some ⟨H, 0, none⟩), .pointer (some ⟨H + 1, 0, none⟩)]) ∧ Below w.heap.size w w' ∧ LbI b F H w' := by
  refine (labelled_mk b F w).mono ?_
  rintro e w' ⟨rfl, h⟩
  exact ⟨by rw [hH], bel2 h, LbI.mk h hb hH⟩
theorem each_node {F n : Nat} {q : Nat → Prop} (E : NodeW F q n) (B b d : Nat) : EachW B b d F #[.pointer (some ⟨b, 0, none⟩)] #[] (fun _ => True) q n := by
  intro bs h k A cap w _ hp hB hk ho hq hd hb hl
  rw [show (#[.pointer (some ⟨b, 0, none⟩)] : Array Value).push (nvv h A k.len cap) ++ #[] = #[.pointer (some ⟨b, 0, none⟩), nvv h A k.len cap] by simp]
  exact E B b d bs h k A cap w hp hB hk ho hq hd hb hl
theorem each_lab (F : Nat) (q : Nat → Prop) (eF : ∀ args w, (callFunc F args).run Tryz.prog w = .ok (.enter F args) w) (kd : Nat) (hkd : kd = 27 ∨ kd = 33) (hs : ∀ ks, shp kd ks → ∃ t, ks = [t] ∧ q t) (N : Nat) (IH : ∀ m, m < N → NodeW F q m) (B b d g1 : Nat) : EachW B b d 139 #[] #[.pointer (some ⟨g1, 0, none⟩), .pointer (some ⟨g1 + 1, 0, none⟩)] (LbI b F g1) (· = kd) N := by
  intro bs h k A cap w hi hp hB hk ho hq hd hb hl
  rw [show (#[] : Array Value).push (nvv h A k.len cap) ++ #[.pointer (some ⟨g1, 0, none⟩), .pointer (some ⟨g1 + 1, 0, none⟩)] = #[nvv h A k.len cap, .pointer (some ⟨g1, 0, none⟩), .pointer (some ⟨g1 + 1, 0, none⟩)] by simp]
  obtain ⟨x1, x2, x3, x4, x5⟩ := h
  dsimp only at hq
  have h2 : shp x1 k.kinds := ho.1.2
  rw [hq] at h2
  obtain ⟨t, ht, hn⟩ := hs _ h2
  obtain ⟨a, ak, rfl, ha⟩ := kinds1 ht
  obtain ⟨b1, d1⟩ := hb.kid (i := 0) (h := a) rfl
  exact lab_w ak.deep F q (IH _ (by omega)) eF B b d g1 bs w x1 x2 x3 x4 x5 a ak A cap hi hp hB hk ⟨ho.2.1.1, ho.2.1.2.1, trivial⟩ (by rw [ha]; exact hn) (Nat.le_refl _) b1 _ (by rw [hq]; rcases hkd with rfl | rfl <;> rfl) hl
theorem KV.init {w : World} {P : Nat → Prop} {a c : Fo} {A : Option Addr} {cap : Nat} (h : KV w P (a.app c) A cap) : KV w P a A cap := by
  have hl := Fo.len_app a c
  refine ⟨by have := h.1; omega, fun h0 => ?_⟩
  obtain ⟨g, o, ck, h1, h2, h3, h4, h5⟩ := h.2 (by omega)
  have key : ∀ (a : Fo) (cs : List Value), FC w P (a.app c) cs → ∃ c1 c2, cs = c1 ++ c2 ∧ FC w P a c1 := by
    intro a
    induction a with
    | nil => intro cs _; exact ⟨[], cs, rfl, by rw [FC]⟩
    | cons h k r _ ih =>
      intro cs hf
      rw [Fo.app, FC] at hf
      obtain ⟨A', cap', cs', rfl, e1, e2, e3⟩ := hf
      obtain ⟨c1, c2, rfl, e4⟩ := ih cs' e3
      refine ⟨_ ++ c1, c2, (List.append_assoc _ _ _).symm, ?_⟩
      rw [FC]
      exact ⟨A', cap', c1, rfl, e1, e2, e4⟩
  obtain ⟨c1, c2, rfl, e⟩ := key a ck h5
  exact ⟨g, o, c1, h1, h2, h3, fun j u hu => h4 j u (by rw [List.getElem?_append_left (List.getElem?_eq_some_iff.1 hu).1]; exact hu), e⟩
theorem Fo.last : ∀ (k : Fo), k ≠ .nil → ∃ (i : Fo) (a : Hd) (ak : Fo), k = i.app (.one a ak)
  | .nil, h => absurd rfl h
  | .cons h k .nil, _ => ⟨.nil, h, k, rfl⟩
  | .cons h k (.cons h' k' r'), _ => by
    obtain ⟨i, a, ak, e⟩ := Fo.last (.cons h' k' r') (by simp)
    exact ⟨.cons h k i, a, ak, by rw [e]; rfl⟩
theorem okF.init : ∀ {a c : Fo}, okF (a.app c) → okF a
  | .nil, _, _ => trivial
  | .cons _ _ _, _, h => ⟨h.1, h.2.1, okF.init h.2.2⟩
theorem Fo.drop_app : ∀ (i c : Fo), (i.app c).drop i.len = c
  | .nil, c => by rw [Fo.app, Fo.len, Fo.drop_zero]
  | .cons h k r, c => by rw [Fo.app, Fo.len, Fo.drop]; exact Fo.drop_app r c
theorem Fo.deep_app' : ∀ (a c : Fo), (a.app c).deep = max a.deep c.deep
  | .nil, c => by rw [Fo.app]; simp [Fo.deep]
  | .cons h k r, c => by rw [Fo.app, fo_deep_cons, fo_deep_cons, Fo.deep_app' r c]; omega
set_option maxHeartbeats 4000000 in
theorem typed_w (N : Nat) (IH : ∀ m, m < N → NodeW 104 tyK m) : NodeW 104 tyK N := by
  intro B b d bs h k A cap w hp hB hk ho hq hd hb hl
  obtain ⟨x1, x2, x3, x4, x5⟩ := h
  have hs0 : shp x1 k.kinds := ho.1.2
  have hok := ho.2.1
  have hbl := hp.lt
  obtain ⟨x, hx⟩ : ∃ x, x = prN d ⟨x1, x2, x3, x4, x5⟩ k := ⟨_, rfl⟩
  rw [← hx] at hl ⊢
  dsimp only at hq
  clear ho
  have hc : x1 = 29 ∨ x1 = 30 ∨ x1 = 31 ∨ x1 = 32 ∨ x1 = 34 := by unfold tyK at hq; omega
  rcases hc with hK | hK | hK | hK | hK
  · skip
    have hs := hs0
    rw [hK] at hs
    have hx2 : [105, 110, 116] = x := by rw [hx, hK]; rfl
    have hlen := Nat.le_of_eq (congrArg List.length hx2)
    simp at hlen
    have HX := Lib.hid hx2
    have t29 : ((x1 : Int) == 29) = true := by rw [beq_iff_eq]; omega
    have P0 := Lib.hid (Pw.start (hp.below (bel1 w (.cells #[.int .i64 x1, .int .i64 x2, .int .i64 x3, .string x4, .int .i64 x5, .slice A k.len cap] 25))) (by simp; omega))
    have R0 := Lib.hid (RowB.new w 25 #[.int .i64 x1, .int .i64 x2, .int .i64 x3, .string x4, .int .i64 x5, .slice A k.len cap])
    clear hs hs0 hx hx2 hp hk hok hb hq hK
    go_enter Tryz.func104, Tryz.ntmps104
    have C := Lib.hid (P0.out.texts (w.heap.size + 1) (by simp) [⟨#[105, 110, 116]⟩] 1 #[.string ⟨#[105, 110, 116]⟩] [105, 110, 116] rfl (by simp [cat]) rfl (by simp) hl (by simp <;> omega))
    have rc := R0.out.cell
    go_wp2_with fail
    refine C.out.mono ?_
    rintro e w1 ⟨rfl, h1⟩
    have P1 := Lib.hid h1
    have R1 := Lib.hid (P1.out.row R0.out (by omega) (by decide))
    clear h1 C rc
    go_wp2_with fail
    go_end0
    exact (P1.out.cast (by rw [← HX.out]; simp)).doneA hB
  · skip
    have hs := hs0
    rw [hK] at hs
    have hx2 : [115, 116, 114] = x := by rw [hx, hK]; rfl
    have hlen := Nat.le_of_eq (congrArg List.length hx2)
    simp at hlen
    have HX := Lib.hid hx2
    have t29 : ((x1 : Int) == 29) = false := by rw [beq_eq_false_iff_ne]; omega
    have t30 : ((x1 : Int) == 30) = true := by rw [beq_iff_eq]; omega
    have P0 := Lib.hid (Pw.start (hp.below (bel1 w (.cells #[.int .i64 x1, .int .i64 x2, .int .i64 x3, .string x4, .int .i64 x5, .slice A k.len cap] 25))) (by simp; omega))
    have R0 := Lib.hid (RowB.new w 25 #[.int .i64 x1, .int .i64 x2, .int .i64 x3, .string x4, .int .i64 x5, .slice A k.len cap])
    clear hs hs0 hx hx2 hp hk hok hb hq hK
    go_enter Tryz.func104, Tryz.ntmps104
    have C := Lib.hid (P0.out.texts (w.heap.size + 1) (by simp) [⟨#[115, 116, 114]⟩] 1 #[.string ⟨#[115, 116, 114]⟩] [115, 116, 114] rfl (by simp [cat]) rfl (by simp) hl (by simp <;> omega))
    have rc := R0.out.cell
    go_wp2_with fail
    refine C.out.mono ?_
    rintro e w1 ⟨rfl, h1⟩
    have P1 := Lib.hid h1
    have R1 := Lib.hid (P1.out.row R0.out (by omega) (by decide))
    clear h1 C rc
    go_wp2_with fail
    go_end0
    exact (P1.out.cast (by rw [← HX.out]; simp)).doneA hB
  · skip
    have hs := hs0
    rw [hK] at hs
    have hx2 : [100, 121, 110] = x := by rw [hx, hK]; rfl
    have hlen := Nat.le_of_eq (congrArg List.length hx2)
    simp at hlen
    have HX := Lib.hid hx2
    have t29 : ((x1 : Int) == 29) = false := by rw [beq_eq_false_iff_ne]; omega
    have t30 : ((x1 : Int) == 30) = false := by rw [beq_eq_false_iff_ne]; omega
    have t31 : ((x1 : Int) == 31) = true := by rw [beq_iff_eq]; omega
    have P0 := Lib.hid (Pw.start (hp.below (bel1 w (.cells #[.int .i64 x1, .int .i64 x2, .int .i64 x3, .string x4, .int .i64 x5, .slice A k.len cap] 25))) (by simp; omega))
    have R0 := Lib.hid (RowB.new w 25 #[.int .i64 x1, .int .i64 x2, .int .i64 x3, .string x4, .int .i64 x5, .slice A k.len cap])
    clear hs hs0 hx hx2 hp hk hok hb hq hK
    go_enter Tryz.func104, Tryz.ntmps104
    have C := Lib.hid (P0.out.texts (w.heap.size + 1) (by simp) [⟨#[100, 121, 110]⟩] 1 #[.string ⟨#[100, 121, 110]⟩] [100, 121, 110] rfl (by simp [cat]) rfl (by simp) hl (by simp <;> omega))
    have rc := R0.out.cell
    go_wp2_with fail
    refine C.out.mono ?_
    rintro e w1 ⟨rfl, h1⟩
    have P1 := Lib.hid h1
    have R1 := Lib.hid (P1.out.row R0.out (by omega) (by decide))
    clear h1 C rc
    go_wp2_with fail
    go_end0
    exact (P1.out.cast (by rw [← HX.out]; simp)).doneA hB
  · skip
    have hs := hs0
    rw [hK] at hs
    have hx2 : [123] ++ cm (prt d k) ++ [125] = x := by rw [hx, hK]; rfl
    have hlen := Nat.le_of_eq (congrArg List.length hx2)
    simp at hlen
    have HX := Lib.hid hx2
    have t29 : ((x1 : Int) == 29) = false := by rw [beq_eq_false_iff_ne]; omega
    have t30 : ((x1 : Int) == 30) = false := by rw [beq_eq_false_iff_ne]; omega
    have t31 : ((x1 : Int) == 31) = false := by rw [beq_eq_false_iff_ne]; omega
    have t32 : ((x1 : Int) == 32) = true := by rw [beq_iff_eq]; omega
    have P0 := Lib.hid (Pw.start (hp.below (bel1 w (.cells #[.int .i64 x1, .int .i64 x2, .int .i64 x3, .string x4, .int .i64 x5, .slice A k.len cap] 25))) (by simp; omega))
    have R0 := Lib.hid (RowB.new w 25 #[.int .i64 x1, .int .i64 x2, .int .i64 x3, .string x4, .int .i64 x5, .slice A k.len cap])
    have HK := Lib.hid (hk.below (bel1 w (.cells #[.int .i64 x1, .int .i64 x2, .int .i64 x3, .string x4, .int .i64 x5, .slice A k.len cap] 25)))
    have HS := Lib.hid hs
    have HOK := Lib.hid hok
    clear hs hs0 hx hx2 hp hk hok hq hK
    go_enter Tryz.func104, Tryz.ntmps104
    have rc := R0.out.cell
    go_wp2_with fail
    have PD := Lib.hid (P0.out.other ((Below.refl _ _).drew))
    have HS0 : ∀ j, (w.alloc (.cells #[.int .i64 x1, .int .i64 x2, .int .i64 x3, .string x4, .int .i64 x5, .slice A k.len cap] 25)).drew.cell? ⟨w.heap.size, j, none⟩ = #[.int .i64 x1, .int .i64 x2, .int .i64 x3, .string x4, .int .i64 x5, .slice A k.len cap][j]? := (PD.out.row R0.out (by omega) (by decide)).cell
    have CM := Lib.hid (labelled_c b 104 (w.alloc (.cells #[.int .i64 x1, .int .i64 x2, .int .i64 x3, .string x4, .int .i64 x5, .slice A k.len cap] 25)).drew (w.heap.size + 1) PD.out.p.lt.1 (by first | (simp; done) | rfl))
    go_region_held3 (fun w' => ∀ j, w'.cell? ⟨w.heap.size, j, none⟩ = #[.int .i64 x1, .int .i64 x2, .int .i64 x3, .string x4, .int .i64 x5, .slice A k.len cap][j]?)
      (first
        | (with_reducible exact HS2)
        | (with_reducible exact HS1)
        | (with_reducible exact HS0))
      (first
        | (go_at_call 123; refine CM.out.mono ?_; rintro e w1 ⟨rfl, BM, JM⟩; have P1 := Lib.hid (PD.out.other BM); have HS1 := (P1.out.row R0.out (by omega) (by decide)).cell; have J1 := Lib.hid JM; clear BM JM; have HKD := Lib.hid (P1.out.kv HK.out))
        | (go_at_call 70; refine (P1.out.list N 139 #[] #[.pointer (some ⟨w.heap.size + 1, 0, none⟩), .pointer (some ⟨w.heap.size + 1 + 1, 0, none⟩)] (fun v w => enter139 _ w) (LbI b 104 (w.heap.size + 1)) (fun _ _ h ho => h.keep ho) (· = 33) (each_lab 104 tyK enter104 33 (.inr rfl) (fun _ h => h) N IH B b d (w.heap.size + 1)) ⟨#[123]⟩ ⟨#[125]⟩ J1.out HKD.out HOK.out HS.out (by omega) hb ([123] ++ cm (prt d k) ++ [125]) rfl hl (by simp <;> omega)).mono ?_; rintro e w2 ⟨rfl, h2⟩; have P2 := Lib.hid h2; have HS2 := (P2.out.row R0.out (by omega) (by decide)).cell)
        | fail)
    go_wp2
    go_end0
    exact (P2.out.cast (by rw [← HX.out]; simp)).doneA hB
  · skip
    have hs := hs0
    rw [hK] at hs
    obtain ⟨hne, hall⟩ := (hs : k.kinds ≠ [] ∧ ∀ x ∈ k.kinds, tyK x)
    obtain ⟨ki, a, ak, rfl⟩ := Fo.last k (fun e => by rw [e] at hne; exact hne rfl)
    have hx2 : [102, 110, 40] ++ cm (prt d ki) ++ [41] ++ ([58, 32] ++ prN d a ak) = x := by
      rw [hx, hK]
      show _ = [102, 110, 40] ++ cm ((prt d (ki.app (.one a ak))).dropLast) ++ [41] ++ [58, 32] ++ (((prt d (ki.app (.one a ak))).getLast?.map Prod.snd).getD [])
      rw [prt_app, prt_one, List.dropLast_concat, List.getLast?_concat]
      simp
    have hlen := Nat.le_of_eq (congrArg List.length hx2)
    simp at hlen
    have HX := Lib.hid hx2
    have t29 : ((x1 : Int) == 29) = false := by rw [beq_eq_false_iff_ne]; omega
    have t30 : ((x1 : Int) == 30) = false := by rw [beq_eq_false_iff_ne]; omega
    have t31 : ((x1 : Int) == 31) = false := by rw [beq_eq_false_iff_ne]; omega
    have t32 : ((x1 : Int) == 32) = false := by rw [beq_eq_false_iff_ne]; omega
    have t34 : ((x1 : Int) == 34) = true := by rw [beq_iff_eq]; omega
    have hdr : (ki.app (.one a ak)).drop ki.len = .cons a ak .nil := Fo.drop_app _ _
    obtain ⟨ba, da⟩ := hb.kid hdr
    have hda := Fo.deep_app' ki (.one a ak)
    have hll := Fo.len_app ki (.one a ak)
    have hl1 : (Fo.one a ak).len = 1 := rfl
    have hki := KV.init hk
    have hcap := hk.1
    have bki : Bd d ki := ⟨by have := hb.dp; omega, by have := hb.ln; omega, by have := hb.wd; have h3 := Fo.wide_app ki (.one a ak); omega⟩
    have oki : okF ki := okF.init hok
    have oa : okF (.one a ak) := okF.drop _ hok hdr
    have hqi : ∀ y ∈ ki.kinds, tyK y := fun y hy => hall y (by rw [Fo.kinds_app]; exact List.mem_append_left _ hy)
    have qa : tyK a.kind := hall _ (by rw [Fo.kinds_app]; exact List.mem_append_right _ List.mem_cons_self)
    obtain ⟨g, o, rfl, hg, hkid⟩ := KidAt.of hk (by omega)
    obtain ⟨Aa, ca, ka⟩ := hkid _ a ak _ hdr
    obtain ⟨n, rfl⟩ : ∃ n, N = n + 1 := ⟨N - 1, by omega⟩
    obtain ⟨n2, hn2⟩ : ∃ n2, n2 = (ki.app (.one a ak)).len := ⟨_, rfl⟩
    rw [← hn2]
    have hn3 : n2 = ki.len + 1 := by omega
    have hln := hb.ln
    have e1 : IntKind.i64.wrap ((n2 : Int) - 1) = (ki.len : Int) := by rw [IntKind.wrap_i64]; omega
    have i1 : (ki.len : Int) < (n2 : Int) := by omega
    have i2 : (ki.len : Int) ≤ (cap : Int) := by omega
    have i3 : ki.len ≤ cap := by omega
    obtain ⟨a1, a2, a3, a4, a5⟩ := a
    have HDI : Hid (ki.deep ≤ n + 1) := by unfold Hid; omega
    have HDA : Hid (ak.deep ≤ n) := by unfold Hid; omega
    have TQ := IH n (by omega)
    have HTQ := Lib.hid (Nat.le_refl n)
    have HI2 := Lib.hid IH
    clear hs0 hx hx2 hok hK hdr hda hll hl1 hn3 hn2 hcap hln hne hall hkid hd da hb hq IH
    have P0 := Lib.hid (Pw.start (hp.below (bel1 w (.cells #[.int .i64 x1, .int .i64 x2, .int .i64 x3, .string x4, .int .i64 x5, .slice (some ⟨g, o, none⟩) n2 cap] 25))) (by simp; omega))
    have R0 := Lib.hid (RowB.new w 25 #[.int .i64 x1, .int .i64 x2, .int .i64 x3, .string x4, .int .i64 x5, .slice (some ⟨g, o, none⟩) n2 cap])
    have KI := Lib.hid (hki.below (bel1 w (.cells #[.int .i64 x1, .int .i64 x2, .int .i64 x3, .string x4, .int .i64 x5, .slice (some ⟨g, o, none⟩) n2 cap] 25)))
    have Ka := Lib.hid (ka.keep ((Below.refl B w).alloc hB (.cells #[.int .i64 x1, .int .i64 x2, .int .i64 x3, .string x4, .int .i64 x5, .slice (some ⟨g, o, none⟩) n2 cap] 25)))
    clear hp hk hki ka
    go_enter Tryz.func104, Tryz.ntmps104
    have C := Lib.hid (P0.out.list n 104 #[.pointer (some ⟨b, 0, none⟩)] #[] (fun v w => enter104 _ w) (fun _ => True) (fun _ _ _ _ => trivial) tyK (each_node TQ B b d) ⟨#[102, 110, 40]⟩ ⟨#[41]⟩ trivial KI.out oki hqi (by have := HDI.out; omega) bki ([102, 110, 40] ++ cm (prt d ki) ++ [41]) rfl hl (by simp <;> omega))
    have rc := R0.out.cell
    go_wp2_with fail
    refine C.out.mono ?_
    rintro e w1 ⟨rfl, h1⟩
    have P1 := Lib.hid h1
    have R1 := Lib.hid (P1.out.row R0.out (by omega) (by decide))
    clear h1 C rc
    have q := Ka.out.keep P1.out.bl
    have C := Lib.hid (P1.out.written TQ q.kv oa (.inr qa) HDA.out ba (x := [58, 32] ++ prN d ⟨a1, a2, a3, a4, a5⟩ ak) (by unfold wrB; unfold tyK at qa; rw [if_neg (by first | omega | (dsimp only; omega) | (dsimp only at *; omega))]) hl (by simp <;> omega))
    have rc := R1.out.cell
    have m0 := q.c0
    have m1 := q.c1
    have m2 := q.c2
    have m3 := q.c3
    have m4 := q.c4
    have m5 := q.c5
    clear q
    go_wp2_with fail
    refine C.out.mono ?_
    rintro e w2 ⟨rfl, h1⟩
    have P2 := Lib.hid h1
    have R2 := Lib.hid (P2.out.row R0.out (by omega) (by decide))
    clear h1 C rc m0 m1 m2 m3 m4 m5
    go_wp2_with fail
    go_end0
    exact (P2.out.cast (by rw [← HX.out]; simp)).doneA hB
end Pg
end Go.Proofs.YtiabkkdeonepgaaGreatDoor
namespace Go.Proofs.YtiabkkdeonepgaaGreatDoor
open Go.RowKit
namespace Pg
open Ps
theorem kindsC {k : Fo} {t : Nat} {l : List Nat} (h : k.kinds = t :: l) : ∃ a ak r, k = .cons a ak r ∧ a.kind = t ∧ r.kinds = l := by
  cases k with
  | nil => cases h
  | cons a ak r =>
    have h2 : a.kind = t ∧ r.kinds = l := by simpa [Fo.kinds] using h
    exact ⟨a, ak, r, rfl, h2.1, h2.2⟩
theorem KV.tail {w : World} {P : Nat → Prop} {h : Hd} {k r : Fo} {g o cap : Nat} (hk : KV w P (.cons h k r) (some ⟨g, o, none⟩) cap) : KV w P r (some ⟨g, o + 6, none⟩) (cap - 1) := by
  have hl : (Fo.cons h k r).len = r.len + 1 := rfl
  refine ⟨by have := hk.1; omega, fun h0 => ?_⟩
  obtain ⟨g', o', ck, e, h2, h3, h4, h5⟩ := hk.2 (by omega)
  injection e with e
  injection e with e1 e2 e3
  subst e1 e2
  rw [FC] at h5
  obtain ⟨A', cap', cs', rfl, q1, q2, q3⟩ := h5
  refine ⟨g, o + 6, cs', rfl, h2, h3, fun j u hu => ?_, q3⟩
  have := h4 (6 + j) u (by rw [List.getElem?_append_right (by simp)]; simpa using hu)
  rw [← this, Nat.add_assoc]
set_option maxHeartbeats 16000000 in
theorem expr_w (N : Nat) (IH : ∀ m, m < N → NodeW 125 exK m) (IT : ∀ m, m < N → NodeW 104 tyK m) (IB : ∀ m, m < N → NodeW 73 (· = 6) m) : NodeW 125 exK N := by
  intro B b d bs h k A cap w hp hB hk ho hq hd hb hl
  obtain ⟨x1, x2, x3, x4, x5⟩ := h
  have hs0 : shp x1 k.kinds := ho.1.2
  have hok := ho.2.1
  have hbl := hp.lt
  obtain ⟨x, hx⟩ : ∃ x, x = prN d ⟨x1, x2, x3, x4, x5⟩ k := ⟨_, rfl⟩
  rw [← hx] at hl ⊢
  dsimp only at hq
  clear ho
  have hc : x1 = 14 ∨ x1 = 15 ∨ x1 = 16 ∨ x1 = 17 ∨ x1 = 18 ∨ x1 = 19 ∨ x1 = 20 ∨ x1 = 21 ∨ x1 = 22 ∨ x1 = 23 ∨ x1 = 24 ∨ x1 = 25 ∨ x1 = 26 ∨ x1 = 28 := by unfold exK at hq; omega
  rcases hc with hK | hK | hK | hK | hK | hK | hK | hK | hK | hK | hK | hK | hK | hK
  · skip
    have hs := hs0
    rw [hK] at hs
    obtain ⟨ta, tc, hks, ua, uc⟩ := (hs : ∃ a b, k.kinds = [a, b] ∧ up 2 a ∧ up 2 b)
    obtain ⟨a, ak, c, ck, rfl, rfl, rfl⟩ := kinds2 hks
    obtain ⟨n, rfl⟩ : ∃ n, N = n + 1 := ⟨N - 1, by have := (hb.kid (i := 0) rfl).2; omega⟩
    obtain ⟨ba, da⟩ := hb.kid (i := 0) (h := a) rfl
    have oa := okF.drop 0 (h := a) hok rfl
    obtain ⟨bc, dc⟩ := hb.kid (i := 1) (h := c) rfl
    have oc := okF.drop 1 (h := c) hok rfl
    have qa := ua.1
    have qc := uc.1
    have IE := IH n (by omega)
    rw [show (Fo.cons a ak (.cons c ck .nil)).len = 2 from rfl]
    have hx2 : prN d a ak ++ [32, 60, 32] ++ prN d c ck = x := by rw [hx, hK]; rfl
    have hlen := Nat.le_of_eq (congrArg List.length hx2)
    simp at hlen
    have HX := Lib.hid hx2
    have t14 : ((x1 : Int) == 14) = true := by rw [beq_iff_eq]; omega
    have P0 := Lib.hid (Pw.start (hp.below (bel1 w (.cells #[.int .i64 x1, .int .i64 x2, .int .i64 x3, .string x4, .int .i64 x5, .slice A 2 cap] 25))) (by simp; omega))
    have R0 := Lib.hid (RowB.new w 25 #[.int .i64 x1, .int .i64 x2, .int .i64 x3, .string x4, .int .i64 x5, .slice A 2 cap])
    have KA := Lib.hid (hk.below (bel1 w (.cells #[.int .i64 x1, .int .i64 x2, .int .i64 x3, .string x4, .int .i64 x5, .slice A 2 cap] 25)))
    have HA1 : Hid (ak.deep ≤ n) := by unfold Hid; omega
    have HA2 : Hid (ck.deep ≤ n) := by unfold Hid; omega
    clear hs0 hx hx2 hp hk hok hb hq hK hks ua uc hd IH IT IB da dc
    go_enter Tryz.func125, Tryz.ntmps125
    have C := Lib.hid ((two_w n IE B b d _ _ x1 x2 x3 x4 x5 a c ak ck A cap ⟨#[32, 60, 32]⟩ P0.out.p P0.out.size.1 KA.out oa oc qa qc HA1.out HA2.out ba bc (prN d a ak ++ [32, 60, 32] ++ prN d c ck) rfl (by rw [List.length_append, Lib.byteCells_length]; simp <;> omega)).mono fun _ _ hw => P0.out.step hw)
    have rc := R0.out.cell
    go_wp2_with fail
    refine C.out.mono ?_
    rintro e w1 ⟨rfl, h1⟩
    have P1 := Lib.hid h1
    have R1 := Lib.hid (P1.out.row R0.out (by omega) (by decide))
    clear h1 C rc
    go_wp2_with fail
    go_end0
    exact (P1.out.cast (by rw [← HX.out]; simp)).doneA hB
  · skip
    have hs := hs0
    rw [hK] at hs
    obtain ⟨ta, tc, hks, ua, uc⟩ := (hs : ∃ a b, k.kinds = [a, b] ∧ up 2 a ∧ up 2 b)
    obtain ⟨a, ak, c, ck, rfl, rfl, rfl⟩ := kinds2 hks
    obtain ⟨n, rfl⟩ : ∃ n, N = n + 1 := ⟨N - 1, by have := (hb.kid (i := 0) rfl).2; omega⟩
    obtain ⟨ba, da⟩ := hb.kid (i := 0) (h := a) rfl
    have oa := okF.drop 0 (h := a) hok rfl
    obtain ⟨bc, dc⟩ := hb.kid (i := 1) (h := c) rfl
    have oc := okF.drop 1 (h := c) hok rfl
    have qa := ua.1
    have qc := uc.1
    have IE := IH n (by omega)
    rw [show (Fo.cons a ak (.cons c ck .nil)).len = 2 from rfl]
    have hx2 : prN d a ak ++ [32, 61, 61, 32] ++ prN d c ck = x := by rw [hx, hK]; rfl
    have hlen := Nat.le_of_eq (congrArg List.length hx2)
    simp at hlen
    have HX := Lib.hid hx2
    have t14 : ((x1 : Int) == 14) = false := by rw [beq_eq_false_iff_ne]; omega
    have t15 : ((x1 : Int) == 15) = true := by rw [beq_iff_eq]; omega
    have P0 := Lib.hid (Pw.start (hp.below (bel1 w (.cells #[.int .i64 x1, .int .i64 x2, .int .i64 x3, .string x4, .int .i64 x5, .slice A 2 cap] 25))) (by simp; omega))
    have R0 := Lib.hid (RowB.new w 25 #[.int .i64 x1, .int .i64 x2, .int .i64 x3, .string x4, .int .i64 x5, .slice A 2 cap])
    have KA := Lib.hid (hk.below (bel1 w (.cells #[.int .i64 x1, .int .i64 x2, .int .i64 x3, .string x4, .int .i64 x5, .slice A 2 cap] 25)))
    have HA1 : Hid (ak.deep ≤ n) := by unfold Hid; omega
    have HA2 : Hid (ck.deep ≤ n) := by unfold Hid; omega
    clear hs0 hx hx2 hp hk hok hb hq hK hks ua uc hd IH IT IB da dc
    go_enter Tryz.func125, Tryz.ntmps125
    have C := Lib.hid ((two_w n IE B b d _ _ x1 x2 x3 x4 x5 a c ak ck A cap ⟨#[32, 61, 61, 32]⟩ P0.out.p P0.out.size.1 KA.out oa oc qa qc HA1.out HA2.out ba bc (prN d a ak ++ [32, 61, 61, 32] ++ prN d c ck) rfl (by rw [List.length_append, Lib.byteCells_length]; simp <;> omega)).mono fun _ _ hw => P0.out.step hw)
    have rc := R0.out.cell
    go_wp2_with fail
    refine C.out.mono ?_
    rintro e w1 ⟨rfl, h1⟩
    have P1 := Lib.hid h1
    have R1 := Lib.hid (P1.out.row R0.out (by omega) (by decide))
    clear h1 C rc
    go_wp2_with fail
    go_end0
    exact (P1.out.cast (by rw [← HX.out]; simp)).doneA hB
  · skip
    have hs := hs0
    rw [hK] at hs
    obtain ⟨ta, tc, hks, ua, uc⟩ := (hs : ∃ a b, k.kinds = [a, b] ∧ up 2 a ∧ up 1 b)
    obtain ⟨a, ak, c, ck, rfl, rfl, rfl⟩ := kinds2 hks
    obtain ⟨n, rfl⟩ : ∃ n, N = n + 1 := ⟨N - 1, by have := (hb.kid (i := 0) rfl).2; omega⟩
    obtain ⟨ba, da⟩ := hb.kid (i := 0) (h := a) rfl
    have oa := okF.drop 0 (h := a) hok rfl
    obtain ⟨bc, dc⟩ := hb.kid (i := 1) (h := c) rfl
    have oc := okF.drop 1 (h := c) hok rfl
    have qa := ua.1
    have qc := uc.1
    have IE := IH n (by omega)
    rw [show (Fo.cons a ak (.cons c ck .nil)).len = 2 from rfl]
    have hx2 : prN d a ak ++ [32, 43, 32] ++ prN d c ck = x := by rw [hx, hK]; rfl
    have hlen := Nat.le_of_eq (congrArg List.length hx2)
    simp at hlen
    have HX := Lib.hid hx2
    have t14 : ((x1 : Int) == 14) = false := by rw [beq_eq_false_iff_ne]; omega
    have t15 : ((x1 : Int) == 15) = false := by rw [beq_eq_false_iff_ne]; omega
    have t16 : ((x1 : Int) == 16) = true := by rw [beq_iff_eq]; omega
    have P0 := Lib.hid (Pw.start (hp.below (bel1 w (.cells #[.int .i64 x1, .int .i64 x2, .int .i64 x3, .string x4, .int .i64 x5, .slice A 2 cap] 25))) (by simp; omega))
    have R0 := Lib.hid (RowB.new w 25 #[.int .i64 x1, .int .i64 x2, .int .i64 x3, .string x4, .int .i64 x5, .slice A 2 cap])
    have KA := Lib.hid (hk.below (bel1 w (.cells #[.int .i64 x1, .int .i64 x2, .int .i64 x3, .string x4, .int .i64 x5, .slice A 2 cap] 25)))
    have HA1 : Hid (ak.deep ≤ n) := by unfold Hid; omega
    have HA2 : Hid (ck.deep ≤ n) := by unfold Hid; omega
    clear hs0 hx hx2 hp hk hok hb hq hK hks ua uc hd IH IT IB da dc
    go_enter Tryz.func125, Tryz.ntmps125
    have C := Lib.hid ((two_w n IE B b d _ _ x1 x2 x3 x4 x5 a c ak ck A cap ⟨#[32, 43, 32]⟩ P0.out.p P0.out.size.1 KA.out oa oc qa qc HA1.out HA2.out ba bc (prN d a ak ++ [32, 43, 32] ++ prN d c ck) rfl (by rw [List.length_append, Lib.byteCells_length]; simp <;> omega)).mono fun _ _ hw => P0.out.step hw)
    have rc := R0.out.cell
    go_wp2_with fail
    refine C.out.mono ?_
    rintro e w1 ⟨rfl, h1⟩
    have P1 := Lib.hid h1
    have R1 := Lib.hid (P1.out.row R0.out (by omega) (by decide))
    clear h1 C rc
    go_wp2_with fail
    go_end0
    exact (P1.out.cast (by rw [← HX.out]; simp)).doneA hB
  · skip
    have hs := hs0
    rw [hK] at hs
    obtain ⟨ta, tc, hks, ua, uc⟩ := (hs : ∃ a b, k.kinds = [a, b] ∧ up 2 a ∧ up 1 b)
    obtain ⟨a, ak, c, ck, rfl, rfl, rfl⟩ := kinds2 hks
    obtain ⟨n, rfl⟩ : ∃ n, N = n + 1 := ⟨N - 1, by have := (hb.kid (i := 0) rfl).2; omega⟩
    obtain ⟨ba, da⟩ := hb.kid (i := 0) (h := a) rfl
    have oa := okF.drop 0 (h := a) hok rfl
    obtain ⟨bc, dc⟩ := hb.kid (i := 1) (h := c) rfl
    have oc := okF.drop 1 (h := c) hok rfl
    have qa := ua.1
    have qc := uc.1
    have IE := IH n (by omega)
    rw [show (Fo.cons a ak (.cons c ck .nil)).len = 2 from rfl]
    have hx2 : prN d a ak ++ [32, 45, 32] ++ prN d c ck = x := by rw [hx, hK]; rfl
    have hlen := Nat.le_of_eq (congrArg List.length hx2)
    simp at hlen
    have HX := Lib.hid hx2
    have t14 : ((x1 : Int) == 14) = false := by rw [beq_eq_false_iff_ne]; omega
    have t15 : ((x1 : Int) == 15) = false := by rw [beq_eq_false_iff_ne]; omega
    have t16 : ((x1 : Int) == 16) = false := by rw [beq_eq_false_iff_ne]; omega
    have t17 : ((x1 : Int) == 17) = true := by rw [beq_iff_eq]; omega
    have P0 := Lib.hid (Pw.start (hp.below (bel1 w (.cells #[.int .i64 x1, .int .i64 x2, .int .i64 x3, .string x4, .int .i64 x5, .slice A 2 cap] 25))) (by simp; omega))
    have R0 := Lib.hid (RowB.new w 25 #[.int .i64 x1, .int .i64 x2, .int .i64 x3, .string x4, .int .i64 x5, .slice A 2 cap])
    have KA := Lib.hid (hk.below (bel1 w (.cells #[.int .i64 x1, .int .i64 x2, .int .i64 x3, .string x4, .int .i64 x5, .slice A 2 cap] 25)))
    have HA1 : Hid (ak.deep ≤ n) := by unfold Hid; omega
    have HA2 : Hid (ck.deep ≤ n) := by unfold Hid; omega
    clear hs0 hx hx2 hp hk hok hb hq hK hks ua uc hd IH IT IB da dc
    go_enter Tryz.func125, Tryz.ntmps125
    have C := Lib.hid ((two_w n IE B b d _ _ x1 x2 x3 x4 x5 a c ak ck A cap ⟨#[32, 45, 32]⟩ P0.out.p P0.out.size.1 KA.out oa oc qa qc HA1.out HA2.out ba bc (prN d a ak ++ [32, 45, 32] ++ prN d c ck) rfl (by rw [List.length_append, Lib.byteCells_length]; simp <;> omega)).mono fun _ _ hw => P0.out.step hw)
    have rc := R0.out.cell
    go_wp2_with fail
    refine C.out.mono ?_
    rintro e w1 ⟨rfl, h1⟩
    have P1 := Lib.hid h1
    have R1 := Lib.hid (P1.out.row R0.out (by omega) (by decide))
    clear h1 C rc
    go_wp2_with fail
    go_end0
    exact (P1.out.cast (by rw [← HX.out]; simp)).doneA hB
  · skip
    have hs := hs0
    rw [hK] at hs
    obtain ⟨ta, tc, hks, ua, uc⟩ := (hs : ∃ a b, k.kinds = [a, b] ∧ up 1 a ∧ up 0 b)
    obtain ⟨a, ak, c, ck, rfl, rfl, rfl⟩ := kinds2 hks
    obtain ⟨n, rfl⟩ : ∃ n, N = n + 1 := ⟨N - 1, by have := (hb.kid (i := 0) rfl).2; omega⟩
    obtain ⟨ba, da⟩ := hb.kid (i := 0) (h := a) rfl
    have oa := okF.drop 0 (h := a) hok rfl
    obtain ⟨bc, dc⟩ := hb.kid (i := 1) (h := c) rfl
    have oc := okF.drop 1 (h := c) hok rfl
    have qa := ua.1
    have qc := uc.1
    have IE := IH n (by omega)
    rw [show (Fo.cons a ak (.cons c ck .nil)).len = 2 from rfl]
    have hx2 : prN d a ak ++ [32, 42, 32] ++ prN d c ck = x := by rw [hx, hK]; rfl
    have hlen := Nat.le_of_eq (congrArg List.length hx2)
    simp at hlen
    have HX := Lib.hid hx2
    have t14 : ((x1 : Int) == 14) = false := by rw [beq_eq_false_iff_ne]; omega
    have t15 : ((x1 : Int) == 15) = false := by rw [beq_eq_false_iff_ne]; omega
    have t16 : ((x1 : Int) == 16) = false := by rw [beq_eq_false_iff_ne]; omega
    have t17 : ((x1 : Int) == 17) = false := by rw [beq_eq_false_iff_ne]; omega
    have t18 : ((x1 : Int) == 18) = true := by rw [beq_iff_eq]; omega
    have P0 := Lib.hid (Pw.start (hp.below (bel1 w (.cells #[.int .i64 x1, .int .i64 x2, .int .i64 x3, .string x4, .int .i64 x5, .slice A 2 cap] 25))) (by simp; omega))
    have R0 := Lib.hid (RowB.new w 25 #[.int .i64 x1, .int .i64 x2, .int .i64 x3, .string x4, .int .i64 x5, .slice A 2 cap])
    have KA := Lib.hid (hk.below (bel1 w (.cells #[.int .i64 x1, .int .i64 x2, .int .i64 x3, .string x4, .int .i64 x5, .slice A 2 cap] 25)))
    have HA1 : Hid (ak.deep ≤ n) := by unfold Hid; omega
    have HA2 : Hid (ck.deep ≤ n) := by unfold Hid; omega
    clear hs0 hx hx2 hp hk hok hb hq hK hks ua uc hd IH IT IB da dc
    go_enter Tryz.func125, Tryz.ntmps125
    have C := Lib.hid ((two_w n IE B b d _ _ x1 x2 x3 x4 x5 a c ak ck A cap ⟨#[32, 42, 32]⟩ P0.out.p P0.out.size.1 KA.out oa oc qa qc HA1.out HA2.out ba bc (prN d a ak ++ [32, 42, 32] ++ prN d c ck) rfl (by rw [List.length_append, Lib.byteCells_length]; simp <;> omega)).mono fun _ _ hw => P0.out.step hw)
    have rc := R0.out.cell
    go_wp2_with fail
    refine C.out.mono ?_
    rintro e w1 ⟨rfl, h1⟩
    have P1 := Lib.hid h1
    have R1 := Lib.hid (P1.out.row R0.out (by omega) (by decide))
    clear h1 C rc
    go_wp2_with fail
    go_end0
    exact (P1.out.cast (by rw [← HX.out]; simp)).doneA hB
  · skip
    have hs := hs0
    rw [hK] at hs
    obtain ⟨ta, hks, ua⟩ := (hs : ∃ a, k.kinds = [a] ∧ up 0 a)
    obtain ⟨a, ak, rfl, rfl⟩ := kinds1 hks
    obtain ⟨n, rfl⟩ : ∃ n, N = n + 1 := ⟨N - 1, by have := (hb.kid (i := 0) rfl).2; omega⟩
    obtain ⟨ba, da⟩ := hb.kid (i := 0) (h := a) rfl
    have oa := okF.drop 0 (h := a) hok rfl
    have qa := ua.1
    have IE := IH n (by omega)
    rw [show (Fo.cons a ak .nil).len = 1 from rfl]
    obtain ⟨g, o, rfl, hg, hkid⟩ := KidAt.of hk (by simp [Fo.len])
    obtain ⟨a1, a2, a3, a4, a5⟩ := a
    have hx2 : prN d ⟨a1, a2, a3, a4, a5⟩ ak ++ [46] ++ x4.data.toList = x := by rw [hx, hK]; rfl
    have hlen := Nat.le_of_eq (congrArg List.length hx2)
    simp at hlen
    have HX := Lib.hid hx2
    have t14 : ((x1 : Int) == 14) = false := by rw [beq_eq_false_iff_ne]; omega
    have t15 : ((x1 : Int) == 15) = false := by rw [beq_eq_false_iff_ne]; omega
    have t16 : ((x1 : Int) == 16) = false := by rw [beq_eq_false_iff_ne]; omega
    have t17 : ((x1 : Int) == 17) = false := by rw [beq_eq_false_iff_ne]; omega
    have t18 : ((x1 : Int) == 18) = false := by rw [beq_eq_false_iff_ne]; omega
    have t19 : ((x1 : Int) == 19) = true := by rw [beq_iff_eq]; omega
    have P0 := Lib.hid (Pw.start (hp.below (bel1 w (.cells #[.int .i64 x1, .int .i64 x2, .int .i64 x3, .string x4, .int .i64 x5, .slice (some ⟨g, o, none⟩) 1 cap] 25))) (by simp; omega))
    have R0 := Lib.hid (RowB.new w 25 #[.int .i64 x1, .int .i64 x2, .int .i64 x3, .string x4, .int .i64 x5, .slice (some ⟨g, o, none⟩) 1 cap])
    obtain ⟨Aa, ca, ka⟩ := hkid 0 _ _ _ rfl
    rw [show o + 0 * 6 = o by omega] at ka
    have Ka := Lib.hid (ka.keep ((Below.refl B w).alloc hB (.cells #[.int .i64 x1, .int .i64 x2, .int .i64 x3, .string x4, .int .i64 x5, .slice (some ⟨g, o, none⟩) 1 cap] 25)))
    clear ka
    have HA1 : Hid (ak.deep ≤ n) := by unfold Hid; omega
    clear hs0 hx hx2 hp hk hok hb hq hK hks ua hd IH IT IB da hkid
    go_enter Tryz.func125, Tryz.ntmps125
    have q := Ka.out.keep P0.out.bl
    have C := Lib.hid (P0.out.node IE q.kv oa qa HA1.out ba hl (by simp <;> omega))
    have rc := R0.out.cell
    have m0 := q.c0
    have m1 := q.c1
    have m2 := q.c2
    have m3 := q.c3
    have m4 := q.c4
    have m5 := q.c5
    clear q
    go_wp2_with fail
    refine C.out.mono ?_
    rintro e w1 ⟨rfl, h1⟩
    have P1 := Lib.hid h1
    have R1 := Lib.hid (P1.out.row R0.out (by omega) (by decide))
    clear h1 C rc m0 m1 m2 m3 m4 m5
    have C := Lib.hid (P1.out.texts w1.heap.size rfl [⟨#[46]⟩, x4] 2 #[.string ⟨#[46]⟩, .string x4] ([46] ++ x4.data.toList) rfl (by simp [cat]) rfl (by simp) hl (by simp <;> omega))
    have rc := R1.out.cell
    go_wp2_with fail
    refine C.out.mono ?_
    rintro e w2 ⟨rfl, h1⟩
    have P2 := Lib.hid h1
    have R2 := Lib.hid (P2.out.row R0.out (by omega) (by decide))
    clear h1 C rc
    go_wp2_with fail
    go_end0
    exact (P2.out.cast (by rw [← HX.out]; simp)).doneA hB
  · skip
    have hs := hs0
    rw [hK] at hs
    obtain ⟨ta, tl, hks, ua, ul⟩ := (hs : ∃ a l, k.kinds = a :: l ∧ up 0 a ∧ ∀ x ∈ l, up 3 x)
    obtain ⟨a, ak, r, rfl, rfl, rfl⟩ := kindsC hks
    obtain ⟨n, rfl⟩ : ∃ n, N = n + 1 := ⟨N - 1, by have := (hb.kid (i := 0) rfl).2; omega⟩
    obtain ⟨ba, da⟩ := hb.kid (i := 0) (h := a) rfl
    have oa := okF.drop 0 (h := a) hok rfl
    have qa := ua.1
    have hqi : ∀ y ∈ r.kinds, exK y := fun y hy => (ul y hy).1
    have IE := IH n (by omega)
    rw [show (Fo.cons a ak r).len = r.len + 1 from rfl]
    obtain ⟨g, o, rfl, hg, hkid⟩ := KidAt.of hk (by simp [Fo.len])
    obtain ⟨a1, a2, a3, a4, a5⟩ := a
    have hor : okF r := hok.2.2
    have hdr : r.deep ≤ n + 1 := by have := fo_deep_cons ⟨a1, a2, a3, a4, a5⟩ ak r; omega
    have hbr : Bd d r := ⟨by have := hb.dp; have := fo_deep_cons ⟨a1, a2, a3, a4, a5⟩ ak r; omega, by have := hb.ln; simp [Fo.len] at this; omega, by have := hb.wd; simp [Fo.wide] at this; omega⟩
    have hkt := KV.tail hk
    have hcap : r.len + 1 ≤ cap := hk.1
    have hln : r.len + 1 ≤ 1000001 := hb.ln
    obtain ⟨n2, hn2⟩ : ∃ n2, n2 = r.len + 1 := ⟨_, rfl⟩
    obtain ⟨c2, hc2⟩ : ∃ c2, c2 = cap - 1 := ⟨_, rfl⟩
    rw [← hn2]
    have e1 : IntKind.i64.wrap ((n2 : Int) - 1) = (r.len : Int) := by rw [IntKind.wrap_i64]; omega
    have i1 : (1 : Int) ≤ (n2 : Int) := by omega
    have i2 : (n2 : Int) ≤ (cap : Int) := by omega
    have i4 : 0 < n2 := by omega
    have hx2 : prN d ⟨a1, a2, a3, a4, a5⟩ ak ++ [40] ++ cm (prt d r) ++ [41] = x := by rw [hx, hK]; rfl
    have hlen := Nat.le_of_eq (congrArg List.length hx2)
    simp at hlen
    have HX := Lib.hid hx2
    have t14 : ((x1 : Int) == 14) = false := by rw [beq_eq_false_iff_ne]; omega
    have t15 : ((x1 : Int) == 15) = false := by rw [beq_eq_false_iff_ne]; omega
    have t16 : ((x1 : Int) == 16) = false := by rw [beq_eq_false_iff_ne]; omega
    have t17 : ((x1 : Int) == 17) = false := by rw [beq_eq_false_iff_ne]; omega
    have t18 : ((x1 : Int) == 18) = false := by rw [beq_eq_false_iff_ne]; omega
    have t19 : ((x1 : Int) == 19) = false := by rw [beq_eq_false_iff_ne]; omega
    have t20 : ((x1 : Int) == 20) = true := by rw [beq_iff_eq]; omega
    have P0 := Lib.hid (Pw.start (hp.below (bel1 w (.cells #[.int .i64 x1, .int .i64 x2, .int .i64 x3, .string x4, .int .i64 x5, .slice (some ⟨g, o, none⟩) n2 cap] 25))) (by simp; omega))
    have R0 := Lib.hid (RowB.new w 25 #[.int .i64 x1, .int .i64 x2, .int .i64 x3, .string x4, .int .i64 x5, .slice (some ⟨g, o, none⟩) n2 cap])
    obtain ⟨Aa, ca, ka⟩ := hkid 0 _ _ _ rfl
    rw [show o + 0 * 6 = o by omega] at ka
    have Ka := Lib.hid (ka.keep ((Below.refl B w).alloc hB (.cells #[.int .i64 x1, .int .i64 x2, .int .i64 x3, .string x4, .int .i64 x5, .slice (some ⟨g, o, none⟩) n2 cap] 25)))
    clear ka
    have KT := Lib.hid (hkt.below (bel1 w (.cells #[.int .i64 x1, .int .i64 x2, .int .i64 x3, .string x4, .int .i64 x5, .slice (some ⟨g, o, none⟩) n2 cap] 25)))
    have HA1 : Hid (ak.deep ≤ n) := by unfold Hid; omega
    have HN2 := Lib.hid hn2
    have HC2 := Lib.hid hc2
    clear hs0 hx hx2 hp hk hok hb hq hK hks ua ul hd IH IT IB da hkid hkt hcap hn2 hc2 hln
    go_enter Tryz.func125, Tryz.ntmps125
    have q := Ka.out.keep P0.out.bl
    have C := Lib.hid (P0.out.node IE q.kv oa qa HA1.out ba hl (by simp <;> omega))
    have rc := R0.out.cell
    have m0 := q.c0
    have m1 := q.c1
    have m2 := q.c2
    have m3 := q.c3
    have m4 := q.c4
    have m5 := q.c5
    clear q
    go_wp2_with fail
    refine C.out.mono ?_
    rintro e w1 ⟨rfl, h1⟩
    have P1 := Lib.hid h1
    have R1 := Lib.hid (P1.out.row R0.out (by omega) (by decide))
    clear h1 C rc m0 m1 m2 m3 m4 m5
    have rc := R1.out.cell
    go_wp2_with fail
    · have hr0 : r.len = 0 := by have := HN2.out; omega
      rw [show n2 - 1 = r.len by have := HN2.out; omega]
      refine (P1.out.list n 125 #[.pointer (some ⟨b, 0, none⟩)] #[] (fun v w => enter125 _ w) (fun _ => True) (fun _ _ _ _ => trivial) exK (each_node IE B b d) (A := some ⟨g, o, none⟩) (cap := 0) ⟨#[40]⟩ ⟨#[41]⟩ trivial ⟨by omega, fun h0 => absurd h0 (by omega)⟩ hor hqi hdr hbr ([40] ++ cm (prt d r) ++ [41]) rfl hl (by simp <;> omega)).mono ?_
      rintro e w2 ⟨rfl, h1⟩
      have P2 := Lib.hid h1
      clear h1 rc
      go_wp2_with fail
      go_end0
      exact (P2.out.cast (by rw [← HX.out]; simp)).doneA hB
    · skip
      rw [show n2 - 1 = r.len by have := HN2.out; omega]
      refine (P1.out.list n 125 #[.pointer (some ⟨b, 0, none⟩)] #[] (fun v w => enter125 _ w) (fun _ => True) (fun _ _ _ _ => trivial) exK (each_node IE B b d) (A := some ⟨g, o + 6, none⟩) (cap := (cap - 1)) ⟨#[40]⟩ ⟨#[41]⟩ trivial (P1.out.kv KT.out) hor hqi hdr hbr ([40] ++ cm (prt d r) ++ [41]) rfl hl (by simp <;> omega)).mono ?_
      rintro e w2 ⟨rfl, h1⟩
      have P2 := Lib.hid h1
      clear h1 rc
      go_wp2_with fail
      go_end0
      exact (P2.out.cast (by rw [← HX.out]; simp)).doneA hB
  · skip
    have hs := hs0
    rw [hK] at hs
    have hx2 : x4.data.toList = x := by rw [hx, hK]; rfl
    have hlen := Nat.le_of_eq (congrArg List.length hx2)
    simp at hlen
    have HX := Lib.hid hx2
    have t14 : ((x1 : Int) == 14) = false := by rw [beq_eq_false_iff_ne]; omega
    have t15 : ((x1 : Int) == 15) = false := by rw [beq_eq_false_iff_ne]; omega
    have t16 : ((x1 : Int) == 16) = false := by rw [beq_eq_false_iff_ne]; omega
    have t17 : ((x1 : Int) == 17) = false := by rw [beq_eq_false_iff_ne]; omega
    have t18 : ((x1 : Int) == 18) = false := by rw [beq_eq_false_iff_ne]; omega
    have t19 : ((x1 : Int) == 19) = false := by rw [beq_eq_false_iff_ne]; omega
    have t20 : ((x1 : Int) == 20) = false := by rw [beq_eq_false_iff_ne]; omega
    have t21 : ((x1 : Int) == 21) = true := by rw [beq_iff_eq]; omega
    have P0 := Lib.hid (Pw.start (hp.below (bel1 w (.cells #[.int .i64 x1, .int .i64 x2, .int .i64 x3, .string x4, .int .i64 x5, .slice A k.len cap] 25))) (by simp; omega))
    have R0 := Lib.hid (RowB.new w 25 #[.int .i64 x1, .int .i64 x2, .int .i64 x3, .string x4, .int .i64 x5, .slice A k.len cap])
    clear hs hs0 hx hx2 hp hk hok hb hq hK
    go_enter Tryz.func125, Tryz.ntmps125
    have C := Lib.hid (P0.out.texts (w.heap.size + 1) (by simp) [x4] 1 #[.string x4] x4.data.toList rfl (by simp [cat]) rfl (by simp) hl (by simp <;> omega))
    have rc := R0.out.cell
    go_wp2_with fail
    refine C.out.mono ?_
    rintro e w1 ⟨rfl, h1⟩
    have P1 := Lib.hid h1
    have R1 := Lib.hid (P1.out.row R0.out (by omega) (by decide))
    clear h1 C rc
    go_wp2_with fail
    go_end0
    exact (P1.out.cast (by rw [← HX.out]; simp)).doneA hB
  · skip
    have hs := hs0
    rw [hK] at hs
    have hx2 : x4.data.toList = x := by rw [hx, hK]; rfl
    have hlen := Nat.le_of_eq (congrArg List.length hx2)
    simp at hlen
    have HX := Lib.hid hx2
    have t14 : ((x1 : Int) == 14) = false := by rw [beq_eq_false_iff_ne]; omega
    have t15 : ((x1 : Int) == 15) = false := by rw [beq_eq_false_iff_ne]; omega
    have t16 : ((x1 : Int) == 16) = false := by rw [beq_eq_false_iff_ne]; omega
    have t17 : ((x1 : Int) == 17) = false := by rw [beq_eq_false_iff_ne]; omega
    have t18 : ((x1 : Int) == 18) = false := by rw [beq_eq_false_iff_ne]; omega
    have t19 : ((x1 : Int) == 19) = false := by rw [beq_eq_false_iff_ne]; omega
    have t20 : ((x1 : Int) == 20) = false := by rw [beq_eq_false_iff_ne]; omega
    have t21 : ((x1 : Int) == 21) = false := by rw [beq_eq_false_iff_ne]; omega
    have t22 : ((x1 : Int) == 22) = true := by rw [beq_iff_eq]; omega
    have P0 := Lib.hid (Pw.start (hp.below (bel1 w (.cells #[.int .i64 x1, .int .i64 x2, .int .i64 x3, .string x4, .int .i64 x5, .slice A k.len cap] 25))) (by simp; omega))
    have R0 := Lib.hid (RowB.new w 25 #[.int .i64 x1, .int .i64 x2, .int .i64 x3, .string x4, .int .i64 x5, .slice A k.len cap])
    clear hs hs0 hx hx2 hp hk hok hb hq hK
    go_enter Tryz.func125, Tryz.ntmps125
    have C := Lib.hid (P0.out.texts (w.heap.size + 1) (by simp) [x4] 1 #[.string x4] x4.data.toList rfl (by simp [cat]) rfl (by simp) hl (by simp <;> omega))
    have rc := R0.out.cell
    go_wp2_with fail
    refine C.out.mono ?_
    rintro e w1 ⟨rfl, h1⟩
    have P1 := Lib.hid h1
    have R1 := Lib.hid (P1.out.row R0.out (by omega) (by decide))
    clear h1 C rc
    go_wp2_with fail
    go_end0
    exact (P1.out.cast (by rw [← HX.out]; simp)).doneA hB
  · skip
    have hs := hs0
    rw [hK] at hs
    have hx2 : x4.data.toList = x := by rw [hx, hK]; rfl
    have hlen := Nat.le_of_eq (congrArg List.length hx2)
    simp at hlen
    have HX := Lib.hid hx2
    have t14 : ((x1 : Int) == 14) = false := by rw [beq_eq_false_iff_ne]; omega
    have t15 : ((x1 : Int) == 15) = false := by rw [beq_eq_false_iff_ne]; omega
    have t16 : ((x1 : Int) == 16) = false := by rw [beq_eq_false_iff_ne]; omega
    have t17 : ((x1 : Int) == 17) = false := by rw [beq_eq_false_iff_ne]; omega
    have t18 : ((x1 : Int) == 18) = false := by rw [beq_eq_false_iff_ne]; omega
    have t19 : ((x1 : Int) == 19) = false := by rw [beq_eq_false_iff_ne]; omega
    have t20 : ((x1 : Int) == 20) = false := by rw [beq_eq_false_iff_ne]; omega
    have t21 : ((x1 : Int) == 21) = false := by rw [beq_eq_false_iff_ne]; omega
    have t22 : ((x1 : Int) == 22) = false := by rw [beq_eq_false_iff_ne]; omega
    have t23 : ((x1 : Int) == 23) = true := by rw [beq_iff_eq]; omega
    have P0 := Lib.hid (Pw.start (hp.below (bel1 w (.cells #[.int .i64 x1, .int .i64 x2, .int .i64 x3, .string x4, .int .i64 x5, .slice A k.len cap] 25))) (by simp; omega))
    have R0 := Lib.hid (RowB.new w 25 #[.int .i64 x1, .int .i64 x2, .int .i64 x3, .string x4, .int .i64 x5, .slice A k.len cap])
    clear hs hs0 hx hx2 hp hk hok hb hq hK
    go_enter Tryz.func125, Tryz.ntmps125
    have C := Lib.hid (P0.out.texts (w.heap.size + 1) (by simp) [x4] 1 #[.string x4] x4.data.toList rfl (by simp [cat]) rfl (by simp) hl (by simp <;> omega))
    have rc := R0.out.cell
    go_wp2_with fail
    refine C.out.mono ?_
    rintro e w1 ⟨rfl, h1⟩
    have P1 := Lib.hid h1
    have R1 := Lib.hid (P1.out.row R0.out (by omega) (by decide))
    clear h1 C rc
    go_wp2_with fail
    go_end0
    exact (P1.out.cast (by rw [← HX.out]; simp)).doneA hB
  · skip
    have hs := hs0
    rw [hK] at hs
    have hx2 : [105, 110, 112, 117, 116] = x := by rw [hx, hK]; rfl
    have hlen := Nat.le_of_eq (congrArg List.length hx2)
    simp at hlen
    have HX := Lib.hid hx2
    have t14 : ((x1 : Int) == 14) = false := by rw [beq_eq_false_iff_ne]; omega
    have t15 : ((x1 : Int) == 15) = false := by rw [beq_eq_false_iff_ne]; omega
    have t16 : ((x1 : Int) == 16) = false := by rw [beq_eq_false_iff_ne]; omega
    have t17 : ((x1 : Int) == 17) = false := by rw [beq_eq_false_iff_ne]; omega
    have t18 : ((x1 : Int) == 18) = false := by rw [beq_eq_false_iff_ne]; omega
    have t19 : ((x1 : Int) == 19) = false := by rw [beq_eq_false_iff_ne]; omega
    have t20 : ((x1 : Int) == 20) = false := by rw [beq_eq_false_iff_ne]; omega
    have t21 : ((x1 : Int) == 21) = false := by rw [beq_eq_false_iff_ne]; omega
    have t22 : ((x1 : Int) == 22) = false := by rw [beq_eq_false_iff_ne]; omega
    have t23 : ((x1 : Int) == 23) = false := by rw [beq_eq_false_iff_ne]; omega
    have t24 : ((x1 : Int) == 24) = true := by rw [beq_iff_eq]; omega
    have P0 := Lib.hid (Pw.start (hp.below (bel1 w (.cells #[.int .i64 x1, .int .i64 x2, .int .i64 x3, .string x4, .int .i64 x5, .slice A k.len cap] 25))) (by simp; omega))
    have R0 := Lib.hid (RowB.new w 25 #[.int .i64 x1, .int .i64 x2, .int .i64 x3, .string x4, .int .i64 x5, .slice A k.len cap])
    clear hs hs0 hx hx2 hp hk hok hb hq hK
    go_enter Tryz.func125, Tryz.ntmps125
    have C := Lib.hid (P0.out.texts (w.heap.size + 1) (by simp) [⟨#[105, 110, 112, 117, 116]⟩] 1 #[.string ⟨#[105, 110, 112, 117, 116]⟩] [105, 110, 112, 117, 116] rfl (by simp [cat]) rfl (by simp) hl (by simp <;> omega))
    have rc := R0.out.cell
    go_wp2_with fail
    refine C.out.mono ?_
    rintro e w1 ⟨rfl, h1⟩
    have P1 := Lib.hid h1
    have R1 := Lib.hid (P1.out.row R0.out (by omega) (by decide))
    clear h1 C rc
    go_wp2_with fail
    go_end0
    exact (P1.out.cast (by rw [← HX.out]; simp)).doneA hB
  · skip
    have hs := hs0
    rw [hK] at hs
    obtain ⟨ta, hks, ua⟩ := (hs : ∃ a, k.kinds = [a] ∧ up 3 a)
    have hqi : ∀ y ∈ k.kinds, exK y := fun y hy => by rw [hks] at hy; rw [List.mem_singleton.1 hy]; exact ua.1
    obtain ⟨a, ak, hka, rfl⟩ := kinds1 hks
    obtain ⟨n, rfl⟩ : ∃ n, N = n + 1 := ⟨N - 1, by have := (hb.kid (i := 0) (h := a) (kk := ak) (r := .nil) (by rw [hka]; rfl)).2; omega⟩
    have IE := IH n (by omega)
    clear hka
    have hx2 : [40] ++ cm (prt d k) ++ [41] = x := by rw [hx, hK]; rfl
    have hlen := Nat.le_of_eq (congrArg List.length hx2)
    simp at hlen
    have HX := Lib.hid hx2
    have t14 : ((x1 : Int) == 14) = false := by rw [beq_eq_false_iff_ne]; omega
    have t15 : ((x1 : Int) == 15) = false := by rw [beq_eq_false_iff_ne]; omega
    have t16 : ((x1 : Int) == 16) = false := by rw [beq_eq_false_iff_ne]; omega
    have t17 : ((x1 : Int) == 17) = false := by rw [beq_eq_false_iff_ne]; omega
    have t18 : ((x1 : Int) == 18) = false := by rw [beq_eq_false_iff_ne]; omega
    have t19 : ((x1 : Int) == 19) = false := by rw [beq_eq_false_iff_ne]; omega
    have t20 : ((x1 : Int) == 20) = false := by rw [beq_eq_false_iff_ne]; omega
    have t21 : ((x1 : Int) == 21) = false := by rw [beq_eq_false_iff_ne]; omega
    have t22 : ((x1 : Int) == 22) = false := by rw [beq_eq_false_iff_ne]; omega
    have t23 : ((x1 : Int) == 23) = false := by rw [beq_eq_false_iff_ne]; omega
    have t24 : ((x1 : Int) == 24) = false := by rw [beq_eq_false_iff_ne]; omega
    have t25 : ((x1 : Int) == 25) = true := by rw [beq_iff_eq]; omega
    have P0 := Lib.hid (Pw.start (hp.below (bel1 w (.cells #[.int .i64 x1, .int .i64 x2, .int .i64 x3, .string x4, .int .i64 x5, .slice A k.len cap] 25))) (by simp; omega))
    have R0 := Lib.hid (RowB.new w 25 #[.int .i64 x1, .int .i64 x2, .int .i64 x3, .string x4, .int .i64 x5, .slice A k.len cap])
    have KA := Lib.hid (hk.below (bel1 w (.cells #[.int .i64 x1, .int .i64 x2, .int .i64 x3, .string x4, .int .i64 x5, .slice A k.len cap] 25)))
    clear hs0 hx hx2 hp hk hq hK hks ua IH IT IB
    go_enter Tryz.func125, Tryz.ntmps125
    have C := Lib.hid (P0.out.list n 125 #[.pointer (some ⟨b, 0, none⟩)] #[] (fun v w => enter125 _ w) (fun _ => True) (fun _ _ _ _ => trivial) exK (each_node IE B b d) ⟨#[40]⟩ ⟨#[41]⟩ trivial KA.out hok hqi hd hb ([40] ++ cm (prt d k) ++ [41]) rfl hl (by simp <;> omega))
    have rc := R0.out.cell
    go_wp2_with fail
    refine C.out.mono ?_
    rintro e w1 ⟨rfl, h1⟩
    have P1 := Lib.hid h1
    have R1 := Lib.hid (P1.out.row R0.out (by omega) (by decide))
    clear h1 C rc
    go_wp2_with fail
    go_end0
    exact (P1.out.cast (by rw [← HX.out]; simp)).doneA hB
  · skip
    have hs := hs0
    rw [hK] at hs
    have hx2 : [123] ++ cm (prt d k) ++ [125] = x := by rw [hx, hK]; rfl
    have hlen := Nat.le_of_eq (congrArg List.length hx2)
    simp at hlen
    have HX := Lib.hid hx2
    have t14 : ((x1 : Int) == 14) = false := by rw [beq_eq_false_iff_ne]; omega
    have t15 : ((x1 : Int) == 15) = false := by rw [beq_eq_false_iff_ne]; omega
    have t16 : ((x1 : Int) == 16) = false := by rw [beq_eq_false_iff_ne]; omega
    have t17 : ((x1 : Int) == 17) = false := by rw [beq_eq_false_iff_ne]; omega
    have t18 : ((x1 : Int) == 18) = false := by rw [beq_eq_false_iff_ne]; omega
    have t19 : ((x1 : Int) == 19) = false := by rw [beq_eq_false_iff_ne]; omega
    have t20 : ((x1 : Int) == 20) = false := by rw [beq_eq_false_iff_ne]; omega
    have t21 : ((x1 : Int) == 21) = false := by rw [beq_eq_false_iff_ne]; omega
    have t22 : ((x1 : Int) == 22) = false := by rw [beq_eq_false_iff_ne]; omega
    have t23 : ((x1 : Int) == 23) = false := by rw [beq_eq_false_iff_ne]; omega
    have t24 : ((x1 : Int) == 24) = false := by rw [beq_eq_false_iff_ne]; omega
    have t25 : ((x1 : Int) == 25) = false := by rw [beq_eq_false_iff_ne]; omega
    have t26 : ((x1 : Int) == 26) = true := by rw [beq_iff_eq]; omega
    have P0 := Lib.hid (Pw.start (hp.below (bel1 w (.cells #[.int .i64 x1, .int .i64 x2, .int .i64 x3, .string x4, .int .i64 x5, .slice A k.len cap] 25))) (by simp; omega))
    have R0 := Lib.hid (RowB.new w 25 #[.int .i64 x1, .int .i64 x2, .int .i64 x3, .string x4, .int .i64 x5, .slice A k.len cap])
    have HK := Lib.hid (hk.below (bel1 w (.cells #[.int .i64 x1, .int .i64 x2, .int .i64 x3, .string x4, .int .i64 x5, .slice A k.len cap] 25)))
    have HS := Lib.hid hs
    have HOK := Lib.hid hok
    clear hs hs0 hx hx2 hp hk hok hq hK
    go_enter Tryz.func125, Tryz.ntmps125
    have rc := R0.out.cell
    go_wp2_with fail
    have PD := Lib.hid (P0.out.other ((Below.refl _ _).drew))
    have HS0 : ∀ j, (w.alloc (.cells #[.int .i64 x1, .int .i64 x2, .int .i64 x3, .string x4, .int .i64 x5, .slice A k.len cap] 25)).drew.cell? ⟨w.heap.size, j, none⟩ = #[.int .i64 x1, .int .i64 x2, .int .i64 x3, .string x4, .int .i64 x5, .slice A k.len cap][j]? := (PD.out.row R0.out (by omega) (by decide)).cell
    have CM := Lib.hid (labelled_c b 125 (w.alloc (.cells #[.int .i64 x1, .int .i64 x2, .int .i64 x3, .string x4, .int .i64 x5, .slice A k.len cap] 25)).drew (w.heap.size + 1) PD.out.p.lt.1 (by first | (simp; done) | rfl))
    go_region_held3 (fun w' => ∀ j, w'.cell? ⟨w.heap.size, j, none⟩ = #[.int .i64 x1, .int .i64 x2, .int .i64 x3, .string x4, .int .i64 x5, .slice A k.len cap][j]?)
      (first
        | (with_reducible exact HS2)
        | (with_reducible exact HS1)
        | (with_reducible exact HS0))
      (first
        | (go_at_call 123; refine CM.out.mono ?_; rintro e w1 ⟨rfl, BM, JM⟩; have P1 := Lib.hid (PD.out.other BM); have HS1 := (P1.out.row R0.out (by omega) (by decide)).cell; have J1 := Lib.hid JM; clear BM JM; have HKD := Lib.hid (P1.out.kv HK.out))
        | (go_at_call 70; refine (P1.out.list N 139 #[] #[.pointer (some ⟨w.heap.size + 1, 0, none⟩), .pointer (some ⟨w.heap.size + 1 + 1, 0, none⟩)] (fun v w => enter139 _ w) (LbI b 125 (w.heap.size + 1)) (fun _ _ h ho => h.keep ho) (· = 27) (each_lab 125 exK enter125 27 (.inl rfl) (fun _ h => by obtain ⟨e, h1, h2⟩ := h; exact ⟨e, h1, h2.1⟩) N IH B b d (w.heap.size + 1)) ⟨#[123]⟩ ⟨#[125]⟩ J1.out HKD.out HOK.out HS.out (by omega) hb ([123] ++ cm (prt d k) ++ [125]) rfl hl (by simp <;> omega)).mono ?_; rintro e w2 ⟨rfl, h2⟩; have P2 := Lib.hid h2; have HS2 := (P2.out.row R0.out (by omega) (by decide)).cell)
        | fail)
    go_wp2
    go_end0
    exact (P2.out.cast (by rw [← HX.out]; simp)).doneA hB
  · skip
    have hs := hs0
    rw [hK] at hs
    obtain ⟨tt, hks, ut⟩ := (hs : ∃ t, k.kinds = [4, t, 6] ∧ nT t)
    obtain ⟨p, pk, t, tk, q, qk, rfl, qp, rfl, qq⟩ := kinds3 hks
    obtain ⟨n, rfl⟩ : ∃ n, N = n + 1 := ⟨N - 1, by have := (hb.kid (i := 0) rfl).2; omega⟩
    have op := okF.drop 0 (h := p) hok rfl
    have ot := okF.drop 1 (h := t) hok rfl
    have oq := okF.drop 2 (h := q) hok rfl
    have TT := IT n (by omega)
    have TB := IB n (by omega)
    rw [show (Fo.cons p pk (.cons t tk (.cons q qk .nil))).len = 3 from rfl]
    have hx2 : [102, 110] ++ fnB (prt d (.cons p pk (.cons t tk (.cons q qk .nil)))) = x := by rw [hx, hK]; rfl
    have hlen := Nat.le_of_eq (congrArg List.length hx2)
    simp at hlen
    have HX := Lib.hid hx2
    have t14 : ((x1 : Int) == 14) = false := by rw [beq_eq_false_iff_ne]; omega
    have t15 : ((x1 : Int) == 15) = false := by rw [beq_eq_false_iff_ne]; omega
    have t16 : ((x1 : Int) == 16) = false := by rw [beq_eq_false_iff_ne]; omega
    have t17 : ((x1 : Int) == 17) = false := by rw [beq_eq_false_iff_ne]; omega
    have t18 : ((x1 : Int) == 18) = false := by rw [beq_eq_false_iff_ne]; omega
    have t19 : ((x1 : Int) == 19) = false := by rw [beq_eq_false_iff_ne]; omega
    have t20 : ((x1 : Int) == 20) = false := by rw [beq_eq_false_iff_ne]; omega
    have t21 : ((x1 : Int) == 21) = false := by rw [beq_eq_false_iff_ne]; omega
    have t22 : ((x1 : Int) == 22) = false := by rw [beq_eq_false_iff_ne]; omega
    have t23 : ((x1 : Int) == 23) = false := by rw [beq_eq_false_iff_ne]; omega
    have t24 : ((x1 : Int) == 24) = false := by rw [beq_eq_false_iff_ne]; omega
    have t25 : ((x1 : Int) == 25) = false := by rw [beq_eq_false_iff_ne]; omega
    have t26 : ((x1 : Int) == 26) = false := by rw [beq_eq_false_iff_ne]; omega
    have t28 : ((x1 : Int) == 28) = true := by rw [beq_iff_eq]; omega
    have P0 := Lib.hid (Pw.start (hp.below (bel1 w (.cells #[.int .i64 x1, .int .i64 x2, .int .i64 x3, .string x4, .int .i64 x5, .slice A 3 cap] 25))) (by simp; omega))
    have R0 := Lib.hid (RowB.new w 25 #[.int .i64 x1, .int .i64 x2, .int .i64 x3, .string x4, .int .i64 x5, .slice A 3 cap])
    have KA := Lib.hid (hk.below (bel1 w (.cells #[.int .i64 x1, .int .i64 x2, .int .i64 x3, .string x4, .int .i64 x5, .slice A 3 cap] 25)))
    have HQP := Lib.hid qp
    have HQQ := Lib.hid qq
    clear hs0 hx hx2 hp hk hok hq hK hks IH IT IB qp qq
    go_enter Tryz.func125, Tryz.ntmps125
    have C := Lib.hid (P0.out.texts (w.heap.size + 1) (by simp) [⟨#[102, 110]⟩] 1 #[.string ⟨#[102, 110]⟩] [102, 110] rfl (by simp [cat]) rfl (by simp) hl (by simp <;> omega))
    have rc := R0.out.cell
    go_wp2_with fail
    refine C.out.mono ?_
    rintro e w1 ⟨rfl, h1⟩
    have P1 := Lib.hid h1
    have R1 := Lib.hid (P1.out.row R0.out (by omega) (by decide))
    clear h1 C rc
    have C := Lib.hid ((function_w n TT TB B b d _ _ x1 x2 x3 x4 x5 p t q pk tk qk A cap P1.out.p P1.out.size.1 (P1.out.kv KA.out) op ot oq HQP.out ut HQQ.out hd hb (fnB (prt d (.cons p pk (.cons t tk (.cons q qk .nil))))) rfl (by rw [List.length_append, Lib.byteCells_length]; simp <;> omega)).mono fun _ _ hw => P1.out.step hw)
    have rc := R1.out.cell
    go_wp2_with fail
    refine C.out.mono ?_
    rintro e w2 ⟨rfl, h1⟩
    have P2 := Lib.hid h1
    have R2 := Lib.hid (P2.out.row R0.out (by omega) (by decide))
    clear h1 C rc
    go_wp2_with fail
    go_end0
    exact (P2.out.cast (by rw [← HX.out]; simp)).doneA hB
end Pg
end Go.Proofs.YtiabkkdeonepgaaGreatDoor
namespace Go.Proofs.YtiabkkdeonepgaaGreatDoor
open Go.RowKit
namespace Pg
open Ps
theorem Pw.closed {B b d : Nat} {bs : List Value} {X : Bs} {w0 w : World} {n : Nat} (h : Pw B b d bs X w0 w) (E : NodeW 125 exK n) {a1 a2 a3 : Nat} {a4 : ByteArray} {a5 : Nat} {k : Fo} {A : Option Addr} {cap : Nat} (hk : KV w (fun g => g < B) k A cap) (oa : okF (.one ⟨a1, a2, a3, a4, a5⟩ k)) (qa : exK a1) (da : k.deep ≤ n) (ba : Bd d k) (ahead : ByteArray) (x : Bs) (hx : ahead.data.toList ++ prN d ⟨a1, a2, a3, a4, a5⟩ k ++ [59] = x) {L : Nat} (hl : bs.length + L ≤ lim) (hL : X.length + x.length ≤ L) :
    Calls Tryz.prog 126 #[.pointer (some ⟨b, 0, none⟩), .string ahead, nvv ⟨a1, a2, a3, a4, a5⟩ A k.len cap] w (fun e w' => e = .returned (.tuple #[]) ∧ Pw B b d bs (X ++ x) w0 w') :=
  (closed_w n E B b d _ w a1 a2 a3 a4 a5 k A cap ahead h.p h.size.1 hk oa qa da ba x hx (by rw [List.length_append, Lib.byteCells_length]; omega)).mono fun _ _ hw => h.step hw
theorem Pw.texts' {B b d : Nat} {bs : List Value} {X : Bs} {w0 w : World} (h : Pw B b d bs X w0 w) (H : Nat) (hH : w.heap.size = H) (l : List ByteArray) (n : Nat) (cs : Array Value) (x : Bs) (hc : cs = (l.map Value.string).toArray) (hx : cat l = x) (hn : n = l.length) (h100 : l.length ≤ 100) {L : Nat} (hl : bs.length + L ≤ lim) (hL : X.length + x.length ≤ L) :
    Calls Tryz.prog 46 #[.pointer (some ⟨b, 0, none⟩), .slice (some ⟨H, 0, none⟩) n n] (w.alloc (.cells cs 9)) (fun e w' => e = .returned (.tuple #[]) ∧ Pw B b d bs (X ++ x) w0 w' ∧ Lib.OthersKept 5 (some b) w w') := by
  subst hH
  exact (texts_new B b d _ l n cs x w h.p hc hx hn (by rw [List.length_append, Lib.byteCells_length]; omega) h100 h.size.1).mono fun _ _ hw => ⟨(h.step hw).1, (h.step hw).2, hw.2.2.2⟩
set_option maxHeartbeats 4000000 in
theorem choice_w (n : Nat) (E : NodeW 125 exK n) (Bk : NodeW 73 (· = 6) n) (B b d : Nat) (bs : List Value) (w : World) (x1 x2 x3 : Nat) (x4 : ByteArray) (x5 : Nat) (a c u : Hd) (ak ck uk : Fo) (A : Option Addr) (cap : Nat) (hp : Prn B b bs d w) (hB : B ≤ w.heap.size)
    (hk : KV w (fun g => g < B) (.cons a ak (.cons c ck (.cons u uk .nil))) A cap) (oa : okF (.one a ak)) (oc : okF (.one c ck)) (ou : okF (.one u uk)) (qa : exK a.kind) (qc : c.kind = 6) (qu : u.kind = 0 ∨ u.kind = 6) (da : ak.deep ≤ n) (dc : ck.deep ≤ n) (du : uk.deep ≤ n) (ba : Bd d ak) (bc : Bd d ck) (bu : Bd d uk) (x : Bs) (hx : [105, 102, 32] ++ prN d a ak ++ [32] ++ prN d c ck ++ (if u.kind = 0 then [] else [32, 101, 108, 115, 101, 32] ++ prN d u uk) = x) (hl : bs.length + x.length ≤ lim) :
    Calls Tryz.prog 124 #[.pointer (some ⟨b, 0, none⟩), .agg #[.int .i64 x1, .int .i64 x2, .int .i64 x3, .string x4, .int .i64 x5, .slice A 3 cap]] w (Wrt B b d bs x w) := by
  obtain ⟨g, o, rfl, hg, hkid⟩ := KidAt.of hk (by simp [Fo.len])
  have hlen := Nat.le_of_eq (congrArg List.length hx)
  simp at hlen
  have hbl := hp.lt
  have HX := Lib.hid hx
  have P0 := Lib.hid (Pw.start (hp.below (bel1 w (.cells #[.int .i64 x1, .int .i64 x2, .int .i64 x3, .string x4, .int .i64 x5, .slice (some ⟨g, o, none⟩) 3 cap] 25))) (by simp; omega))
  have R0 := Lib.hid (RowB.new w 25 #[.int .i64 x1, .int .i64 x2, .int .i64 x3, .string x4, .int .i64 x5, .slice (some ⟨g, o, none⟩) 3 cap])
  obtain ⟨a1, a2, a3, a4, a5⟩ := a
  obtain ⟨e1, e2, e3, e4, e5⟩ := c
  obtain ⟨u1, u2, u3, u4, u5⟩ := u
  obtain ⟨Aa, ca, ka⟩ := hkid 0 _ _ _ rfl
  rw [show o + 0 * 6 = o by omega] at ka
  have Ka := Lib.hid (ka.keep ((Below.refl B w).alloc hB (.cells #[.int .i64 x1, .int .i64 x2, .int .i64 x3, .string x4, .int .i64 x5, .slice (some ⟨g, o, none⟩) 3 cap] 25)))
  clear ka
  obtain ⟨Ac, cc, kc⟩ := hkid 1 _ _ _ rfl
  rw [show o + 1 * 6 = o + 6 by omega] at kc
  have Kc := Lib.hid (kc.keep ((Below.refl B w).alloc hB (.cells #[.int .i64 x1, .int .i64 x2, .int .i64 x3, .string x4, .int .i64 x5, .slice (some ⟨g, o, none⟩) 3 cap] 25)))
  clear kc
  obtain ⟨Au, cu, ku⟩ := hkid 2 _ _ _ rfl
  rw [show o + 2 * 6 = o + 12 by omega] at ku
  have Ku := Lib.hid (ku.keep ((Below.refl B w).alloc hB (.cells #[.int .i64 x1, .int .i64 x2, .int .i64 x3, .string x4, .int .i64 x5, .slice (some ⟨g, o, none⟩) 3 cap] 25)))
  clear ku
  have HQC := Lib.hid qc
  have HUO := Lib.hid qu
  clear hkid hk hp hx qc qu
  go_enter Tryz.func124, Tryz.ntmps124
  have C := Lib.hid (P0.out.texts (w.heap.size + 1) (by simp) [⟨#[105, 102, 32]⟩] 1 #[.string ⟨#[105, 102, 32]⟩] [105, 102, 32] rfl (by simp [cat]) rfl (by simp) hl (by simp <;> omega))
  have rc := R0.out.cell
  go_wp2_with fail
  refine C.out.mono ?_
  rintro e w1 ⟨rfl, h1⟩
  have P1 := Lib.hid h1
  have R1 := Lib.hid (P1.out.row R0.out (by omega) (by decide))
  clear h1 C rc
  have q := Ka.out.keep P1.out.bl
  have C := Lib.hid (P1.out.node E q.kv oa qa da ba hl (by simp <;> omega))
  have rc := R1.out.cell
  have m0 := q.c0
  have m1 := q.c1
  have m2 := q.c2
  have m3 := q.c3
  have m4 := q.c4
  have m5 := q.c5
  clear q
  go_wp2_with fail
  refine C.out.mono ?_
  rintro e w2 ⟨rfl, h1⟩
  have P2 := Lib.hid h1
  have R2 := Lib.hid (P2.out.row R0.out (by omega) (by decide))
  clear h1 C rc m0 m1 m2 m3 m4 m5
  have C := Lib.hid (P2.out.texts w2.heap.size rfl [⟨#[32]⟩] 1 #[.string ⟨#[32]⟩] [32] rfl (by simp [cat]) rfl (by simp) hl (by simp <;> omega))
  have rc := R2.out.cell
  go_wp2_with fail
  refine C.out.mono ?_
  rintro e w3 ⟨rfl, h1⟩
  have P3 := Lib.hid h1
  have R3 := Lib.hid (P3.out.row R0.out (by omega) (by decide))
  clear h1 C rc
  have q := Kc.out.keep P3.out.bl
  have C := Lib.hid (P3.out.node Bk q.kv oc HQC.out dc bc hl (by simp <;> omega))
  have rc := R3.out.cell
  have m0 := q.c0
  have m1 := q.c1
  have m2 := q.c2
  have m3 := q.c3
  have m4 := q.c4
  have m5 := q.c5
  clear q
  go_wp2_with fail
  refine C.out.mono ?_
  rintro e w4 ⟨rfl, h1⟩
  have P4 := Lib.hid h1
  have R4 := Lib.hid (P4.out.row R0.out (by omega) (by decide))
  clear h1 C rc m0 m1 m2 m3 m4 m5
  have q := Ku.out.keep P4.out.bl
  have m0 := q.c0
  have m1 := q.c1
  have m2 := q.c2
  have m3 := q.c3
  have m4 := q.c4
  have m5 := q.c5
  have rc := R4.out.cell
  have KU := Lib.hid (q.kv.below (bel1 w4 (.cells #[.int .i64 u1, .int .i64 u2, .int .i64 u3, .string u4, .int .i64 u5, .slice Au uk.len cu] 25)))
  have P5 := Lib.hid (P4.out.alloc #[.int .i64 u1, .int .i64 u2, .int .i64 u3, .string u4, .int .i64 u5, .slice Au uk.len cu] 25)
  have RU := Lib.hid (RowB.new w4 25 #[.int .i64 u1, .int .i64 u2, .int .i64 u3, .string u4, .int .i64 u5, .slice Au uk.len cu])
  have hb4 := P4.out.p.lt.1
  clear q
  by_cases hz : u1 = 0
  · have dk : ((u1 : Int) != 0) = false := by rw [hz]; rfl
    have HX2 : Hid ([105, 102, 32] ++ prN d ⟨a1, a2, a3, a4, a5⟩ ak ++ [32] ++ prN d ⟨e1, e2, e3, e4, e5⟩ ck = x) := by
      unfold Hid
      rw [← HX.out, if_pos hz]
      simp
    clear hz
    go_wp2_with fail
    go_end0
    exact (P5.out.cast (by rw [← HX2.out]; simp)).doneA hB
  · have dk : ((u1 : Int) != 0) = true := by rw [bne_iff_ne]; omega
    have HX2 : Hid ([105, 102, 32] ++ prN d ⟨a1, a2, a3, a4, a5⟩ ak ++ [32] ++ prN d ⟨e1, e2, e3, e4, e5⟩ ck ++ ([32, 101, 108, 115, 101, 32] ++ prN d ⟨u1, u2, u3, u4, u5⟩ uk) = x) := by
      unfold Hid
      rw [← HX.out, if_neg hz]
    have HU6 : Hid (u1 = 6) := HUO.out.resolve_left hz
    rw [if_neg hz] at hlen
    simp at hlen
    clear hz
    have CS := (P5.out.texts' (w4.heap.size + 1) (by simp) [⟨#[32, 101, 108, 115, 101, 32]⟩] 1 #[.string ⟨#[32, 101, 108, 115, 101, 32]⟩] [32, 101, 108, 115, 101, 32] rfl (by simp [cat]) rfl (by simp) hl (by simp <;> omega))
    have C := Lib.hid CS
    clear CS
    go_wp2_with fail
    refine C.out.mono ?_
    rintro e w6 ⟨rfl, h1, ho6⟩
    have P6 := Lib.hid h1
    have r6 := (row_others RU.out ho6 (by omega) (by decide)).cell
    have C2 := Lib.hid (P6.out.node Bk (P6.out.kv (Ku.out.kv)) ou HU6.out du bu hl (by simp <;> omega))
    clear h1 C rc m0 m1 m2 m3 m4 m5
    go_wp2_with fail
    refine C2.out.mono ?_
    rintro e w7 ⟨rfl, h1⟩
    have P7 := Lib.hid h1
    clear h1 C2 r6
    go_wp2_with fail
    go_end0
    exact (P7.out.cast (by rw [← HX2.out]; simp)).doneA hB
set_option maxHeartbeats 8000000 in
theorem stmt_w (N : Nat) (IE0 : ∀ m, m < N → NodeW 125 exK m) (IT : ∀ m, m < N → NodeW 104 tyK m) (IB : ∀ m, m < N → NodeW 73 (· = 6) m) : NodeW 105 stK N := by
  intro B b d bs h k A cap w hp hB hk ho hq hd hb hl
  obtain ⟨x1, x2, x3, x4, x5⟩ := h
  have hs0 : shp x1 k.kinds := ho.1.2
  have hok := ho.2.1
  have hbl := hp.lt
  obtain ⟨x, hx⟩ : ∃ x, x = prN d ⟨x1, x2, x3, x4, x5⟩ k := ⟨_, rfl⟩
  rw [← hx] at hl ⊢
  dsimp only at hq
  clear ho
  have hc : x1 = 9 ∨ x1 = 10 ∨ x1 = 7 ∨ x1 = 8 ∨ x1 = 11 ∨ x1 = 12 ∨ x1 = 13 := by unfold stK at hq; omega
  rcases hc with hK | hK | hK | hK | hK | hK | hK
  · skip
    have hs := hs0
    rw [hK] at hs
    obtain ⟨tc, tO, hks, uc, uo⟩ := (hs : ∃ c o, k.kinds = [c, 6, o] ∧ up 3 c ∧ (o = 0 ∨ o = 6))
    obtain ⟨a, ak, c, ck, u, uk, rfl, rfl, qc, rfl⟩ := kinds3 hks
    obtain ⟨n, rfl⟩ : ∃ n, N = n + 1 := ⟨N - 1, by have := (hb.kid (i := 0) rfl).2; omega⟩
    obtain ⟨ba, da⟩ := hb.kid (i := 0) (h := a) rfl
    have oa := okF.drop 0 (h := a) hok rfl
    obtain ⟨bc, dc⟩ := hb.kid (i := 1) (h := c) rfl
    have oc := okF.drop 1 (h := c) hok rfl
    obtain ⟨bu, du⟩ := hb.kid (i := 2) (h := u) rfl
    have ou := okF.drop 2 (h := u) hok rfl
    have qa := uc.1
    have IE := IE0 n (by omega)
    have TB := IB n (by omega)
    rw [show (Fo.cons a ak (.cons c ck (.cons u uk .nil))).len = 3 from rfl]
    have hx2 : [105, 102, 32] ++ prN d a ak ++ [32] ++ prN d c ck ++ (if u.kind = 0 then [] else [32, 101, 108, 115, 101, 32] ++ prN d u uk) = x := by rw [hx, hK]; rfl
    have hlen := Nat.le_of_eq (congrArg List.length hx2)
    simp at hlen
    have HX := Lib.hid hx2
    have t9 : ((x1 : Int) == 9) = true := by rw [beq_iff_eq]; omega
    have P0 := Lib.hid (Pw.start (hp.below (bel1 w (.cells #[.int .i64 x1, .int .i64 x2, .int .i64 x3, .string x4, .int .i64 x5, .slice A 3 cap] 25))) (by simp; omega))
    have R0 := Lib.hid (RowB.new w 25 #[.int .i64 x1, .int .i64 x2, .int .i64 x3, .string x4, .int .i64 x5, .slice A 3 cap])
    have KA := Lib.hid (hk.below (bel1 w (.cells #[.int .i64 x1, .int .i64 x2, .int .i64 x3, .string x4, .int .i64 x5, .slice A 3 cap] 25)))
    have HA1 : Hid (ak.deep ≤ n ∧ ck.deep ≤ n ∧ uk.deep ≤ n) := by unfold Hid; omega
    have HQC := Lib.hid qc
    have HUO := Lib.hid uo
    clear hs0 hx hx2 hp hk hok hb hq hK hks uc hd IE0 IT IB da dc du qc uo
    go_enter Tryz.func105, Tryz.ntmps105
    have C := Lib.hid ((choice_w n IE TB B b d _ _ x1 x2 x3 x4 x5 a c u ak ck uk A cap P0.out.p P0.out.size.1 KA.out oa oc ou qa HQC.out HUO.out HA1.out.1 HA1.out.2.1 HA1.out.2.2 ba bc bu ([105, 102, 32] ++ prN d a ak ++ [32] ++ prN d c ck ++ (if u.kind = 0 then [] else [32, 101, 108, 115, 101, 32] ++ prN d u uk)) rfl (by rw [List.length_append, Lib.byteCells_length]; simp <;> omega)).mono fun _ _ hw => P0.out.step hw)
    have rc := R0.out.cell
    go_wp2_with fail
    refine C.out.mono ?_
    rintro e w1 ⟨rfl, h1⟩
    have P1 := Lib.hid h1
    have R1 := Lib.hid (P1.out.row R0.out (by omega) (by decide))
    clear h1 C rc
    go_wp2_with fail
    go_end0
    exact (P1.out.cast (by rw [← HX.out]; simp)).doneA hB
  · skip
    have hs := hs0
    rw [hK] at hs
    obtain ⟨tc, hks, uc⟩ := (hs : ∃ c, k.kinds = [c, 6] ∧ up 3 c)
    obtain ⟨a, ak, c, ck, rfl, rfl, qc⟩ := kinds2 hks
    obtain ⟨n, rfl⟩ : ∃ n, N = n + 1 := ⟨N - 1, by have := (hb.kid (i := 0) rfl).2; omega⟩
    obtain ⟨ba, da⟩ := hb.kid (i := 0) (h := a) rfl
    have oa := okF.drop 0 (h := a) hok rfl
    obtain ⟨bc, dc⟩ := hb.kid (i := 1) (h := c) rfl
    have oc := okF.drop 1 (h := c) hok rfl
    have qa := uc.1
    have IE := IE0 n (by omega)
    have TB := IB n (by omega)
    rw [show (Fo.cons a ak (.cons c ck .nil)).len = 2 from rfl]
    obtain ⟨g, o, rfl, hg, hkid⟩ := KidAt.of hk (by simp [Fo.len])
    obtain ⟨a1, a2, a3, a4, a5⟩ := a
    obtain ⟨e1, e2, e3, e4, e5⟩ := c
    have hx2 : [119, 104, 105, 108, 101, 32] ++ prN d ⟨a1, a2, a3, a4, a5⟩ ak ++ [32] ++ prN d ⟨e1, e2, e3, e4, e5⟩ ck = x := by rw [hx, hK]; rfl
    have hlen := Nat.le_of_eq (congrArg List.length hx2)
    simp at hlen
    have HX := Lib.hid hx2
    have t9 : ((x1 : Int) == 9) = false := by rw [beq_eq_false_iff_ne]; omega
    have t10 : ((x1 : Int) == 10) = true := by rw [beq_iff_eq]; omega
    have P0 := Lib.hid (Pw.start (hp.below (bel1 w (.cells #[.int .i64 x1, .int .i64 x2, .int .i64 x3, .string x4, .int .i64 x5, .slice (some ⟨g, o, none⟩) 2 cap] 25))) (by simp; omega))
    have R0 := Lib.hid (RowB.new w 25 #[.int .i64 x1, .int .i64 x2, .int .i64 x3, .string x4, .int .i64 x5, .slice (some ⟨g, o, none⟩) 2 cap])
    obtain ⟨Aa, ca, ka⟩ := hkid 0 _ _ _ rfl
    rw [show o + 0 * 6 = o by omega] at ka
    have Ka := Lib.hid (ka.keep ((Below.refl B w).alloc hB (.cells #[.int .i64 x1, .int .i64 x2, .int .i64 x3, .string x4, .int .i64 x5, .slice (some ⟨g, o, none⟩) 2 cap] 25)))
    clear ka
    obtain ⟨Ac, cc, kc⟩ := hkid 1 _ _ _ rfl
    rw [show o + 1 * 6 = o + 6 by omega] at kc
    have Kc := Lib.hid (kc.keep ((Below.refl B w).alloc hB (.cells #[.int .i64 x1, .int .i64 x2, .int .i64 x3, .string x4, .int .i64 x5, .slice (some ⟨g, o, none⟩) 2 cap] 25)))
    clear kc
    have HA1 : Hid (ak.deep ≤ n) := by unfold Hid; omega
    have HA2 : Hid (ck.deep ≤ n) := by unfold Hid; omega
    have HQC := Lib.hid qc
    clear hs0 hx hx2 hp hk hok hb hq hK hks uc hd IE0 IT IB da dc hkid qc
    go_enter Tryz.func105, Tryz.ntmps105
    have C := Lib.hid (P0.out.texts (w.heap.size + 1) (by simp) [⟨#[119, 104, 105, 108, 101, 32]⟩] 1 #[.string ⟨#[119, 104, 105, 108, 101, 32]⟩] [119, 104, 105, 108, 101, 32] rfl (by simp [cat]) rfl (by simp) hl (by simp <;> omega))
    have rc := R0.out.cell
    go_wp2_with fail
    refine C.out.mono ?_
    rintro e w1 ⟨rfl, h1⟩
    have P1 := Lib.hid h1
    have R1 := Lib.hid (P1.out.row R0.out (by omega) (by decide))
    clear h1 C rc
    have q := Ka.out.keep P1.out.bl
    have C := Lib.hid (P1.out.node IE q.kv oa qa HA1.out ba hl (by simp <;> omega))
    have rc := R1.out.cell
    have m0 := q.c0
    have m1 := q.c1
    have m2 := q.c2
    have m3 := q.c3
    have m4 := q.c4
    have m5 := q.c5
    clear q
    go_wp2_with fail
    refine C.out.mono ?_
    rintro e w2 ⟨rfl, h1⟩
    have P2 := Lib.hid h1
    have R2 := Lib.hid (P2.out.row R0.out (by omega) (by decide))
    clear h1 C rc m0 m1 m2 m3 m4 m5
    have C := Lib.hid (P2.out.texts w2.heap.size rfl [⟨#[32]⟩] 1 #[.string ⟨#[32]⟩] [32] rfl (by simp [cat]) rfl (by simp) hl (by simp <;> omega))
    have rc := R2.out.cell
    go_wp2_with fail
    refine C.out.mono ?_
    rintro e w3 ⟨rfl, h1⟩
    have P3 := Lib.hid h1
    have R3 := Lib.hid (P3.out.row R0.out (by omega) (by decide))
    clear h1 C rc
    have q := Kc.out.keep P3.out.bl
    have C := Lib.hid (P3.out.node TB q.kv oc HQC.out HA2.out bc hl (by simp <;> omega))
    have rc := R3.out.cell
    have m0 := q.c0
    have m1 := q.c1
    have m2 := q.c2
    have m3 := q.c3
    have m4 := q.c4
    have m5 := q.c5
    clear q
    go_wp2_with fail
    refine C.out.mono ?_
    rintro e w4 ⟨rfl, h1⟩
    have P4 := Lib.hid h1
    have R4 := Lib.hid (P4.out.row R0.out (by omega) (by decide))
    clear h1 C rc m0 m1 m2 m3 m4 m5
    go_wp2_with fail
    go_end0
    exact (P4.out.cast (by rw [← HX.out]; simp)).doneA hB
  · skip
    have hs := hs0
    rw [hK] at hs
    obtain ⟨tt, te, hks, ut, ue⟩ := (hs : ∃ t e, k.kinds = [t, e] ∧ nT t ∧ up 3 e)
    obtain ⟨t, tk, a, ak, rfl, rfl, rfl⟩ := kinds2 hks
    obtain ⟨n, rfl⟩ : ∃ n, N = n + 1 := ⟨N - 1, by have := (hb.kid (i := 0) rfl).2; omega⟩
    obtain ⟨bt, dt⟩ := hb.kid (i := 0) (h := t) rfl
    have ot := okF.drop 0 (h := t) hok rfl
    obtain ⟨ba, da⟩ := hb.kid (i := 1) (h := a) rfl
    have oa := okF.drop 1 (h := a) hok rfl
    have qa := ue.1
    have IE := IE0 n (by omega)
    have TT := IT n (by omega)
    rw [show (Fo.cons t tk (.cons a ak .nil)).len = 2 from rfl]
    obtain ⟨g, o, rfl, hg, hkid⟩ := KidAt.of hk (by simp [Fo.len])
    obtain ⟨a1, a2, a3, a4, a5⟩ := a
    obtain ⟨t1, t2, t3, t4, t5⟩ := t
    have hx2 : [108, 101, 116, 32] ++ x4.data.toList ++ wrB (t1, prN d ⟨t1, t2, t3, t4, t5⟩ tk) ++ [32, 61, 32] ++ prN d ⟨a1, a2, a3, a4, a5⟩ ak ++ [59] = x := by rw [hx, hK]; rfl
    have hlen := Nat.le_of_eq (congrArg List.length hx2)
    simp at hlen
    have HX := Lib.hid hx2
    have t9 : ((x1 : Int) == 9) = false := by rw [beq_eq_false_iff_ne]; omega
    have t10 : ((x1 : Int) == 10) = false := by rw [beq_eq_false_iff_ne]; omega
    have t7 : ((x1 : Int) == 7) = true := by rw [beq_iff_eq]; omega
    have P0 := Lib.hid (Pw.start (hp.below (bel1 w (.cells #[.int .i64 x1, .int .i64 x2, .int .i64 x3, .string x4, .int .i64 x5, .slice (some ⟨g, o, none⟩) 2 cap] 25))) (by simp; omega))
    have R0 := Lib.hid (RowB.new w 25 #[.int .i64 x1, .int .i64 x2, .int .i64 x3, .string x4, .int .i64 x5, .slice (some ⟨g, o, none⟩) 2 cap])
    obtain ⟨At, ct, kt⟩ := hkid 0 _ _ _ rfl
    rw [show o + 0 * 6 = o by omega] at kt
    have Kt := Lib.hid (kt.keep ((Below.refl B w).alloc hB (.cells #[.int .i64 x1, .int .i64 x2, .int .i64 x3, .string x4, .int .i64 x5, .slice (some ⟨g, o, none⟩) 2 cap] 25)))
    clear kt
    obtain ⟨Aa, ca, ka⟩ := hkid 1 _ _ _ rfl
    rw [show o + 1 * 6 = o + 6 by omega] at ka
    have Ka := Lib.hid (ka.keep ((Below.refl B w).alloc hB (.cells #[.int .i64 x1, .int .i64 x2, .int .i64 x3, .string x4, .int .i64 x5, .slice (some ⟨g, o, none⟩) 2 cap] 25)))
    clear ka
    have HA1 : Hid (ak.deep ≤ n) := by unfold Hid; omega
    have HA2 : Hid (tk.deep ≤ n) := by unfold Hid; omega
    clear hs0 hx hx2 hp hk hok hb hq hK hks ue hd IE0 IT IB da dt hkid
    go_enter Tryz.func105, Tryz.ntmps105
    have C := Lib.hid (P0.out.texts (w.heap.size + 1) (by simp) [⟨#[108, 101, 116, 32]⟩, x4] 2 #[.string ⟨#[108, 101, 116, 32]⟩, .string x4] ([108, 101, 116, 32] ++ x4.data.toList) rfl (by simp [cat]) rfl (by simp) hl (by simp <;> omega))
    have rc := R0.out.cell
    go_wp2_with fail
    refine C.out.mono ?_
    rintro e w1 ⟨rfl, h1⟩
    have P1 := Lib.hid h1
    have R1 := Lib.hid (P1.out.row R0.out (by omega) (by decide))
    clear h1 C rc
    have q := Kt.out.keep P1.out.bl
    have C := Lib.hid (P1.out.written TT q.kv ot ut HA2.out bt rfl hl (by simp <;> omega))
    have rc := R1.out.cell
    have m0 := q.c0
    have m1 := q.c1
    have m2 := q.c2
    have m3 := q.c3
    have m4 := q.c4
    have m5 := q.c5
    clear q
    go_wp2_with fail
    refine C.out.mono ?_
    rintro e w2 ⟨rfl, h1⟩
    have P2 := Lib.hid h1
    have R2 := Lib.hid (P2.out.row R0.out (by omega) (by decide))
    clear h1 C rc m0 m1 m2 m3 m4 m5
    have q := Ka.out.keep P2.out.bl
    have C := Lib.hid (P2.out.closed IE q.kv oa qa HA1.out ba ⟨#[32, 61, 32]⟩ ([32, 61, 32] ++ prN d ⟨a1, a2, a3, a4, a5⟩ ak ++ [59]) (by simp) hl (by simp <;> omega))
    have rc := R2.out.cell
    have m0 := q.c0
    have m1 := q.c1
    have m2 := q.c2
    have m3 := q.c3
    have m4 := q.c4
    have m5 := q.c5
    clear q
    go_wp2_with fail
    refine C.out.mono ?_
    rintro e w3 ⟨rfl, h1⟩
    have P3 := Lib.hid h1
    have R3 := Lib.hid (P3.out.row R0.out (by omega) (by decide))
    clear h1 C rc m0 m1 m2 m3 m4 m5
    go_wp2_with fail
    go_end0
    exact (P3.out.cast (by rw [← HX.out]; simp)).doneA hB
  · skip
    have hs := hs0
    rw [hK] at hs
    obtain ⟨ta, hks, ua⟩ := (hs : ∃ e, k.kinds = [e] ∧ up 3 e)
    obtain ⟨a, ak, rfl, rfl⟩ := kinds1 hks
    obtain ⟨n, rfl⟩ : ∃ n, N = n + 1 := ⟨N - 1, by have := (hb.kid (i := 0) rfl).2; omega⟩
    obtain ⟨ba, da⟩ := hb.kid (i := 0) (h := a) rfl
    have oa := okF.drop 0 (h := a) hok rfl
    have qa := ua.1
    have IE := IE0 n (by omega)
    rw [show (Fo.cons a ak .nil).len = 1 from rfl]
    obtain ⟨g, o, rfl, hg, hkid⟩ := KidAt.of hk (by simp [Fo.len])
    obtain ⟨a1, a2, a3, a4, a5⟩ := a
    have hx2 : x4.data.toList ++ [32, 61, 32] ++ prN d ⟨a1, a2, a3, a4, a5⟩ ak ++ [59] = x := by rw [hx, hK]; rfl
    have hlen := Nat.le_of_eq (congrArg List.length hx2)
    simp at hlen
    have HX := Lib.hid hx2
    have t9 : ((x1 : Int) == 9) = false := by rw [beq_eq_false_iff_ne]; omega
    have t10 : ((x1 : Int) == 10) = false := by rw [beq_eq_false_iff_ne]; omega
    have t7 : ((x1 : Int) == 7) = false := by rw [beq_eq_false_iff_ne]; omega
    have t8 : ((x1 : Int) == 8) = true := by rw [beq_iff_eq]; omega
    have P0 := Lib.hid (Pw.start (hp.below (bel1 w (.cells #[.int .i64 x1, .int .i64 x2, .int .i64 x3, .string x4, .int .i64 x5, .slice (some ⟨g, o, none⟩) 1 cap] 25))) (by simp; omega))
    have R0 := Lib.hid (RowB.new w 25 #[.int .i64 x1, .int .i64 x2, .int .i64 x3, .string x4, .int .i64 x5, .slice (some ⟨g, o, none⟩) 1 cap])
    obtain ⟨Aa, ca, ka⟩ := hkid 0 _ _ _ rfl
    rw [show o + 0 * 6 = o by omega] at ka
    have Ka := Lib.hid (ka.keep ((Below.refl B w).alloc hB (.cells #[.int .i64 x1, .int .i64 x2, .int .i64 x3, .string x4, .int .i64 x5, .slice (some ⟨g, o, none⟩) 1 cap] 25)))
    clear ka
    have HA1 : Hid (ak.deep ≤ n) := by unfold Hid; omega
    clear hs0 hx hx2 hp hk hok hb hq hK hks ua hd IE0 IT IB da hkid
    go_enter Tryz.func105, Tryz.ntmps105
    have hl3 := hl
    unfold lim at hl3
    have z8 : ¬ (9223372036854775807 < x4.size + 3) := by omega
    have z9 : ¬ (9223372036854775804 < x4.size) := by omega
    clear hl3
    have rc := R0.out.cell
    go_wp2_with fail
    have PD := Lib.hid (P0.out.other ((Below.refl _ _).drew))
    have q := Ka.out.keep PD.out.bl
    have C := Lib.hid (PD.out.closed IE q.kv oa qa HA1.out ba (x4 ++ ⟨#[32, 61, 32]⟩) (x4.data.toList ++ [32, 61, 32] ++ prN d ⟨a1, a2, a3, a4, a5⟩ ak ++ [59]) (by simp) hl (by simp <;> omega))
    have HS0 : (∀ j, (w.alloc (.cells #[.int .i64 x1, .int .i64 x2, .int .i64 x3, .string x4, .int .i64 x5, .slice (some ⟨g, o, none⟩) 1 cap] 25)).drew.cell? ⟨w.heap.size, j, none⟩ = #[.int .i64 x1, .int .i64 x2, .int .i64 x3, .string x4, .int .i64 x5, .slice (some ⟨g, o, none⟩) 1 cap][j]?) ∧ (w.alloc (.cells #[.int .i64 x1, .int .i64 x2, .int .i64 x3, .string x4, .int .i64 x5, .slice (some ⟨g, o, none⟩) 1 cap] 25)).drew.cell? ⟨g, o, none⟩ = some (.int .i64 a1) ∧ (w.alloc (.cells #[.int .i64 x1, .int .i64 x2, .int .i64 x3, .string x4, .int .i64 x5, .slice (some ⟨g, o, none⟩) 1 cap] 25)).drew.cell? ⟨g, o + 1, none⟩ = some (.int .i64 a2) ∧ (w.alloc (.cells #[.int .i64 x1, .int .i64 x2, .int .i64 x3, .string x4, .int .i64 x5, .slice (some ⟨g, o, none⟩) 1 cap] 25)).drew.cell? ⟨g, o + 2, none⟩ = some (.int .i64 a3) ∧ (w.alloc (.cells #[.int .i64 x1, .int .i64 x2, .int .i64 x3, .string x4, .int .i64 x5, .slice (some ⟨g, o, none⟩) 1 cap] 25)).drew.cell? ⟨g, o + 3, none⟩ = some (.string a4) ∧ (w.alloc (.cells #[.int .i64 x1, .int .i64 x2, .int .i64 x3, .string x4, .int .i64 x5, .slice (some ⟨g, o, none⟩) 1 cap] 25)).drew.cell? ⟨g, o + 4, none⟩ = some (.int .i64 a5) ∧ (w.alloc (.cells #[.int .i64 x1, .int .i64 x2, .int .i64 x3, .string x4, .int .i64 x5, .slice (some ⟨g, o, none⟩) 1 cap] 25)).drew.cell? ⟨g, o + 5, none⟩ = some (.slice Aa ak.len ca) := ⟨(PD.out.row R0.out (by omega) (by decide)).cell, q.c0, q.c1, q.c2, q.c3, q.c4, q.c5⟩
    clear q rc
    go_region_held3 (fun w' => (∀ j, w'.cell? ⟨w.heap.size, j, none⟩ = #[.int .i64 x1, .int .i64 x2, .int .i64 x3, .string x4, .int .i64 x5, .slice (some ⟨g, o, none⟩) 1 cap][j]?) ∧ w'.cell? ⟨g, o, none⟩ = some (.int .i64 a1) ∧ w'.cell? ⟨g, o + 1, none⟩ = some (.int .i64 a2) ∧ w'.cell? ⟨g, o + 2, none⟩ = some (.int .i64 a3) ∧ w'.cell? ⟨g, o + 3, none⟩ = some (.string a4) ∧ w'.cell? ⟨g, o + 4, none⟩ = some (.int .i64 a5) ∧ w'.cell? ⟨g, o + 5, none⟩ = some (.slice Aa ak.len ca))
      (first
        | (with_reducible exact HS1)
        | (with_reducible exact HS0))
      (first
        | (go_at_call 126; refine C.out.mono ?_; rintro e w1 ⟨rfl, h1⟩; have P1 := Lib.hid h1; have q2 := Ka.out.keep P1.out.bl; have HS1 := (And.intro (P1.out.row R0.out (by omega) (by decide)).cell (And.intro q2.c0 (And.intro q2.c1 (And.intro q2.c2 (And.intro q2.c3 (And.intro q2.c4 q2.c5)))))))
        | fail)
    go_wp2
    go_end0
    exact (P1.out.cast (by rw [← HX.out]; simp)).doneA hB
  · skip
    have hs := hs0
    rw [hK] at hs
    obtain ⟨ta, hks, ua⟩ := (hs : ∃ e, k.kinds = [e] ∧ up 3 e)
    obtain ⟨a, ak, rfl, rfl⟩ := kinds1 hks
    obtain ⟨n, rfl⟩ : ∃ n, N = n + 1 := ⟨N - 1, by have := (hb.kid (i := 0) rfl).2; omega⟩
    obtain ⟨ba, da⟩ := hb.kid (i := 0) (h := a) rfl
    have oa := okF.drop 0 (h := a) hok rfl
    have qa := ua.1
    have IE := IE0 n (by omega)
    rw [show (Fo.cons a ak .nil).len = 1 from rfl]
    obtain ⟨g, o, rfl, hg, hkid⟩ := KidAt.of hk (by simp [Fo.len])
    obtain ⟨a1, a2, a3, a4, a5⟩ := a
    have hx2 : [112, 114, 105, 110, 116, 32] ++ prN d ⟨a1, a2, a3, a4, a5⟩ ak ++ [59] = x := by rw [hx, hK]; rfl
    have hlen := Nat.le_of_eq (congrArg List.length hx2)
    simp at hlen
    have HX := Lib.hid hx2
    have t9 : ((x1 : Int) == 9) = false := by rw [beq_eq_false_iff_ne]; omega
    have t10 : ((x1 : Int) == 10) = false := by rw [beq_eq_false_iff_ne]; omega
    have t7 : ((x1 : Int) == 7) = false := by rw [beq_eq_false_iff_ne]; omega
    have t8 : ((x1 : Int) == 8) = false := by rw [beq_eq_false_iff_ne]; omega
    have t11 : ((x1 : Int) == 11) = true := by rw [beq_iff_eq]; omega
    have P0 := Lib.hid (Pw.start (hp.below (bel1 w (.cells #[.int .i64 x1, .int .i64 x2, .int .i64 x3, .string x4, .int .i64 x5, .slice (some ⟨g, o, none⟩) 1 cap] 25))) (by simp; omega))
    have R0 := Lib.hid (RowB.new w 25 #[.int .i64 x1, .int .i64 x2, .int .i64 x3, .string x4, .int .i64 x5, .slice (some ⟨g, o, none⟩) 1 cap])
    obtain ⟨Aa, ca, ka⟩ := hkid 0 _ _ _ rfl
    rw [show o + 0 * 6 = o by omega] at ka
    have Ka := Lib.hid (ka.keep ((Below.refl B w).alloc hB (.cells #[.int .i64 x1, .int .i64 x2, .int .i64 x3, .string x4, .int .i64 x5, .slice (some ⟨g, o, none⟩) 1 cap] 25)))
    clear ka
    have HA1 : Hid (ak.deep ≤ n) := by unfold Hid; omega
    clear hs0 hx hx2 hp hk hok hb hq hK hks ua hd IE0 IT IB da hkid
    go_enter Tryz.func105, Tryz.ntmps105
    have q := Ka.out.keep P0.out.bl
    have C := Lib.hid (P0.out.closed IE q.kv oa qa HA1.out ba ⟨#[112, 114, 105, 110, 116, 32]⟩ ([112, 114, 105, 110, 116, 32] ++ prN d ⟨a1, a2, a3, a4, a5⟩ ak ++ [59]) (by simp) hl (by simp <;> omega))
    have rc := R0.out.cell
    have m0 := q.c0
    have m1 := q.c1
    have m2 := q.c2
    have m3 := q.c3
    have m4 := q.c4
    have m5 := q.c5
    clear q
    go_wp2_with fail
    refine C.out.mono ?_
    rintro e w1 ⟨rfl, h1⟩
    have P1 := Lib.hid h1
    have R1 := Lib.hid (P1.out.row R0.out (by omega) (by decide))
    clear h1 C rc m0 m1 m2 m3 m4 m5
    go_wp2_with fail
    go_end0
    exact (P1.out.cast (by rw [← HX.out]; simp)).doneA hB
  · skip
    have hs := hs0
    rw [hK] at hs
    obtain ⟨ta, hks, ua⟩ := (hs : ∃ e, k.kinds = [e] ∧ up 3 e)
    obtain ⟨a, ak, rfl, rfl⟩ := kinds1 hks
    obtain ⟨n, rfl⟩ : ∃ n, N = n + 1 := ⟨N - 1, by have := (hb.kid (i := 0) rfl).2; omega⟩
    obtain ⟨ba, da⟩ := hb.kid (i := 0) (h := a) rfl
    have oa := okF.drop 0 (h := a) hok rfl
    have qa := ua.1
    have IE := IE0 n (by omega)
    rw [show (Fo.cons a ak .nil).len = 1 from rfl]
    obtain ⟨g, o, rfl, hg, hkid⟩ := KidAt.of hk (by simp [Fo.len])
    obtain ⟨a1, a2, a3, a4, a5⟩ := a
    have hx2 : [114, 101, 116, 117, 114, 110, 32] ++ prN d ⟨a1, a2, a3, a4, a5⟩ ak ++ [59] = x := by rw [hx, hK]; rfl
    have hlen := Nat.le_of_eq (congrArg List.length hx2)
    simp at hlen
    have HX := Lib.hid hx2
    have t9 : ((x1 : Int) == 9) = false := by rw [beq_eq_false_iff_ne]; omega
    have t10 : ((x1 : Int) == 10) = false := by rw [beq_eq_false_iff_ne]; omega
    have t7 : ((x1 : Int) == 7) = false := by rw [beq_eq_false_iff_ne]; omega
    have t8 : ((x1 : Int) == 8) = false := by rw [beq_eq_false_iff_ne]; omega
    have t11 : ((x1 : Int) == 11) = false := by rw [beq_eq_false_iff_ne]; omega
    have t12 : ((x1 : Int) == 12) = true := by rw [beq_iff_eq]; omega
    have P0 := Lib.hid (Pw.start (hp.below (bel1 w (.cells #[.int .i64 x1, .int .i64 x2, .int .i64 x3, .string x4, .int .i64 x5, .slice (some ⟨g, o, none⟩) 1 cap] 25))) (by simp; omega))
    have R0 := Lib.hid (RowB.new w 25 #[.int .i64 x1, .int .i64 x2, .int .i64 x3, .string x4, .int .i64 x5, .slice (some ⟨g, o, none⟩) 1 cap])
    obtain ⟨Aa, ca, ka⟩ := hkid 0 _ _ _ rfl
    rw [show o + 0 * 6 = o by omega] at ka
    have Ka := Lib.hid (ka.keep ((Below.refl B w).alloc hB (.cells #[.int .i64 x1, .int .i64 x2, .int .i64 x3, .string x4, .int .i64 x5, .slice (some ⟨g, o, none⟩) 1 cap] 25)))
    clear ka
    have HA1 : Hid (ak.deep ≤ n) := by unfold Hid; omega
    clear hs0 hx hx2 hp hk hok hb hq hK hks ua hd IE0 IT IB da hkid
    go_enter Tryz.func105, Tryz.ntmps105
    have q := Ka.out.keep P0.out.bl
    have C := Lib.hid (P0.out.closed IE q.kv oa qa HA1.out ba ⟨#[114, 101, 116, 117, 114, 110, 32]⟩ ([114, 101, 116, 117, 114, 110, 32] ++ prN d ⟨a1, a2, a3, a4, a5⟩ ak ++ [59]) (by simp) hl (by simp <;> omega))
    have rc := R0.out.cell
    have m0 := q.c0
    have m1 := q.c1
    have m2 := q.c2
    have m3 := q.c3
    have m4 := q.c4
    have m5 := q.c5
    clear q
    go_wp2_with fail
    refine C.out.mono ?_
    rintro e w1 ⟨rfl, h1⟩
    have P1 := Lib.hid h1
    have R1 := Lib.hid (P1.out.row R0.out (by omega) (by decide))
    clear h1 C rc m0 m1 m2 m3 m4 m5
    go_wp2_with fail
    go_end0
    exact (P1.out.cast (by rw [← HX.out]; simp)).doneA hB
  · skip
    have hs := hs0
    rw [hK] at hs
    obtain ⟨ta, hks, ua⟩ := (hs : ∃ e, k.kinds = [e] ∧ up 3 e)
    obtain ⟨a, ak, rfl, rfl⟩ := kinds1 hks
    obtain ⟨n, rfl⟩ : ∃ n, N = n + 1 := ⟨N - 1, by have := (hb.kid (i := 0) rfl).2; omega⟩
    obtain ⟨ba, da⟩ := hb.kid (i := 0) (h := a) rfl
    have oa := okF.drop 0 (h := a) hok rfl
    have qa := ua.1
    have IE := IE0 n (by omega)
    rw [show (Fo.cons a ak .nil).len = 1 from rfl]
    obtain ⟨g, o, rfl, hg, hkid⟩ := KidAt.of hk (by simp [Fo.len])
    obtain ⟨a1, a2, a3, a4, a5⟩ := a
    have hx2 : [] ++ prN d ⟨a1, a2, a3, a4, a5⟩ ak ++ [59] = x := by rw [hx, hK]; rfl
    have hlen := Nat.le_of_eq (congrArg List.length hx2)
    simp at hlen
    have HX := Lib.hid hx2
    have t9 : ((x1 : Int) == 9) = false := by rw [beq_eq_false_iff_ne]; omega
    have t10 : ((x1 : Int) == 10) = false := by rw [beq_eq_false_iff_ne]; omega
    have t7 : ((x1 : Int) == 7) = false := by rw [beq_eq_false_iff_ne]; omega
    have t8 : ((x1 : Int) == 8) = false := by rw [beq_eq_false_iff_ne]; omega
    have t11 : ((x1 : Int) == 11) = false := by rw [beq_eq_false_iff_ne]; omega
    have t12 : ((x1 : Int) == 12) = false := by rw [beq_eq_false_iff_ne]; omega
    have t13 : ((x1 : Int) == 13) = true := by rw [beq_iff_eq]; omega
    have P0 := Lib.hid (Pw.start (hp.below (bel1 w (.cells #[.int .i64 x1, .int .i64 x2, .int .i64 x3, .string x4, .int .i64 x5, .slice (some ⟨g, o, none⟩) 1 cap] 25))) (by simp; omega))
    have R0 := Lib.hid (RowB.new w 25 #[.int .i64 x1, .int .i64 x2, .int .i64 x3, .string x4, .int .i64 x5, .slice (some ⟨g, o, none⟩) 1 cap])
    obtain ⟨Aa, ca, ka⟩ := hkid 0 _ _ _ rfl
    rw [show o + 0 * 6 = o by omega] at ka
    have Ka := Lib.hid (ka.keep ((Below.refl B w).alloc hB (.cells #[.int .i64 x1, .int .i64 x2, .int .i64 x3, .string x4, .int .i64 x5, .slice (some ⟨g, o, none⟩) 1 cap] 25)))
    clear ka
    have HA1 : Hid (ak.deep ≤ n) := by unfold Hid; omega
    clear hs0 hx hx2 hp hk hok hb hq hK hks ua hd IE0 IT IB da hkid
    go_enter Tryz.func105, Tryz.ntmps105
    have q := Ka.out.keep P0.out.bl
    have C := Lib.hid (P0.out.closed IE q.kv oa qa HA1.out ba ⟨#[]⟩ ([] ++ prN d ⟨a1, a2, a3, a4, a5⟩ ak ++ [59]) (by simp) hl (by simp <;> omega))
    have rc := R0.out.cell
    have m0 := q.c0
    have m1 := q.c1
    have m2 := q.c2
    have m3 := q.c3
    have m4 := q.c4
    have m5 := q.c5
    clear q
    go_wp2_with fail
    refine C.out.mono ?_
    rintro e w1 ⟨rfl, h1⟩
    have P1 := Lib.hid h1
    have R1 := Lib.hid (P1.out.row R0.out (by omega) (by decide))
    clear h1 C rc m0 m1 m2 m3 m4 m5
    go_wp2_with fail
    go_end0
    exact (P1.out.cast (by rw [← HX.out]; simp)).doneA hB
end Pg
end Go.Proofs.YtiabkkdeonepgaaGreatDoor
