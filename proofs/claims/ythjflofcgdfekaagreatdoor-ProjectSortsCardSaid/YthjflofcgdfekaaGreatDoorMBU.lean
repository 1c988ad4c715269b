import Derived.Test.YthjflofcgdfekaaGreatDoorMBT
namespace Go.Proofs.YthjflofcgdfekaaGreatDoor
open Go.RowKit Go.Op
namespace Pj
open Sc Od Og Su Ps Pg Vm
open Sb (RowAt)
structure LoadL (w : World) (G : Nat) (ms : List (ByteArray × ByteArray)) (i : Nat) (wr : World) : Prop where
  ex : ∃ (us : List Un) (cs : Array Value), us.length = i ∧ us.map nx = ms.take i ∧ RowB wr G 52 cs ∧ cs.size = ms.length * 14 ∧ (∀ q u, us[q]? = some u → ∀ j v, (unC u)[j]? = some v → cs[q * 14 + j]? = some v) ∧ (∀ u ∈ us, UOk (G + 1) wr u) ∧ ((∃ t, cs[0]? = some (.string t)) ∨ ms.length = 0)
  be : Below w.heap.size w wr
theorem LoadL.next {w wr w3 : World} {G : Nat} {ms : List (ByteArray × ByteArray)} {i : Nat} (h : LoadL w G ms i wr) (hi : i < ms.length) (hG : w.heap.size ≤ G) (hb : Below wr.heap.size wr w3) {u : Un} (hn : ms[i]? = some (nx u)) (hu : UOk (G + 1) w3 u) (a0 a1 a2 a3 a4 a5 a6 a7 a8 a9 a10 a11 a12 a13 : Value) (hcl : unC u = [a0, a1, a2, a3, a4, a5, a6, a7, a8, a9, a10, a11, a12, a13]) :
    LoadL w G ms (i + 1) (putO w3 G (i * 14) a0 a1 a2 a3 a4 a5 a6 a7 a8 a9 a10 a11 a12 a13) ∧ True := by
  obtain ⟨⟨us, cs, h1, h2, h3, h4, h5, h6, h7⟩, hbe⟩ := h
  have h3' := h3.below hb h3.lt
  have hsz : i * 14 + 14 ≤ cs.size := by rw [h4]; omega
  obtain ⟨s1, s2, s3⟩ := set14_get cs (i * 14) a0 a1 a2 a3 a4 a5 a6 a7 a8 a9 a10 a11 a12 a13 hsz
  have hrow := putO_row h3' (i * 14) a0 a1 a2 a3 a4 a5 a6 a7 a8 a9 a10 a11 a12 a13
  refine ⟨⟨⟨us ++ [u], _, by simp [h1], ?_, hrow, by rw [s1, h4], ?_, ?_, ?_⟩, putO_below (hbe.trans (hb.mono hbe.size)) hG _ a0 a1 a2 a3 a4 a5 a6 a7 a8 a9 a10 a11 a12 a13⟩, trivial⟩
  · rw [List.map_append, h2]
    obtain ⟨hi', hxe⟩ := List.getElem?_eq_some_iff.1 hn
    rw [List.take_succ_eq_append_getElem hi', hxe]
    rfl
  · intro q v hq j x hj
    have hj14 : j < 14 := by have := (List.getElem?_eq_some_iff.1 hj).1; rw [unC_len] at this; exact this
    rcases Nat.lt_or_ge q us.length with hql | hql
    · rw [List.getElem?_append_left hql] at hq
      rw [s3 _ (.inl (by omega))]
      exact h5 q v hq j x hj
    · have hqe : q = us.length := by
        have := (List.getElem?_eq_some_iff.1 hq).1
        simp at this
        omega
      subst hqe
      rw [List.getElem?_append_right (Nat.le_refl _), Nat.sub_self] at hq
      simp at hq
      subst hq
      rw [h1]
      rw [hcl] at hj
      exact s2 j x hj
  · obtain ⟨t, ht⟩ : ∃ t, cs[0]? = some (.string t) := by rcases h7 with h | h; exact h; omega
    have hc0 : w3.cell? ⟨G, 0, none⟩ = some (.string t) := (h3'.cell 0).trans ht
    intro v hv
    rcases List.mem_append.1 hv with hv | hv
    · exact ((h6 v hv).below hb).put (fun g hg _ => putO_block w3 G _ a0 a1 a2 a3 a4 a5 a6 a7 a8 a9 a10 a11 a12 a13 hg) (by rw [putO_size]; exact Nat.le_refl _) (Nat.lt_succ_self _) hc0
    · simp at hv
      subst hv
      exact hu.put (fun g hg _ => putO_block w3 G _ a0 a1 a2 a3 a4 a5 a6 a7 a8 a9 a10 a11 a12 a13 hg) (by rw [putO_size]; exact Nat.le_refl _) (Nat.lt_succ_self _) hc0
  · refine .inl ?_
    by_cases h0 : i = 0
    · subst h0
      refine ⟨u.n, ?_⟩
      have := s2 0 (.string u.n) (by rw [← hcl]; rfl)
      rw [Nat.zero_mul, Nat.add_zero] at this
      exact this
    · obtain ⟨t, ht⟩ : ∃ t, cs[0]? = some (.string t) := by rcases h7 with h | h; exact h; omega
      exact ⟨t, by rw [s3 0 (.inl (by omega))]; exact ht⟩
set_option maxHeartbeats 16000000 in
set_option maxRecDepth 100000 in
theorem load_any (A : Option Addr) (cap : Nat) (ms : List (ByteArray × ByteArray)) (w : World) (hv : RowV w mdC 2 A ms) (hs : ∀ m ∈ ms, m.1.size ≤ 100000 ∧ m.2.size ≤ 100000) (hlen : ms.length ≤ 100000) (hT : Tabs w) (hE : Errs w) :
    Calls Tryz.prog 15 #[.slice A ms.length cap] w fun e w' => ∃ us, us.map nx = ms ∧ Below w.heap.size w w' ∧ ((8 < ms.length ∧ e = .returned (.tuple #[.pointer none, .int .i64 5])) ∨
      (∃ l', StG cu us l' ∧ ms.length ≤ 8 ∧ ((chk none l' ≠ 0 ∧ e = .returned (.tuple #[.pointer none, .int .i64 (chk none l')])) ∨ (chk none l' = 0 ∧ ∃ p, e = .returned (.tuple #[.pointer (some ⟨p, 0, none⟩), .int .i64 0]) ∧ PV w' w.heap.size p l')))) := by
  by_cases h8 : 8 < ms.length
  · have q8 : (ms.length : Int) > 8 := by omega
    have H8 := Lib.hid h8
    have HX : Hid (∃ us : List Un, us.map nx = ms) := ⟨ms.map fun m => badU m.1 m.2 0 0, by rw [List.map_map]; exact List.map_id ms⟩
    obtain ⟨n, hn⟩ : ∃ n, n = ms.length := ⟨_, rfl⟩
    rw [← hn] at q8 ⊢
    clear hv hs h8 hn hlen hT hE
    go_enter Tryz.func15, Tryz.ntmps15
    go_wp2_with fail
    (first | go_ret | go_ret2)
    obtain ⟨us, hus⟩ := HX.out
    exact ⟨us, hus, Below.refl _ _, .inl ⟨by first | exact H8.out | (have := H8.out; omega), rfl⟩⟩
  obtain ⟨n, hn⟩ : ∃ n, n = ms.length := ⟨_, rfl⟩
  have HN := Lib.hid hn
  have hn8 : n ≤ 8 := by omega
  have q8 : ¬ (n : Int) > 8 := by omega
  obtain ⟨i0, hi0, hz0, hz1, hz2⟩ := info_parts info52
  have hmk : ∀ u : World, (Instr.makeSlice 85 (.int .i64 (n : Int)) (.int .i64 (n : Int))).run Tryz.prog u = .ok (.slice (some ⟨u.heap.size, 0, none⟩) n n) (u.alloc (.cells (madeCells (Value.cells (.agg #[.string ⟨#[]⟩, .string ⟨#[]⟩, .slice none 0 0, .int .i64 0, .int .i64 0, .int .i64 0, .string ⟨#[]⟩, .int .i64 0, .slice none 0 0, .slice none 0 0, .slice none 0 0, .slice none 0 0, .int .i64 0, .int .i64 0])) (n * 14)) 52)) := fun u => by
    have := run_make (P := Tryz.prog) u 85 52 i0 _ Tryz.underlying85 hi0 hz0 .i64 .i64 (n : Int) (n : Int) (by omega) (Int.le_refl _) (by rw [hz2]; omega) (by omega)
    simpa [hz1] using this
  have hRs := size_madeCells (Value.cells (.agg #[.string ⟨#[]⟩, .string ⟨#[]⟩, .slice none 0 0, .int .i64 0, .int .i64 0, .int .i64 0, .string ⟨#[]⟩, .int .i64 0, .slice none 0 0, .slice none 0 0, .slice none 0 0, .slice none 0 0, .int .i64 0, .int .i64 0])) (n * 14)
  have hR0 : (∃ t, (madeCells (Value.cells (.agg #[.string ⟨#[]⟩, .string ⟨#[]⟩, .slice none 0 0, .int .i64 0, .int .i64 0, .int .i64 0, .string ⟨#[]⟩, .int .i64 0, .slice none 0 0, .slice none 0 0, .slice none 0 0, .slice none 0 0, .int .i64 0, .int .i64 0])) (n * 14))[0]? = some (.string t)) ∨ n = 0 := by
    by_cases h0 : n = 0
    · exact .inr h0
    · refine .inl ⟨⟨#[]⟩, ?_⟩
      have h1 : 0 < n * 14 := by omega
      simp [madeCells, Value.cells, h1]
  obtain ⟨cs0, hcs⟩ : ∃ cs0, cs0 = madeCells (Value.cells (.agg #[.string ⟨#[]⟩, .string ⟨#[]⟩, .slice none 0 0, .int .i64 0, .int .i64 0, .int .i64 0, .string ⟨#[]⟩, .int .i64 0, .slice none 0 0, .slice none 0 0, .slice none 0 0, .slice none 0 0, .int .i64 0, .int .i64 0])) (n * 14) := ⟨_, rfl⟩
  rw [← hcs] at hmk hRs hR0
  have HL0 : Hid (LoadL w w.heap.size ms 0 (w.alloc (.cells cs0 52))) := ⟨⟨[], cs0, rfl, by simp, RowB.new w 52 cs0, by rw [hRs, hn], fun q u hq => by simp at hq, fun u hu => (by cases hu), by rw [← hn]; exact hR0⟩, belA w _⟩
  have HV := Lib.hid hv
  have HS := Lib.hid hs
  have HT := Lib.hid hT
  have HE := Lib.hid hE
  rw [← hn]
  clear hv hs h8 hn hlen hT hE hi0 hz0 hz1 hz2 hR0 hRs hcs
  go_enter Tryz.func15, Tryz.ntmps15
  go_wp2_with fail
  clear hmk q8
  go_loopg [15] (n + 1) (fun kx s15 wr => ∃ (i : Nat), s15 = .int .i64 i ∧ n - i ≤ kx ∧ i ≤ n ∧ Hid (LoadL w w.heap.size ms i wr))
  case atStart => exact ⟨0, rfl, by omega, by omega, HL0.out⟩
  case round =>
    clear HL0
    obtain ⟨i, rfl, hkx, hin, HR⟩ := hrel
    by_cases hi : i < n
    · have hil : (i : Int) < (n : Int) := by omega
      obtain ⟨x, hx⟩ : ∃ x, ms[i]? = some x := ⟨ms[i]'(by rw [← HN.out]; exact hi), List.getElem?_eq_getElem _⟩
      obtain ⟨b1, o1, eA, l1, k1⟩ := (HV.out.below HR.out.be) (by rw [← HN.out]; omega)
      have a0 : wr.cell? ⟨b1, o1 + i * 2, none⟩ = some (.string x.1) := k1 i x hx 0 _ rfl
      have a1 := k1 i x hx 1 _ rfl
      obtain ⟨hx1, hx2⟩ := HS.out x (List.mem_of_getElem? hx)
      have hb3 : Below wr.heap.size wr (wr.alloc (.cells #[.string x.1, .string x.2] 56)) := belA wr _
      have hbw := HR.out.be.trans (hb3.mono HR.out.be.size)
      have CR := Lib.hid (read_any x.1 x.2 (by omega) (wr.alloc (.cells #[.string x.1, .string x.2] 56)) (Tabs.step HT.out hbw) (HE.out.below hbw))
      have HX := Lib.hid hx
      have HRI : Hid (∃ cs, RowB wr w.heap.size 52 cs ∧ cs.size = n * 14) := by
        obtain ⟨⟨us, cs, _, _, h3, h4, _⟩, _⟩ := HR.out
        exact ⟨cs, h3, by rw [h4, HN.out]⟩
      obtain ⟨x1, x2⟩ := x
      simp only at a0 a1 CR HX
      obtain ⟨j, hj⟩ : ∃ j, j = i + 1 := ⟨_, rfl⟩
      have HJ := Lib.hid hj
      have e1 : IntKind.i64.wrap ((i : Int) + 1) = (j : Int) := by rw [IntKind.wrap_i64]; omega
      subst eA
      clear k1 hx hx1 hx2 hb3 hbw hj
      go_wp2_with fail
      refine CR.out.mono ?_
      rintro e w3 ⟨u, rfl, hnx, huk, hb⟩
      have HB3 : Hid (Below wr.heap.size wr w3) := (belA wr _).trans (hb.mono (by simp))
      have HUK : Hid (UOk (w.heap.size + 1) w3 u) := huk.mono (by obtain ⟨cs, hr, _⟩ := HRI.out; have := hr.lt; simp; omega)
      have HNX := Lib.hid hnx
      obtain ⟨⟨xn, xx, xA, xln, xcp, xkd, xfr, xtl, xwd, xat, xB, xkl, xkc, xA1, xn1, xc1, xA2, xn2, xc2, xA3, xn3, xc3, xbad, xab⟩, rfl⟩ : ∃ x', u = x' := ⟨_, rfl⟩
      have hst : ∃ cs, RowB w3 w.heap.size 52 cs ∧ cs.size = n * 14 := by
        obtain ⟨cs, hr, hc⟩ := HRI.out
        exact ⟨cs, hr.below HB3.out hr.lt, hc⟩
      obtain ⟨cs, hr, hc⟩ := hst
      have hg3 : w.heap.size < w3.heap.size := hr.lt
      have hct := hr.thaw
      have hcc : ∀ m, m < n * 14 → ∃ v, w3.cell? ⟨w.heap.size, m, none⟩ = some v := fun m hm => ⟨cs[m]'(by omega), by rw [hr.cell m]; exact Array.getElem?_eq_getElem _⟩
      obtain ⟨v0, e0'⟩ := hcc (i * 14) (by omega)
      obtain ⟨v1, e1'⟩ := hcc (i * 14 + 1) (by omega)
      obtain ⟨v2, e2'⟩ := hcc (i * 14 + 2) (by omega)
      obtain ⟨v3, e3'⟩ := hcc (i * 14 + 3) (by omega)
      obtain ⟨v4, e4'⟩ := hcc (i * 14 + 4) (by omega)
      obtain ⟨v5, e5'⟩ := hcc (i * 14 + 5) (by omega)
      obtain ⟨v6, e6'⟩ := hcc (i * 14 + 6) (by omega)
      obtain ⟨v7, e7'⟩ := hcc (i * 14 + 7) (by omega)
      obtain ⟨v8, e8'⟩ := hcc (i * 14 + 8) (by omega)
      obtain ⟨v9, e9'⟩ := hcc (i * 14 + 9) (by omega)
      obtain ⟨v10, e10'⟩ := hcc (i * 14 + 10) (by omega)
      obtain ⟨v11, e11'⟩ := hcc (i * 14 + 11) (by omega)
      obtain ⟨v12, e12'⟩ := hcc (i * 14 + 12) (by omega)
      obtain ⟨v13, e13'⟩ := hcc (i * 14 + 13) (by omega)
      have HNEXT : Hid (LoadL w w.heap.size ms (i + 1) (putO w3 w.heap.size (i * 14) (.string xn) (.string xx) (.slice xA xln xcp) (.int .i64 xkd) (.int .i64 xfr) (.int .i64 xtl) (.string xwd) (.int .i64 xat) (.slice xB xkl xkc) (.slice xA1 xn1 xc1) (.slice xA2 xn2 xc2) (.slice xA3 xn3 xc3) (.int .i64 xbad) (.int .i64 xab))) := (HR.out.next (by rw [← HN.out]; exact hi) (Nat.le_refl _) HB3.out (u := ⟨xn, xx, xA, xln, xcp, xkd, xfr, xtl, xwd, xat, xB, xkl, xkc, xA1, xn1, xc1, xA2, xn2, xc2, xA3, xn3, xc3, xbad, xab⟩) (by rw [HNX.out]; exact HX.out) HUK.out (.string xn) (.string xx) (.slice xA xln xcp) (.int .i64 xkd) (.int .i64 xfr) (.int .i64 xtl) (.string xwd) (.int .i64 xat) (.slice xB xkl xkc) (.slice xA1 xn1 xc1) (.slice xA2 xn2 xc2) (.slice xA3 xn3 xc3) (.int .i64 xbad) (.int .i64 xab) rfl).1
      have HCS := Lib.hid hr
      simp only [unC]
      clear hnx huk hb CR a0 a1 hr hc hcc HB3 HUK HNX
      go_wp2_with fail
      have hj := HJ.out
      generalize hWF : putO w3 w.heap.size (i * 14) (.string xn) (.string xx) (.slice xA xln xcp) (.int .i64 xkd) (.int .i64 xfr) (.int .i64 xtl) (.string xwd) (.int .i64 xat) (.slice xB xkl xkc) (.slice xA1 xn1 xc1) (.slice xA2 xn2 xc2) (.slice xA3 xn3 xc3) (.int .i64 xbad) (.int .i64 xab) = WF at HNEXT
      simp only [putO] at hWF
      try rw [hWF]
      go_roundg (n - j)
      case measure => omega
      case rel => exact ⟨j, rfl, by omega, by omega, by rw [hj]; exact HNEXT.out⟩
    · have hd1 : decide ((i : Int) < (n : Int)) = false := decide_eq_false (by omega)
      have hin2 : i = n := by omega
      obtain ⟨⟨us, cs, h1, h2, h3, h4, h5, h6, h7⟩, hbe⟩ := HR.out
      have hms : us.map nx = ms := by rw [h2, hin2, HN.out]; exact List.take_length
      have hul : us.length = n := by omega
      have hrv : RowV wr unC 14 (some ⟨w.heap.size, 0, none⟩) us := fun h0 => ⟨_, 0, rfl, h3.lt, fun q u hq j v hj => by rw [Nat.zero_add, h3.cell]; exact h5 q u hq j v hj⟩
      have hus : ∀ u ∈ us, u.n.size ≤ 100000 := fun u hu => by
        have : nx u ∈ ms := by rw [← hms]; exact List.mem_map.2 ⟨u, hu, rfl⟩
        exact (HS.out _ this).1
      have CO := Lib.hid (ofP_any (some ⟨w.heap.size, 0, none⟩) n us wr hrv hus (by omega))
      rw [hul] at CO
      have HMS := Lib.hid hms
      have HBE := Lib.hid hbe
      have HU6 := Lib.hid h6
      have HUL := Lib.hid hul
      have HC0 : Hid (n = 0 ∨ ∃ t, wr.cell? ⟨w.heap.size, 0, none⟩ = some (.string t)) := by
        rcases h7 with ⟨t, ht⟩ | h
        · exact .inr ⟨t, (h3.cell 0).trans ht⟩
        · exact .inl (by rw [HN.out]; exact h)
      clear h1 h2 h3 h4 h5 h6 h7 hms hul hrv hus hbe HR hi
      go_wp2_with fail
      refine CO.out.mono ?_
      rintro e w4 ⟨hb, hq⟩
      have hB4 := HBE.out.trans (hb.mono HBE.out.size)
      rcases hq with ⟨h8, _⟩ | ⟨l', hst, hl8, hq⟩
      · have := HUL.out; omega
      rcases hq with ⟨hck, rfl⟩ | ⟨hck, p, A', c', rfl, hrow, hr, hlo⟩
      · have H1 := Lib.hid hB4
        have H2 := Lib.hid hst
        have H3 := Lib.hid hck
        clear hb hB4 hst hl8 hck
        go_wp2_with fail
        (first | go_ret | go_ret2)
        exact ⟨us, HMS.out, H1.out, .inr ⟨l', H2.out, by first | exact hn8 | (have := HN.out; omega), .inl ⟨H3.out, rfl⟩⟩⟩
      · have hok : ∀ u ∈ l', UOk w.heap.size w4 u := fun u hu => ((HU6.out u (hst.perm.subset hu)).below hb).mono (Nat.le_succ _)
        have HPV : Hid (PV w4 w.heap.size p l') := ⟨⟨A', c', hrow, row_fin hr HBE.out.size (Nat.le_refl _) fun _ _ _ _ => rfl⟩, Nat.le_trans HBE.out.size hlo, hok⟩
        have H1 := Lib.hid hB4
        have H2 := Lib.hid hst
        have H3 := Lib.hid hck
        clear hb hB4 hst hl8 hck hrow hr hlo hok
        go_wp2_with fail
        (first | go_ret | go_ret2)
        exact ⟨us, HMS.out, H1.out, .inr ⟨l', H2.out, by first | exact hn8 | (have := HN.out; omega), .inr ⟨H3.out, p, rfl, HPV.out⟩⟩⟩
end Pj
end Go.Proofs.YthjflofcgdfekaaGreatDoor
namespace Go.Proofs.YthjflofcgdfekaaGreatDoor
open Go.RowKit Go.Op
namespace Pj
open Sc Od Og Su Ps Pg Vm
open Sb (RowAt)
theorem ne_list {a b : ByteArray} (h : a ≠ b) : (a.toList == b.toList) = false := by
  rw [beq_eq_false_iff_ne]
  intro g
  rw [ByteArray.toList_eq, ByteArray.toList_eq] at g
  refine h ?_
  cases a; cases b
  simp only [ByteArray.mk.injEq]
  exact Array.toList_inj.1 g
set_option maxHeartbeats 4000000 in
set_option maxRecDepth 100000 in
theorem isU_any (u : Un) (s : ByteArray) (b : Nat) (w : World) (hc : w.cell? ⟨b, 0, none⟩ = some (.string s)) (hb : b < w.heap.size) :
    Calls Tryz.prog 54 #[.agg (unC u).toArray, .pointer (some ⟨b, 0, none⟩)] w fun e w' => e = .returned (.bool (decide (u.n = s))) ∧ Below w.heap.size w w' := by
  obtain ⟨r, hr⟩ : ∃ r, r = decide (u.n = s) := ⟨_, rfl⟩
  rw [← hr]
  have HB := Lib.hid (belA w (.cells (unC u).toArray 52))
  obtain ⟨xn, xx, xA, xln, xcp, xkd, xfr, xtl, xwd, xat, xB, xkl, xkc, xA1, xn1, xc1, xA2, xn2, xc2, xA3, xn3, xc3, xbad, xab⟩ := u
  simp only [unC] at *
  have hq : (xn.toList == s.toList) = r := by
    by_cases h : xn = s
    · rw [hr, decide_eq_true h, h]; simp
    · rw [hr, decide_eq_false h]; exact ne_list h
  have HQ := Lib.hid hq
  clear hr
  go_enter Tryz.func54, Tryz.ntmps54
  go_wp2
  go_ret
  exact ⟨rb (by first | rw [HQ.out] | simp), HB.out⟩
set_option maxHeartbeats 8000000 in
set_option maxRecDepth 100000 in
theorem idxU_any (us : List Un) (s : ByteArray) (A : Option Addr) (c b : Nat) (w : World) (hv : RowAt w 0 w.heap.size unC 14 A us) (hl : us.length ≤ 1000) (hc : w.cell? ⟨b, 0, none⟩ = some (.string s)) (hb : b < w.heap.size) :
    Calls Tryz.prog 53 #[.slice A us.length c, .func (.func 54) #[] #[.pointer (some ⟨b, 0, none⟩)]] w fun e w' => Below w.heap.size w w' ∧ ((∃ (i : Nat) (u : Un), us[i]? = some u ∧ u.n = s ∧ (∀ (q : Nat) (v : Un), q < i → us[q]? = some v → v.n ≠ s) ∧ e = .returned (.int .i64 (i : Int))) ∨ ((∀ u ∈ us, u.n ≠ s) ∧ e = .returned (.int .i64 (-1)))) := by
  obtain ⟨n, hn⟩ : ∃ n, n = us.length := ⟨_, rfl⟩
  have HN := Lib.hid hn
  have HV := Lib.hid hv
  have HC := Lib.hid hc
  have HBB := Lib.hid hb
  rw [← hn] at hl ⊢
  have e54 : ∀ args w, (callFunc 54 args).run Tryz.prog w = .ok (.enter 54 args) w := enters_of Tryz.func54 (by kernel_rfl) rfl
  clear hv hn hc hb
  go_enter Tryz.func53, Tryz.ntmps53
  go_wp2_with fail
  go_loopg [8] (n + 1) (fun kx s8 wr => ∃ (i : Nat), s8 = .int .i64 i ∧ n - i ≤ kx ∧ i ≤ n ∧ Hid (Below w.heap.size w wr) ∧ Hid (∀ q v, q < i → us[q]? = some v → Un.n v ≠ s))
  case atStart => exact ⟨0, rfl, by omega, by omega, Below.refl _ _, fun q v h => by omega⟩
  case round =>
    obtain ⟨i, rfl, hkx, hin, HQ, HA⟩ := hrel
    by_cases hi : i < n
    · have hil : (i : Int) < (n : Int) := by omega
      obtain ⟨x, hx⟩ : ∃ x, us[i]? = some x := ⟨us[i]'(by rw [← HN.out]; exact hi), List.getElem?_eq_getElem _⟩
      obtain ⟨g1, eA, _, l1, k1⟩ := row_up HV.out (Nat.le_refl _) HQ.out (by rw [← HN.out]; omega)
      have a0 : wr.cell? ⟨g1, i * 14, none⟩ = some (.string x.n) := k1 i x hx 0 _ rfl
      have a1 := k1 i x hx 1 _ rfl
      have a2 := k1 i x hx 2 _ rfl
      have a3 := k1 i x hx 3 _ rfl
      have a4 := k1 i x hx 4 _ rfl
      have a5 := k1 i x hx 5 _ rfl
      have a6 := k1 i x hx 6 _ rfl
      have a7 := k1 i x hx 7 _ rfl
      have a8 := k1 i x hx 8 _ rfl
      have a9 := k1 i x hx 9 _ rfl
      have a10 := k1 i x hx 10 _ rfl
      have a11 := k1 i x hx 11 _ rfl
      have a12 := k1 i x hx 12 _ rfl
      have a13 := k1 i x hx 13 _ rfl
      have CI := Lib.hid (isU_any x s b wr ((HQ.out.cell (p := ⟨b, 0, none⟩) HBB.out).trans HC.out) (Nat.lt_of_lt_of_le HBB.out HQ.out.size))
      have HX := Lib.hid hx
      obtain ⟨v, hv⟩ : ∃ v, v = decide (x.n = s) := ⟨_, rfl⟩
      rw [← hv] at CI
      have HVE := Lib.hid hv
      obtain ⟨⟨xn, xx, xA, xln, xcp, xkd, xfr, xtl, xwd, xat, xB, xkl, xkc, xA1, xn1, xc1, xA2, xn2, xc2, xA3, xn3, xc3, xbad, xab⟩, rfl⟩ : ∃ x', x = x' := ⟨_, rfl⟩
      simp only [unC] at a0 a1 a2 a3 a4 a5 a6 a7 a8 a9 a10 a11 a12 a13 CI
      obtain ⟨j, hj⟩ : ∃ j, j = i + 1 := ⟨_, rfl⟩
      have HJ := Lib.hid hj
      have e1 : IntKind.i64.wrap ((i : Int) + 1) = (j : Int) := by rw [IntKind.wrap_i64]; omega
      subst eA
      clear k1 hx hv hj
      cases v
      · have hne : xn ≠ s := of_decide_eq_false HVE.out.symm
        have HA2 : Hid (∀ q v, q < j → us[q]? = some v → Un.n v ≠ s) := fun q v hq hv => by
          rcases Nat.lt_or_ge q i with h | h
          · exact HA.out q v h hv
          · obtain rfl : q = i := by have := HJ.out; omega
            rw [HX.out] at hv
            injection hv with hv
            rw [← hv]
            exact hne
        clear hne
        go_wp2_with fail
        refine CI.out.mono ?_
        rintro e w3 ⟨rfl, hb3⟩
        have HQ3 : Hid (Below w.heap.size w w3) := HQ.out.trans (hb3.mono HQ.out.size)
        clear hb3 CI a0 a1 a2 a3 a4 a5 a6 a7 a8 a9 a10 a11 a12 a13
        go_wp2_with fail
        have hj := HJ.out
        go_roundg (n - j)
        case measure => omega
        case rel => exact ⟨j, rfl, by omega, by omega, HQ3.out, HA2.out⟩
      · go_wp2_with fail
        refine CI.out.mono ?_
        rintro e w3 ⟨rfl, hb3⟩
        have HQ3 : Hid (Below w.heap.size w w3) := HQ.out.trans (hb3.mono HQ.out.size)
        clear hb3 CI a0 a1 a2 a3 a4 a5 a6 a7 a8 a9 a10 a11 a12 a13
        go_wp2_with fail
        go_ret
        exact ⟨HQ3.out, .inl ⟨i, _, HX.out, of_decide_eq_true HVE.out.symm, HA.out, rfl⟩⟩
    · have hd1 : decide ((i : Int) < (n : Int)) = false := decide_eq_false (by omega)
      have HF : Hid (∀ u ∈ us, Un.n u ≠ s) := fun u hu => by
        obtain ⟨q, hq, rfl⟩ := List.getElem_of_mem hu
        exact HA.out q _ (by have := HN.out; omega) (List.getElem?_eq_getElem hq)
      go_wp2_with fail
      go_ret
      exact ⟨HQ.out, .inr ⟨HF.out, rfl⟩⟩
def FndU (us : List Un) (s : ByteArray) (u : Un) : Prop := ∃ i : Nat, us[i]? = some u ∧ u.n = s ∧ ∀ (q : Nat) (v : Un), q < i → us[q]? = some v → v.n ≠ s
set_option maxHeartbeats 8000000 in
set_option maxRecDepth 100000 in
theorem unit_any (us : List Un) (s : ByteArray) (lo p : Nat) (w : World) (hp : PV w lo p us) (hl : us.length ≤ 1000) :
    Calls Tryz.prog 19 #[.pointer (some ⟨p, 0, none⟩), .string s] w fun e w' => Below w.heap.size w w' ∧ ((∃ u, FndU us s u ∧ e = .returned (.tuple #[.agg (unC u).toArray, .bool true])) ∨ ((∀ u ∈ us, u.n ≠ s) ∧ e = .returned (.tuple #[.agg #[.string ⟨#[]⟩, .string ⟨#[]⟩, .slice none 0 0, .int .i64 0, .int .i64 0, .int .i64 0, .string ⟨#[]⟩, .int .i64 0, .slice none 0 0, .slice none 0 0, .slice none 0 0, .slice none 0 0, .int .i64 0, .int .i64 0], .bool false]))) := by
  obtain ⟨W1, hW1⟩ : ∃ W1, W1 = (w.alloc (.cells #[.string s] 9)).alloc (.cells #[.string ⟨#[]⟩, .string ⟨#[]⟩, .slice none 0 0, .int .i64 0, .int .i64 0, .int .i64 0, .string ⟨#[]⟩, .int .i64 0, .slice none 0 0, .slice none 0 0, .slice none 0 0, .slice none 0 0, .int .i64 0, .int .i64 0] 52) := ⟨_, rfl⟩
  have s1 : W1.heap.size = w.heap.size + 2 := by rw [hW1]; simp
  have r1 : RowB W1 w.heap.size 9 #[.string s] := by rw [hW1]; exact (RowB.new _ _ _).alloc _
  have r2 : RowB W1 (w.heap.size + 1) 52 #[.string ⟨#[]⟩, .string ⟨#[]⟩, .slice none 0 0, .int .i64 0, .int .i64 0, .int .i64 0, .string ⟨#[]⟩, .int .i64 0, .slice none 0 0, .slice none 0 0, .slice none 0 0, .slice none 0 0, .int .i64 0, .int .i64 0] := by
    have := RowB.new (w.alloc (.cells #[.string s] 9)) 52 #[.string ⟨#[]⟩, .string ⟨#[]⟩, .slice none 0 0, .int .i64 0, .int .i64 0, .int .i64 0, .string ⟨#[]⟩, .int .i64 0, .slice none 0 0, .slice none 0 0, .slice none 0 0, .slice none 0 0, .int .i64 0, .int .i64 0]
    rw [hW1]
    simpa using this
  have b1 : Below w.heap.size w W1 := by rw [hW1]; exact (belA w _).alloc (by simp) _
  obtain ⟨⟨A, c, rp, hr⟩, _, _⟩ := hp
  have hr1 : RowAt W1 0 W1.heap.size unC 14 A us := row_fin (row_up hr (Nat.le_refl _) b1) (Nat.zero_le _) (Nat.le_refl _) fun _ _ _ _ => rfl
  have rp1 := rp.below b1 rp.lt
  have CI := Lib.hid (idxU_any us s A c w.heap.size W1 hr1 hl (r1.cell 0) r1.lt)
  have HR1 := Lib.hid hr
  obtain ⟨n, hn⟩ : ∃ n, n = us.length := ⟨_, rfl⟩
  have HN := Lib.hid hn
  rw [← hn] at CI hl
  have HRP : Hid (∀ W, Below W1.heap.size W1 W → W.cell? ⟨p, 0, none⟩ = some (.slice A n c)) := fun W hW => ((hW.cell (p := ⟨p, 0, none⟩) rp1.lt).trans (rp1.cell 0)).trans (by rw [hn]; rfl)
  have yp : w.cell? ⟨p, 0, none⟩ = some (.slice A n c) := (rp.cell 0).trans (by rw [hn]; rfl)
  have hpl : p < w.heap.size := rp.lt
  have HW1 := Lib.hid hW1
  have R2 := Lib.hid r2
  have B1 := Lib.hid b1
  have hmf : ∀ (fn : Fn) (first cap : Array Value) (w : World), (Instr.makeFunc fn first cap).run Tryz.prog w = .ok (.func fn first cap) w := fun _ _ _ _ => rfl
  clear r1 r2 b1 hr1 rp rp1 hr hn hW1
  go_enter Tryz.func19, Tryz.ntmps19
  go_wp2_with fail
  rw [← HW1.out]
  refine CI.out.mono ?_
  rintro e w2 ⟨hb, hq⟩
  have HB2 := Lib.hid hb
  have r2 := R2.out.below hb R2.out.lt
  have yp2 := HRP.out w2 hb
  have BW := Lib.hid (B1.out.trans (hb.mono B1.out.size))
  have y2t := r2.thaw
  have y2 := r2.cell
  have P2 := Lib.hid r2
  have hg2 : w.heap.size + 1 < w2.heap.size := r2.lt
  rcases hq with ⟨i, u, hu, hun, hfst, rfl⟩ | ⟨hno, rfl⟩
  · have HF : Hid (FndU us s u) := ⟨i, hu, hun, hfst⟩
    obtain ⟨g1, eA, _, l1, k1⟩ := HR1.out (by have := (List.getElem?_eq_some_iff.1 hu).1; omega)
    have hi : i < n := by rw [HN.out]; exact (List.getElem?_eq_some_iff.1 hu).1
    have hil : (i : Int) < (n : Int) := by omega
    have hi0 : decide ((i : Int) < 0) = false := decide_eq_false (by omega)
    have hne : g1 ≠ w.heap.size + 1 := by omega
    have hgw : g1 < w2.heap.size := Nat.lt_of_lt_of_le l1 BW.out.size
    have a0 : w2.cell? ⟨g1, i * 14, none⟩ = some (.string u.n) := (BW.out.cell (p := ⟨g1, i * 14 + 0, none⟩) l1).trans (k1 i u hu 0 _ rfl)
    have a1 := (BW.out.cell (p := ⟨g1, i * 14 + 1, none⟩) l1).trans (k1 i u hu 1 _ rfl)
    have a2 := (BW.out.cell (p := ⟨g1, i * 14 + 2, none⟩) l1).trans (k1 i u hu 2 _ rfl)
    have a3 := (BW.out.cell (p := ⟨g1, i * 14 + 3, none⟩) l1).trans (k1 i u hu 3 _ rfl)
    have a4 := (BW.out.cell (p := ⟨g1, i * 14 + 4, none⟩) l1).trans (k1 i u hu 4 _ rfl)
    have a5 := (BW.out.cell (p := ⟨g1, i * 14 + 5, none⟩) l1).trans (k1 i u hu 5 _ rfl)
    have a6 := (BW.out.cell (p := ⟨g1, i * 14 + 6, none⟩) l1).trans (k1 i u hu 6 _ rfl)
    have a7 := (BW.out.cell (p := ⟨g1, i * 14 + 7, none⟩) l1).trans (k1 i u hu 7 _ rfl)
    have a8 := (BW.out.cell (p := ⟨g1, i * 14 + 8, none⟩) l1).trans (k1 i u hu 8 _ rfl)
    have a9 := (BW.out.cell (p := ⟨g1, i * 14 + 9, none⟩) l1).trans (k1 i u hu 9 _ rfl)
    have a10 := (BW.out.cell (p := ⟨g1, i * 14 + 10, none⟩) l1).trans (k1 i u hu 10 _ rfl)
    have a11 := (BW.out.cell (p := ⟨g1, i * 14 + 11, none⟩) l1).trans (k1 i u hu 11 _ rfl)
    have a12 := (BW.out.cell (p := ⟨g1, i * 14 + 12, none⟩) l1).trans (k1 i u hu 12 _ rfl)
    have a13 := (BW.out.cell (p := ⟨g1, i * 14 + 13, none⟩) l1).trans (k1 i u hu 13 _ rfl)
    obtain ⟨⟨xn, xx, xA, xln, xcp, xkd, xfr, xtl, xwd, xat, xB, xkl, xkc, xA1, xn1, xc1, xA2, xn2, xc2, xA3, xn3, xc3, xbad, xab⟩, rfl⟩ : ∃ x', u = x' := ⟨_, rfl⟩
    simp only at a0 a1 a2 a3 a4 a5 a6 a7 a8 a9 a10 a11 a12 a13
    subst eA
    clear k1 hu hun hfst hb CI r2
    go_wp2_with fail
    have y9 := (put14_row P2.out (.string xn) (.string xx) (.slice xA xln xcp) (.int .i64 xkd) (.int .i64 xfr) (.int .i64 xtl) (.string xwd) (.int .i64 xat) (.slice xB xkl xkc) (.slice xA1 xn1 xc1) (.slice xA2 xn2 xc2) (.slice xA3 xn3 xc3) (.int .i64 xbad) (.int .i64 xab)).cell
    have hbb := put14_below BW.out (show w.heap.size ≤ w.heap.size + 1 by omega) (.string xn) (.string xx) (.slice xA xln xcp) (.int .i64 xkd) (.int .i64 xfr) (.int .i64 xtl) (.string xwd) (.int .i64 xat) (.slice xB xkl xkc) (.slice xA1 xn1 xc1) (.slice xA2 xn2 xc2) (.slice xA3 xn3 xc3) (.int .i64 xbad) (.int .i64 xab)
    generalize hWF : put14 w2 (w.heap.size + 1) (.string xn) (.string xx) (.slice xA xln xcp) (.int .i64 xkd) (.int .i64 xfr) (.int .i64 xtl) (.string xwd) (.int .i64 xat) (.slice xB xkl xkc) (.slice xA1 xn1 xc1) (.slice xA2 xn2 xc2) (.slice xA3 xn3 xc3) (.int .i64 xbad) (.int .i64 xab) = WF at y9 hbb
    simp only [put14] at hWF
    rw [hWF]
    clear hWF a0 a1 a2 a3 a4 a5 a6 a7 a8 a9 a10 a11 a12 a13 y2 y2t P2
    refine bodyPost_ret (v := .tuple #[.agg #[.string xn, .string xx, .slice xA xln xcp, .int .i64 xkd, .int .i64 xfr, .int .i64 xtl, .string xwd, .int .i64 xat, .slice xB xkl xkc, .slice xA1 xn1 xc1, .slice xA2 xn2 xc2, .slice xA3 xn3 xc3, .int .i64 xbad, .int .i64 xab], .bool true]) ?_ rfl ⟨hbb, .inl ⟨_, HF.out, rfl⟩⟩
    simp [results, Tryz.results19, go_sem, y9]
  · have HNO := Lib.hid hno
    clear hno hb CI r2
    go_wp2_with fail
    have y9 := (put14_row P2.out (.string ⟨#[]⟩) (.string ⟨#[]⟩) (.slice none 0 0) (.int .i64 0) (.int .i64 0) (.int .i64 0) (.string ⟨#[]⟩) (.int .i64 0) (.slice none 0 0) (.slice none 0 0) (.slice none 0 0) (.slice none 0 0) (.int .i64 0) (.int .i64 0)).cell
    have hbb := put14_below BW.out (show w.heap.size ≤ w.heap.size + 1 by omega) (.string ⟨#[]⟩) (.string ⟨#[]⟩) (.slice none 0 0) (.int .i64 0) (.int .i64 0) (.int .i64 0) (.string ⟨#[]⟩) (.int .i64 0) (.slice none 0 0) (.slice none 0 0) (.slice none 0 0) (.slice none 0 0) (.int .i64 0) (.int .i64 0)
    generalize hWF : put14 w2 (w.heap.size + 1) (.string ⟨#[]⟩) (.string ⟨#[]⟩) (.slice none 0 0) (.int .i64 0) (.int .i64 0) (.int .i64 0) (.string ⟨#[]⟩) (.int .i64 0) (.slice none 0 0) (.slice none 0 0) (.slice none 0 0) (.slice none 0 0) (.int .i64 0) (.int .i64 0) = WF at y9 hbb
    simp only [put14] at hWF
    rw [hWF]
    clear hWF y2 y2t P2
    refine bodyPost_ret (v := .tuple #[.agg #[.string ⟨#[]⟩, .string ⟨#[]⟩, .slice none 0 0, .int .i64 0, .int .i64 0, .int .i64 0, .string ⟨#[]⟩, .int .i64 0, .slice none 0 0, .slice none 0 0, .slice none 0 0, .slice none 0 0, .int .i64 0, .int .i64 0], .bool false]) ?_ rfl ⟨hbb, .inr ⟨HNO.out, rfl⟩⟩
    simp [results, Tryz.results19, go_sem, y9]
end Pj
end Go.Proofs.YthjflofcgdfekaaGreatDoor
