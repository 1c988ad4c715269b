import Derived.Test.YthjflofcgdfekaaGreatDoorMBN
import Derived.Test.YthjflofcgdfekaaGreatDoorMAV
import Derived.Test.YthjflofcgdfekaaGreatDoorMAS
import Derived.Deep.LoopGhost
import Derived.BigQuiet
import Derived.IntWalk
import Derived.Test.YthjflofcgdfekaaGreatDoorMBL
import Derived.Test.YthjflofcgdfekaaGreatDoorMAQ
import Derived.Deep.CutRange
import Derived.Shelf.SlGeneric
import Derived.Shelf.SortM.Plain
import Derived.Shelf.SortM.SortNone
import Derived.Ground.SlgmProg
import Derived.Laws.OwnMore
import Derived.Lib.AppendZeros
import Derived.KernelRfl
namespace Go.Proofs.YthjflofcgdfekaaGreatDoor
open Go.RowKit
def rkeys : List ByteArray := [⟨#[117, 115, 101]⟩, ⟨#[100, 101, 102]⟩, ⟨#[108, 101, 116]⟩, ⟨#[105, 102]⟩, ⟨#[101, 108, 115, 101]⟩, ⟨#[119, 104, 105, 108, 101]⟩, ⟨#[112, 114, 105, 110, 116]⟩, ⟨#[114, 101, 116, 117, 114, 110]⟩, ⟨#[102, 110]⟩, ⟨#[105, 110, 112, 117, 116]⟩, ⟨#[105, 110, 116]⟩, ⟨#[115, 116, 114]⟩, ⟨#[100, 121, 110]⟩]
def rk (k : Nat) : ByteArray := rkeys.getD k ⟨#[]⟩
def allW (l : List UInt8) : Bool := l.all fun b => wdN b.toNat
theorem wLen_all : ∀ l : List UInt8, allW l = true ↔ wLen l = l.length
  | [] => by simp [allW, wLen, runM]
  | b :: t => by
    have ih := wLen_all t
    have hle := wLen_le t
    unfold allW wLen at *
    cases hb : wdN b.toNat
    · rw [runM_stop (go := wGo) (by exact hb)]
      simp [hb]
    · rw [runM_go (go := wGo) (by exact hb)]
      simp only [List.all_cons, hb, Bool.true_and, List.length_cons]
      rw [ih]
      show runM wSt wGo false t = t.length ↔ 1 + runM wSt wGo false t = t.length + 1
      omega
def nameL (l : List UInt8) : Bool := decide (l ≠ []) && letN (l.getD 0 0).toNat && decide (wLen l = l.length) && decide (l.length ≤ 40) && !(keyL l)
def rnameL (l : List UInt8) : Bool := !(decide (l.length = 0) || decide (l.length > 40) || keyL l || digN (l.getD 0 0).toNat) && allW l
theorem digN_letN (n : Int) : digN n = true → letN n = false := by
  intro h
  simp [digN, letN] at h ⊢
  omega
theorem name_same (l : List UInt8) : nameL l = rnameL l := by
  unfold nameL rnameL
  cases l with
  | nil => simp
  | cons b t =>
    have hw := wLen_all (b :: t)
    have e : (b :: t).getD 0 0 = b := rfl
    rw [e]
    by_cases ha : allW (b :: t) = true
    · have hb : wdN b.toNat = true := by simp [allW] at ha; exact ha.1
      rw [decide_eq_true (hw.1 ha), ha]
      have h1 : letN b.toNat = !(digN b.toNat) := by
        unfold wdN at hb
        cases hd : digN b.toNat
        · rw [hd] at hb; simpa using hb
        · rw [digN_letN _ hd]; rfl
      rw [h1]
      have h2 : (decide ((b :: t).length ≤ 40)) = !(decide ((b :: t).length > 40)) := by
        rw [Bool.eq_iff_iff]; simp
      rw [h2]
      cases digN b.toNat <;> cases keyL (b :: t) <;> cases decide ((b :: t).length > 40) <;> simp
    · have h1 : ¬ wLen (b :: t) = (b :: t).length := fun h => ha (hw.2 h)
      have h2 : allW (b :: t) = false := by simpa using ha
      rw [decide_eq_false h1, h2]
      simp
end Go.Proofs.YthjflofcgdfekaaGreatDoor








namespace Go.Proofs.YthjflofcgdfekaaGreatDoor
open Go.RowKit Go.Op
namespace Sc
open Sb
theorem binds_ok : ∀ (l : Tr) (i : Nat) (s : St), Ok s → 0 ≤ s.lam → s.lam ≤ 1000000 → Ok (binds i l s) ∧ (binds i l s).lam = s.lam
  | .nil, _, s, h, _, _ => ⟨h, rfl⟩
  | .cons hd _ r, i, s, h, h0, h1 => by
    rw [binds]
    have g := bind1_ok hd (s := { s with item := (i : Int) }) (h.item _) ⟨h0, h1⟩
    have hl : (bind1 hd { s with item := (i : Int) }).lam = s.lam := g.lam
    have := binds_ok r (i + 1) _ g.ok (by rw [hl]; exact h0) (by rw [hl]; exact h1)
    exact ⟨this.1, this.2.trans hl⟩
theorem items_ok : ∀ (l : Tr) (i : Nat) (s : St), Ok s → 0 ≤ s.lam → s.lam + l.cnt ≤ 1000000 → Ok (items i l s) ∧ (items i l s).lam = s.lam
  | .nil, _, s, h, _, _ => ⟨h, rfl⟩
  | .cons hd k r, i, s, h, h0, h1 => by
    rw [items]
    rw [Tr.cnt] at h1
    have g := node_ok hd (nodes k) k.cnt (fun s a b c => nodes_ok k s a b c) { s with item := (i : Int) } (h.item _) h0 (by show s.lam + _ ≤ _; omega)
    have hl : (node hd (nodes k) { s with item := (i : Int) }).lam = s.lam := g.lam
    have := items_ok r (i + 1) _ g.ok (by rw [hl]; exact h0) (by rw [hl]; omega)
    exact ⟨this.1, this.2.trans hl⟩
set_option maxHeartbeats 4000000 in
set_option maxRecDepth 100000 in
theorem clo20_any {X : Wc} {h : Hi} {A : Option Addr} {n cap : Nat} {w : World} {R : Ending → World → Prop} (p0 p1 : Nat) (r0 : RowB w p0 185 #[X.p]) (r1 : RowB w p1 38 (hcc h A n cap)) (hc : Calls Tryz.prog 107 #[X.p, .slice A n cap] w fun e w' => e = .returned (.tuple #[]) ∧ R e w') :
    Calls Tryz.prog 106 #[.pointer (some ⟨p0, 0, none⟩), .pointer (some ⟨p1, 0, none⟩)] w R := by
  have y0 := r0.cell
  have y1 := r1.cell
  have CC := Lib.hid hc
  obtain ⟨b, mb, B⟩ := X
  simp only [hcc] at *
  clear r0 r1 hc
  go_enter Tryz.func106, Tryz.ntmps106
  go_wp2_with fail
  refine CC.out.mono ?_
  rintro e w2 ⟨rfl, hR⟩
  go_wp2_with fail
  go_end0
  exact hR
def OfA (w : World) (st : St) (e : Ending) (w' : World) : Prop :=
  ∃ A1 c1 A2 c2 A3 c3 l3, e = .returned (.agg #[.slice A1 st.bs.length c1, .slice A2 st.ms.length c2, .slice A3 st.bad.length c3]) ∧ StSort st.bad l3 ∧ RowAt w' w.heap.size w'.heap.size bdC 4 A1 st.bs ∧ RowAt w' w.heap.size w'.heap.size mnC 4 A2 st.ms ∧ RowAt w' w.heap.size w'.heap.size baC 2 A3 l3 ∧ st.bs.length ≤ c1 ∧ st.ms.length ≤ c2 ∧ st.bad.length ≤ c3 ∧ st.bs.length + st.ms.length + st.bad.length ≤ 100000000 ∧ Below w.heap.size w w'
def ofS (h : Hi) (k : Tr) : St := if h.kind = 1 then file k else .none
set_option maxHeartbeats 8000000 in
set_option maxRecDepth 100000 in
theorem of_none {w : World} (h : Hi) (A : Option Addr) (n cap : Nat) (hk : h.kind ≠ 1) : Calls Tryz.prog 69 #[hvv h A n cap] w (OfA w .none) := by
  have hk' : (h.kind != 1) = true := by rw [bne_iff_ne]; exact hk
  obtain ⟨kd, fro, til, word, at_⟩ := h
  simp only [hvv] at *
  have HB : Hid (Below w.heap.size w ((w.alloc (.cells #[.int .i64 kd, .int .i64 fro, .int .i64 til, .string word, .int .i64 at_, .slice A n cap] 38)).alloc (.cells #[.slice none 0 0, .slice none 0 0, .slice none 0 0] 50))) := (belA w _).alloc (by simp) _
  have RZ := Lib.hid (RowB.new (w.alloc (.cells #[.int .i64 kd, .int .i64 fro, .int .i64 til, .string word, .int .i64 at_, .slice A n cap] 38)) 50 #[.slice none 0 0, .slice none 0 0, .slice none 0 0])
  go_enter Tryz.func69, Tryz.ntmps69
  go_wp2
  have y9 := RZ.out.cell
  simp only [World.size_alloc] at y9
  refine bodyPost_ret (v := .agg #[.slice none 0 0, .slice none 0 0, .slice none 0 0]) ?_ rfl ⟨none, 0, none, 0, none, 0, [], rfl, StSort.nil, fun h => by simp [St.none] at h, fun h => by simp [St.none] at h, fun h => by simp at h, Nat.le_refl _, Nat.le_refl _, Nat.le_refl _, by simp [St.none], HB.out⟩
  simp [results, Tryz.results69, go_sem, y9]
  try first | rfl | exact ⟨rfl, rfl⟩
set_option maxHeartbeats 8000000 in
set_option maxRecDepth 100000 in
theorem of_file {w : World} (h : Hi) (k : Tr) (A : Option Addr) (cap : Nat) (hk : h.kind = 1) (ht : TV w w.heap.size k A cap) (hc : k.cnt ≤ 100000) : Calls Tryz.prog 69 #[hvv h A k.len cap] w (OfA w (file k)) := by
  obtain ⟨kd, fro, til, word, at_⟩ := h
  simp only at hk
  subst hk
  have hmm := @run_makeMap Tryz.prog
  obtain ⟨n, hn⟩ : ∃ n, n = k.len := ⟨_, rfl⟩
  obtain ⟨W1, hW1⟩ : ∃ W1, W1 = (w.alloc (.cells #[.int .i64 1, .int .i64 fro, .int .i64 til, .string word, .int .i64 at_, .slice A n cap] 38)).alloc (.cells #[.slice none 0 0, .slice none 0 0, .slice none 0 0] 50) := ⟨_, rfl⟩
  obtain ⟨W2, hW2⟩ : ∃ W2, W2 = W1.alloc (.map #[] 0) := ⟨_, rfl⟩
  obtain ⟨W3, hW3⟩ : ∃ W3, W3 = W2.alloc (.cells (wcc (.slice none 0 0) (.slice none 0 0) (.slice none 0 0) (.slice none 0 0) (w.heap.size + 2) none 0 0) 189) := ⟨_, rfl⟩
  obtain ⟨W4, hW4⟩ : ∃ W4, W4 = W3.alloc (.cells #[Wc.p ⟨w.heap.size + 3, w.heap.size + 2, w.heap.size⟩] 185) := ⟨_, rfl⟩
  have S1 : W1.heap.size = w.heap.size + 2 := by rw [hW1]; simp
  have S2 : W2.heap.size = w.heap.size + 3 := by rw [hW2]; simp [S1]
  have S3 : W3.heap.size = w.heap.size + 4 := by rw [hW3]; simp [S2]
  have S4 : W4.heap.size = w.heap.size + 5 := by rw [hW4]; simp [S3]
  have r1 : RowB W4 w.heap.size 38 #[.int .i64 1, .int .i64 fro, .int .i64 til, .string word, .int .i64 at_, .slice A n cap] := by rw [hW4, hW3, hW2, hW1]; exact ((((RowB.new w 38 _).alloc _).alloc _).alloc _).alloc _
  have r2 : RowB W4 (w.heap.size + 1) 50 #[.slice none 0 0, .slice none 0 0, .slice none 0 0] := by
    have := RowB.new (w.alloc (.cells #[.int .i64 1, .int .i64 fro, .int .i64 til, .string word, .int .i64 at_, .slice A n cap] 38)) 50 #[.slice none 0 0, .slice none 0 0, .slice none 0 0]
    rw [show (w.alloc (.cells #[.int .i64 1, .int .i64 fro, .int .i64 til, .string word, .int .i64 at_, .slice A n cap] 38)).heap.size = w.heap.size + 1 by simp, ← hW1] at this
    rw [hW4, hW3, hW2]
    exact ((this.alloc _).alloc _).alloc _
  have rm : MF W4 (w.heap.size + 2) 0 fun _ => none := by
    have := MF.new W1
    rw [S1, ← hW2] at this
    refine this.of_block ?_
    rw [hW4, hW3]
    exact (Below.heap_alloc _ _ _ (by rw [← hW3, S3]; omega)).trans (Below.heap_alloc _ _ _ (by rw [S2]; omega))
  have rb : RowB W4 (w.heap.size + 3) 189 (wcc (.slice none 0 0) (.slice none 0 0) (.slice none 0 0) (.slice none 0 0) (w.heap.size + 2) none 0 0) := by
    have := RowB.new W2 189 (wcc (.slice none 0 0) (.slice none 0 0) (.slice none 0 0) (.slice none 0 0) (w.heap.size + 2) none 0 0)
    rw [S2, ← hW3] at this
    rw [hW4]
    exact this.alloc _
  have r4 : RowB W4 (w.heap.size + 4) 185 #[Wc.p ⟨w.heap.size + 3, w.heap.size + 2, w.heap.size⟩] := by
    have := RowB.new W3 185 #[Wc.p ⟨w.heap.size + 3, w.heap.size + 2, w.heap.size⟩]
    rw [S3, ← hW4] at this
    exact this
  have hB4 : Below w.heap.size w W4 := by rw [hW4, hW3, hW2, hW1]; exact (((((belA w _).alloc (by simp) _).alloc (by simp; omega) _).alloc (by simp; omega) _).alloc (by simp; omega) _)
  have hws : WSr ⟨w.heap.size + 3, w.heap.size + 2, w.heap.size⟩ W4 (fun g => g = w.heap.size + 3 ∨ g = w.heap.size + 2) none .none 0 (.slice none 0 0) (.slice none 0 0) (.slice none 0 0) (.slice none 0 0) 0 0 :=
    ⟨rb, World.ownsRow_nil _ _ _ _, World.ownsRow_nil _ _ _ _, World.ownsRow_nil _ _ _ _, World.ownsRow_nil _ _ _ _, ⟨_, rm, fun _ => rfl⟩, ⟨rfl, rfl⟩, (by simp), Nat.le_refl _, .inl rfl, .inr rfl, (fun h e => by cases e), (fun g e => by cases e), (fun g e => by cases e), (fun g e => by cases e), (fun g e => by cases e), (fun g hg => by rcases hg with rfl | rfl <;> exact ⟨by simp, by rw [S4]; omega⟩)⟩
  have hTH : Thru ⟨w.heap.size + 3, w.heap.size + 2, w.heap.size⟩ W4 (fun g => g = w.heap.size + 3 ∨ g = w.heap.size + 2) 0 (8 * k.cnt) .none 0 (fun s => items 0 k (binds 0 k s)) 106 #[.pointer (some ⟨w.heap.size + 4, 0, none⟩), .pointer (some ⟨w.heap.size, 0, none⟩)] := fun hb N1 w1 K1 a1 a2 a3 a4 a5 => by
    have q0 : RowB w1 (w.heap.size + 4) 185 _ := (a4 _ r4.lt (by omega)).trans r4
    have q1 : RowB w1 w.heap.size 38 _ := (a4 _ r1.lt (by omega)).trans r1
    obtain rfl : N1 = 0 := by omega
    have hold : Old w.heap.size w w1 := fun g hg => (a4 g (by rw [S4]; omega) (by omega)).trans (hB4.block g hg)
    refine clo20_any (h := ⟨1, fro, til, word, at_⟩) _ _ q0 q1 ?_
    rw [hn]
    exact (file_any k w1 K1 hb (enter 0 .none) 0 A cap a1 (enter_ok 0 Ok.none) (by decide) (by show (0 : Int) + 0 + _ ≤ _; omega) (by omega) (ht.keep hold) (Nat.le_trans (show w.heap.size ≤ W4.heap.size by omega) a3)).mono fun e w' h => ⟨h.1, h⟩
  have hlam : (items 0 k (binds 0 k (enter 0 .none))).lam = St.none.lam + 0 := by
    obtain ⟨b1, b2⟩ := binds_ok k 0 (enter 0 .none) (enter_ok 0 Ok.none) (by decide) (by decide)
    have hl0 : (enter 0 St.none).lam = 0 := rfl
    rw [hl0] at b2
    obtain ⟨_, c2⟩ := items_ok k 0 _ b1 (by rw [b2]; decide) (by rw [b2]; omega)
    rw [c2, b2]
    rfl
  have CT := Lib.hid (through_any hws 0 (.inl rfl) ⟨by decide, by decide⟩ 106 _ (fun s => items 0 k (binds 0 k s)) (8 * k.cnt) hTH (enterF _ _ (by decide)) hlam (by omega))
  have HB4 := Lib.hid hB4
  have R2 := Lib.hid r2
  have R4 := Lib.hid r4
  have SS := Lib.hid S4
  have HWA := Lib.hid (show W4 = ((((w.alloc (.cells #[.int .i64 1, .int .i64 fro, .int .i64 til, .string word, .int .i64 at_, .slice A n cap] 38)).alloc (.cells #[.slice none 0 0, .slice none 0 0, .slice none 0 0] 50)).alloc (.map #[] 0)).alloc (.cells (wcc (.slice none 0 0) (.slice none 0 0) (.slice none 0 0) (.slice none 0 0) (w.heap.size + 2) none 0 0) 189)).alloc (.cells #[Wc.p ⟨w.heap.size + 3, w.heap.size + 2, w.heap.size⟩] 185) by rw [hW4, hW3, hW2, hW1])
  have hmf : ∀ (fn : Fn) (first cap : Array Value) (w : World), (Instr.makeFunc fn first cap).run Tryz.prog w = .ok (.func fn first cap) w := fun _ _ _ _ => rfl
  have HC := Lib.hid hc
  simp only [hvv]
  rw [← hn]
  clear hTH hlam hws r1 r2 rm rb r4 hB4 S1 S2 S3 S4 hW1 hW2 hW3 hW4 ht hn hc
  go_enter Tryz.func69, Tryz.ntmps69
  go_wp2_with fail
  rw [show w.heap.size + 1 + 1 + 1 + 1 = w.heap.size + 4 from rfl, show w.heap.size + 1 + 1 + 1 = w.heap.size + 3 from rfl, show w.heap.size + 1 + 1 = w.heap.size + 2 from rfl, ← HWA.out]
  refine CT.out.mono ?_
  rintro e W5 ⟨rfl, K5, ⟨v1, v2, v3, v4, nm, nh, h5⟩, g5⟩
  have hsz : W4.heap.size = w.heap.size + 5 := SS.out
  obtain ⟨st, hst⟩ : ∃ st, st = file k := ⟨_, rfl⟩
  have HST := Lib.hid hst
  have h5' : WSr ⟨w.heap.size + 3, w.heap.size + 2, w.heap.size⟩ W5 K5 none st (0 + 8 * k.cnt) v1 v2 v3 v4 nm nh := by rw [hst]; exact h5
  clear h5
  obtain ⟨A1, c1, rfl, hc1⟩ := own_shape h5'.o1
  obtain ⟨A2, c2, rfl, hc2⟩ := own_shape h5'.o2
  obtain ⟨A3, c3, rfl, hc3⟩ := own_shape h5'.o3
  have k1 : ¬ K5 (w.heap.size + 1) := fun hk => by rcases g5.own _ hk with h | h <;> omega
  have k4 : ¬ K5 (w.heap.size + 4) := fun hk => by rcases g5.own _ hk with h | h <;> omega
  have q2 := g5.row R2.out (by omega)
  have q4 := g5.row R4.out (by omega)
  have hlen : st.bad.length ≤ 1000000 := by have := h5'.sum; have := HC.out; omega
  have CS := Lib.hid (sortBad_any h5'.o3 rfl hlen)
  have HB5 : Hid (Below w.heap.size w W5) := ⟨g5.os.trans HB4.out.os, g5.tape.trans HB4.out.tape, g5.output.trans HB4.out.output, Nat.le_trans HB4.out.size g5.size, fun g hg => (g5.block g (by omega) (by omega)).trans (HB4.out.block g hg)⟩
  have HK1 := Lib.hid k1
  have HK4 := Lib.hid k4
  have H5 := Lib.hid h5'
  have Q2 := Lib.hid q2
  have Q4 := Lib.hid q4
  have y4 := q4.cell
  have yb := h5'.row.cell
  have HLC := Lib.hid (show st.bs.length ≤ c1 ∧ st.ms.length ≤ c2 ∧ st.bad.length ≤ c3 ∧ st.bs.length + st.ms.length + st.bad.length ≤ 100000000 from ⟨hc1, hc2, hc3, by have := h5'.sum; have := HC.out; omega⟩)
  obtain ⟨n1, hn1⟩ : ∃ n1, n1 = st.bs.length := ⟨_, rfl⟩
  obtain ⟨n2, hn2⟩ : ∃ n2, n2 = st.ms.length := ⟨_, rfl⟩
  obtain ⟨n3, hn3⟩ : ∃ n3, n3 = st.bad.length := ⟨_, rfl⟩
  have HN := Lib.hid (show n1 = st.bs.length ∧ n2 = st.ms.length ∧ n3 = st.bad.length from ⟨hn1, hn2, hn3⟩)
  rw [← hn1, ← hn2, ← hn3] at yb
  rw [← hn3] at CS
  simp only at yb
  clear h5' q2 q4 k1 k4 hlen hc1 hc2 hc3 CT R2 R4 HB4 HWA hst g5 hsz hn1 hn2 hn3
  go_wp2_with fail
  refine CS.out.mono ?_
  rintro e W6 ⟨rfl, ⟨l3, hl3, hr3⟩, o1, o2, o3, o4, o5⟩
  have hs5 := H5.out
  have hne3 : ∀ g, ¬ K5 g → (Value.slice A3 n3 c3).ownBlock ≠ some g := fun g hg e => hg (hs5.k3 g (by rw [← HN.out.2.2]; exact e))
  have hb3 : (Value.slice A3 n3 c3).ownBlock ≠ some (w.heap.size + 3) := fun e => own_ne_row hs5.o3 hs5.row (by decide) (by rw [← HN.out.2.2]; exact e)
  have hrow := (show W6.heap[w.heap.size + 3]? = W5.heap[w.heap.size + 3]? from o5 _ hs5.row.lt hb3).trans hs5.row
  have p2 : RowB W6 (w.heap.size + 1) 50 _ := (o5 _ Q2.out.lt (hne3 _ HK1.out)).trans Q2.out
  have p4 : RowB W6 (w.heap.size + 4) 185 _ := (o5 _ Q4.out.lt (hne3 _ HK4.out)).trans Q4.out
  have z1 : W6.ownsRow w.heap.size 60 4 _ _ _ := own_block hs5.o1 fun g e => o5 g (hs5.lt g (hs5.k1 g e)).2 (fun e2 => by
    rw [HN.out.2.2] at e2
    rcases own_apart hs5.o1 hs5.o3 (by decide) with a | a
    · rw [a] at e; cases e
    · exact a (e.trans e2.symm))
  have z2 : W6.ownsRow w.heap.size 207 4 _ _ _ := own_block hs5.o2 fun g e => o5 g (hs5.lt g (hs5.k2 g e)).2 (fun e2 => by
    rw [HN.out.2.2] at e2
    rcases own_apart hs5.o2 hs5.o3 (by decide) with a | a
    · rw [a] at e; cases e
    · exact a (e.trans e2.symm))
  have HS6 : Hid (∀ u1 u2 u3, Below w.heap.size w (((W6.setCell ⟨w.heap.size + 1, 0, none⟩ u1).setCell ⟨w.heap.size + 1, 1, none⟩ u2).setCell ⟨w.heap.size + 1, 2, none⟩ u3)) := fun u1 u2 u3 =>
    (((show Below w.heap.size w W6 from ⟨o1.trans HB5.out.os, o2.trans HB5.out.tape, o3.trans HB5.out.output, Nat.le_trans HB5.out.size o4, fun g hg => (o5 g (Nat.lt_of_lt_of_le hg HB5.out.size) (hne3 g (fun hk => by have := (hs5.lt g hk).1; simp only at this; omega))).trans (HB5.out.block g hg)⟩).setCell (by show w.heap.size ≤ w.heap.size + 1; omega) _).setCell (by show w.heap.size ≤ w.heap.size + 1; omega) _).setCell (by show w.heap.size ≤ w.heap.size + 1; omega) _
  have hset : ∀ u1 u2 u3 g, g ≠ w.heap.size + 1 → (((W6.setCell ⟨w.heap.size + 1, 0, none⟩ u1).setCell ⟨w.heap.size + 1, 1, none⟩ u2).setCell ⟨w.heap.size + 1, 2, none⟩ u3).heap[g]? = W6.heap[g]? := fun u1 u2 u3 g hg =>
    (Below.heap_setCell _ _ _ g hg).trans ((Below.heap_setCell _ _ _ g hg).trans (Below.heap_setCell _ _ _ g hg))
  have ZA : Hid (∀ u1 u2 u3, RowAt (((W6.setCell ⟨w.heap.size + 1, 0, none⟩ u1).setCell ⟨w.heap.size + 1, 1, none⟩ u2).setCell ⟨w.heap.size + 1, 2, none⟩ u3) w.heap.size (((W6.setCell ⟨w.heap.size + 1, 0, none⟩ u1).setCell ⟨w.heap.size + 1, 1, none⟩ u2).setCell ⟨w.heap.size + 1, 2, none⟩ u3).heap.size bdC 4 A1 st.bs) := fun u1 u2 u3 => RowAt.of_own (own_block z1 fun g e => hset u1 u2 u3 g (fun e2 => HK1.out (e2 ▸ hs5.k1 g e))) (fun _ => rfl) rfl
  have ZB : Hid (∀ u1 u2 u3, RowAt (((W6.setCell ⟨w.heap.size + 1, 0, none⟩ u1).setCell ⟨w.heap.size + 1, 1, none⟩ u2).setCell ⟨w.heap.size + 1, 2, none⟩ u3) w.heap.size (((W6.setCell ⟨w.heap.size + 1, 0, none⟩ u1).setCell ⟨w.heap.size + 1, 1, none⟩ u2).setCell ⟨w.heap.size + 1, 2, none⟩ u3).heap.size mnC 4 A2 st.ms) := fun u1 u2 u3 => RowAt.of_own (own_block z2 fun g e => hset u1 u2 u3 g (fun e2 => HK1.out (e2 ▸ hs5.k2 g e))) (fun _ => rfl) rfl
  have ZC : Hid (∀ u1 u2 u3, RowAt (((W6.setCell ⟨w.heap.size + 1, 0, none⟩ u1).setCell ⟨w.heap.size + 1, 1, none⟩ u2).setCell ⟨w.heap.size + 1, 2, none⟩ u3) w.heap.size (((W6.setCell ⟨w.heap.size + 1, 0, none⟩ u1).setCell ⟨w.heap.size + 1, 1, none⟩ u2).setCell ⟨w.heap.size + 1, 2, none⟩ u3).heap.size baC 2 A3 l3) := fun u1 u2 u3 h0 => by
    obtain ⟨g, e1, hlo, hg, hc⟩ := hr3 h0
    have hgn : g ≠ w.heap.size + 1 := fun e2 => hne3 _ HK1.out (by rw [e1, e2]; rfl)
    exact ⟨g, e1, hlo, by simpa [World.setCell] using hg, fun i x hx j u hj => (World.cell?_of_block (w := W6) (hset u1 u2 u3 g hgn)).trans (hc i x hx j u hj)⟩
  have y4 := p4.cell
  have yb : ∀ i, W6.cell? ⟨w.heap.size + 3, i, none⟩ = (wcc (.slice A1 n1 c1) (.slice A2 n2 c2) (.slice A3 n3 c3) v4 (w.heap.size + 2) none st.lam st.item)[i]? := fun i => by rw [HN.out.1, HN.out.2.1, HN.out.2.2]; exact RowB.cell (show RowB W6 (w.heap.size + 3) 189 _ from hrow) i
  have yc := p2.cell
  have yt := p2.thaw
  have PP := Lib.hid p2
  have HL3 := Lib.hid hl3
  clear hs5 hne3 hb3 hrow p2 p4 z1 z2 hset o1 o2 o3 o4 o5 hl3 hr3 CS H5 HB5 Q2 Q4 HK1 HK4
  go_wp2
  have y9 := (((PP.out.put 0 (.slice A1 n1 c1)).put 1 (.slice A2 n2 c2)).put 2 (.slice A3 n3 c3)).cell
  refine bodyPost_ret (v := .agg #[.slice A1 n1 c1, .slice A2 n2 c2, .slice A3 n3 c3]) ?_ rfl (by rw [← HST.out]; exact ⟨A1, c1, A2, c2, A3, c3, l3, by rw [HN.out.1, HN.out.2.1, HN.out.2.2], HL3.out, ZA.out _ _ _, ZB.out _ _ _, ZC.out _ _ _, HLC.out.1, HLC.out.2.1, HLC.out.2.2.1, HLC.out.2.2.2, HS6.out _ _ _⟩)
  simp [results, Tryz.results69, go_sem, y9]
  try first | rfl | exact ⟨rfl, rfl⟩
theorem of_any {w : World} (h : Hi) (k : Tr) (A : Option Addr) (cap : Nat) (ht : TV w w.heap.size k A cap) (hc : k.cnt ≤ 100000) : Calls Tryz.prog 69 #[hvv h A k.len cap] w (OfA w (ofS h k)) := by
  unfold ofS
  split
  · rename_i hk
    exact of_file h k A cap hk ht hc
  · rename_i hk
    exact of_none h A k.len cap hk
end Sc
end Go.Proofs.YthjflofcgdfekaaGreatDoor
namespace Go.Proofs.YthjflofcgdfekaaGreatDoor
open Go.RowKit Go.Op
namespace Sc
theorem TC.up {w : World} {B B' : Nat} (hB : B ≤ B') : ∀ (f : Tr) (cs : List Value), TC w B f cs → TC w B' f cs
  | .nil, cs, h => by rw [TC] at h ⊢; exact h
  | .cons hd k r, cs, h => by
    rw [TC] at h ⊢
    obtain ⟨A, cap, cs', e, hw, hc, hk, hr⟩ := h
    refine ⟨A, cap, cs', e, hw, hc, fun h0 => ?_, TC.up hB r cs' hr⟩
    obtain ⟨g, o, ck, e1, h1, h3, h4⟩ := hk h0
    exact ⟨g, o, ck, e1, by omega, h3, TC.up hB k ck h4⟩
theorem TV.up {w : World} {B B' : Nat} (hB : B ≤ B') {k : Tr} {A : Option Addr} {cap : Nat} (h : TV w B k A cap) : TV w B' k A cap := by
  refine ⟨h.1, fun h0 => ?_⟩
  obtain ⟨g, o, ck, e1, h1, h3, h4⟩ := h.2 h0
  exact ⟨g, o, ck, e1, by omega, h3, TC.up hB k ck h4⟩
end Sc
end Go.Proofs.YthjflofcgdfekaaGreatDoor


namespace Go.Proofs.YthjflofcgdfekaaGreatDoor
open Go.RowKit Go.Op
namespace Sc
open Vm
open Ps
def hi_ (h : Hd) : Hi := ⟨h.kind, h.fro, h.til, h.word, h.at_⟩
def tr : Fo → Tr
  | .nil => .nil
  | .cons h k r => .cons (hi_ h) (tr k) (tr r)
theorem tr_len : ∀ k : Fo, (tr k).len = k.len
  | .nil => rfl
  | .cons h k r => by rw [tr, Tr.len, Fo.len, tr_len r]
def wordsOk : Fo → Prop
  | .nil => True
  | .cons h k r => h.word.size ≤ maxLen ∧ wordsOk k ∧ wordsOk r
theorem tc_of {w : World} {P : Nat → Prop} {B : Nat} (hP : ∀ g, P g → g < w.heap.size → g < B) : ∀ (f : Fo) (cs : List Value), wordsOk f → FC w P f cs → TC w B (tr f) cs
  | .nil, cs, _, h => by rw [FC] at h; rw [tr, TC]; exact h
  | .cons hd k r, cs, hw, h => by
    rw [FC] at h
    obtain ⟨A, cap, cs', e, hc, hk, hr⟩ := h
    rw [tr, TC]
    refine ⟨A, cap, cs', ?_, hw.1, by rw [tr_len]; exact hc, fun h0 => ?_, tc_of hP r cs' hw.2.2 hr⟩
    · rw [e, tr_len]; rfl
    · rw [tr_len] at h0
      obtain ⟨g, o, ck, e1, h1, h2, h3, h4⟩ := hk h0
      exact ⟨g, o, ck, e1, hP g h1 h2, h3, tc_of hP k ck hw.2.1 h4⟩
theorem tv_of {w : World} {P : Nat → Prop} {B : Nat} (hP : ∀ g, P g → g < w.heap.size → g < B) {f : Fo} {A : Option Addr} {cap : Nat} (hw : wordsOk f) (h : KV w P f A cap) : TV w B (tr f) A cap := by
  refine ⟨by rw [tr_len]; exact h.1, fun h0 => ?_⟩
  rw [tr_len] at h0
  obtain ⟨g, o, ck, e1, h1, h2, h3, h4⟩ := h.2 h0
  exact ⟨g, o, ck, e1, hP g h1 h2, h3, tc_of hP f ck hw h4⟩
end Sc
end Go.Proofs.YthjflofcgdfekaaGreatDoor

namespace Go.Proofs.YthjflofcgdfekaaGreatDoor
open Go.RowKit Go.Op
namespace Sc
open Vm
structure Nm where
  tgt : Nat
  begins : Bool
  lambda : Bool
structure Rm where
  bs : List Bd
  ms : List Mn
  bad : List (Int × Int)
def wordOf (bs : List Bd) (i : Nat) : ByteArray := ((bs[i]?).map Bd.word).getD ⟨#[]⟩
def kindOf (bs : List Bd) (i : Nat) : Int := ((bs[i]?).map Bd.kind).getD 0
def look (bs : List Bd) (x : ByteArray) : List Nm → Int → Int × Int
  | [], far => (-1, far)
  | n :: r, far => if n.begins = true then look bs x r (if n.lambda = true then far + 1 else far) else if wordOf bs n.tgt = x then ((n.tgt : Int), far) else look bs x r far
def dup (bs : List Bd) (x : ByteArray) : List Nm → Bool
  | [] => false
  | n :: r => if n.begins = true then false else if wordOf bs n.tgt = x then true else dup bs x r
def lc : List Nm → Int
  | [] => 0
  | n :: r => if n.begins = true ∧ n.lambda = true then lc r + 1 else lc r
def bindR (a : Int) (word : ByteArray) (kind item : Int) (x : Rm × List Nm) : Rm × List Nm :=
  (⟨x.1.bs ++ [⟨a, kind, word, item⟩], x.1.ms, if dup x.1.bs word x.2 = true then x.1.bad ++ [(a, 31)] else x.1.bad⟩, ⟨x.1.bs.length, false, false⟩ :: x.2)
def mentionR (a : Int) (word : ByteArray) (write : Bool) (x : Rm × List Nm) : Rm :=
  let p := look x.1.bs word x.2 0
  if p.1 < 0 then ⟨x.1.bs, x.1.ms ++ [⟨a, p.1, write, 0⟩], x.1.bad ++ [(a, 30)]⟩
  else if 3 ≤ kindOf x.1.bs p.1.toNat then ⟨x.1.bs, x.1.ms ++ [⟨a, p.1, write, p.2⟩], x.1.bad⟩
  else if write = true then ⟨x.1.bs, x.1.ms ++ [⟨a, p.1, write, 0⟩], x.1.bad ++ [(a, 35)]⟩
  else ⟨x.1.bs, x.1.ms ++ [⟨a, p.1, write, 0⟩], x.1.bad⟩
def bindsR (kind item : Int) : Tr → Rm × List Nm → Rm × List Nm
  | .nil, x => x
  | .cons h _ r, x => bindsR kind item r (bindR h.at_ h.word kind item x)
mutual
def nodesR (item : Int) : Tr → Rm × List Nm → Rm × List Nm
  | .nil, x => x
  | .cons h k r, x => nodesR item r
    (if h.kind = 23 then (mentionR h.at_ h.word false x, x.2)
     else if h.kind = 8 then nodesR item k (mentionR h.at_ h.word true x, x.2)
     else if h.kind = 28 then
       lamR item true k x
     else if h.kind = 6 then ((nodesR item k (x.1, ⟨0, true, false⟩ :: x.2)).1, x.2)
     else if h.kind = 7 then bindR h.at_ h.word 4 item (nodesR item k x)
     else nodesR item k x)
def lamR (item : Int) (lambda : Bool) : Tr → Rm × List Nm → Rm × List Nm
  | .cons _ kp (.cons _ _ (.cons _hb kb .nil)), x =>
    ((nodesR item kb ((bindsR 3 item kp (x.1, ⟨0, true, lambda⟩ :: x.2)).1, ⟨0, true, false⟩ :: (bindsR 3 item kp (x.1, ⟨0, true, lambda⟩ :: x.2)).2)).1, x.2)
  | _, x => x
end
def Silent : Tr → Prop
  | .nil => True
  | .cons h k r => h.kind ≠ 3 ∧ h.kind ≠ 5 ∧ h.kind ≠ 6 ∧ h.kind ≠ 7 ∧ h.kind ≠ 8 ∧ h.kind ≠ 23 ∧ h.kind ≠ 28 ∧ (h.kind ≠ 2 → Silent k) ∧ Silent r
def AllK (kd : Int) : Tr → Prop
  | .nil => True
  | .cons h _ r => h.kind = kd ∧ AllK kd r
mutual
def Gd : Tr → Prop
  | .nil => True
  | .cons h k r => h.kind ≠ 2 ∧ h.kind ≠ 3 ∧ h.kind ≠ 5 ∧ (if h.kind = 28 then Lm k else Gd k) ∧ Gd r
def Lm : Tr → Prop
  | .cons hp kp (.cons ht kt (.cons hb kb .nil)) => hp.kind = 4 ∧ AllK 5 kp ∧ Silent (.cons ht kt .nil) ∧ hb.kind = 6 ∧ Gd kb
  | _ => False
end
end Sc
end Go.Proofs.YthjflofcgdfekaaGreatDoor


namespace Go.Proofs.YthjflofcgdfekaaGreatDoor
open Go.RowKit Go.Op
namespace Sc
open Vm
open Sb
def bindItemsR : Nat → Tr → Rm × List Nm → Rm × List Nm
  | _, .nil, x => x
  | i, .cons h _ r, x => bindItemsR (i + 1) r (if h.kind = 2 then bindR h.at_ h.word 1 i x else if h.kind = 3 then bindR h.at_ h.word 2 i x else x)
def closeItemsR : Nat → Tr → Rm × List Nm → Rm × List Nm
  | _, .nil, x => x
  | i, .cons h k r, x => closeItemsR (i + 1) r (if h.kind = 3 then lamR i false k x else x)
def fileR (k : Tr) : Rm := (closeItemsR 0 k (bindItemsR 0 k (⟨[], [], []⟩, []))).1
def GdI : Tr → Prop
  | .nil => True
  | .cons h k r => (h.kind = 2 ∨ h.kind = 3 ∧ Lm k) ∧ GdI r
def posR (l : List (Int × Int)) (x : Int) : Nat → Nat
  | 0 => 0
  | a + 1 => if x < ((l[a]?).getD (0, 0)).1 then posR l x a else a + 1
def insR (l : List (Int × Int)) (x : Int × Int) : List (Int × Int) := l.take (posR l x.1 l.length) ++ [x] ++ l.drop (posR l x.1 l.length)
theorem posR_le (l : List (Int × Int)) (x : Int) : ∀ a, posR l x a ≤ a
  | 0 => Nat.le_refl _
  | a + 1 => by
    rw [posR]
    split
    · have := posR_le l x a; omega
    · exact Nat.le_refl _
theorem posR_gt (l : List (Int × Int)) (x : Int) : ∀ a i, posR l x a ≤ i → i < a → x < ((l[i]?).getD (0, 0)).1
  | 0, _, _, h => by omega
  | a + 1, i, h1, h2 => by
    rw [posR] at h1
    split at h1
    · rename_i hc
      by_cases e : i = a
      · rw [e]; exact hc
      · exact posR_gt l x a i h1 (by omega)
    · omega
theorem posR_at (l : List (Int × Int)) (x : Int) : ∀ a, 0 < posR l x a → ((l[posR l x a - 1]?).getD (0, 0)).1 ≤ x
  | 0, h => by rw [posR] at h; omega
  | a + 1, h => by
    rw [posR] at h ⊢
    split at h
    · rename_i hc
      rw [if_pos hc]
      exact posR_at l x a h
    · rename_i hc
      rw [if_neg hc]
      show ((l[a]?).getD (0, 0)).1 ≤ x
      omega
theorem tagF_app : ∀ (i : Nat) (l m : List (Int × Int)), tagF i (l ++ m) = tagF i l ++ tagF (i + l.length) m
  | i, [], m => by simp [tagF]
  | i, x :: l, m => by rw [List.cons_append, tagF, tagF_app (i + 1) l m, tagF, List.cons_append, List.length_cons, show i + 1 + l.length = i + (l.length + 1) by omega]
theorem tagF_lt : ∀ (i : Nat) (l : List (Int × Int)) (y : Be), y ∈ tagF i l → y.t < i + l.length
  | _, [], _, h => by cases h
  | i, x :: l, y, h => by
    rw [tagF] at h
    rw [List.length_cons]
    rcases List.mem_cons.1 h with rfl | h
    · show i < _; omega
    · have := tagF_lt (i + 1) l y h; omega
theorem st_ins {l l' : List (Int × Int)} (h : StSort l l') (x : Int × Int) : StSort (l ++ [x]) (insR l' x) := by
  obtain ⟨os, p, w, rfl⟩ := h
  obtain ⟨n, hn⟩ : ∃ n, n = posR (os.map strip) x.1 (os.map strip).length := ⟨_, rfl⟩
  have key : ∀ i (hi : i < os.length), (((os.map strip)[i]?).getD (0, 0)).1 = os[i].a := fun i hi => by
    rw [List.getElem?_map, List.getElem?_eq_getElem hi]; rfl
  have hle : n ≤ os.length := by rw [hn]; have := posR_le (os.map strip) x.1 (os.map strip).length; simpa using this
  have hgt : ∀ i (hi : i < os.length), n ≤ i → x.1 < os[i].a := fun i hi h1 => by
    have := posR_gt (os.map strip) x.1 (os.map strip).length i (by rw [← hn]; exact h1) (by simpa using hi)
    rw [key i hi] at this
    exact this
  have hat : ∀ i (hi : i < os.length), i < n → os[i].a ≤ x.1 := fun i hi h1 => by
    have h0 := posR_at (os.map strip) x.1 (os.map strip).length (by rw [← hn]; omega)
    rw [← hn, key (n - 1) (by omega)] at h0
    by_cases e : i = n - 1
    · subst e; exact h0
    · have := List.pairwise_iff_getElem.1 w i (n - 1) hi (by omega) (by omega)
      unfold Sb.LT at this
      simp only [decide_eq_true_iff] at this
      omega
  have htg : ∀ y ∈ os, y.t < l.length := fun y hy => by have := tagF_lt 0 l y (p.subset hy); omega
  refine ⟨os.take n ++ [⟨x.1, x.2, l.length⟩] ++ os.drop n, ?_, ?_, ?_⟩
  · rw [tagF_app]
    have e : tagF (0 + l.length) [x] = [⟨x.1, x.2, l.length⟩] := by rw [tagF, tagF, Nat.zero_add]
    rw [e]
    have h1 : (os.take n ++ [(⟨x.1, x.2, l.length⟩ : Be)] ++ os.drop n).Perm (os ++ [⟨x.1, x.2, l.length⟩]) := by
      rw [List.append_assoc]
      refine (List.Perm.append_left _ List.perm_append_comm).trans ?_
      rw [← List.append_assoc, List.take_append_drop]
    exact h1.trans (List.Perm.append_right _ p)
  · rw [List.append_assoc, List.pairwise_append]
    refine ⟨w.sublist (List.take_sublist _ _), ?_, fun y hy z hz => ?_⟩
    · rw [List.singleton_append, List.pairwise_cons]
      refine ⟨fun z hz => ?_, w.sublist (List.drop_sublist _ _)⟩
      obtain ⟨i, hi, rfl⟩ := List.getElem_of_mem hz
      rw [List.getElem_drop]
      have := hgt (n + i) (by simp at hi; omega) (by omega)
      unfold Sb.LT
      simp only [decide_eq_true_iff]
      exact .inl this
    · obtain ⟨i, hi, rfl⟩ := List.getElem_of_mem hy
      have hi' : i < n ∧ i < os.length := by simp at hi; omega
      rw [List.getElem_take]
      have ha := hat i hi'.2 hi'.1
      rw [List.singleton_append] at hz
      rcases List.mem_cons.1 hz with rfl | hz
      · have ht := htg _ (List.getElem_mem hi'.2)
        unfold Sb.LT
        simp only [decide_eq_true_iff]
        omega
      · obtain ⟨j, hj, rfl⟩ := List.getElem_of_mem hz
        rw [List.getElem_drop]
        exact List.pairwise_iff_getElem.1 w i (n + j) hi'.2 (by simp at hj; omega) (by omega)
  · unfold insR
    rw [← hn]
    simp [List.map_append, List.map_take, List.map_drop, strip]
def sortR : List (Int × Int) → List (Int × Int) → List (Int × Int)
  | acc, [] => acc
  | acc, x :: l => sortR (insR acc x) l
theorem sortR_go : ∀ (l pre acc : List (Int × Int)), StSort pre acc → StSort (pre ++ l) (sortR acc l)
  | [], pre, acc, h => by rw [List.append_nil, sortR]; exact h
  | x :: l, pre, acc, h => by
    rw [sortR, show pre ++ x :: l = (pre ++ [x]) ++ l by simp]
    exact sortR_go l _ _ (st_ins h x)
theorem sortR_st (l : List (Int × Int)) : StSort l (sortR [] l) := sortR_go l [] [] StSort.nil
end Sc
end Go.Proofs.YthjflofcgdfekaaGreatDoor
