import Derived.Test.YtiabkkdeonepgaaGreatDoorXD
import Derived.BigQuiet
import Derived.Laws.AppendOwn
import Derived.Maps.OwnSet
import Derived.Deep.AppendLies
namespace Go.Proofs.YtiabkkdeonepgaaGreatDoor
open Go.RowKit
namespace Ps
set_option maxHeartbeats 2000000 in
theorem is_any (X : Cx) (b : Int) (i : Nat) (x : ByteArray) (w : World) (hS : St X w b) (hi : i < X.l.length) :
    Calls Tryz.prog 37 #[X.p, .int .i64 i, .string x] w fun e w' => e = .returned (.bool (isM X.l i x.data.toList)) ∧ Below w.heap.size w w' := by
  have hrb := hS.row.lt
  have hz : isM X.l i x.data.toList = ((X.l[i].kind == 2 || X.l[i].kind == 5) && (X.l[i].text.data.toList == x.data.toList)) := by
    unfold isM; rw [List.getElem?_eq_getElem hi]
  obtain ⟨z, hzz⟩ : ∃ z, z = isM X.l i x.data.toList := ⟨_, rfl⟩
  rw [← hzz] at hz ⊢
  obtain ⟨g, eg, lg, hc⟩ := hS.toks
  obtain ⟨c0, c1, c2, c3⟩ := hc i hi
  have rr := hS.row.cell
  have hcap := hS.cap
  obtain ⟨rbk, A, l, c⟩ := X
  dsimp only at *
  subst eg
  generalize l[i] = t at *
  obtain ⟨kd, a, ld, tx⟩ := t
  dsimp only at *
  have hlg : g < w.heap.size := by omega
  have HZ := Lib.hid hz
  have hil : (i : Int) < (l.length : Int) := by omega
  clear hzz hc hS hz
  by_cases h2 : kd = 2
  · subst h2
    go_enter Tryz.func37, Tryz.ntmps37
    go_wp2_with fail
    go_ret
    exact ⟨rb (by rw [HZ.out]; simp [ByteArray.toList_eq]), bel1 _ _⟩
  · by_cases h5 : kd = 5
    · subst h5
      go_enter Tryz.func37, Tryz.ntmps37
      go_wp2_with fail
      go_ret
      exact ⟨rb (by rw [HZ.out]; simp [ByteArray.toList_eq]), bel1 _ _⟩
    · have d1 : ((kd : Int) == 2) = false := by rw [beq_eq_false_iff_ne]; omega
      have d2 : ((kd : Int) == 5) = false := by rw [beq_eq_false_iff_ne]; omega
      have HZ0 : Hid (z = false) := by
        unfold Hid; rw [HZ.out]; simp [h2, h5]
      clear HZ h2 h5
      go_enter Tryz.func37, Tryz.ntmps37
      go_wp2_with fail
      go_ret
      exact ⟨rb (by rw [HZ0.out]; try simp), bel1 _ _⟩
def AtP (X : Cx) (w : World) (r : Nat × Int) (e : Ending) (w' : World) : Prop :=
  e = .returned (.int .i64 r.1) ∧ St X w' r.2 ∧ Fr X.rb w.heap.size w w' ∧ r.1 < X.l.length
set_option maxHeartbeats 2000000 in
theorem want_any (X : Cx) (b : Int) (i : Nat) (x : ByteArray) (w : World) (hS : St X w b) (hi : i < X.l.length) :
    Calls Tryz.prog 59 #[X.p, .int .i64 i, .string x] w fun e w' => AtP X w (wantM X.l b i x.data.toList) e w' := by
  have HS := Lib.hid hS
  have hlt := wantM_lt hS.wf (b := b) (x := x.data.toList) hi
  have hle := hS.wf.le
  have rr := hS.row.cell
  have rf := hS.row.thaw
  have c := is_any X b i x w hS hi
  by_cases hb : 0 ≤ b
  · have hb1 : ¬ b < 0 := by omega
    have hb2 : b ≥ 0 := hb
    have hw : wantM X.l b i x.data.toList = (i, b) := by unfold wantM; rw [if_pos hb]
    rw [hw]
    clear hS hb c hlt hw
    go_enter Tryz.func59, Tryz.ntmps59
    go_wp2_with fail
    go_ret
    exact ⟨rfl, HS.out, Fr.refl _ _ _, hi⟩
  · have hb1 : b < 0 := by omega
    have hb2 : ¬ b ≥ 0 := by omega
    cases hz : isM X.l i x.data.toList
    · have hw : wantM X.l b i x.data.toList = (i, (i : Int)) := by unfold wantM; rw [if_neg hb, hz, if_neg (by simp)]
      rw [hw]
      rw [hz] at c
      have C := Lib.hid c
      clear hS hb c hlt hw hz
      go_enter Tryz.func59, Tryz.ntmps59
      go_wp2_with fail
      refine C.out.mono ?_
      rintro e w1 ⟨rfl, hbl⟩
      have HS1 := Lib.hid (HS.out.below hbl)
      have HF := Lib.hid (Fr.of (rb := X.rb) hbl)
      have rr1 := HS1.out.row.cell
      have rf1 := HS1.out.row.thaw
      have hn : (i : Int) ≥ 0 := by omega
      clear rr rf hbl hb1 hb2
      go_wp2_with fail
      go_ret
      exact ⟨rfl, HS1.out.stop _ (by omega), HF.out.put 1 _, hi⟩
    · have hw : wantM X.l b i x.data.toList = (i + 1, b) := by unfold wantM; rw [if_neg hb, hz, if_pos rfl]
      rw [hw] at hlt ⊢
      rw [hz] at c
      have C := Lib.hid c
      have HL := Lib.hid hlt
      clear hS hb c hlt hw hz
      go_enter Tryz.func59, Tryz.ntmps59
      go_wp2_with fail
      refine C.out.mono ?_
      rintro e w1 ⟨rfl, hbl⟩
      have HS1 := Lib.hid (HS.out.below hbl)
      have HF := Lib.hid (Fr.of (rb := X.rb) hbl)
      have rr1 := HS1.out.row.cell
      have rf1 := HS1.out.row.thaw
      have e1 : IntKind.i64.wrap ((i : Int) + 1) = (i : Int) + 1 := by rw [IntKind.wrap_i64]; omega
      clear rr rf hbl
      go_wp2_with fail
      go_ret
      exact ⟨ri (by simp), HS1.out, HF.out, HL.out⟩
abbrev nv (h : Hd) (A : Option Addr) (n cap : Nat) : Value := .agg #[.int .i64 h.kind, .int .i64 h.fro, .int .i64 h.til, .string h.word, .int .i64 h.at_, .slice A n cap]
set_option maxHeartbeats 2000000 in
theorem ended_any (h : Hd) (A0 : Option Addr) (n0 c0 : Nat) (tl_ : Nat) (A : Option Addr) (n c : Nat) (w : World) :
    Calls Tryz.prog 40 #[nv h A0 n0 c0, .int .i64 tl_, .slice A n c] w fun e w' => e = .returned (nv { h with til := tl_ } A n c) ∧ Below w.heap.size w w' := by
  obtain ⟨kd, fr, t0, wd, at0⟩ := h
  go_enter Tryz.func40, Tryz.ntmps40
  go_wp2
  refine bodyPost_ret ?_ rfl ⟨rfl, ?_⟩
  · simp [results, Tryz.results40, go_sem]
  · exact (bel1 _ _).alloc (by simp) _
def WordP (X : Cx) (w : World) (r : Hd × Nat × Int) (A : Option Addr) (n c : Nat) (e : Ending) (w' : World) : Prop :=
  e = .returned (.tuple #[nv r.1 A n c, .int .i64 r.2.1]) ∧ St X w' r.2.2 ∧ Fr X.rb w.heap.size w w' ∧ r.2.1 < X.l.length
set_option maxHeartbeats 4000000 in
theorem word_any (X : Cx) (b : Int) (h : Hd) (A : Option Addr) (n c : Nat) (i : Nat) (w : World) (hS : St X w b) (hi : i < X.l.length) :
    Calls Tryz.prog 58 #[X.p, nv h A n c, .int .i64 i] w fun e w' => WordP X w (wordM X.l b h i) A n c e w' := by
  have HS := Lib.hid hS
  have hrb := hS.row.lt
  have hlt := wordM_lt hS.wf (b := b) (hd := h) hi
  have hle := hS.wf.le
  have rr := hS.row.cell
  have rf := hS.row.thaw
  obtain ⟨kd, fr, t0, wd, at0⟩ := h
  have RA := Lib.hid (RowB.new w 25 #[.int .i64 kd, .int .i64 fr, .int .i64 t0, .string wd, .int .i64 at0, .slice A n c])
  have S1 := Lib.hid ((hS.alloc (.cells #[.int .i64 kd, .int .i64 fr, .int .i64 t0, .string wd, .int .i64 at0, .slice A n c] 25)).alloc (.cells #[.int .i64 0, .int .i64 0, .int .i64 0, .string ⟨#[]⟩, .int .i64 0, .slice none 0 0] 25))
  by_cases hb : 0 ≤ b
  · have hb1 : ¬ b < 0 := by omega
    have hb2 : b ≥ 0 := hb
    have hw : wordM X.l b ⟨kd, fr, t0, wd, at0⟩ i = (⟨kd, fr, t0, wd, at0⟩, i, b) := by unfold wordM; rw [if_pos hb]
    rw [hw]
    clear hS hb hlt hw
    go_enter Tryz.func58, Tryz.ntmps58
    go_wp2
    refine bodyPost_ret ?_ rfl ⟨rfl, ?_, ?_, hi⟩
    · simp [results, Tryz.results58, go_sem]
    · exact (HS.out.alloc _).alloc _
    · exact Fr.of ((bel1 _ _).alloc (by simp) _)
  · have hb1 : b < 0 := by omega
    have hb2 : ¬ b ≥ 0 := by omega
    obtain ⟨g, eg, lg, hc⟩ := hS.toks
    obtain ⟨c0, c1, c2, c3⟩ := hc i hi
    have hcap := hS.cap
    have hkg := kindAt_get hi
    have htg := textAt_get hi
    have hil : (i : Int) < (X.l.length : Int) := by omega
    have hlg : g < w.heap.size := by omega
    by_cases hk : X.l[i].kind = 1
    · have hw : wordM X.l b ⟨kd, fr, t0, wd, at0⟩ i = (⟨kd, fr, t0, X.l[i].text, i⟩, i + 1, b) := by
        unfold wordM; rw [if_neg hb, hkg, if_pos hk, htg]
      have d1 : ((X.l[i].kind : Int) == 1) = true := by rw [beq_iff_eq]; omega
      have d2 : ((X.l[i].kind : Int) != 1) = false := by rw [bne_eq_false_iff_eq]; omega
      rw [hw] at hlt ⊢
      have HL := Lib.hid hlt
      have e1 : IntKind.i64.wrap ((i : Int) + 1) = (i : Int) + 1 := by rw [IntKind.wrap_i64]; omega
      rw [eg] at rr
      generalize X.l[i] = t at *
      obtain ⟨tk, ta, tl_, tx⟩ := t
      dsimp only at *
      clear hS hb hlt hw hk hkg htg hc S1 RA
      go_enter Tryz.func58, Tryz.ntmps58
      go_wp2
      refine bodyPost_ret ?_ rfl ⟨rfl, ?_, ?_, HL.out⟩
      · simp [results, Tryz.results58, go_sem]
      · exact (HS.out.alloc _).alloc _
      · exact Fr.of ((bel1 _ _).alloc (by simp) _)
    · have hw : wordM X.l b ⟨kd, fr, t0, wd, at0⟩ i = (⟨kd, fr, t0, wd, at0⟩, i, (i : Int)) := by
        unfold wordM; rw [if_neg hb, hkg, if_neg hk]
      have d1 : ((X.l[i].kind : Int) == 1) = false := by rw [beq_eq_false_iff_ne]; omega
      have d2 : ((X.l[i].kind : Int) != 1) = true := by rw [bne_iff_ne]; omega
      rw [hw]
      have hn : (i : Int) ≥ 0 := by omega
      rw [eg] at rr
      generalize X.l[i] = t at *
      obtain ⟨tk, ta, tl_, tx⟩ := t
      dsimp only at *
      clear hS hb hlt hw hk hkg htg hc S1 RA hb2
      go_enter Tryz.func58, Tryz.ntmps58
      go_wp2
      refine bodyPost_ret ?_ rfl ⟨rfl, ?_, ?_, hi⟩
      · simp [results, Tryz.results58, go_sem]
      · exact ((HS.out.stop _ (by omega)).alloc _).alloc _
      · exact (((Fr.refl _ _ _).put 1 _).alloc (by simp) _).alloc (by simp) _
end Ps
end Go.Proofs.YtiabkkdeonepgaaGreatDoor
namespace Go.Proofs.YtiabkkdeonepgaaGreatDoor
open Go.RowKit
namespace Ps
abbrev Row := Nat × TypeId × Array Value
abbrev Kid := Fo × Option Addr × Nat
def PB (lo : Nat) (Rs : List Row) (v : Value) (g : Nat) : Prop := lo ≤ g ∧ (∀ p ∈ Rs, p.1 ≠ g) ∧ v.ownBlock ≠ some g
structure LS (X : Cx) (w0 w : World) (b : Int) (Rs : List Row) (Ks : List Kid) (v : Value) (K : Fo) : Prop where
  st : St X w b
  fr : Fr X.rb w0.heap.size w0 w
  rows : ∀ p ∈ Rs, RowB w p.1 p.2.1 p.2.2 ∧ w0.heap.size ≤ p.1
  nd : (Rs.map Prod.fst).Nodup
  kvs : ∀ k ∈ Ks, KV w (PB w0.heap.size Rs v) k.1 k.2.1 k.2.2
  own : ∃ cs, w.ownsRow w0.heap.size 25 6 v K.len cs ∧ FC w (PB w0.heap.size Rs v) K cs
  ownr : ∀ p ∈ Rs, v.ownBlock ≠ some p.1
  rb : X.rb < w0.heap.size
variable {X : Cx} {w0 w w' : World} {b : Int} {Rs : List Row} {Ks : List Kid} {v : Value} {K : Fo}
theorem LS.start (h : St X w b) : LS X w w b [] [] (.slice none 0 0) .nil :=
  ⟨h, Fr.refl _ _ _, (by simp), (by simp), (by simp), ⟨[], World.ownsRow_nil _ _ _ _, by rw [FC]⟩, (by simp), h.row.lt⟩
theorem LS.size (h : LS X w0 w b Rs Ks v K) : w0.heap.size ≤ w.heap.size := h.fr.size
theorem LS.step (h : LS X w0 w b Rs Ks v K) {b' : Int} (hS : St X w' b') (hF : Fr X.rb w.heap.size w w') : LS X w0 w' b' Rs Ks v K := by
  have hrb := h.rb
  have hb : ∀ g, PB w0.heap.size Rs v g → g < w.heap.size → w'.heap[g]? = w.heap[g]? ∧ PB w0.heap.size Rs v g := fun g hg hl => ⟨hF.block g hl (by have := hg.1; omega), hg⟩
  refine ⟨hS, h.fr.trans (hF.mono h.size), fun p hp => ?_, h.nd, fun k hk => (h.kvs k hk).keep hF.size hb, ?_, h.ownr, hrb⟩
  · obtain ⟨r1, r2⟩ := h.rows p hp
    exact ⟨hF.row r1 r1.lt (by omega), r2⟩
  · obtain ⟨cs, o1, o2⟩ := h.own
    exact ⟨cs, hF.own o1 hrb, o2.keep hF.size hb⟩
theorem LS.other (h : LS X w0 w b Rs Ks v K) (hb : Below w.heap.size w w') : LS X w0 w' b Rs Ks v K := h.step (h.st.below hb) (.of hb)
theorem LS.alloc (h : LS X w0 w b Rs Ks v K) (g0 : Nat) (hg0 : g0 = w.heap.size) (t : TypeId) (c : Array Value) : LS X w0 (w.alloc (.cells c t)) b ((g0, t, c) :: Rs) Ks v K := by
  subst hg0
  have h' := h.other (bel1 w (.cells c t))
  have hsz := h.size
  have hlt : ∀ p ∈ Rs, p.1 < w.heap.size := fun p hp => (h.rows p hp).1.lt
  have hP : ∀ g, PB w0.heap.size Rs v g → g < w.heap.size → PB w0.heap.size ((w.heap.size, t, c) :: Rs) v g := fun g hg hl => ⟨hg.1, fun p hp => by
    rcases List.mem_cons.1 hp with rfl | hp
    · exact Nat.ne_of_gt hl
    · exact hg.2.1 p hp, hg.2.2⟩
  have hbk : ∀ g, PB w0.heap.size Rs v g → g < w.heap.size → (w.alloc (.cells c t)).heap[g]? = w.heap[g]? ∧ PB w0.heap.size ((w.heap.size, t, c) :: Rs) v g := fun g hg hl => ⟨Below.heap_alloc _ _ _ hl, hP g hg hl⟩
  refine ⟨h'.st, h'.fr, fun p hp => ?_, ?_, fun k hk => (h.kvs k hk).keep (by simp) hbk, ?_, fun p hp => ?_, h.rb⟩
  · rcases List.mem_cons.1 hp with rfl | hp
    · exact ⟨RowB.new w t c, hsz⟩
    · exact h'.rows p hp
  · rw [List.map_cons, List.nodup_cons]
    refine ⟨fun hm => ?_, h.nd⟩
    obtain ⟨p, hp, e⟩ := List.mem_map.1 hm
    have := hlt p hp
    dsimp only at e
    omega
  · obtain ⟨cs, o1, o2⟩ := h.own
    exact ⟨cs, o1.alloc _, o2.keep (by simp) hbk⟩
  · rcases List.mem_cons.1 hp with rfl | hp
    · intro e
      obtain ⟨cs, o1, _⟩ := h.own
      have := (o1.lt _ e).2
      dsimp only at this
      omega
    · exact h.ownr p hp
theorem LS.kid (h : LS X w0 w b Rs Ks v K) {b' : Int} (hS : St X w' b') (hF : Fr X.rb w.heap.size w w') {k : Fo} {A : Option Addr} {cap : Nat} (hk : KV w' (fun g => w.heap.size ≤ g) k A cap) : LS X w0 w' b' Rs ((k, A, cap) :: Ks) v K := by
  have h' := h.step hS hF
  have hsz := h.size
  refine ⟨h'.st, h'.fr, h'.rows, h'.nd, fun x hx => ?_, h'.own, h'.ownr, h'.rb⟩
  rcases List.mem_cons.1 hx with rfl | hx
  · refine hk.keep (Nat.le_refl _) (fun g hg _ => ⟨rfl, by omega, fun p hp e => ?_, fun e => ?_⟩)
    · have := (h.rows p hp).1.lt; omega
    · obtain ⟨cs, o1, _⟩ := h.own
      have := (o1.lt _ e).2
      omega
  · exact h'.kvs x hx
theorem LS.slice (h : LS X w0 w b Rs Ks v K) (g0 : Nat) (hg0 : g0 = w.heap.size) {k : Fo} {cs : Array Value} (hf : FC w (PB w0.heap.size Rs v) k cs.toList) : LS X w0 (w.alloc (.cells cs 25)) b Rs ((k, some ⟨g0, 0, none⟩, k.len) :: Ks) v K := by
  subst hg0
  have h' := h.other (bel1 w (.cells cs 25))
  have hsz := h.size
  refine ⟨h'.st, h'.fr, h'.rows, h'.nd, fun x hx => ?_, h'.own, h'.ownr, h'.rb⟩
  rcases List.mem_cons.1 hx with rfl | hx
  · refine KV.new (RowB.new w 25 cs) (hf.keep (by simp) (fun g hg hl => ⟨Below.heap_alloc _ _ _ hl, hg⟩)) ⟨hsz, fun p hp e => ?_, fun e => ?_⟩
    · have := (h.rows p hp).1.lt; omega
    · obtain ⟨cs', o1, _⟩ := h.own
      have := (o1.lt _ e).2
      omega
  · exact h'.kvs x hx
theorem LS.set (h : LS X w0 w b Rs Ks v K) (n : Nat) {g : Nat} {t : TypeId} {c : Array Value} (hn : Rs[n]? = some (g, t, c)) (i : Nat) (u : Value) : LS X w0 (w.setCell ⟨g, i, none⟩ u) b (Rs.set n (g, t, c.setIfInBounds i u)) Ks v K := by
  have hrb := h.rb
  obtain ⟨hlt, hg⟩ := List.getElem?_eq_some_iff.1 hn
  obtain ⟨r1, r2⟩ := h.rows (g, t, c) (by rw [← hg]; exact List.getElem_mem hlt)
  dsimp only at r1 r2
  have hfst : (Rs.set n (g, t, c.setIfInBounds i u)).map Prod.fst = Rs.map Prod.fst := by
    rw [List.map_set]
    apply List.ext_getElem (by simp)
    intro j h1 h2
    rw [List.getElem_set]
    split
    · rename_i e; subst e; simp [hg]
    · rfl
  have hmem : ∀ p ∈ Rs.set n (g, t, c.setIfInBounds i u), ∃ q ∈ Rs, q.1 = p.1 := fun p hp => by
    have : p.1 ∈ (Rs.set n (g, t, c.setIfInBounds i u)).map Prod.fst := List.mem_map_of_mem hp
    rw [hfst] at this
    exact List.mem_map.1 this
  have hgm : (g, t, c) ∈ Rs := by rw [← hg]; exact List.getElem_mem hlt
  have hP : ∀ g', PB w0.heap.size Rs v g' → g' < w.heap.size → (w.setCell ⟨g, i, none⟩ u).heap[g']? = w.heap[g']? ∧ PB w0.heap.size (Rs.set n (g, t, c.setIfInBounds i u)) v g' := fun g' hg' _ => by
    refine ⟨Below.heap_setCell _ _ _ _ (fun e => hg'.2.1 _ hgm e.symm), hg'.1, fun p hp => ?_, hg'.2.2⟩
    obtain ⟨q, hq, e⟩ := hmem p hp
    rw [← e]; exact hg'.2.1 q hq
  refine ⟨h.st.far (by dsimp only; omega) u, h.fr.setCell (by dsimp only; omega) u, fun p hp => ?_, by rw [hfst]; exact h.nd, fun k hk => (h.kvs k hk).keep (by simp [World.setCell]) hP, ?_, fun p hp => ?_, hrb⟩
  · obtain ⟨j, hj, rfl⟩ := List.getElem_of_mem hp
    have hj' : j < Rs.length := by simpa using hj
    rw [List.getElem_set]
    split
    · exact ⟨r1.put i u, r2⟩
    · rename_i ej
      obtain ⟨q1, q2⟩ := h.rows _ (List.getElem_mem hj')
      refine ⟨q1.far (fun e => ?_) u, q2⟩
      have hnd := List.pairwise_iff_getElem.1 h.nd
      dsimp only at e
      rcases Nat.lt_or_gt_of_ne ej with h1 | h1
      · have := hnd n j (by simpa using hlt) (by simpa using hj') h1
        simp [hg, e] at this
      · have := hnd j n (by simpa using hj') (by simpa using hlt) h1
        simp [hg, e] at this
  · obtain ⟨cs, o1, o2⟩ := h.own
    exact ⟨cs, ownsRow_setCell_other o1 (a := ⟨g, i, none⟩) (h.ownr _ hgm) u, o2.keep (by simp [World.setCell]) hP⟩
  · obtain ⟨q, hq, e⟩ := hmem p hp
    rw [← e]; exact h.ownr q hq
theorem LS.push (h : LS X w0 w b Rs Ks v K) {v' : Value} {k : Fo} {news cs : List Value} (hc : w.ownsRow w0.heap.size 25 6 v K.len cs ∧ FC w (PB w0.heap.size Rs v) K cs) (hf : FC w (PB w0.heap.size Rs v) k news) (hown : w'.ownsRow w0.heap.size 25 6 v' (K.len + k.len) (cs ++ news)) (hg : w.grownBy w' v.ownBlock) (hat : ∀ j, v'.ownBlock = some j → v.ownBlock = some j ∨ w.heap.size ≤ j) : LS X w0 w' b Rs Ks v' (K.app k) := by
  have hrb := h.rb
  have hlt := hc.1.lt
  have hP : ∀ g, PB w0.heap.size Rs v g → g < w.heap.size → w'.heap[g]? = w.heap[g]? ∧ PB w0.heap.size Rs v' g := fun g hp hl => by
    refine ⟨hg.block g hl (fun e => hp.2.2 e.symm), hp.1, hp.2.1, fun e => ?_⟩
    rcases hat g e with e | e
    · exact hp.2.2 e
    · omega
  refine ⟨h.st.grown hg (fun j e => ?_), h.fr.grown hg h.size (fun j e => (hlt j e).1), fun p hp => ?_, h.nd, fun x hx => (h.kvs x hx).keep hg.size hP, ⟨cs ++ news, ?_, FC.app K cs (hc.2.keep hg.size hP) (hf.keep hg.size hP)⟩, fun p hp e => ?_, hrb⟩
  · have := (hlt j e).1; omega
  · obtain ⟨r1, r2⟩ := h.rows p hp
    exact ⟨r1.grown hg (fun e => h.ownr p hp e.symm), r2⟩
  · rw [Fo.len_app]; exact hown
  · rcases hat _ e with e | e
    · exact h.ownr p hp e
    · have := (h.rows p hp).1.lt
      omega
theorem LS.list (h : LS X w0 w b Rs Ks v K) : ∃ A cap, v = .slice A K.len cap ∧ K.len ≤ cap ∧ KV w (fun g => w0.heap.size ≤ g) K A cap := by
  obtain ⟨cs, o1, o2⟩ := h.own
  have hv : ∃ A cap, v = .slice A K.len cap ∧ K.len ≤ cap := by
    rcases o1.2 with ⟨rfl, e⟩ | ⟨g, cap, cur, rfl, _, _, hc, _⟩
    · exact ⟨none, 0, by rw [e], by omega⟩
    · exact ⟨_, cap, rfl, hc⟩
  obtain ⟨A, cap, rfl, hc⟩ := hv
  exact ⟨A, cap, rfl, hc, KV.of_own o1 rfl o2 (fun g hg => hg.1) (fun g hg _ => hg) hc⟩
theorem LS.listP (h : LS X w0 w b Rs Ks v K) : ∃ A cap, v = .slice A K.len cap ∧ K.len ≤ cap ∧ KV w (fun g => w0.heap.size ≤ g ∧ ∀ p ∈ Rs, p.1 ≠ g) K A cap := by
  obtain ⟨A, cap, rfl, hc, _⟩ := h.list
  obtain ⟨cs, o1, o2⟩ := h.own
  exact ⟨A, cap, rfl, hc, KV.of_own o1 rfl o2 (fun g hg => ⟨hg.1, hg.2.1⟩) (fun g hg e => ⟨hg, fun p hp e2 => h.ownr p hp (by rw [e2]; exact e)⟩) hc⟩
theorem LS.fresh (h : LS X w0 w b Rs Ks v K) : LS X w0 w b Rs Ks (.slice none 0 0) .nil :=
  ⟨h.st, h.fr, h.rows, h.nd, fun k hk => (h.kvs k hk).keep (Nat.le_refl _) (fun g hg _ => ⟨rfl, hg.1, hg.2.1, by simp [Value.ownBlock]⟩), ⟨[], World.ownsRow_nil _ _ _ _, by rw [FC]⟩, fun p _ => by simp [Value.ownBlock], h.rb⟩
theorem LS.row (h : LS X w0 w b Rs Ks v K) (n : Nat) {g : Nat} {t : TypeId} {c : Array Value} (hn : Rs[n]? = some (g, t, c)) : RowB w g t c := by
  obtain ⟨hlt, hg⟩ := List.getElem?_eq_some_iff.1 hn
  exact (h.rows (g, t, c) (by rw [← hg]; exact List.getElem_mem hlt)).1
theorem LS.kidP (h : LS X w0 w b Rs Ks v K) (n : Nat) {k : Fo} {A : Option Addr} {cap : Nat} (hn : Ks[n]? = some (k, A, cap)) : KV w (PB w0.heap.size Rs v) k A cap := by
  obtain ⟨hlt, hg⟩ := List.getElem?_eq_some_iff.1 hn
  exact h.kvs (k, A, cap) (by rw [← hg]; exact List.getElem_mem hlt)
theorem LS.put6 (h : LS X w0 w b Rs Ks v K) (n : Nat) {g : Nat} {t : TypeId} {c : Array Value} (hn : Rs[n]? = some (g, t, c)) (hc : c.size = 6) (u0 u1 u2 u3 u4 u5 : Value) :
    LS X w0 ((((((w.setCell ⟨g, 0, none⟩ u0).setCell ⟨g, 1, none⟩ u1).setCell ⟨g, 2, none⟩ u2).setCell ⟨g, 3, none⟩ u3).setCell ⟨g, 4, none⟩ u4).setCell ⟨g, 5, none⟩ u5) b (Rs.set n (g, t, #[u0, u1, u2, u3, u4, u5])) Ks v K := by
  have hlt : n < Rs.length := (List.getElem?_eq_some_iff.1 hn).1
  have key : ∀ (l : List Row) (x : Row), l.length = Rs.length → (l.set n x)[n]? = some x := fun l x hl => by rw [List.getElem?_set_self (by omega)]
  have h1 := h.set n hn 0 u0
  have h2 := h1.set n (key _ _ (by simp)) 1 u1
  have h3 := h2.set n (key _ _ (by simp)) 2 u2
  have h4 := h3.set n (key _ _ (by simp)) 3 u3
  have h5 := h4.set n (key _ _ (by simp)) 4 u4
  have h6 := h5.set n (key _ _ (by simp)) 5 u5
  simp only [List.set_set] at h6
  rwa [six hc] at h6
theorem LS.lit (h : LS X w0 w b Rs Ks v K) {k : Fo} {cs : Array Value} (hf : FC w (PB w0.heap.size Rs (.slice none 0 0)) k cs.toList) (g0 : Nat) (hg0 : g0 = w.heap.size) (hm : k.len ≤ maxLen) : LS X w0 (w.alloc (.cells cs 25)) b Rs Ks (.slice (some ⟨g0, 0, none⟩) k.len k.len) k := by
  subst hg0
  have h' := h.fresh.other (bel1 w (.cells cs 25))
  have hsz := h.size
  have hkl := hf.len
  have hbk : ∀ g, PB w0.heap.size Rs (.slice none 0 0) g → g < w.heap.size → (w.alloc (.cells cs 25)).heap[g]? = w.heap[g]? ∧ PB w0.heap.size Rs (.slice (some ⟨w.heap.size, 0, none⟩) k.len k.len) g := fun g hg hl => ⟨Below.heap_alloc _ _ _ hl, hg.1, hg.2.1, by simp [Value.ownBlock]; omega⟩
  refine ⟨h'.st, h'.fr, h'.rows, h'.nd, fun x hx => (h.fresh.kvs x hx).keep (by simp) hbk, ⟨cs.toList, ⟨by simpa using hkl, .inr ⟨w.heap.size, k.len, cs, rfl, hsz, heap_alloc_new w _, Nat.le_refl _, hm, by simpa using hkl, ?_⟩⟩, hf.keep (by simp) hbk⟩, fun p hp => ?_, h.rb⟩
  · rw [List.take_of_length_le (by rw [hkl]; exact Nat.le_refl _)]
  · have := (h.rows p hp).1.lt
    simp [Value.ownBlock]; omega
theorem LS.drop {p : Row} (h : LS X w0 w b (p :: Rs) Ks v K) : LS X w0 w b Rs Ks v K := by
  have hb : ∀ g, PB w0.heap.size (p :: Rs) v g → g < w.heap.size → w.heap[g]? = w.heap[g]? ∧ PB w0.heap.size Rs v g := fun g hg _ => ⟨rfl, hg.1, fun q hq => hg.2.1 q (List.mem_cons_of_mem _ hq), hg.2.2⟩
  obtain ⟨cs, o1, o2⟩ := h.own
  exact ⟨h.st, h.fr, fun q hq => h.rows q (List.mem_cons_of_mem _ hq), (List.nodup_cons.1 h.nd).2, fun k hk => (h.kvs k hk).keep (Nat.le_refl _) hb, ⟨cs, o1, o2.keep (Nat.le_refl _) hb⟩, fun q hq => h.ownr q (List.mem_cons_of_mem _ hq), h.rb⟩
theorem LS.noK (h : LS X w0 w b Rs Ks v K) : LS X w0 w b Rs [] v K :=
  ⟨h.st, h.fr, h.rows, h.nd, fun q hq => by simp at hq, h.own, h.ownr, h.rb⟩
theorem LS.kv {A : Option Addr} {cap n : Nat} (h : LS X w0 w b Rs Ks (.slice A n cap) K) : KV w (fun g => w0.heap.size ≤ g) K A cap := by
  obtain ⟨A', cap', e, hc, hk⟩ := h.list
  obtain ⟨e1, e2, e3⟩ := Value.slice.inj e
  rw [e1, e3]
  exact hk
theorem LS.K1 {k : Kid} (h : LS X w0 w b Rs (k :: Ks) v K) : LS X w0 w b Rs [k] v K :=
  ⟨h.st, h.fr, h.rows, h.nd, fun q hq => h.kvs q (by rw [List.mem_singleton.1 hq]; exact List.mem_cons_self), h.own, h.ownr, h.rb⟩
theorem LS.toKid {A : Option Addr} {cap n : Nat} (h : LS X w0 w b Rs Ks (.slice A n cap) K) : LS X w0 w b Rs ((K, A, cap) :: Ks) (.slice none 0 0) .nil := by
  have hf := h.fresh
  obtain ⟨A', cap', e, hc, hk⟩ := h.listP
  obtain ⟨e1, e2, e3⟩ := Value.slice.inj e
  refine ⟨hf.st, hf.fr, hf.rows, hf.nd, fun x hx => ?_, hf.own, hf.ownr, hf.rb⟩
  rcases List.mem_cons.1 hx with rfl | hx
  · rw [← e1, ← e3] at hk
    exact hk.keep (Nat.le_refl _) (fun g hg _ => ⟨rfl, hg.1, hg.2, by simp [Value.ownBlock]⟩)
  · exact hf.kvs x hx
end Ps
end Go.Proofs.YtiabkkdeonepgaaGreatDoor
namespace Go.Proofs.YtiabkkdeonepgaaGreatDoor
open Go.RowKit
namespace Ps
def NodeP (X : Cx) (w : World) (r : Fo × Nat × Int) (e : Ending) (w' : World) : Prop :=
  ∃ h k A cap, r.1 = .one h k ∧ e = .returned (.tuple #[nv h A k.len cap, .int .i64 r.2.1]) ∧ KV w' (fun g => w.heap.size ≤ g) k A cap ∧ St X w' r.2.2 ∧ Fr X.rb w.heap.size w w' ∧ r.2.1 < X.l.length
abbrev zc : Array Value := #[.int .i64 0, .int .i64 0, .int .i64 0, .string ⟨#[]⟩, .int .i64 0, .slice none 0 0]
abbrev nc (h : Hd) (A : Option Addr) (n cap : Nat) : Array Value := #[.int .i64 h.kind, .int .i64 h.fro, .int .i64 h.til, .string h.word, .int .i64 h.at_, .slice A n cap]
set_option maxHeartbeats 4000000 in
set_option maxRecDepth 100000 in
theorem use_any (X : Cx) (b : Int) (i : Nat) (w : World) (hS : St X w b) (hi : i + 1 < X.l.length) :
    Calls Tryz.prog 38 #[X.p, .int .i64 i] w fun e w' => NodeP X w (useM X.l b i) e w' := by
  have hrb := hS.row.lt
  have hle := hS.wf.le
  obtain ⟨j, hj⟩ : ∃ j, j = i + 1 := ⟨_, rfl⟩
  obtain ⟨⟨⟨k1, f1, t1, wd1, q1⟩, a1, b1⟩, h1⟩ : ∃ r, r = wordM X.l b ⟨23, j, 0, e0, 0⟩ j := ⟨_, rfl⟩
  obtain ⟨⟨a2, b2⟩, h2⟩ : ∃ r, r = wantM X.l b1 a1 sDot := ⟨_, rfl⟩
  obtain ⟨⟨⟨k3, f3, t3, wd3, q3⟩, a3, b3⟩, h3⟩ : ∃ r, r = wordM X.l b2 ⟨2, i, 0, e0, 0⟩ a2 := ⟨_, rfl⟩
  obtain ⟨⟨a4, b4⟩, h4⟩ : ∃ r, r = wantM X.l b3 a3 sSem := ⟨_, rfl⟩
  have hres : useM X.l b i = (.one ⟨k3, f3, a4, wd3, q3⟩ (.one ⟨k1, f1, a1, wd1, q1⟩ .nil), a4, b4) := by
    unfold useM
    simp only [← hj, ← h1, ← h2, ← h3, ← h4]
  rw [hres]
  have C1 : Hid (∀ w', St X w' b → Calls Tryz.prog 58 #[X.p, nv ⟨23, j, 0, e0, 0⟩ none 0 0, .int .i64 j] w' fun e w'' => WordP X w' (⟨k1, f1, t1, wd1, q1⟩, a1, b1) none 0 0 e w'') := fun w' h => by rw [h1]; exact word_any X b _ none 0 0 j w' h (by omega)
  have C2 : Hid (a1 < X.l.length → ∀ w', St X w' b1 → Calls Tryz.prog 59 #[X.p, .int .i64 a1, .string ⟨#[46]⟩] w' fun e w'' => AtP X w' (a2, b2) e w'') := fun hl w' h => by rw [h2]; exact want_any X b1 a1 ⟨#[46]⟩ w' h hl
  have C3 : Hid (a2 < X.l.length → ∀ w', St X w' b2 → Calls Tryz.prog 58 #[X.p, nv ⟨2, i, 0, e0, 0⟩ none 0 0, .int .i64 a2] w' fun e w'' => WordP X w' (⟨k3, f3, t3, wd3, q3⟩, a3, b3) none 0 0 e w'') := fun hl w' h => by rw [h3]; exact word_any X b2 _ none 0 0 a2 w' h hl
  have C4 : Hid (a3 < X.l.length → ∀ w', St X w' b3 → Calls Tryz.prog 59 #[X.p, .int .i64 a3, .string ⟨#[59]⟩] w' fun e w'' => AtP X w' (a4, b4) e w'') := fun hl w' h => by rw [h4]; exact want_any X b3 a3 ⟨#[59]⟩ w' h hl
  have L0 := Lib.hid ((LS.start hS).alloc w.heap.size rfl 25 zc)
  have e1 : IntKind.i64.wrap ((i : Int) + 1) = (j : Int) := by rw [IntKind.wrap_i64]; omega
  clear hS h1 h2 h3 h4 hres hj
  go_enter Tryz.func38, Tryz.ntmps38
  go_wp2_with fail
  refine (C1.out _ L0.out.st).mono ?_
  rintro e w1 ⟨rfl, hS1, hF1, hl1⟩
  have L1 := Lib.hid (((L0.out.step hS1 hF1).alloc w1.heap.size rfl 25 (nc ⟨k1, f1, a1, wd1, q1⟩ none 0 0)).alloc (w1.heap.size + 1) (by simp) 25 (nc ⟨2, i, 0, e0, 0⟩ none 0 0))
  clear hS1 hF1
  go_wp2_with fail
  refine (C2.out hl1 _ L1.out.st).mono ?_
  rintro e w2 ⟨rfl, hS2, hF2, hl2⟩
  have L2 := Lib.hid (L1.out.step hS2 hF2)
  have r2 := (L2.out.row 0 rfl).cell
  clear hS2 hF2
  go_wp2_with fail
  refine (C3.out hl2 _ L2.out.st).mono ?_
  rintro e w3 ⟨rfl, hS3, hF3, hl3⟩
  have L3 := Lib.hid ((L2.out.step hS3 hF3).put6 0 rfl rfl (.int .i64 k3) (.int .i64 f3) (.int .i64 t3) (.string wd3) (.int .i64 q3) (.slice none 0 0))
  have r3 := ((L2.out.step hS3 hF3).row 0 rfl).cell
  have t3' := ((L2.out.step hS3 hF3).row 0 rfl).thaw
  clear hS3 hF3 r2
  go_wp2_with fail
  refine (C4.out hl3 _ L3.out.st).mono ?_
  rintro e w4 ⟨rfl, hS4, hF4, hl4⟩
  have L4 := Lib.hid (L3.out.step hS4 hF4)
  have r4 := (L4.out.row 0 rfl).cell
  have r5 := (L4.out.row 1 rfl).cell
  have r6 := (L4.out.row 2 rfl).cell
  have t6 := (L4.out.row 2 rfl).thaw
  clear hS4 hF4 r3 t3'
  go_wp2_with fail
  have L5 := Lib.hid (L4.out.slice w4.heap.size rfl (k := .one ⟨k1, f1, a1, wd1, q1⟩ .nil) (cs := nc ⟨k1, f1, a1, wd1, q1⟩ none 0 0) (FC.one (KV.nil _ _ _ _)))
  refine (ended_any ⟨k3, f3, t3, wd3, q3⟩ none 0 0 a4 (some ⟨w4.heap.size, 0, none⟩) 1 1 _).mono ?_
  rintro e w5 ⟨rfl, hb5⟩
  have L6 := Lib.hid ((L5.out.other hb5).put6 2 rfl rfl (.int .i64 k3) (.int .i64 f3) (.int .i64 a4) (.string wd3) (.int .i64 q3) (.slice (some ⟨w4.heap.size, 0, none⟩) 1 1))
  have r7 := ((L5.out.other hb5).row 2 rfl).cell
  have t7 := ((L5.out.other hb5).row 2 rfl).thaw
  have r8 := (L6.out.row 2 rfl).cell
  clear hb5 r4 r5 r6 t6
  go_wp2
  refine bodyPost_ret ?_ rfl ⟨⟨k3, f3, a4, wd3, q3⟩, .one ⟨k1, f1, a1, wd1, q1⟩ .nil, some ⟨w4.heap.size, 0, none⟩, 1, rfl, rfl, ?_, L6.out.st, L6.out.fr, hl4⟩
  · simp [results, Tryz.results38, go_sem, r8]
    rfl
  · exact (L6.out.kidP 0 rfl).new_ (fun g h => h.1)
end Ps
end Go.Proofs.YtiabkkdeonepgaaGreatDoor
