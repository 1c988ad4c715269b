/- Contracts: the document's reader: what stands at a token, what is wanted there. -/
import Derived.Test.YthlkjfkgdijfdaaGreatDoorXD
import Derived.BigQuiet
namespace Go.Proofs.YthlkjfkgdijfdaaGreatDoor
open Go.RowKit
namespace Ps

set_option maxHeartbeats 2000000 in
theorem is_any (X : Cx) (b : Int) (i : Nat) (x : ByteArray) (w : World) (hS : St X w b) (hi : i < X.l.length) :
    Calls Tryz.prog 43 #[X.p, .int .i64 i, .string x] w fun e w' => e = .returned (.bool (isM X.l i x.data.toList)) ∧ Below w.heap.size w w' := by
  have hrb := hS.row.lt
  have hz : isM X.l i x.data.toList = ((X.l[i].kind == 2 || X.l[i].kind == 5) && (X.l[i].text.data.toList == x.data.toList)) := by
    unfold isM; rw [List.getElem?_eq_getElem hi]
  obtain ⟨z, hzz⟩ : ∃ z, z = isM X.l i x.data.toList := ⟨_, rfl⟩
  rw [← hzz] at hz ⊢
  obtain ⟨g, eg, lg, hc⟩ := hS.toks
  obtain ⟨c0, c1, c2, c3⟩ := hc i hi
  have rr := hS.row.cell
  have hcap := hS.cap
  obtain ⟨rbk, A, l, c⟩ := X
  dsimp only at *
  subst eg
  generalize l[i] = t at *
  obtain ⟨kd, a, ld, tx⟩ := t
  dsimp only at *
  have hlg : g < w.heap.size := by omega
  have HZ := Lib.hid hz
  have hil : (i : Int) < (l.length : Int) := by omega
  clear hzz hc hS hz
  by_cases h2 : kd = 2
  · subst h2
    go_enter Tryz.func43, Tryz.ntmps43
    go_wp2_with fail
    go_ret
    exact ⟨rb (by rw [HZ.out]; simp [ByteArray.toList_eq]), bel1 _ _⟩
  · by_cases h5 : kd = 5
    · subst h5
      go_enter Tryz.func43, Tryz.ntmps43
      go_wp2_with fail
      go_ret
      exact ⟨rb (by rw [HZ.out]; simp [ByteArray.toList_eq]), bel1 _ _⟩
    · have d1 : ((kd : Int) == 2) = false := by rw [beq_eq_false_iff_ne]; omega
      have d2 : ((kd : Int) == 5) = false := by rw [beq_eq_false_iff_ne]; omega
      have HZ0 : Hid (z = false) := by
        unfold Hid; rw [HZ.out]; simp [h2, h5]
      clear HZ h2 h5
      go_enter Tryz.func43, Tryz.ntmps43
      go_wp2_with fail
      go_ret
      exact ⟨rb (by rw [HZ0.out]; try simp), bel1 _ _⟩

/-- What a call of the reader that answers a place comes to. -/
def AtP (X : Cx) (w : World) (r : Nat × Int) (e : Ending) (w' : World) : Prop :=
  e = .returned (.int .i64 r.1) ∧ St X w' r.2 ∧ Fr X.rb w.heap.size w w' ∧ r.1 < X.l.length

set_option maxHeartbeats 2000000 in
theorem want_any (X : Cx) (b : Int) (i : Nat) (x : ByteArray) (w : World) (hS : St X w b) (hi : i < X.l.length) :
    Calls Tryz.prog 45 #[X.p, .int .i64 i, .string x] w fun e w' => AtP X w (wantM X.l b i x.data.toList) e w' := by
  have HS := Lib.hid hS
  have hlt := wantM_lt hS.wf (b := b) (x := x.data.toList) hi
  have hle := hS.wf.le
  have rr := hS.row.cell
  have rf := hS.row.thaw
  have c := is_any X b i x w hS hi
  by_cases hb : 0 ≤ b
  · have hb1 : ¬ b < 0 := by omega
    have hb2 : b ≥ 0 := hb
    have hw : wantM X.l b i x.data.toList = (i, b) := by unfold wantM; rw [if_pos hb]
    rw [hw]
    clear hS hb c hlt hw
    go_enter Tryz.func45, Tryz.ntmps45
    go_wp2_with fail
    go_ret
    exact ⟨rfl, HS.out, Fr.refl _ _ _, hi⟩
  · have hb1 : b < 0 := by omega
    have hb2 : ¬ b ≥ 0 := by omega
    cases hz : isM X.l i x.data.toList
    · have hw : wantM X.l b i x.data.toList = (i, (i : Int)) := by unfold wantM; rw [if_neg hb, hz, if_neg (by simp)]
      rw [hw]
      rw [hz] at c
      have C := Lib.hid c
      clear hS hb c hlt hw hz
      go_enter Tryz.func45, Tryz.ntmps45
      go_wp2_with fail
      refine C.out.mono ?_
      rintro e w1 ⟨rfl, hbl⟩
      have HS1 := Lib.hid (HS.out.below hbl)
      have HF := Lib.hid (Fr.of (rb := X.rb) hbl)
      have rr1 := HS1.out.row.cell
      have rf1 := HS1.out.row.thaw
      have hn : (i : Int) ≥ 0 := by omega
      clear rr rf hbl hb1 hb2
      go_wp2_with fail
      go_ret
      exact ⟨rfl, HS1.out.stop _, HF.out.put 1 _, hi⟩
    · have hw : wantM X.l b i x.data.toList = (i + 1, b) := by unfold wantM; rw [if_neg hb, hz, if_pos rfl]
      rw [hw] at hlt ⊢
      rw [hz] at c
      have C := Lib.hid c
      have HL := Lib.hid hlt
      clear hS hb c hlt hw hz
      go_enter Tryz.func45, Tryz.ntmps45
      go_wp2_with fail
      refine C.out.mono ?_
      rintro e w1 ⟨rfl, hbl⟩
      have HS1 := Lib.hid (HS.out.below hbl)
      have HF := Lib.hid (Fr.of (rb := X.rb) hbl)
      have rr1 := HS1.out.row.cell
      have rf1 := HS1.out.row.thaw
      have e1 : IntKind.i64.wrap ((i : Int) + 1) = (i : Int) + 1 := by rw [IntKind.wrap_i64]; omega
      clear rr rf hbl
      go_wp2_with fail
      go_ret
      exact ⟨ri (by simp), HS1.out, HF.out, HL.out⟩

/-- A node's value. -/
abbrev nv (h : Hd) (A : Option Addr) (n cap : Nat) : Value := .agg #[.int .i64 h.kind, .int .i64 h.fro, .int .i64 h.til, .string h.word, .int .i64 h.at_, .slice A n cap]
set_option maxHeartbeats 2000000 in
theorem ended_any (h : Hd) (A0 : Option Addr) (n0 c0 : Nat) (tl_ : Nat) (A : Option Addr) (n c : Nat) (w : World) :
    Calls Tryz.prog 46 #[nv h A0 n0 c0, .int .i64 tl_, .slice A n c] w fun e w' => e = .returned (nv { h with til := tl_ } A n c) ∧ Below w.heap.size w w' := by
  obtain ⟨kd, fr, t0, wd, at0⟩ := h
  go_enter Tryz.func46, Tryz.ntmps46
  go_wp2
  refine bodyPost_ret ?_ rfl ⟨rfl, ?_⟩
  · simp [results, Tryz.results46, go_sem]
  · exact (bel1 _ _).alloc (by simp) _
/-- What word answers. -/
def WordP (X : Cx) (w : World) (r : Hd × Nat × Int) (A : Option Addr) (n c : Nat) (e : Ending) (w' : World) : Prop :=
  e = .returned (.tuple #[nv r.1 A n c, .int .i64 r.2.1]) ∧ St X w' r.2.2 ∧ Fr X.rb w.heap.size w w' ∧ r.2.1 < X.l.length
set_option maxHeartbeats 4000000 in
theorem word_any (X : Cx) (b : Int) (h : Hd) (A : Option Addr) (n c : Nat) (i : Nat) (w : World) (hS : St X w b) (hi : i < X.l.length) :
    Calls Tryz.prog 44 #[X.p, nv h A n c, .int .i64 i] w fun e w' => WordP X w (wordM X.l b h i) A n c e w' := by
  have HS := Lib.hid hS
  have hrb := hS.row.lt
  have hlt := wordM_lt hS.wf (b := b) (hd := h) hi
  have hle := hS.wf.le
  have rr := hS.row.cell
  have rf := hS.row.thaw
  obtain ⟨kd, fr, t0, wd, at0⟩ := h
  have RA := Lib.hid (RowB.new w 25 #[.int .i64 kd, .int .i64 fr, .int .i64 t0, .string wd, .int .i64 at0, .slice A n c])
  have S1 := Lib.hid ((hS.alloc (.cells #[.int .i64 kd, .int .i64 fr, .int .i64 t0, .string wd, .int .i64 at0, .slice A n c] 25)).alloc (.cells #[.int .i64 0, .int .i64 0, .int .i64 0, .string ⟨#[]⟩, .int .i64 0, .slice none 0 0] 25))
  by_cases hb : 0 ≤ b
  · have hb1 : ¬ b < 0 := by omega
    have hb2 : b ≥ 0 := hb
    have hw : wordM X.l b ⟨kd, fr, t0, wd, at0⟩ i = (⟨kd, fr, t0, wd, at0⟩, i, b) := by unfold wordM; rw [if_pos hb]
    rw [hw]
    clear hS hb hlt hw
    go_enter Tryz.func44, Tryz.ntmps44
    go_wp2
    refine bodyPost_ret ?_ rfl ⟨rfl, ?_, ?_, hi⟩
    · simp [results, Tryz.results44, go_sem]
    · exact (HS.out.alloc _).alloc _
    · exact Fr.of ((bel1 _ _).alloc (by simp) _)
  · have hb1 : b < 0 := by omega
    have hb2 : ¬ b ≥ 0 := by omega
    obtain ⟨g, eg, lg, hc⟩ := hS.toks
    obtain ⟨c0, c1, c2, c3⟩ := hc i hi
    have hcap := hS.cap
    have hkg := kindAt_get hi
    have htg := textAt_get hi
    have hil : (i : Int) < (X.l.length : Int) := by omega
    have hlg : g < w.heap.size := by omega
    by_cases hk : X.l[i].kind = 1
    · have hw : wordM X.l b ⟨kd, fr, t0, wd, at0⟩ i = (⟨kd, fr, t0, X.l[i].text, i⟩, i + 1, b) := by
        unfold wordM; rw [if_neg hb, hkg, if_pos hk, htg]
      have d1 : ((X.l[i].kind : Int) == 1) = true := by rw [beq_iff_eq]; omega
      have d2 : ((X.l[i].kind : Int) != 1) = false := by rw [bne_eq_false_iff_eq]; omega
      rw [hw] at hlt ⊢
      have HL := Lib.hid hlt
      have e1 : IntKind.i64.wrap ((i : Int) + 1) = (i : Int) + 1 := by rw [IntKind.wrap_i64]; omega
      rw [eg] at rr
      generalize X.l[i] = t at *
      obtain ⟨tk, ta, tl_, tx⟩ := t
      dsimp only at *
      clear hS hb hlt hw hk hkg htg hc S1 RA
      go_enter Tryz.func44, Tryz.ntmps44
      go_wp2
      refine bodyPost_ret ?_ rfl ⟨rfl, ?_, ?_, HL.out⟩
      · simp [results, Tryz.results44, go_sem]
      · exact (HS.out.alloc _).alloc _
      · exact Fr.of ((bel1 _ _).alloc (by simp) _)
    · have hw : wordM X.l b ⟨kd, fr, t0, wd, at0⟩ i = (⟨kd, fr, t0, wd, at0⟩, i, (i : Int)) := by
        unfold wordM; rw [if_neg hb, hkg, if_neg hk]
      have d1 : ((X.l[i].kind : Int) == 1) = false := by rw [beq_eq_false_iff_ne]; omega
      have d2 : ((X.l[i].kind : Int) != 1) = true := by rw [bne_iff_ne]; omega
      rw [hw]
      have hn : (i : Int) ≥ 0 := by omega
      rw [eg] at rr
      generalize X.l[i] = t at *
      obtain ⟨tk, ta, tl_, tx⟩ := t
      dsimp only at *
      clear hS hb hlt hw hk hkg htg hc S1 RA hb2
      go_enter Tryz.func44, Tryz.ntmps44
      go_wp2
      refine bodyPost_ret ?_ rfl ⟨rfl, ?_, ?_, hi⟩
      · simp [results, Tryz.results44, go_sem]
      · exact ((HS.out.stop _).alloc _).alloc _
      · exact (((Fr.refl _ _ _).put 1 _).alloc (by simp) _).alloc (by simp) _
theorem Fr_keep {rb g t : Nat} {w w' : World} {cs : Array Value} (hf : Fr rb w.heap.size w w') (hr : RowB w g t cs) (hn : rb < g) : RowB w' g t cs := hf.row hr hr.lt (by omega)
end Ps
end Go.Proofs.YthlkjfkgdijfdaaGreatDoor
