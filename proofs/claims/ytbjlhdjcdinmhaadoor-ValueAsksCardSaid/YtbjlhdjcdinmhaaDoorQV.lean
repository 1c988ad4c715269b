/- Contracts: Text, by the program. -/
import Derived.Test.YtbjlhdjcdinmhaaDoorQU
namespace Go.Proofs.YtbjlhdjcdinmhaaDoor
open Go.RowKit Go.Op
namespace Vm
set_option maxHeartbeats 8000000 in
set_option maxRecDepth 100000 in
theorem told3 (k : VH) (hk : k.kind = 3) (ns : List ByteArray) (ps : List Vl) (IH : TextIH ps) (hg : ∀ p ∈ ps, Good p) (he : ns.length = ps.length) (hln : ns.length ≤ 1000001)
    (B b : Nat) (bs : List Value) (w : World) (An : Option Addr) (cn : Nat) (A : Option Addr) (c : Nat) (hp : Prn B b bs w) (hB : B ≤ w.heap.size) (hN : NV w (fun g => g < B) ns An cn) (hV : VV w (fun g => g < B) ps A c)
    (hl : bs.length + ([123] ++ pieces 0 ns (textL ps) ++ [125]).length ≤ lim) (hT : TbB B w) :
    Calls Tryd.prog 41 #[.pointer (some ⟨b, 0, none⟩), .agg (varr k An ns.length cn A ps.length c)] w (Wrt B b bs ([123] ++ pieces 0 ns (textL ps) ++ [125]) w) := by
  have b1 := bel1 w (.cells (varr k An ns.length cn A ps.length c) 34)
  have r1 := (RowB.new w 34 (varr k An ns.length cn A ps.length c)).cell
  obtain ⟨W, hW⟩ : ∃ W, W = w.alloc (.cells (varr k An ns.length cn A ps.length c) 34) := ⟨_, rfl⟩
  rw [← hW] at b1 r1
  have C := Lib.hid (record_w k ns ps IH hg he hln B b bs W An cn A c (hp.below b1) (Nat.le_trans hB b1.size) (hN.below b1) (hV.below b1) hl (hT.step (b1.mono hB)))
  have HB1 := Lib.hid b1
  have HBW := Lib.hid hB
  have e1 : (k.kind == 1) = false := by rw [beq_eq_false_iff_ne]; omega
  have e2 : (k.kind == 2) = false := by rw [beq_eq_false_iff_ne]; omega
  have e4 : (k.kind == 4) = false := by rw [beq_eq_false_iff_ne]; omega
  have e3 : (k.kind == 3) = true := by rw [beq_iff_eq]; exact hk
  generalize [123] ++ pieces 0 ns (textL ps) ++ [125] = X at *
  generalize ns.length = n at *
  generalize ps.length = m at *
  clear IH hg hp hB hN hV hl hT b1 hk he hln
  go_enter Tryd.func41, Tryd.ntmps41
  go_wp2_with fail
  rw [← hW]
  refine C.out.mono ?_
  rintro e w1 ⟨rfl, h1, h2, h3⟩
  have HF : Hid (Wrt B b bs X w (.returned (.tuple #[])) w1) := ⟨rfl, h1, (HB1.out.mono HBW.out).trans h2, (others_below HB1.out).trans h3⟩
  clear h1 h2 h3 C r1 hW
  go_wp2_with fail
  go_end0
  exact HF.out
theorem rightL_mem : ∀ {l : List Vl} {v : Vl}, rightL l = true → v ∈ l → v.right = true := fun {l v} h hv => by
  rw [rightL_all, List.all_eq_true] at h
  exact h v hv
theorem Good.part {k : VH} {ns : List ByteArray} {ps : List Vl} (h : Good (.mk k ns ps)) : ∀ p ∈ ps, Good p := fun p hp => by
  obtain ⟨h1, h2, h3, h4⟩ := h
  rw [Vl.right, Bool.and_eq_true] at h1
  rw [Vl.rng] at h2
  rw [Vl.byt] at h3
  rw [Vl.cnt] at h4
  have := byt_mem hp
  have := cnt_mem hp
  exact ⟨rightL_mem h1.2 hp, rngL_mem h2.2 hp, by omega, by omega⟩
theorem told_any : ∀ v : Vl, Good v → ∀ (B b : Nat) (bs : List Value) (w : World) (An : Option Addr) (cn : Nat) (A : Option Addr) (c : Nat), Prn B b bs w → B ≤ w.heap.size → VI w (fun g => g < B) v An cn A c → bs.length + v.text.length ≤ lim → TbB B w → Calls Tryd.prog 41 #[.pointer (some ⟨b, 0, none⟩), vv v An cn A c] w (Wrt B b bs v.text w) := by
  refine Vl.ind fun k ns ps ih hg B b bs w An cn A c hp hB hv hl hT => ?_
  have hpg := hg.part
  obtain ⟨h1, h2, h3, h4⟩ := hg
  rw [Vl.rng] at h2
  rw [Vl.byt] at h3
  rw [Vl.cnt] at h4
  have e1 := cntL_len ps
  rw [Vl.text] at hl ⊢
  rcases right_cases h1 with ⟨hk, _⟩ | ⟨hk, _⟩ | ⟨hk, _⟩ | ⟨hk, _, _, he, _⟩
  · rw [if_pos hk] at hl ⊢
    exact told1 k hk h2.1 B b bs w An _ cn A _ c hp hB hl hT
  · rw [if_neg (by omega), if_pos hk] at hl ⊢
    exact told2 k hk (by omega) B b bs w An _ cn A _ c hp hB hl hT
  · rw [if_neg (by omega), if_neg (by omega), if_pos hk] at hl ⊢
    exact told4 k hk h2.1 B b bs w An _ cn A _ c hp hB hl hT
  · rw [if_neg (by omega), if_neg (by omega), if_neg (by omega), if_pos hk] at hl ⊢
    exact told3 k hk ns ps (fun p hp hg => ih p hp hg) hpg he (by omega) B b bs w An cn A c hp hB (VI_iff.1 hv).1 (VI_iff.1 hv).2 hl hT
/-- What Text answers: of a type that may not be nothing. -/
def textS (t : Vl) : ByteArray := if t.right then ⟨t.text.toArray⟩ else ⟨#[]⟩
set_option maxHeartbeats 8000000 in
set_option maxRecDepth 100000 in
theorem text_any (t : Vl) (hc : t.cnt ≤ 1000001) (hr : t.rng) (hby : t.byt ≤ 100000) (hl : t.text.length ≤ lim) (w : World) (P : Nat → Prop) (An : Option Addr) (cn : Nat) (A : Option Addr) (c : Nat) (ht : VI w P t An cn A c) (hT : Tb w) :
    Calls Tryd.prog 18 #[vv t An cn A c] w fun e w' => e = .returned (.string (textS t)) ∧ Below w.heap.size w w' := by
  have b1 := bel1 w (.cells (varr t.hd An t.names.length cn A t.parts.length c) 34)
  have R1 := Lib.hid (RowB.new w 34 (varr t.hd An t.names.length cn A t.parts.length c))
  obtain ⟨w1, h1⟩ : ∃ w1, w1 = w.alloc (.cells (varr t.hd An t.names.length cn A t.parts.length c) 34) := ⟨_, rfl⟩
  rw [← h1] at b1 R1
  have HB1 := Lib.hid b1
  have HT1 := Lib.hid (ht.below b1)
  have C1 := Lib.hid (pright_any t hc w1 _ An cn A c HT1.out)
  have hr1 := R1.out.cell
  have HTX : Hid (t.cnt ≤ 1000001 ∧ t.text.length ≤ lim ∧ t.rng ∧ t.byt ≤ 100000) := ⟨hc, hl, hr, hby⟩
  have HTB := Lib.hid hT
  obtain ⟨z, hz⟩ : ∃ z, z = t.right := ⟨_, rfl⟩
  have HZ := Lib.hid hz
  rw [← hz] at C1
  have HTS : Hid (textS t = if z then ⟨t.text.toArray⟩ else ⟨#[]⟩) := by unfold Hid textS; rw [hz]
  generalize textS t = ts at *
  obtain ⟨tx, htx⟩ : ∃ tx, tx = t := ⟨_, rfl⟩
  have HE := Lib.hid htx
  obtain ⟨k, ns, ps⟩ := t
  simp only [vv, hd_mk, names_mk, parts_mk] at h1 C1 hr1 R1 ⊢
  clear b1 ht hc hl hz htx hr hby hT
  go_enter Tryd.func18, Tryd.ntmps18
  go_wp2_with fail
  rw [← h1]
  refine C1.out.mono ?_
  rintro e w2 ⟨rfl, h2⟩
  have HB2 := Lib.hid (HB1.out.trans (h2.mono HB1.out.size))
  have HT2 := Lib.hid (HT1.out.below h2)
  have R2 := Lib.hid (R1.out.below h2 R1.out.lt)
  have r2 := R2.out.cell
  clear h2 C1 hr1 h1
  cases z with
  | false =>
    clear HT1 HT2
    go_wp2_with fail
    (first | go_ret | go_ret2)
    exact ⟨by rw [HTS.out]; rfl, HB2.out⟩
  | true =>
    have b3 := bel1 w2 (.cells #[.pointer none, .slice none 0 0] 74)
    have W3 := heap_alloc_new w2 (.cells #[.pointer none, .slice none 0 0] 74)
    obtain ⟨w3, h3⟩ : ∃ w3, w3 = w2.alloc (.cells #[.pointer none, .slice none 0 0] 74) := ⟨_, rfl⟩
    have s3 : w2.heap.size ≤ w3.heap.size := by rw [h3]; simp
    rw [← h3] at b3 W3
    have HP : Hid (Prn w2.heap.size w2.heap.size [] w3) := .inl ⟨Nat.le_refl _, .slice none 0 0, W3, World.ownsRow_nil _ _ _ _, by simp [Value.ownBlock]⟩
    have HT3 : Hid (VI w3 (fun g => g < w2.heap.size) (.mk k ns ps) An cn A c) := HT2.out.keep b3.size fun g _ hl => ⟨b3.block g hl, hl⟩
    have R3 := Lib.hid (R2.out.below b3 R2.out.lt)
    have hlt := R2.out.lt
    have hne : w.heap.size ≠ w2.heap.size := by have := R2.out.lt; omega
    have C3 := Lib.hid (told_any (.mk k ns ps) ⟨HZ.out.symm, HTX.out.2.2.1, HTX.out.2.2.2, HTX.out.1⟩ w2.heap.size w2.heap.size [] w3 An cn A c HP.out s3 HT3.out (by simpa using HTX.out.2.1) ((HTB.out.step HB2.out).on b3))
    have HB3 := Lib.hid (HB2.out.trans (b3.mono HB2.out.size))
    have r3 := R3.out.cell
    try simp only [vv, hd_mk, names_mk, parts_mk] at C3
    clear b3 W3 HT1 HT2 HT3 r3
    go_wp2_with fail
    rw [← h3]
    refine C3.out.mono ?_
    rintro e w4 ⟨rfl, hp4, hb4, ho4⟩
    have hp5 : Prn w2.heap.size w2.heap.size (Lib.byteCells (Vl.mk k ns ps).text) w4 := by simpa using hp4
    have C4 := Lib.hid (string_w w2.heap.size w2.heap.size _ w4 hp5 (Nat.le_trans s3 hb4.size))
    have HB4 := Lib.hid (HB3.out.trans (hb4.mono (Nat.le_trans HB2.out.size (Nat.le_refl _))))
    have HBS := Lib.hid HB2.out.size
    clear hp4 hp5 hb4 ho4 C3 r2 h3
    go_wp2_with fail
    refine C4.out.mono ?_
    rintro e w5 ⟨rfl, h5⟩
    have HB5 := Lib.hid (HB4.out.trans (h5.mono HBS.out))
    clear h5 C4
    go_wp2_with fail
    (first | go_ret | go_ret2)
    exact ⟨by rw [HTS.out]; rfl, HB5.out⟩
end Vm
end Go.Proofs.YtbjlhdjcdinmhaaDoor
