import Derived.Test.YtiabkkdeonepgaaGreatDoorXC
import Derived.Deep.LoopGhost
import Derived.Deep.CutRange
import Derived.Deep.OwnRows
import Derived.Laws.AppendOwn
import Derived.Maps.OwnSet
import Derived.Deep.AppendLies
namespace Go.Proofs.YtiabkkdeonepgaaGreatDoor
namespace Ps
structure Hd where
  kind : Nat
  fro : Nat
  til : Nat
  word : ByteArray
  at_ : Nat
inductive Fo where
  | nil
  | cons (h : Hd) (kids rest : Fo)
def Fo.len : Fo → Nat
  | .nil => 0
  | .cons _ _ r => r.len + 1
def Fo.app : Fo → Fo → Fo
  | .nil, g => g
  | .cons h k r, g => .cons h k (r.app g)
theorem Fo.app_nil : ∀ a : Fo, a.app .nil = a
  | .nil => rfl
  | .cons h k r => by rw [Fo.app, Fo.app_nil r]
theorem Fo.app_assoc : ∀ a b c : Fo, (a.app b).app c = a.app (b.app c)
  | .nil, _, _ => rfl
  | .cons h k r, b, c => by rw [Fo.app, Fo.app, Fo.app, Fo.app_assoc r]
theorem Fo.len_app : ∀ a b : Fo, (a.app b).len = a.len + b.len
  | .nil, b => by simp [Fo.app, Fo.len]
  | .cons h k r, b => by rw [Fo.app, Fo.len, Fo.len, Fo.len_app r]; omega
def Fo.one (h : Hd) (k : Fo) : Fo := .cons h k .nil
def e0 : ByteArray := ⟨#[]⟩
def Fo.zero : Fo := .one ⟨0, 0, 0, e0, 0⟩ .nil
def Fo.from_ : Fo → Nat
  | .nil => 0
  | .cons h _ _ => h.fro
section
variable (l : List Tok)
def isM (at_ : Nat) (x : List UInt8) : Bool :=
  match l[at_]? with
  | none => false
  | some t => (t.kind == 2 || t.kind == 5) && (t.text.data.toList == x)
def kindAt (at_ : Nat) : Nat := ((l[at_]?).map Tok.kind).getD 0
def textAt (at_ : Nat) : ByteArray := ((l[at_]?).map Tok.text).getD e0
def wantM (b : Int) (at_ : Nat) (x : List UInt8) : Nat × Int := if 0 ≤ b then (at_, b) else if isM l at_ x = true then (at_ + 1, b) else (at_, (at_ : Int))
def wordM (b : Int) (h : Hd) (at_ : Nat) : Hd × Nat × Int := if 0 ≤ b then (h, at_, b) else if kindAt l at_ = 1 then ({ h with word := textAt l at_, at_ := at_ }, at_ + 1, b) else (h, at_, (at_ : Int))
abbrev Res := Option (Fo × Nat × Int)
def Res.pre (k : Fo) (r : Res) : Res := r.map fun x => (k.app x.1, x.2)
inductive TT where
  | kind
  | recL (first : Bool)
  | fnL (first : Bool)
def kInt : List UInt8 := [105, 110, 116]
def kStr : List UInt8 := [115, 116, 114]
def kDyn : List UInt8 := [100, 121, 110]
def kFn : List UInt8 := [102, 110]
def kUse : List UInt8 := [117, 115, 101]
def kDef : List UInt8 := [100, 101, 102]
def kIf : List UInt8 := [105, 102]
def kElse : List UInt8 := [101, 108, 115, 101]
def kWhile : List UInt8 := [119, 104, 105, 108, 101]
def kLet : List UInt8 := [108, 101, 116]
def kPrint : List UInt8 := [112, 114, 105, 110, 116]
def kReturn : List UInt8 := [114, 101, 116, 117, 114, 110]
def kInput : List UInt8 := [105, 110, 112, 117, 116]
def sOpen : List UInt8 := [123]
def sShut : List UInt8 := [125]
def sParO : List UInt8 := [40]
def sParS : List UInt8 := [41]
def sCol : List UInt8 := [58]
def sCom : List UInt8 := [44]
def sSem : List UInt8 := [59]
def sDot : List UInt8 := [46]
def sEq : List UInt8 := [61]
def sEqEq : List UInt8 := [61, 61]
def sLess : List UInt8 := [60]
def sPlus : List UInt8 := [43]
def sMinus : List UInt8 := [45]
def sStar : List UInt8 := [42]
def tyM : Nat → TT → Int → Nat → Res
  | 0, _, _, _ => none
  | f + 1, .kind, b, at_ =>
    if 0 ≤ b then some (.zero, at_, b)
    else if isM l at_ kInt = true then some (.one ⟨29, at_, at_ + 1, e0, 0⟩ .nil, at_ + 1, b)
    else if isM l at_ kStr = true then some (.one ⟨30, at_, at_ + 1, e0, 0⟩ .nil, at_ + 1, b)
    else if isM l at_ kDyn = true then some (.one ⟨31, at_, at_ + 1, e0, 0⟩ .nil, at_ + 1, b)
    else if isM l at_ sOpen = true then
      (tyM f (.recL true) b (at_ + 1)).bind fun x =>
        let y := wantM l x.2.2 x.2.1 sShut
        some (.one ⟨32, at_, y.1, e0, 0⟩ x.1, y.1, y.2)
    else
      let y1 := wantM l b at_ kFn
      let y2 := wantM l y1.2 y1.1 sParO
      (tyM f (.fnL true) y2.2 y2.1).bind fun x =>
        let y3 := wantM l x.2.2 x.2.1 sParS
        let y4 := wantM l y3.2 y3.1 sCol
        (tyM f .kind y4.2 y4.1).bind fun t =>
          some (.one ⟨34, at_, t.2.1, e0, 0⟩ (x.1.app t.1), t.2.1, t.2.2)
  | f + 1, .recL first, b, at_ =>
    if b < 0 ∧ ¬ (first = true ∧ isM l at_ sShut = true) then
      let x := wordM l b ⟨33, at_, 0, e0, 0⟩ at_
      let y := wantM l x.2.2 x.2.1 sCol
      (tyM f .kind y.2 y.1).bind fun t =>
        let n : Fo := .one { x.1 with til := t.2.1 } t.1
        if 0 ≤ t.2.2 ∨ isM l t.2.1 sShut = true then some (n, t.2.1, t.2.2)
        else
          let y2 := wantM l t.2.2 t.2.1 sCom
          (tyM f (.recL false) y2.2 y2.1).pre n
    else some (.nil, at_, b)
  | f + 1, .fnL first, b, at_ =>
    if b < 0 ∧ ¬ (first = true ∧ isM l at_ sParS = true) then
      (tyM f .kind b at_).bind fun t =>
        if 0 ≤ t.2.2 ∨ isM l t.2.1 sParS = true then some (t.1, t.2.1, t.2.2)
        else
          let y2 := wantM l t.2.2 t.2.1 sCom
          (tyM f (.fnL false) y2.2 y2.1).pre t.1
    else some (.nil, at_, b)
def typedM (f : Nat) (b : Int) (at_ : Nat) : Res := if 0 ≤ b ∨ ¬ isM l at_ sCol = true then some (.zero, at_, b) else tyM l f .kind b (at_ + 1)
def parL : Nat → Bool → Int → Nat → Res
  | 0, _, _, _ => none
  | f + 1, first, b, at_ =>
    if b < 0 ∧ ¬ (first = true ∧ isM l at_ sParS = true) then
      let x := wordM l b ⟨5, at_, 0, e0, 0⟩ at_
      (typedM l f x.2.2 x.2.1).bind fun t =>
        let n : Fo := .one { x.1 with til := t.2.1 } t.1
        if 0 ≤ t.2.2 ∨ isM l t.2.1 sParS = true then some (n, t.2.1, t.2.2)
        else
          let y2 := wantM l t.2.2 t.2.1 sCom
          (parL f false y2.2 y2.1).pre n
    else some (.nil, at_, b)
def paramsM (f : Nat) (b : Int) (at_ : Nat) : Res :=
  let y := wantM l b at_ sParO
  (parL l f true y.2 y.1).bind fun x =>
    let y2 := wantM l x.2.2 x.2.1 sParS
    some (.one ⟨4, at_, y2.1, e0, 0⟩ x.1, y2.1, y2.2)
inductive XT where
  | lambda
  | block
  | stmts
  | stmt
  | expr
  | sum
  | sumL (a : Fo)
  | term
  | termL (a : Fo)
  | post
  | postL (a : Fo)
  | args (first : Bool)
  | atom
  | entries (first : Bool)
def exM : Nat → XT → Int → Nat → Res
  | 0, _, _, _ => none
  | f + 1, .lambda, b, at_ =>
    (paramsM l f b at_).bind fun p =>
      (typedM l f p.2.2 p.2.1).bind fun t =>
        (exM f .block t.2.2 t.2.1).bind fun k =>
          some (p.1.app (t.1.app k.1), k.2.1, k.2.2)
  | f + 1, .block, b, at_ =>
    let y := wantM l b at_ sOpen
    (exM f .stmts y.2 y.1).bind fun x =>
      let y2 := wantM l x.2.2 x.2.1 sShut
      some (.one ⟨6, at_, y2.1, e0, 0⟩ x.1, y2.1, y2.2)
  | f + 1, .stmts, b, at_ =>
    if b < 0 ∧ ¬ isM l at_ sShut = true then
      (exM f .stmt b at_).bind fun x => (exM f .stmts x.2.2 x.2.1).pre x.1
    else some (.nil, at_, b)
  | f + 1, .stmt, b, at_ =>
    if isM l at_ kIf = true then
      (exM f .expr b (at_ + 1)).bind fun c =>
        (exM f .block c.2.2 c.2.1).bind fun k =>
          if k.2.2 < 0 ∧ isM l k.2.1 kElse = true then
            (exM f .block k.2.2 (k.2.1 + 1)).bind fun o =>
              some (.one ⟨9, at_, o.2.1, e0, 0⟩ (c.1.app (k.1.app o.1)), o.2.1, o.2.2)
          else some (.one ⟨9, at_, k.2.1, e0, 0⟩ (c.1.app (k.1.app .zero)), k.2.1, k.2.2)
    else if isM l at_ kWhile = true then
      (exM f .expr b (at_ + 1)).bind fun c =>
        (exM f .block c.2.2 c.2.1).bind fun k =>
          some (.one ⟨10, at_, k.2.1, e0, 0⟩ (c.1.app k.1), k.2.1, k.2.2)
    else if isM l at_ kLet = true then
      let x := wordM l b ⟨7, at_, 0, e0, 0⟩ (at_ + 1)
      (typedM l f x.2.2 x.2.1).bind fun t =>
        let y := wantM l t.2.2 t.2.1 sEq
        (exM f .expr y.2 y.1).bind fun v =>
          let y2 := wantM l v.2.2 v.2.1 sSem
          some (.one { x.1 with til := y2.1 } (t.1.app v.1), y2.1, y2.2)
    else
      let x : Hd × Nat × Int :=
        if isM l at_ kPrint = true then (⟨11, at_, 0, e0, 0⟩, at_ + 1, b)
        else if isM l at_ kReturn = true then (⟨12, at_, 0, e0, 0⟩, at_ + 1, b)
        else if kindAt l at_ = 1 ∧ isM l (at_ + 1) sEq = true then (let z := wordM l b ⟨8, at_, 0, e0, 0⟩ at_; (z.1, z.2.1 + 1, z.2.2))
        else (⟨13, at_, 0, e0, 0⟩, at_, b)
      (exM f .expr x.2.2 x.2.1).bind fun v =>
        let y2 := wantM l v.2.2 v.2.1 sSem
        some (.one { x.1 with til := y2.1 } v.1, y2.1, y2.2)
  | f + 1, .expr, b, at_ =>
    (exM f .sum b at_).bind fun a =>
      if 0 ≤ a.2.2 ∨ (¬ isM l a.2.1 sLess = true ∧ ¬ isM l a.2.1 sEqEq = true) then some a
      else (exM f .sum a.2.2 (a.2.1 + 1)).bind fun c =>
        some (.one ⟨if isM l a.2.1 sEqEq = true then 15 else 14, a.1.from_, c.2.1, e0, 0⟩ (a.1.app c.1), c.2.1, c.2.2)
  | f + 1, .sum, b, at_ => (exM f .term b at_).bind fun a => exM f (.sumL a.1) a.2.2 a.2.1
  | f + 1, .sumL a, b, at_ =>
    if b < 0 ∧ (isM l at_ sPlus = true ∨ isM l at_ sMinus = true) then
      (exM f .term b (at_ + 1)).bind fun c =>
        exM f (.sumL (.one ⟨if isM l at_ sMinus = true then 17 else 16, a.from_, c.2.1, e0, 0⟩ (a.app c.1))) c.2.2 c.2.1
    else some (a, at_, b)
  | f + 1, .term, b, at_ => (exM f .post b at_).bind fun a => exM f (.termL a.1) a.2.2 a.2.1
  | f + 1, .termL a, b, at_ =>
    if b < 0 ∧ isM l at_ sStar = true then
      (exM f .post b (at_ + 1)).bind fun c =>
        exM f (.termL (.one ⟨18, a.from_, c.2.1, e0, 0⟩ (a.app c.1))) c.2.2 c.2.1
    else some (a, at_, b)
  | f + 1, .post, b, at_ => (exM f .atom b at_).bind fun a => exM f (.postL a.1) a.2.2 a.2.1
  | f + 1, .postL a, b, at_ =>
    if b < 0 ∧ (isM l at_ sDot = true ∨ isM l at_ sParO = true) then
      if isM l at_ sDot = true then
        let x := wordM l b ⟨19, a.from_, 0, e0, 0⟩ (at_ + 1)
        exM f (.postL (.one { x.1 with til := x.2.1 } a)) x.2.2 x.2.1
      else
        (exM f (.args true) b (at_ + 1)).bind fun k =>
          let y := wantM l k.2.2 k.2.1 sParS
          exM f (.postL (.one ⟨20, a.from_, y.1, e0, 0⟩ (a.app k.1))) y.2 y.1
    else some (a, at_, b)
  | f + 1, .args first, b, at_ =>
    if b < 0 ∧ ¬ (first = true ∧ isM l at_ sParS = true) then
      (exM f .expr b at_).bind fun t =>
        if 0 ≤ t.2.2 ∨ isM l t.2.1 sParS = true then some (t.1, t.2.1, t.2.2)
        else
          let y2 := wantM l t.2.2 t.2.1 sCom
          (exM f (.args false) y2.2 y2.1).pre t.1
    else some (.nil, at_, b)
  | f + 1, .atom, b, at_ =>
    if 0 ≤ b then some (.zero, at_, b)
    else if kindAt l at_ = 3 then some (.one ⟨21, at_, at_ + 1, textAt l at_, at_⟩ .nil, at_ + 1, b)
    else if kindAt l at_ = 4 then some (.one ⟨22, at_, at_ + 1, textAt l at_, at_⟩ .nil, at_ + 1, b)
    else if kindAt l at_ = 1 then some (.one ⟨23, at_, at_ + 1, textAt l at_, at_⟩ .nil, at_ + 1, b)
    else if isM l at_ kInput = true then some (.one ⟨24, at_, at_ + 1, e0, 0⟩ .nil, at_ + 1, b)
    else if isM l at_ sParO = true then
      (exM f .expr b (at_ + 1)).bind fun x =>
        let y := wantM l x.2.2 x.2.1 sParS
        some (.one ⟨25, at_, y.1, e0, 0⟩ x.1, y.1, y.2)
    else if isM l at_ sOpen = true then
      (exM f (.entries true) b (at_ + 1)).bind fun x =>
        let y := wantM l x.2.2 x.2.1 sShut
        some (.one ⟨26, at_, y.1, e0, 0⟩ x.1, y.1, y.2)
    else
      let y := wantM l b at_ kFn
      (exM f .lambda y.2 y.1).bind fun k =>
        some (.one ⟨28, at_, k.2.1, e0, 0⟩ k.1, k.2.1, k.2.2)
  | f + 1, .entries first, b, at_ =>
    if b < 0 ∧ ¬ (first = true ∧ isM l at_ sShut = true) then
      let x := wordM l b ⟨27, at_, 0, e0, 0⟩ at_
      let y := wantM l x.2.2 x.2.1 sCol
      (exM f .expr y.2 y.1).bind fun t =>
        let n : Fo := .one { x.1 with til := t.2.1 } t.1
        if 0 ≤ t.2.2 ∨ isM l t.2.1 sShut = true then some (n, t.2.1, t.2.2)
        else
          let y2 := wantM l t.2.2 t.2.1 sCom
          (exM f (.entries false) y2.2 y2.1).pre n
    else some (.nil, at_, b)
def useM (b : Int) (at_ : Nat) : Fo × Nat × Int :=
  let x := wordM l b ⟨23, at_ + 1, 0, e0, 0⟩ (at_ + 1)
  let y := wantM l x.2.2 x.2.1 sDot
  let z := wordM l y.2 ⟨2, at_, 0, e0, 0⟩ y.1
  let y2 := wantM l z.2.2 z.2.1 sSem
  (.one { z.1 with til := y2.1 } (.one { x.1 with til := x.2.1 } .nil), y2.1, y2.2)
def defM (f : Nat) (b : Int) (at_ : Nat) : Res :=
  let y := wantM l b at_ kDef
  let x := wordM l y.2 ⟨3, at_, 0, e0, 0⟩ y.1
  (exM l f .lambda x.2.2 x.2.1).bind fun k =>
    some (.one { x.1 with til := k.2.1 } k.1, k.2.1, k.2.2)
def itemsM : Nat → Int → Nat → Res
  | 0, _, _ => none
  | f + 1, b, at_ =>
    if b < 0 ∧ kindAt l at_ ≠ 0 then
      if isM l at_ kUse = true then (itemsM f (useM l b at_).2.2 (useM l b at_).2.1).pre (useM l b at_).1
      else (defM l f b at_).bind fun x => (itemsM f x.2.2 x.2.1).pre x.1
    else some (.nil, at_, b)
end
end Ps
end Go.Proofs.YtiabkkdeonepgaaGreatDoor
namespace Go.Proofs.YtiabkkdeonepgaaGreatDoor
open Go.RowKit
structure Fr (rb B : Nat) (w w' : World) : Prop where
  os : w'.os = w.os
  tape : w'.tape = w.tape
  output : w'.output = w.output
  size : w.heap.size ≤ w'.heap.size
  block : ∀ k, k < B → k ≠ rb → w'.heap[k]? = w.heap[k]?
theorem Fr.refl (rb B : Nat) (w : World) : Fr rb B w w := ⟨rfl, rfl, rfl, Nat.le_refl _, fun _ _ _ => rfl⟩
theorem Fr.trans {rb B : Nat} {a b c : World} (h : Fr rb B a b) (k : Fr rb B b c) : Fr rb B a c :=
  ⟨k.os.trans h.os, k.tape.trans h.tape, k.output.trans h.output, Nat.le_trans h.size k.size, fun i hi hr => (k.block i hi hr).trans (h.block i hi hr)⟩
theorem Fr.mono {rb B B' : Nat} {w w' : World} (h : Fr rb B w w') (hB : B' ≤ B) : Fr rb B' w w' := ⟨h.os, h.tape, h.output, h.size, fun k hk hr => h.block k (by omega) hr⟩
theorem Fr.of {rb B : Nat} {w w' : World} (h : Below B w w') : Fr rb B w w' := ⟨h.os, h.tape, h.output, h.size, fun k hk _ => h.block k hk⟩
theorem Fr.below {rb B B' : Nat} {w w' : World} (h : Fr rb B w w') (h1 : B' ≤ B) (h2 : B' ≤ rb) : Below B' w w' := ⟨h.os, h.tape, h.output, h.size, fun k hk => h.block k (by omega) (by omega)⟩
theorem Fr.alloc {rb B : Nat} {a w : World} (h : Fr rb B a w) (hB : B ≤ w.heap.size) (o : Obj) : Fr rb B a (w.alloc o) := h.trans (.of ((Below.refl _ _).alloc hB o))
theorem Fr.setCell {rb B : Nat} {a w : World} (h : Fr rb B a w) {p : Addr} (hp : B ≤ p.block) (u : Value) : Fr rb B a (w.setCell p u) := h.trans (.of ((Below.refl _ _).setCell hp u))
theorem Fr.put {rb B : Nat} {a w : World} (h : Fr rb B a w) (i : Nat) (u : Value) : Fr rb B a (w.setCell ⟨rb, i, none⟩ u) :=
  h.trans ⟨rfl, rfl, rfl, by simp [World.setCell], fun k _ hr => Below.heap_setCell _ _ _ _ hr⟩
theorem Fr.grown {rb B : Nat} {a w w' : World} {row : Option Nat} (h : Fr rb B a w) (hg : w.grownBy w' row) (hB : B ≤ w.heap.size) (hr : ∀ k, row = some k → B ≤ k) : Fr rb B a w' := h.trans (.of ((Below.refl _ _).grown hg hB hr))
theorem Fr.step {rb : Nat} {w w1 w2 : World} (h : Fr rb w.heap.size w w1) (h' : Fr rb w1.heap.size w1 w2) : Fr rb w.heap.size w w2 := h.trans (h'.mono h.size)
theorem Fr.cell {rb B : Nat} {w w' : World} (h : Fr rb B w w') {p : Addr} (hp : p.block < B) (hr : p.block ≠ rb) : w'.cell? p = w.cell? p := World.cell?_of_block (w := w) (h.block p.block hp hr)
theorem Fr.row {rb B g t : Nat} {w w' : World} {cs : Array Value} (h : Fr rb B w w') (hr : RowB w g t cs) (hg : g < B) (hn : g ≠ rb) : RowB w' g t cs := (h.block g hg hn).trans hr
theorem Fr.own {rb : Nat} {w w' : World} {base e size n : Nat} {v : Value} {xs : List Value} (hb : Fr rb w.heap.size w w') (h : w.ownsRow base e size v n xs) (hr : rb < base) : w'.ownsRow base e size v n xs := by
  have hlt := h.lt
  refine ⟨h.1, ?_⟩
  rcases h.2 with ⟨hv, hn⟩ | ⟨g, cap, cur, rfl, h1, h2, h3⟩
  · exact .inl ⟨hv, hn⟩
  · have := hlt g rfl
    exact .inr ⟨g, cap, cur, rfl, h1, (hb.block g this.2 (by omega)).trans h2, h3⟩
theorem bel1 (w : World) (o1 : Obj) : Below w.heap.size w (w.alloc o1) := (Below.refl _ _).alloc (Nat.le_refl _) _
namespace Ps
def FC (w : World) (P : Nat → Prop) : Fo → List Value → Prop
  | .nil, cs => cs = []
  | .cons h k r, cs => ∃ A cap cs', cs = [.int .i64 h.kind, .int .i64 h.fro, .int .i64 h.til, .string h.word, .int .i64 h.at_, .slice A k.len cap] ++ cs' ∧ k.len ≤ cap ∧
      (0 < k.len → ∃ (g o : Nat) (ck : List Value), A = some ⟨g, o, none⟩ ∧ P g ∧ g < w.heap.size ∧ (∀ j u, ck[j]? = some u → w.cell? ⟨g, o + j, none⟩ = some u) ∧ FC w P k ck) ∧ FC w P r cs'
def KV (w : World) (P : Nat → Prop) (k : Fo) (A : Option Addr) (cap : Nat) : Prop :=
  k.len ≤ cap ∧ (0 < k.len → ∃ (g o : Nat) (ck : List Value), A = some ⟨g, o, none⟩ ∧ P g ∧ g < w.heap.size ∧ (∀ j u, ck[j]? = some u → w.cell? ⟨g, o + j, none⟩ = some u) ∧ FC w P k ck)
theorem FC.cons {w : World} {P : Nat → Prop} {h : Hd} {k r : Fo} {A : Option Addr} {cap : Nat} {cs : List Value} (hk : KV w P k A cap) (hr : FC w P r cs) :
    FC w P (.cons h k r) ([.int .i64 h.kind, .int .i64 h.fro, .int .i64 h.til, .string h.word, .int .i64 h.at_, .slice A k.len cap] ++ cs) := by
  rw [FC]
  exact ⟨A, cap, cs, rfl, hk.1, hk.2, hr⟩
theorem FC.one {w : World} {P : Nat → Prop} {h : Hd} {k : Fo} {A : Option Addr} {cap : Nat} (hk : KV w P k A cap) :
    FC w P (.one h k) [.int .i64 h.kind, .int .i64 h.fro, .int .i64 h.til, .string h.word, .int .i64 h.at_, .slice A k.len cap] := by
  have := FC.cons (h := h) (r := .nil) (cs := []) hk (by rw [FC])
  exact this
theorem FC.keep {w w' : World} {P Q : Nat → Prop} (hs : w.heap.size ≤ w'.heap.size) (hb : ∀ g, P g → g < w.heap.size → w'.heap[g]? = w.heap[g]? ∧ Q g) : ∀ (f : Fo) (cs : List Value), FC w P f cs → FC w' Q f cs
  | .nil, cs, h => by rw [FC] at h ⊢; exact h
  | .cons hd k r, cs, h => by
    rw [FC] at h ⊢
    obtain ⟨A, cap, cs', e, hc, hk, hr⟩ := h
    refine ⟨A, cap, cs', e, hc, fun h0 => ?_, FC.keep hs hb r cs' hr⟩
    obtain ⟨g, o, ck, e1, h1, h2, h3, h4⟩ := hk h0
    obtain ⟨b1, b2⟩ := hb g h1 h2
    exact ⟨g, o, ck, e1, b2, Nat.lt_of_lt_of_le h2 hs, fun j u hu => (World.cell?_of_block (w := w) b1).trans (h3 j u hu), FC.keep hs hb k ck h4⟩
theorem KV.keep {w w' : World} {P Q : Nat → Prop} (hs : w.heap.size ≤ w'.heap.size) (hb : ∀ g, P g → g < w.heap.size → w'.heap[g]? = w.heap[g]? ∧ Q g) {k : Fo} {A : Option Addr} {cap : Nat} (h : KV w P k A cap) : KV w' Q k A cap := by
  refine ⟨h.1, fun h0 => ?_⟩
  obtain ⟨g, o, ck, e1, h1, h2, h3, h4⟩ := h.2 h0
  obtain ⟨b1, b2⟩ := hb g h1 h2
  exact ⟨g, o, ck, e1, b2, Nat.lt_of_lt_of_le h2 hs, fun j u hu => (World.cell?_of_block (w := w) b1).trans (h3 j u hu), FC.keep hs hb k ck h4⟩
theorem FC.app {w : World} {P : Nat → Prop} : ∀ (a : Fo) (ca : List Value) {b : Fo} {cb : List Value}, FC w P a ca → FC w P b cb → FC w P (a.app b) (ca ++ cb)
  | .nil, ca, b, cb, h, h' => by rw [FC] at h; subst h; exact h'
  | .cons hd k r, ca, b, cb, h, h' => by
    rw [FC] at h
    obtain ⟨A, cap, cs', e, hc, hk, hr⟩ := h
    rw [Fo.app, FC]
    exact ⟨A, cap, cs' ++ cb, by rw [e, List.append_assoc], hc, hk, FC.app r cs' hr h'⟩
theorem FC.len {w : World} {P : Nat → Prop} : ∀ (a : Fo) (ca : List Value), FC w P a ca → ca.length = a.len * 6
  | .nil, ca, h => by rw [FC] at h; subst h; rfl
  | .cons hd k r, ca, h => by
    rw [FC] at h
    obtain ⟨A, cap, cs', e, hc, hk, hr⟩ := h
    have := FC.len r cs' hr
    rw [e, Fo.len, List.length_append, this]
    simp
    omega
theorem FC.cell1 {w : World} {P : Nat → Prop} : ∀ (a : Fo) (ca : List Value), FC w P a ca → ∀ u ∈ ca, u.oneCell' = true
  | .nil, ca, h => by rw [FC] at h; subst h; simp
  | .cons hd k r, ca, h => by
    rw [FC] at h
    obtain ⟨A, cap, cs', e, hc, hk, hr⟩ := h
    have := FC.cell1 r cs' hr
    rw [e]
    intro u hu
    rcases List.mem_append.1 hu with h | h
    · simp at h
      rcases h with rfl | rfl | rfl | rfl | rfl | rfl <;> rfl
    · exact this u h
theorem KV.nil (w : World) (P : Nat → Prop) (A : Option Addr) (cap : Nat) : KV w P .nil A cap := ⟨Nat.zero_le _, fun h => by simp [Fo.len] at h⟩
theorem KV.of_own {w : World} {base n cap : Nat} {P Q : Nat → Prop} {A : Option Addr} {k : Fo} {cs : List Value} (h : w.ownsRow base 25 6 (.slice A n cap) n cs) (hn : n = k.len) (hf : FC w P k cs) (hP : ∀ g, P g → Q g) (hb : ∀ g, base ≤ g → (Value.slice A n cap).ownBlock = some g → Q g) (hc : n ≤ cap) : KV w Q k A cap := by
  subst hn
  refine ⟨hc, fun h0 => ?_⟩
  have hlt := h.lt
  rcases h.2 with ⟨hv, hx⟩ | ⟨g, cap', cur, hv, h1, h2, h3⟩
  · omega
  · injection hv with e1 _ _
    subst e1
    have := (hlt g rfl)
    refine ⟨g, 0, cs, rfl, hb g this.1 rfl, this.2, fun j u hu => ?_, FC.keep (Nat.le_refl _) (fun g hg _ => ⟨rfl, hP g hg⟩) k cs hf⟩
    have := h.cells (g := g) rfl j u hu
    simp only [Addr.add] at this
    by_cases hj : j = 0 <;> simpa [hj] using this
theorem KV.new {w : World} {g : Nat} {P : Nat → Prop} {k : Fo} {cs : Array Value} (h : RowB w g 25 cs) (hf : FC w P k cs.toList) (hb : P g) : KV w P k (some ⟨g, 0, none⟩) k.len :=
  ⟨Nat.le_refl _, fun _ => ⟨g, 0, cs.toList, rfl, hb, h.lt, fun j u hu => by rw [Nat.zero_add, h.cell j]; simpa using hu, hf⟩⟩
structure Cx where
  rb : Nat
  A : Option Addr
  l : List Tok
  c : Nat
abbrev Cx.p (X : Cx) : Value := .pointer (some ⟨X.rb, 0, none⟩)
structure Wf (l : List Tok) : Prop where
  pos : 0 < l.length
  next : ∀ i (h : i < l.length), l[i].kind ≠ 0 → i + 1 < l.length
  le : l.length ≤ 4000
structure St (X : Cx) (w : World) (b : Int) : Prop where
  row : RowB w X.rb 62 #[.slice X.A X.l.length X.c, .int .i64 b]
  toks : ∃ g, X.A = some ⟨g, 0, none⟩ ∧ g < X.rb ∧ ∀ i (h : i < X.l.length),
    w.cell? ⟨g, i * 4, none⟩ = some (.int .i64 X.l[i].kind) ∧ w.cell? ⟨g, i * 4 + 1, none⟩ = some (.int .i64 X.l[i].at_) ∧ w.cell? ⟨g, i * 4 + 2, none⟩ = some (.string X.l[i].lead) ∧ w.cell? ⟨g, i * 4 + 3, none⟩ = some (.string X.l[i].text)
  wf : Wf X.l
  cap : X.l.length ≤ X.c
  bl : b < X.l.length
theorem St.below {X : Cx} {w w' : World} {b : Int} (h : St X w b) (hb : Below w.heap.size w w') : St X w' b := by
  have hl := h.row.lt
  refine ⟨h.row.below hb hl, ?_, h.wf, h.cap, h.bl⟩
  obtain ⟨g, e, hg, hc⟩ := h.toks
  refine ⟨g, e, hg, fun i hi => ?_⟩
  obtain ⟨c0, c1, c2, c3⟩ := hc i hi
  have hg' : g < w.heap.size := by omega
  exact ⟨(hb.cell (p := ⟨g, i * 4, none⟩) hg').trans c0, (hb.cell (p := ⟨g, i * 4 + 1, none⟩) hg').trans c1, (hb.cell (p := ⟨g, i * 4 + 2, none⟩) hg').trans c2, (hb.cell (p := ⟨g, i * 4 + 3, none⟩) hg').trans c3⟩
theorem St.alloc {X : Cx} {w : World} {b : Int} (h : St X w b) (o : Obj) : St X (w.alloc o) b := h.below ((Below.refl _ _).alloc (Nat.le_refl _) o)
theorem St.far {X : Cx} {w : World} {b : Int} (h : St X w b) {p : Addr} (hp : X.rb < p.block) (u : Value) : St X (w.setCell p u) b := by
  refine ⟨h.row.far (by omega) u, ?_, h.wf, h.cap, h.bl⟩
  obtain ⟨g, e, hg, hc⟩ := h.toks
  refine ⟨g, e, hg, fun i hi => ?_⟩
  obtain ⟨c0, c1, c2, c3⟩ := hc i hi
  have hb : Below (X.rb + 1) w (w.setCell p u) := (Below.refl _ _).setCell hp u
  have hg' : g < X.rb + 1 := by omega
  exact ⟨(hb.cell (p := ⟨g, i * 4, none⟩) hg').trans c0, (hb.cell (p := ⟨g, i * 4 + 1, none⟩) hg').trans c1, (hb.cell (p := ⟨g, i * 4 + 2, none⟩) hg').trans c2, (hb.cell (p := ⟨g, i * 4 + 3, none⟩) hg').trans c3⟩
theorem St.grown {X : Cx} {w w' : World} {b : Int} {row : Option Nat} (h : St X w b) (hg : w.grownBy w' row) (hr : ∀ k, row = some k → X.rb < k) : St X w' b := by
  have hl := h.row.lt
  have hb : Below (X.rb + 1) w w' := (Below.refl _ _).grown hg (by omega) (fun k hk => hr k hk)
  refine ⟨h.row.below hb (by omega), ?_, h.wf, h.cap, h.bl⟩
  obtain ⟨g, e, hg, hc⟩ := h.toks
  refine ⟨g, e, hg, fun i hi => ?_⟩
  obtain ⟨c0, c1, c2, c3⟩ := hc i hi
  have hg' : g < X.rb + 1 := by omega
  exact ⟨(hb.cell (p := ⟨g, i * 4, none⟩) hg').trans c0, (hb.cell (p := ⟨g, i * 4 + 1, none⟩) hg').trans c1, (hb.cell (p := ⟨g, i * 4 + 2, none⟩) hg').trans c2, (hb.cell (p := ⟨g, i * 4 + 3, none⟩) hg').trans c3⟩
theorem St.stop {X : Cx} {w : World} {b : Int} (h : St X w b) (b' : Int) (hbl : b' < X.l.length) : St X (w.setCell ⟨X.rb, 1, none⟩ (.int .i64 b')) b' := by
  have hr := h.row.put 1 (.int .i64 b')
  refine ⟨hr, ?_, h.wf, h.cap, hbl⟩
  obtain ⟨g, e, hg, hc⟩ := h.toks
  refine ⟨g, e, hg, fun i hi => ?_⟩
  obtain ⟨c0, c1, c2, c3⟩ := hc i hi
  have hb : Below X.rb w (w.setCell ⟨X.rb, 1, none⟩ (.int .i64 b')) := (Below.refl _ _).setCell (p := ⟨X.rb, 1, none⟩) (Nat.le_refl _) _
  exact ⟨(hb.cell (p := ⟨g, i * 4, none⟩) hg).trans c0, (hb.cell (p := ⟨g, i * 4 + 1, none⟩) hg).trans c1, (hb.cell (p := ⟨g, i * 4 + 2, none⟩) hg).trans c2, (hb.cell (p := ⟨g, i * 4 + 3, none⟩) hg).trans c3⟩
end Ps
end Go.Proofs.YtiabkkdeonepgaaGreatDoor
namespace Go.Proofs.YtiabkkdeonepgaaGreatDoor
open Go.RowKit
namespace Ps
theorem isM_next {l : List Tok} (h : Wf l) {i : Nat} {x : List UInt8} (hi : isM l i x = true) : i + 1 < l.length := by
  unfold isM at hi
  by_cases hl : i < l.length
  · rw [List.getElem?_eq_getElem hl] at hi
    simp only [Bool.and_eq_true, Bool.or_eq_true, beq_iff_eq] at hi
    exact h.next i hl (by omega)
  · rw [List.getElem?_eq_none (by omega)] at hi
    cases hi
theorem kindAt_next {l : List Tok} (h : Wf l) {i : Nat} (hi : kindAt l i ≠ 0) : i + 1 < l.length := by
  unfold kindAt at hi
  by_cases hl : i < l.length
  · rw [List.getElem?_eq_getElem hl] at hi
    exact h.next i hl hi
  · rw [List.getElem?_eq_none (by omega)] at hi
    exact absurd rfl hi
theorem wantM_lt {l : List Tok} (h : Wf l) {b : Int} {i : Nat} {x : List UInt8} (hi : i < l.length) : (wantM l b i x).1 < l.length := by
  unfold wantM
  split
  · exact hi
  · split
    · rename_i h1; exact isM_next h h1
    · exact hi
theorem wordM_lt {l : List Tok} (h : Wf l) {b : Int} {hd : Hd} {i : Nat} (hi : i < l.length) : (wordM l b hd i).2.1 < l.length := by
  unfold wordM
  split
  · exact hi
  · split
    · rename_i h1; exact kindAt_next h (by omega)
    · exact hi
theorem kindAt_get {l : List Tok} {i : Nat} (h : i < l.length) : kindAt l i = l[i].kind := by unfold kindAt; rw [List.getElem?_eq_getElem h]; rfl
theorem textAt_get {l : List Tok} {i : Nat} (h : i < l.length) : textAt l i = l[i].text := by unfold textAt; rw [List.getElem?_eq_getElem h]; rfl
end Ps
end Go.Proofs.YtiabkkdeonepgaaGreatDoor
namespace Go.Proofs.YtiabkkdeonepgaaGreatDoor
namespace Ps
variable {l : List Tok}
theorem wantM_bad {b : Int} {i : Nat} {x : List UInt8} (h : 0 ≤ b) : wantM l b i x = (i, b) := by unfold wantM; rw [if_pos h]
theorem wordM_bad {b : Int} {i : Nat} {hd : Hd} (h : 0 ≤ b) : wordM l b hd i = (hd, i, b) := by unfold wordM; rw [if_pos h]
theorem wantM_good {b : Int} {i : Nat} {x : List UInt8} (h : (wantM l b i x).2 < 0) : b < 0 ∧ isM l i x = true ∧ wantM l b i x = (i + 1, b) := by
  unfold wantM at h ⊢
  split at h
  · exact absurd h (by dsimp only; omega)
  · split at h
    · rename_i h1 h2
      rw [if_neg h1, if_pos h2]
      exact ⟨by omega, h2, rfl⟩
    · exact absurd h (by dsimp only; omega)
theorem wordM_good {b : Int} {i : Nat} {hd : Hd} (h : (wordM l b hd i).2.2 < 0) : b < 0 ∧ kindAt l i = 1 ∧ wordM l b hd i = ({ hd with word := textAt l i, at_ := i }, i + 1, b) := by
  unfold wordM at h ⊢
  split at h
  · exact absurd h (by dsimp only; omega)
  · split at h
    · rename_i h1 h2
      rw [if_neg h1, if_pos h2]
      exact ⟨by omega, h2, rfl⟩
    · exact absurd h (by dsimp only; omega)
theorem tyM_bad {f : Nat} {t : TT} {b : Int} {i : Nat} {r : Fo × Nat × Int} (hb : 0 ≤ b) (h : tyM l f t b i = some r) : r.2.2 = b := by
  have hb' : ¬ b < 0 := by omega
  cases f with
  | zero => rw [tyM] at h; cases h
  | succ f =>
    cases t with
    | kind => rw [tyM, if_pos hb] at h; injection h with h; rw [← h]
    | recL first => rw [tyM, if_neg (fun hh => hb' hh.1)] at h; injection h with h; rw [← h]
    | fnL first => rw [tyM, if_neg (fun hh => hb' hh.1)] at h; injection h with h; rw [← h]
theorem typedM_bad {f : Nat} {b : Int} {i : Nat} {r : Fo × Nat × Int} (hb : 0 ≤ b) (h : typedM l f b i = some r) : r.2.2 = b := by
  unfold typedM at h
  rw [if_pos (.inl hb)] at h
  injection h with h; rw [← h]
theorem parL_bad {f : Nat} {first : Bool} {b : Int} {i : Nat} {r : Fo × Nat × Int} (hb : 0 ≤ b) (h : parL l f first b i = some r) : r.2.2 = b := by
  have hb' : ¬ b < 0 := by omega
  cases f with
  | zero => rw [parL] at h; cases h
  | succ f => rw [parL, if_neg (fun hh => hb' hh.1)] at h; injection h with h; rw [← h]
theorem paramsM_bad {f : Nat} {b : Int} {i : Nat} {r : Fo × Nat × Int} (hb : 0 ≤ b) (h : paramsM l f b i = some r) : r.2.2 = b := by
  unfold paramsM at h
  dsimp only at h
  rw [wantM_bad hb] at h
  obtain ⟨x, h1, h2⟩ := Option.bind_eq_some_iff.1 h
  have h3 := parL_bad hb h1
  rw [wantM_bad (by omega)] at h2
  injection h2 with h2
  rw [← h2]; exact h3
theorem exM_bad : ∀ (f : Nat) (t : XT) (b : Int) (i : Nat) (r : Fo × Nat × Int), 0 ≤ b → exM l f t b i = some r → r.2.2 = b := by
  intro f
  induction f with
  | zero => intro t b i r _ h; rw [exM] at h; cases h
  | succ f ih =>
    intro t b i r hb h
    have hb' : ¬ b < 0 := by omega
    cases t with
    | lambda =>
      rw [exM] at h
      obtain ⟨p, h1, h⟩ := Option.bind_eq_some_iff.1 h
      obtain ⟨t, h2, h⟩ := Option.bind_eq_some_iff.1 h
      obtain ⟨k, h3, h⟩ := Option.bind_eq_some_iff.1 h
      have e1 := paramsM_bad hb h1
      have e2 := typedM_bad (by omega) h2
      have e3 := ih _ _ _ _ (by omega) h3
      injection h with h; rw [← h]; dsimp only; omega
    | block =>
      rw [exM] at h
      dsimp only at h
      rw [wantM_bad hb] at h
      obtain ⟨x, h1, h⟩ := Option.bind_eq_some_iff.1 h
      have e1 := ih _ _ _ _ hb h1
      rw [wantM_bad (by omega)] at h
      injection h with h; rw [← h]; exact e1
    | stmts => rw [exM, if_neg (fun hh => hb' hh.1)] at h; injection h with h; rw [← h]
    | stmt =>
      rw [exM] at h
      split at h
      · obtain ⟨c, h1, h⟩ := Option.bind_eq_some_iff.1 h
        obtain ⟨k, h2, h⟩ := Option.bind_eq_some_iff.1 h
        have e1 := ih _ _ _ _ hb h1
        have e2 := ih _ _ _ _ (by omega) h2
        rw [if_neg (fun hh => by have := hh.1; omega)] at h
        injection h with h; rw [← h]; dsimp only; omega
      · split at h
        · obtain ⟨c, h1, h⟩ := Option.bind_eq_some_iff.1 h
          obtain ⟨k, h2, h⟩ := Option.bind_eq_some_iff.1 h
          have e1 := ih _ _ _ _ hb h1
          have e2 := ih _ _ _ _ (by omega) h2
          injection h with h; rw [← h]; dsimp only; omega
        · split at h
          · dsimp only at h
            rw [wordM_bad hb] at h
            obtain ⟨t, h1, h⟩ := Option.bind_eq_some_iff.1 h
            have e1 := typedM_bad hb h1
            rw [wantM_bad (by omega)] at h
            obtain ⟨v, h2, h⟩ := Option.bind_eq_some_iff.1 h
            have e2 := ih _ _ _ _ (by omega) h2
            rw [wantM_bad (by omega)] at h
            injection h with h; rw [← h]; dsimp only; omega
          · dsimp only at h
            rw [wordM_bad hb] at h
            obtain ⟨v, h2, h⟩ := Option.bind_eq_some_iff.1 h
            have key : ∀ (c1 c2 c3 : Prop) [Decidable c1] [Decidable c2] [Decidable c3] (u1 u2 u3 u4 : Hd × Nat), (if c1 then (u1.1, u1.2, b) else if c2 then (u2.1, u2.2, b) else if c3 then (u3.1, u3.2, b) else (u4.1, u4.2, b)).2.2 = b := by
              intro c1 c2 c3 _ _ _ u1 u2 u3 u4
              split
              · rfl
              · split
                · rfl
                · split <;> rfl
            have k1 := key (isM l i kPrint = true) (isM l i kReturn = true) (kindAt l i = 1 ∧ isM l (i + 1) sEq = true) (⟨11, i, 0, e0, 0⟩, i + 1) (⟨12, i, 0, e0, 0⟩, i + 1) (⟨8, i, 0, e0, 0⟩, i + 1) (⟨13, i, 0, e0, 0⟩, i)
            dsimp only at k1
            have e2 := ih _ _ _ _ (by rw [k1]; exact hb) h2
            rw [k1] at e2
            rw [wantM_bad (by omega)] at h
            injection h with h; rw [← h]; dsimp only; omega
    | expr =>
      rw [exM] at h
      obtain ⟨a, h1, h⟩ := Option.bind_eq_some_iff.1 h
      have e1 := ih _ _ _ _ hb h1
      rw [if_pos (.inl (by omega))] at h
      injection h with h; rw [← h]; exact e1
    | sum =>
      rw [exM] at h
      obtain ⟨a, h1, h⟩ := Option.bind_eq_some_iff.1 h
      have e1 := ih _ _ _ _ hb h1
      have e2 := ih _ _ _ _ (by omega) h
      omega
    | sumL a => rw [exM, if_neg (fun hh => hb' hh.1)] at h; injection h with h; rw [← h]
    | term =>
      rw [exM] at h
      obtain ⟨a, h1, h⟩ := Option.bind_eq_some_iff.1 h
      have e1 := ih _ _ _ _ hb h1
      have e2 := ih _ _ _ _ (by omega) h
      omega
    | termL a => rw [exM, if_neg (fun hh => hb' hh.1)] at h; injection h with h; rw [← h]
    | post =>
      rw [exM] at h
      obtain ⟨a, h1, h⟩ := Option.bind_eq_some_iff.1 h
      have e1 := ih _ _ _ _ hb h1
      have e2 := ih _ _ _ _ (by omega) h
      omega
    | postL a => rw [exM, if_neg (fun hh => hb' hh.1)] at h; injection h with h; rw [← h]
    | args first => rw [exM, if_neg (fun hh => hb' hh.1)] at h; injection h with h; rw [← h]
    | atom => rw [exM, if_pos hb] at h; injection h with h; rw [← h]
    | entries first => rw [exM, if_neg (fun hh => hb' hh.1)] at h; injection h with h; rw [← h]
theorem exM_was {f : Nat} {t : XT} {b : Int} {i : Nat} {r : Fo × Nat × Int} (h : exM l f t b i = some r) (hr : r.2.2 < 0) : b < 0 := by
  by_cases hb : 0 ≤ b
  · have := exM_bad f t b i r hb h; omega
  · omega
def fromOf : XT → Nat → Option Nat
  | .expr, i | .sum, i | .term, i | .post, i | .atom, i => some i
  | .sumL a, _ | .termL a, _ | .postL a, _ => some a.from_
  | _, _ => none
theorem Fo.from_one (h : Hd) (k : Fo) : (Fo.one h k).from_ = h.fro := rfl
theorem exM_from : ∀ (f : Nat) (t : XT) (b : Int) (i : Nat) (r : Fo × Nat × Int) (n : Nat), fromOf t i = some n → exM l f t b i = some r → r.2.2 < 0 → r.1.from_ = n := by
  intro f
  induction f with
  | zero => intro t b i r n _ h; rw [exM] at h; cases h
  | succ f ih =>
    intro t b i r n hn h hr
    cases t with
    | expr =>
      injection hn with hn
      rw [exM] at h
      obtain ⟨a, h1, h⟩ := Option.bind_eq_some_iff.1 h
      split at h
      · injection h with h; subst h; exact ih .sum _ _ _ n (by rw [← hn]; rfl) h1 hr
      · rename_i hc
        obtain ⟨c, h2, h⟩ := Option.bind_eq_some_iff.1 h
        injection h with h
        have := ih .sum _ _ _ n (by rw [← hn]; rfl) h1 (by omega)
        rw [← h]; exact this
    | sum =>
      injection hn with hn
      rw [exM] at h
      obtain ⟨a, h1, h⟩ := Option.bind_eq_some_iff.1 h
      have h0 := exM_was h hr
      rw [ih _ _ _ _ _ rfl h hr]
      exact ih .term _ _ _ n (by rw [← hn]; rfl) h1 h0
    | term =>
      injection hn with hn
      rw [exM] at h
      obtain ⟨a, h1, h⟩ := Option.bind_eq_some_iff.1 h
      have h0 := exM_was h hr
      rw [ih _ _ _ _ _ rfl h hr]
      exact ih .post _ _ _ n (by rw [← hn]; rfl) h1 h0
    | post =>
      injection hn with hn
      rw [exM] at h
      obtain ⟨a, h1, h⟩ := Option.bind_eq_some_iff.1 h
      have h0 := exM_was h hr
      rw [ih _ _ _ _ _ rfl h hr]
      exact ih .atom _ _ _ n (by rw [← hn]; rfl) h1 h0
    | sumL a =>
      injection hn with hn
      rw [exM] at h
      split at h
      · obtain ⟨c, h1, h⟩ := Option.bind_eq_some_iff.1 h
        rw [ih _ _ _ _ _ rfl h hr, Fo.from_one]; exact hn
      · injection h with h; rw [← h]; exact hn
    | termL a =>
      injection hn with hn
      rw [exM] at h
      split at h
      · obtain ⟨c, h1, h⟩ := Option.bind_eq_some_iff.1 h
        rw [ih _ _ _ _ _ rfl h hr, Fo.from_one]; exact hn
      · injection h with h; rw [← h]; exact hn
    | postL a =>
      injection hn with hn
      rw [exM] at h
      split at h
      · split at h
        · dsimp only at h
          have h0 := exM_was h hr
          rw [ih _ _ _ _ _ rfl h hr, Fo.from_one]
          dsimp only
          rw [(wordM_good h0).2.2]
          exact hn
        · obtain ⟨k, h1, h⟩ := Option.bind_eq_some_iff.1 h
          dsimp only at h
          rw [ih _ _ _ _ _ rfl h hr, Fo.from_one]; exact hn
      · injection h with h; rw [← h]; exact hn
    | atom =>
      injection hn with hn
      rw [exM] at h
      split at h
      · injection h with h; rw [← h] at hr; exact absurd hr (by dsimp only; omega)
      · split at h
        · injection h with h; rw [← h]; exact hn
        · split at h
          · injection h with h; rw [← h]; exact hn
          · split at h
            · injection h with h; rw [← h]; exact hn
            · split at h
              · injection h with h; rw [← h]; exact hn
              · split at h
                · obtain ⟨k, h1, h⟩ := Option.bind_eq_some_iff.1 h
                  injection h with h; rw [← h]; exact hn
                · split at h
                  · obtain ⟨k, h1, h⟩ := Option.bind_eq_some_iff.1 h
                    injection h with h; rw [← h]; exact hn
                  · dsimp only at h
                    obtain ⟨k, h1, h⟩ := Option.bind_eq_some_iff.1 h
                    injection h with h; rw [← h]; exact hn
    | lambda => cases hn
    | block => cases hn
    | stmts => cases hn
    | stmt => cases hn
    | args first => cases hn
    | entries first => cases hn
abbrev RT := Nat → Int → Nat → Res
def listM (l : List Tok) (R : RT) (last : List UInt8) : Nat → Bool → Int → Nat → Res
  | 0, _, _, _ => none
  | f + 1, first, b, at_ =>
    if b < 0 ∧ ¬ (first = true ∧ isM l at_ last = true) then
      (R f b at_).bind fun t =>
        if 0 ≤ t.2.2 ∨ isM l t.2.1 last = true then some (t.1, t.2.1, t.2.2)
        else
          let y2 := wantM l t.2.2 t.2.1 sCom
          (listM l R last f false y2.2 y2.1).pre t.1
    else some (.nil, at_, b)
def labR (l : List Tok) (kd : Nat) (Q : RT) : RT := fun f b at_ =>
  let x := wordM l b ⟨kd, at_, 0, e0, 0⟩ at_
  let y := wantM l x.2.2 x.2.1 sCol
  (Q f y.2 y.1).bind fun t => some (.one { x.1 with til := t.2.1 } t.1, t.2.1, t.2.2)
def parR (l : List Tok) : RT := fun f b at_ =>
  let x := wordM l b ⟨5, at_, 0, e0, 0⟩ at_
  (typedM l f x.2.2 x.2.1).bind fun t => some (.one { x.1 with til := t.2.1 } t.1, t.2.1, t.2.2)
theorem args_list : ∀ (f : Nat) (first : Bool) (b : Int) (i : Nat), exM l f (.args first) b i = listM l (fun f => exM l f .expr) sParS f first b i
  | 0, _, _, _ => by rw [exM, listM]
  | f + 1, first, b, i => by
    rw [exM, listM]
    simp only [args_list f]
theorem entries_list : ∀ (f : Nat) (first : Bool) (b : Int) (i : Nat), exM l f (.entries first) b i = listM l (labR l 27 (fun f => exM l f .expr)) sShut f first b i
  | 0, _, _, _ => by rw [exM, listM]
  | f + 1, first, b, i => by
    rw [exM, listM]
    simp only [entries_list f, labR, Option.bind_assoc, Option.bind_some]
theorem par_list : ∀ (f : Nat) (first : Bool) (b : Int) (i : Nat), parL l f first b i = listM l (parR l) sParS f first b i
  | 0, _, _, _ => by rw [parL, listM]
  | f + 1, first, b, i => by
    rw [parL, listM]
    simp only [par_list f, parR, Option.bind_assoc, Option.bind_some]
theorem rec_list : ∀ (f : Nat) (first : Bool) (b : Int) (i : Nat), tyM l f (.recL first) b i = listM l (labR l 33 (fun f => tyM l f .kind)) sShut f first b i
  | 0, _, _, _ => by rw [tyM, listM]
  | f + 1, first, b, i => by
    rw [tyM, listM]
    simp only [rec_list f, labR, Option.bind_assoc, Option.bind_some]
theorem fn_list : ∀ (f : Nat) (first : Bool) (b : Int) (i : Nat), tyM l f (.fnL first) b i = listM l (fun f => tyM l f .kind) sParS f first b i
  | 0, _, _, _ => by rw [tyM, listM]
  | f + 1, first, b, i => by
    rw [tyM, listM]
    simp only [fn_list f]
def restM (l : List Tok) (R : RT) (last : List UInt8) (f : Nat) (b : Int) (i : Nat) : Res :=
  if 0 ≤ b ∨ isM l i last = true then some (.nil, i, b)
  else listM l R last f false (wantM l b i sCom).2 (wantM l b i sCom).1
theorem list_step {R : RT} {last : List UInt8} {f : Nat} {first : Bool} {b : Int} {i : Nat} {r : Fo × Nat × Int} (h : listM l R last f first b i = some r) (hb : b < 0) (hl : ¬ (first = true ∧ isM l i last = true)) :
    ∃ f' t r', f = f' + 1 ∧ R f' b i = some t ∧ restM l R last f' t.2.2 t.2.1 = some r' ∧ r = (t.1.app r'.1, r'.2) := by
  cases f with
  | zero => rw [listM] at h; cases h
  | succ f =>
    rw [listM, if_pos ⟨hb, hl⟩] at h
    obtain ⟨t, h1, h2⟩ := Option.bind_eq_some_iff.1 h
    unfold restM
    by_cases hc : 0 ≤ t.2.2 ∨ isM l t.2.1 last = true
    · rw [if_pos hc] at h2
      injection h2 with h2
      exact ⟨f, t, (.nil, t.2.1, t.2.2), rfl, h1, by rw [if_pos hc], by rw [← h2, Fo.app_nil]⟩
    · rw [if_neg hc] at h2
      obtain ⟨r', h3, h4⟩ := Option.map_eq_some_iff.1 h2
      exact ⟨f, t, r', rfl, h1, by rw [if_neg hc]; exact h3, h4.symm⟩
theorem list_first {R : RT} {last : List UInt8} {f : Nat} {b : Int} {i : Nat} {r : Fo × Nat × Int} (h : listM l R last f true b i = some r) (hl : isM l i last = true) : r = (.nil, i, b) := by
  cases f with
  | zero => rw [listM] at h; cases h
  | succ f => rw [listM, if_neg (fun hh => hh.2 ⟨rfl, hl⟩)] at h; injection h with h; exact h.symm
theorem list_bad {R : RT} {last : List UInt8} {f : Nat} {first : Bool} {b : Int} {i : Nat} {r : Fo × Nat × Int} (h : listM l R last f first b i = some r) (hb : 0 ≤ b) : r = (.nil, i, b) := by
  cases f with
  | zero => rw [listM] at h; cases h
  | succ f => rw [listM, if_neg (fun hh => by omega)] at h; injection h with h; exact h.symm
theorem isM_ne {i : Nat} {x y : List UInt8} (h : isM l i x = true) (hn : x ≠ y) : isM l i y = false := by
  unfold isM at h ⊢
  cases hl : l[i]? with
  | none => rfl
  | some t =>
    rw [hl] at h
    simp only [Bool.and_eq_true, beq_iff_eq] at h
    have : (t.text.data.toList == y) = false := by rw [beq_eq_false_iff_ne, h.2]; exact hn
    simp only [this, Bool.and_false]
theorem rest_stop {R : RT} {last : List UInt8} {f : Nat} {b : Int} {i : Nat} {r : Fo × Nat × Int} (h : restM l R last f b i = some r) (hc : 0 ≤ b ∨ isM l i sCom = false) : r.1 = .nil ∧ wantM l r.2.2 r.2.1 last = wantM l b i last := by
  unfold restM at h
  split at h
  · injection h with h; rw [← h]; exact ⟨rfl, rfl⟩
  · rename_i h1
    have hb : ¬ 0 ≤ b := fun hh => h1 (.inl hh)
    have hl : ¬ isM l i last = true := fun hh => h1 (.inr hh)
    have hcc : isM l i sCom = false := hc.resolve_left hb
    have hw : wantM l b i sCom = (i, (i : Int)) := by unfold wantM; rw [if_neg hb, hcc, if_neg (by simp)]
    rw [hw] at h
    have := list_bad h (by dsimp only; omega)
    rw [this]
    refine ⟨rfl, ?_⟩
    dsimp only
    rw [wantM_bad (by omega)]
    unfold wantM
    rw [if_neg hb, if_neg hl]
theorem rest_go {R : RT} {last : List UInt8} {f : Nat} {b : Int} {i : Nat} {r : Fo × Nat × Int} (h : restM l R last f b i = some r) (hb : b < 0) (hc : isM l i sCom = true) (hn : sCom ≠ last) :
    ∃ f' t r', f = f' + 1 ∧ R f' b (i + 1) = some t ∧ restM l R last f' t.2.2 t.2.1 = some r' ∧ r = (t.1.app r'.1, r'.2) := by
  unfold restM at h
  rw [if_neg (fun hh => by rcases hh with hh | hh; omega; rw [isM_ne hc hn] at hh; cases hh)] at h
  have hw : wantM l b i sCom = (i + 1, b) := by unfold wantM; rw [if_neg (by omega), if_pos hc]
  rw [hw] at h
  exact list_step h hb (by simp)
end Ps
end Go.Proofs.YtiabkkdeonepgaaGreatDoor
namespace Go.Proofs.YtiabkkdeonepgaaGreatDoor
open Go.RowKit
theorem append_at {w : World} {P : Program} (base : Nat) (t ty e : TypeId) (i : TypeInfo) (z : Value) (ht : P.underlying t = some (.slice e)) (hi : P.info? e = some i) (hz : i.zero = some z) (hzs : z.cells.size = i.size) (hsz : 0 < i.size)
    (v : Value) (n : Nat) (xs : List Value) (hown : w.ownsRow base e i.size v n xs)
    (a : Addr) (m c : Nat) (news : List Value) (hl : news.length = m * i.size) (hnews : ∀ j u, news[j]? = some u → w.cell? (a.add j) = some u) (h1 : ∀ u ∈ news, u.oneCell' = true)
    (h63 : n + m ≤ maxLen) (hbytes : (n + m) * i.bytes ≤ 140737488355328) (v' : Value) (w' : World)
    (hr : (Builtin.append_ #[t, t] ty #[v, .slice (some a) m c]).run P w = .ok v' w') : ∀ k, v'.ownBlock = some k → v.ownBlock = some k ∨ w.heap.size ≤ k := by
  intro k hk
  have hsmall : n + m ≤ 9223372036854775807 := by simp only [maxLen] at h63; omega
  rcases hown.2 with ⟨rfl, rfl⟩ | ⟨g, cap, cur, rfl, hbg, hg, hnc, hcm, hcs, htake⟩
  · have hx : xs = [] := List.eq_nil_of_length_eq_zero (by simpa using hown.1)
    subst hx
    obtain ⟨v2, w2, h2, h3, _, _⟩ := run_append_own (P := P) w w.heap.size t ty e i z i.size i.bytes ht hi hz rfl rfl hzs hsz (.slice none 0 0) 0 [] (World.ownsRow_nil w w.heap.size e i.size) a m c news hl hnews h1 h63 hbytes (Nat.le_refl _)
    rw [hr] at h2
    injection h2 with e1 e2
    subst e1 e2
    exact .inr (h3.lt k hk).1
  · by_cases hroom : n + m ≤ cap
    · have hfit : n * i.size + news.length ≤ cur.size := by rw [hl, hcs, ← Nat.add_mul]; exact Nat.mul_le_mul_right _ hroom
      have h2 := run_append_room (P := P) w t ty e i ht hi g n cap cur hg a m c news hl hnews h1 hroom hfit
      rw [hr] at h2
      injection h2 with e1 e2
      rw [e1] at hk
      left
      exact hk
    · have holds : ∀ j u, xs[j]? = some u → w.cell? ((⟨g, 0, none⟩ : Addr).add j) = some u := hown.cells (g := g) rfl
      have h2 := run_append_grow (P := P) w t ty e i z ht hi hz ⟨g, 0, none⟩ n cap xs hown.1 holds a m c news hl hnews (by omega) (by omega) (growslice_fits (by omega) hbytes)
      rw [hr] at h2
      injection h2 with e1 e2
      rw [e1] at hk
      simp [Value.ownBlock] at hk
      omega
theorem wpList_append_at {w : World} {P : Program} {ops : Array Oper} {rest : List Oper} {o : Oper} {a : Act} {Q : Exit → Act → World → Prop} (hgd : o.guard = none) (s x : Operand) (t : TypeId)
    (ho : o.op = .call { callee := .builtin .append, args := #[s, x], argTypes := #[t, t] })
    (base : Nat) (e : TypeId) (i : TypeInfo) (z : Value) (size bytes : Nat) (ht : P.underlying t = some (.slice e)) (hi : P.info? e = some i) (hz : i.zero = some z)
    (hsize : i.size = size) (hby : i.bytes = bytes) (hzs : z.cells.size = size) (hsz : 0 < size)
    (v : Value) (n : Nat) (xs : List Value) (hs : a.eval s = v) (hown : w.ownsRow base e size v n xs)
    (ad : Addr) (m c : Nat) (news : List Value) (hx : a.eval x = .slice (some ad) m c) (hl : news.length = m * size) (hnews : ∀ j u, news[j]? = some u → w.cell? (ad.add j) = some u) (h1 : ∀ u ∈ news, u.oneCell' = true)
    (h63 : n + m ≤ maxLen) (hbytes : (n + m) * bytes ≤ 140737488355328) (hbase : base ≤ w.heap.size)
    (h : ∀ v' w', w'.ownsRow base e size v' (n + m) (xs ++ news) → w.grownBy w' v.ownBlock → (∀ k, v'.ownBlock = some k → v.ownBlock = some k ∨ w.heap.size ≤ k) → wpList P ops Q rest (a.put o.dst v') w') : wpList P ops Q (o :: rest) a w := by
  refine wpList_plain hgd fun K hK => ?_
  obtain ⟨v', w', hr, h2, h3, h4⟩ := run_append_own (P := P) w base t o.type e i z size bytes ht hi hz hsize hby hzs hsz v n xs hown ad m c news hl hnews h1 h63 hbytes hbase
  subst hsize hby
  have h5 := append_at base t o.type e i z ht hi hz hzs hsz v n xs hown ad m c news hl hnews h1 h63 hbytes v' w' hr
  unfold Oper.wp execOp
  simp only [ho, resolve, invoke, builtin, Sem.run_bind, Sem.run_pure, Result.andThen_ok, List.map_toArray, List.map_cons, List.map_nil, hs, hx, hr]
  exact hK _ _ (h v' w' h2 h3 h5)
namespace Ps
theorem KV.new_ {w : World} {P : Nat → Prop} {k : Fo} {A : Option Addr} {cap lo : Nat} (h : KV w P k A cap) (hP : ∀ g, P g → lo ≤ g) : KV w (fun g => lo ≤ g) k A cap := h.keep (Nat.le_refl _) (fun g hg _ => ⟨rfl, hP g hg⟩)
theorem six {c : Array Value} (hc : c.size = 6) (u0 u1 u2 u3 u4 u5 : Value) : (((((c.setIfInBounds 0 u0).setIfInBounds 1 u1).setIfInBounds 2 u2).setIfInBounds 3 u3).setIfInBounds 4 u4).setIfInBounds 5 u5 = #[u0, u1, u2, u3, u4, u5] := by
  obtain ⟨l⟩ := c
  match l, hc with
  | [_, _, _, _, _, _], _ => rfl
theorem cells_nd (w : World) (a b c d e f : Value) (j : Nat) (u : Value) (hj : [a, b, c, d, e, f][j]? = some u) : (w.alloc (.cells #[a, b, c, d, e, f] 25)).cell? ((⟨w.heap.size, 0, none⟩ : Addr).add j) = some u :=
  World.news_of_block (heap_alloc_new w (.cells #[a, b, c, d, e, f] 25)) j u hj
theorem one_nd (h : Hd) (A : Option Addr) (n c : Nat) : ∀ u ∈ [Value.int .i64 h.kind, .int .i64 h.fro, .int .i64 h.til, .string h.word, .int .i64 h.at_, .slice A n c], u.oneCell' = true := by
  simp [Value.oneCell']
theorem info25 : (Tryz.prog.info? 25).map (fun i => (i.zero, i.size, i.bytes)) = some (some (.agg #[.int .i64 0, .int .i64 0, .int .i64 0, .string ⟨#[]⟩, .int .i64 0, .slice none 0 0]), 6, 72) := by kernel_rfl
end Ps
end Go.Proofs.YtiabkkdeonepgaaGreatDoor
