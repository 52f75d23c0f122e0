import PyProof.Rows.All
import Wide.All
import OpenK.AllK
import Wide.FinOn
import HandS.ForMost
import HandS.Walk
import HandS.IsInst
import HandS.TupAny
import HandS.Style
import HandS.Flow
import HandS.Zip
import KE.OsRunLaw
import HandS.Lambda
import PyProof.ReprRoads
import HandS.Text
import PyProof.ListStr
import HandS.Conv
import KE.KNestM
import HandS.TupMul
import PyProof.Rows.IntBool
import HandS.SetFor
import HandS.Strs
import KE.GoesEnum
import HandS.DeepEq
import PyProof.ReprLen
import PyProof.FitsInt
import PyProof.Rows.ReprOcc
import HandS.ExcInit
import HandS.ExcIs
import KE.KExcInit
import KE.KExcIs
import HandS.More
import HandS.WordsDict
import HandS.Property
import HandS.Star
import HandS.MakeKwOnly
import HandS.Iter
import PyProof.P3In
import HandS.Deep
import HandS.SortInts
import HandS.ExcValue
import HandS.CallLocal
import PyProof.EqKinds
import PyProof.Rows.RuleB_bool
import HandS.StrMore
import HandS.IterVal
import HandS.TryOnly
import PyProof.FactsAll.dict_1
import PyProof.FactsAll.subtypes_1
import PyProof.FactsAll.subtypes_4
import HandS.Replace
import HandS.ReplaceLit
import KE.GoesComp
import KE.GoesRaise
import HandS.DictComp
import PySem.Challenge.RW_whoheld_k93_texts_of_papers
set_option Elab.async false
set_option linter.all false
set_option maxRecDepth 100000
set_option maxHeartbeats 4000000
section
open PySem PySem.W PyProof.Rows
local macro_rules | `(tactic| k_head) => `(tactic| k_headL)
set_option maxHeartbeats 0 in
open_top K93head for PySem.Challenge.rw_whoheld_k93_texts_of_papers
end
namespace Mi
open PySem PySem.Spec L2
/-- data: what never changes is a tree; what changes is a cell, by its number. lsr: a list that is only read -/
inductive D where
  | non | bl (b : Bool) | int (i : Int) | str (x : Str)
  | tup (ds : List D) | lst (ds : List D) | lsr (ds : List D) | dct (kvs : List (D × D)) | ref (n : Nat)
  | exc (c : Str) (fs : List (Str × D))
  | stp (ds : List D)
inductive Cell where
  | lst (ds : List D)
  | dct (kvs : List (Key × D))
  | ins (x : Str) (fs : List (Str × D))
  | fdct (kvs : List (Key × D))
noncomputable abbrev Sto := List Cell
structure Exn where
  cls : Str
  fs : List (Str × D)
noncomputable abbrev M (α : Type) := Sto → Option (Except Exn α × Sto)
noncomputable def M.bind {α β : Type} (m : M α) (f : α → M β) : M β := fun S => match m S with
  | none => none
  | some (.ok a, S') => f a S'
  | some (.error x, S') => some (.error x, S')
noncomputable def M.pure {α : Type} (a : α) : M α := fun S => some (.ok a, S)
noncomputable instance : Monad M := { pure := M.pure, bind := M.bind }
noncomputable def bad {α : Type} : M α := fun _ => none
structure Wd where
  A : List Addr
  G : Hp
  F : Hp
noncomputable def kD : Key → D
  | .inl i => .int i
  | .inr x => .str x
/-- the class of the text by this name -/
noncomputable abbrev ClN (K : PySem.W.Frag) (c : Str) (C : Addr) : Prop := PySem.W.nsIn K mainGlobals c = some (some (.ref C))
/-- at a: an exception of the class at C, its dict (none | at d), in whatever state it is -/
noncomputable def exq (a C : Addr) (d : Option Addr) : HO := .ext fun h => ∃ (oe : Obj) (vs : Array Value), h.get? a = some oe ∧ oe.cls = .ref C ∧ oe.dict = d ∧ oe.data = .fields vs
/-- a tuple of which it is known that it has no dict of its own -/
noncomputable def StT (K : PySem.W.Frag) (H : Hp) (a : Addr) (xs : List V) : Prop :=
  (∃ o : Obj, H a = some (.frz o (.tup xs)) ∧ o.cls = .type "tuple" ∧ o.dict = none) ∨
    ∃ (o : Obj) (its : Array Value) (n : Nat), K.lookup a = some o ∧ o.cls = .type "tuple" ∧ o.dict = none ∧ o.data = .seq its n ∧ its.size ≤ sizeLine ∧ Vals xs its.toList
theorem StT.weak {K : PySem.W.Frag} {H : Hp} {a : Addr} {xs : List V} (h : StT K H a xs) : SqT K H a xs := by
  rcases h with ⟨o, h, _, _⟩ | ⟨o, its, n, h1, h2, _, h4, h5, h6⟩
  · exact .inl (.inr ⟨o, h⟩)
  · exact .inr ⟨o, its, n, h1, h2, h4, h5, h6⟩
mutual
inductive Rv (K : PySem.W.Frag) (w : Wd) : V → D → Prop
  | non : Rv K w .non .non
  | bl (b : Bool) : Rv K w (.bl b) (.bl b)
  | int (i : Int) : Rv K w (.int i) (.int i)
  | str (x : Str) : Rv K w (.str x) (.str x)
  | tup {a : Addr} {xs : List V} {ds : List D} (h : SqT K w.G a xs) (r : RvL K w xs ds) : Rv K w (.ref a) (.tup ds)
  | stp {a : Addr} {xs : List V} {ds : List D} (h : StT K w.G a xs) (r : RvL K w xs ds) : Rv K w (.ref a) (.stp ds)
  | lst {a : Addr} {xs : List V} {ds : List D} (h : w.G a = some (.lst xs)) (r : RvL K w xs ds) : Rv K w (.ref a) (.lst ds)
  | lsr {a : Addr} {xs : List V} {ds : List D} (h : SqL K w.G a xs) (r : RvL K w xs ds) : Rv K w (.ref a) (.lsr ds)
  | dct {a : Addr} {xs : List (Key × V)} {ds : List (D × D)} (h : w.G a = some (.dK xs)) (r : RvK K w xs ds) : Rv K w (.ref a) (.dct ds)
  | ref {a : Addr} {n : Nat} (h : w.A[n]? = some a) : Rv K w (.ref a) (.ref n)
  | exn {a C : Addr} {c : Str} (hC : ClN K c C) (h : w.G a = some (exq a C none)) : Rv K w (.ref a) (.exc c [])
  | exc {a C dx : Addr} {c : Str} {xs : List (Str × V)} {fs : List (Str × D)} (hC : ClN K c C) (h : w.G a = some (exq a C (some dx))) (hd : w.G dx = some (.xd xs)) (r : RvX K w xs fs) : Rv K w (.ref a) (.exc c fs)
inductive RvL (K : PySem.W.Frag) (w : Wd) : List V → List D → Prop
  | nil : RvL K w [] []
  | cons {v : V} {d : D} {vs : List V} {ds : List D} (h : Rv K w v d) (r : RvL K w vs ds) : RvL K w (v :: vs) (d :: ds)
inductive RvK (K : PySem.W.Frag) (w : Wd) : List (Key × V) → List (D × D) → Prop
  | nil : RvK K w [] []
  | cons {k : Key} {v : V} {d : D} {vs : List (Key × V)} {ds : List (D × D)} (h : Rv K w v d) (r : RvK K w vs ds) : RvK K w ((k, v) :: vs) ((kD k, d) :: ds)
inductive RvX (K : PySem.W.Frag) (w : Wd) : List (Str × V) → List (Str × D) → Prop
  | nil : RvX K w [] []
  | cons {x : Str} {v : V} {d : D} {vs : List (Str × V)} {ds : List (Str × D)} (h : Rv K w v d) (r : RvX K w vs ds) : RvX K w ((x, v) :: vs) ((x, d) :: ds)
end
structure Lv (w w' : Wd) : Prop where
  a : ∃ more, w'.A = w.A ++ more
  g : ∀ b o, w.G b = some o → w'.G b = some o
structure Le (w w' : Wd) : Prop where
  a : ∃ more, w'.A = w.A ++ more
  g : ∀ b o, w.G b = some o → w'.G b = some o
  f : w'.F = w.F
theorem Le.v {w w' : Wd} (l : Le w w') : Lv w w' := ⟨l.a, l.g⟩
theorem Le.refl (w : Wd) : Le w w := ⟨⟨[], by simp⟩, fun _ _ h => h, rfl⟩
theorem Le.trans {w w1 w2 : Wd} (x : Le w w1) (y : Le w1 w2) : Le w w2 := by
  obtain ⟨m1, e1⟩ := x.a
  obtain ⟨m2, e2⟩ := y.a
  exact ⟨⟨m1 ++ m2, by rw [e2, e1, List.append_assoc]⟩, fun b o h => y.g b o (x.g b o h), y.f.trans x.f⟩
theorem Lv.at {w w' : Wd} (l : Lv w w') {n : Nat} {a : Addr} (h : w.A[n]? = some a) : w'.A[n]? = some a := by
  obtain ⟨m, e⟩ := l.a
  have hn := (List.getElem?_eq_some_iff.mp h).1
  rw [e, List.getElem?_append_left hn]
  exact h
section
variable {K : PySem.W.Frag} {w w' : Wd}
theorem sqT_le (l : Lv w w') {a : Addr} {xs : List V} (h : SqT K w.G a xs) : SqT K w'.G a xs := by
  rcases h with (h | ⟨o, h⟩) | h
  · exact .inl (.inl (l.g _ _ h))
  · exact .inl (.inr ⟨o, l.g _ _ h⟩)
  · exact .inr h
theorem stT_le (l : Lv w w') {a : Addr} {xs : List V} (h : StT K w.G a xs) : StT K w'.G a xs := by
  rcases h with ⟨o, h, c, d⟩ | h
  · exact .inl ⟨o, l.g _ _ h, c, d⟩
  · exact .inr h
theorem sqL_le (l : Lv w w') {a : Addr} {xs : List V} (h : SqL K w.G a xs) : SqL K w'.G a xs := by
  rcases h with (h | ⟨o, h⟩) | h
  · exact .inl (.inl (l.g _ _ h))
  · exact .inl (.inr ⟨o, l.g _ _ h⟩)
  · exact .inr h
mutual
theorem Rv.monoV (l : Lv w w') : ∀ {v : V} {d : D}, Rv K w v d → Rv K w' v d
  | _, _, .non => .non
  | _, _, .bl b => .bl b
  | _, _, .int i => .int i
  | _, _, .str x => .str x
  | _, _, .tup h r => .tup (sqT_le l h) (RvL.monoV l r)
  | _, _, .stp h r => .stp (stT_le l h) (RvL.monoV l r)
  | _, _, .lst h r => .lst (l.g _ _ h) (RvL.monoV l r)
  | _, _, .lsr h r => .lsr (sqL_le l h) (RvL.monoV l r)
  | _, _, .dct h r => .dct (l.g _ _ h) (RvK.monoV l r)
  | _, _, .ref h => .ref (l.at h)
  | _, _, .exn hC h => .exn hC (l.g _ _ h)
  | _, _, .exc hC h hd r => .exc hC (l.g _ _ h) (l.g _ _ hd) (RvX.monoV l r)
theorem RvL.monoV (l : Lv w w') : ∀ {v : List V} {d : List D}, RvL K w v d → RvL K w' v d
  | _, _, .nil => .nil
  | _, _, .cons h r => .cons (Rv.monoV l h) (RvL.monoV l r)
theorem RvK.monoV (l : Lv w w') : ∀ {v : List (Key × V)} {d : List (D × D)}, RvK K w v d → RvK K w' v d
  | _, _, .nil => .nil
  | _, _, .cons h r => .cons (Rv.monoV l h) (RvK.monoV l r)
theorem RvX.monoV (l : Lv w w') : ∀ {v : List (Str × V)} {d : List (Str × D)}, RvX K w v d → RvX K w' v d
  | _, _, .nil => .nil
  | _, _, .cons h r => .cons (Rv.monoV l h) (RvX.monoV l r)
end
theorem Rv.mono (l : Le w w') {v : V} {d : D} (h : Rv K w v d) : Rv K w' v d := Rv.monoV l.v h
theorem RvL.mono (l : Le w w') {v : List V} {d : List D} (h : RvL K w v d) : RvL K w' v d := RvL.monoV l.v h
theorem RvL.length : ∀ {v : List V} {d : List D}, RvL K w v d → v.length = d.length
  | _, _, .nil => rfl
  | _, _, .cons _ r => by simp [RvL.length r]
theorem RvL.append : ∀ {v v' : List V} {d d' : List D}, RvL K w v d → RvL K w v' d' → RvL K w (v ++ v') (d ++ d')
  | _, _, _, _, .nil, q => q
  | _, _, _, _, .cons h r, q => .cons h (RvL.append r q)
theorem RvL.one {v : V} {d : D} (h : Rv K w v d) : RvL K w [v] [d] := .cons h .nil
theorem RvL.get : ∀ {v : List V} {d : List D} {i : Nat} {x : D}, RvL K w v d → d[i]? = some x → ∃ y, v[i]? = some y ∧ Rv K w y x
  | _, _, _, _, .nil, e => by simp at e
  | _, _, 0, _, .cons h _, e => by
    simp at e
    subst e
    exact ⟨_, rfl, h⟩
  | _, _, i + 1, _, .cons _ r, e => by
    obtain ⟨y, h1, h2⟩ := RvL.get (i := i) r (by simpa using e)
    exact ⟨y, by simpa using h1, h2⟩
theorem RvL.getV : ∀ {v : List V} {d : List D} {i : Nat} {y : V}, RvL K w v d → v[i]? = some y → ∃ x, d[i]? = some x ∧ Rv K w y x
  | _, _, _, _, .nil, e => by simp at e
  | _, _, 0, _, .cons h _, e => by
    simp at e
    subst e
    exact ⟨_, rfl, h⟩
  | _, _, i + 1, _, .cons _ r, e => by
    obtain ⟨y, h1, h2⟩ := RvL.getV (i := i) r (by simpa using e)
    exact ⟨y, by simpa using h1, h2⟩
theorem RvL.set {x : V} {y : D} (h : Rv K w x y) : ∀ {v : List V} {d : List D} (i : Nat), RvL K w v d → RvL K w (v.set i x) (d.set i y)
  | _, _, _, .nil => .nil
  | _, _, 0, .cons _ r => .cons h r
  | _, _, i + 1, .cons q r => .cons q (RvL.set h i r)
theorem RvL.take : ∀ {v : List V} {d : List D} (n : Nat), RvL K w v d → RvL K w (v.take n) (d.take n)
  | _, _, 0, _ => .nil
  | _, _, _ + 1, .nil => .nil
  | _, _, n + 1, .cons h r => .cons h (RvL.take n r)
theorem RvL.drop : ∀ {v : List V} {d : List D} (n : Nat), RvL K w v d → RvL K w (v.drop n) (d.drop n)
  | _, _, 0, r => r
  | _, _, _ + 1, .nil => .nil
  | _, _, n + 1, .cons _ r => RvL.drop n r
theorem RvL.reverse {v : List V} {d : List D} : RvL K w v d → RvL K w v.reverse d.reverse := by
  intro r
  induction v generalizing d with
  | nil => cases r; exact .nil
  | cons x xs ih =>
    cases r with
    | cons h r =>
      rw [List.reverse_cons, List.reverse_cons]
      exact (ih r).append (.one h)
end
/-- values by names or keys -/
inductive RvP {κ : Type} (K : PySem.W.Frag) (w : Wd) : List (κ × V) → List (κ × D) → Prop
  | nil : RvP K w [] []
  | cons {x : κ} {v : V} {d : D} {vs : List (κ × V)} {ds : List (κ × D)} (h : Rv K w v d) (r : RvP K w vs ds) : RvP K w ((x, v) :: vs) ((x, d) :: ds)
theorem RvP.monoV {κ : Type} {K : PySem.W.Frag} {w w' : Wd} (l : Lv w w') : ∀ {v : List (κ × V)} {d : List (κ × D)}, RvP K w v d → RvP K w' v d
  | _, _, .nil => .nil
  | _, _, .cons h r => .cons (Rv.monoV l h) (RvP.monoV l r)
noncomputable def CellR (K : PySem.W.Frag) (w : Wd) (H : Hp) (a : Addr) : Cell → Prop
  | .lst ds => ∃ xs, H a = some (.lst xs) ∧ RvL K w xs ds
  | .dct ds => ∃ xs, H a = some (.dK xs) ∧ RvP K w xs ds
  | .ins x fs => ∃ C dx xs, PySem.W.nsIn K mainGlobals x = some (some (.ref C)) ∧ H a = some (.ins C dx xs) ∧ RvP K w xs fs
  | .fdct ds => ∃ o xs, w.G a = some (.frz o (.dK xs)) ∧ H a = some (.frz o (.dK xs)) ∧ RvP K w xs ds
theorem CellR.monoV {K : PySem.W.Frag} {w w' : Wd} {H H' : Hp} {a : Addr} {c : Cell} (l : Lv w w') (e : ∀ o, H a = some o → H' a = some o) (h : CellR K w H a c) : CellR K w' H' a c := by
  cases c with
  | lst ds =>
    obtain ⟨xs, h1, h2⟩ := h
    exact ⟨xs, e _ h1, h2.monoV l⟩
  | dct ds =>
    obtain ⟨xs, h1, h2⟩ := h
    exact ⟨xs, e _ h1, h2.monoV l⟩
  | ins x fs =>
    obtain ⟨C, dx, xs, h0, h1, h2⟩ := h
    exact ⟨C, dx, xs, h0, e _ h1, h2.monoV l⟩
  | fdct ds =>
    obtain ⟨o, xs, h0, h1, h2⟩ := h
    exact ⟨o, xs, l.g _ _ h0, e _ h1, h2.monoV l⟩
theorem CellR.mono {K : PySem.W.Frag} {w w' : Wd} {H H' : Hp} {a : Addr} {c : Cell} (l : Le w w') (e : ∀ o, H a = some o → H' a = some o) (h : CellR K w H a c) : CellR K w' H' a c := h.monoV l.v e
theorem CellR.there {K : PySem.W.Frag} {w : Wd} {H : Hp} {a : Addr} {c : Cell} (h : CellR K w H a c) : ∃ o, H a = some o := by
  cases c with
  | lst ds =>
    obtain ⟨xs, h1, h2⟩ := h
    exact ⟨_, h1⟩
  | dct ds =>
    obtain ⟨xs, h1, h2⟩ := h
    exact ⟨_, h1⟩
  | ins x fs =>
    obtain ⟨C, dx, xs, h0, h1, h2⟩ := h
    exact ⟨_, h1⟩
  | fdct ds =>
    obtain ⟨o, xs, h0, h1, h2⟩ := h
    exact ⟨_, h1⟩
/-- an object of the interpreter's own is known to be there: no list of ours is it -/
noncomputable def SysF (F : Hp) : Prop := ∃ φ, F sysModules = some (.ext φ)
/-- no table of code objects is kept as it is: they grow -/
noncomputable def NoTb (G : Hp) : Prop := ∀ a ps, G a ≠ some (.tbl ps)
theorem NoTb.upd {G : Hp} (h : NoTb G) {p : Addr} {o : HO} (ho : ∀ ps, o ≠ .tbl ps) : NoTb (upd G p o) := fun a ps z => by
  by_cases q : a = p
  · subst q
    rw [upd_same] at z
    exact ho ps (Option.some.inj z)
  · rw [upd_ne q] at z
    exact h a ps z
/-- what may be written over without harm to the tables and their code objects -/
noncomputable def Soft (x : Option HO) : Prop := ∀ o, x = some o → (∀ ps, o ≠ .tbl ps) ∧ ∀ φ, o ≠ .ext φ
theorem Soft.none {x : Option HO} (h : x = none) : Soft x := fun o z => by rw [h] at z; cases z
theorem tabs_upd {T : List (Addr × Str)} {H : Hp} {p : Addr} {o : HO} (h : LamX.Tabs T H) (k : Soft (H p)) : LamX.Tabs T (upd H p o) := fun q hq => by
  obtain ⟨ps, h1, h2, h3⟩ := h q hq
  have keep : ∀ b u, H b = some u → (∃ ps, u = .tbl ps) ∨ (∃ φ, u = .ext φ) → upd H p o b = some u := fun b u e z => by
    rw [upd_ne]
    · exact e
    · rintro rfl
      rcases z with ⟨ps, rfl⟩ | ⟨φ, rfl⟩
      · exact (k _ e).1 ps rfl
      · exact (k _ e).2 φ rfl
  refine ⟨ps, keep _ _ h1 (.inl ⟨ps, rfl⟩), h2, fun pos cv hc => ?_⟩
  obtain ⟨c, e1, e2⟩ := h3 pos cv hc
  exact ⟨c, e1, keep _ _ e2 (.inr ⟨_, rfl⟩)⟩
theorem CellR.soft {K : PySem.W.Frag} {w : Wd} {H : Hp} {a : Addr} {c : Cell} (h : CellR K w H a c) : Soft (H a) := fun o z => by
  cases c with
  | lst ds =>
    obtain ⟨xs, h1, h2⟩ := h
    rw [h1] at z
    cases z
    exact ⟨fun _ z => (by cases z), fun _ z => (by cases z)⟩
  | dct ds =>
    obtain ⟨xs, h1, h2⟩ := h
    rw [h1] at z
    cases z
    exact ⟨fun _ z => (by cases z), fun _ z => (by cases z)⟩
  | ins x fs =>
    obtain ⟨C, dx, xs, h0, h1, h2⟩ := h
    rw [h1] at z
    cases z
    exact ⟨fun _ z => (by cases z), fun _ z => (by cases z)⟩
  | fdct ds =>
    obtain ⟨o, xs, h0, h1, h2⟩ := h
    rw [h1] at z
    cases z
    exact ⟨fun _ z => (by cases z), fun _ z => (by cases z)⟩
/-- which tables of code objects are known, and the names that they bear: an instance a law -/
class LamTabs where
  T : PySem.W.Frag → List (Addr × Str)
variable [LamTabs]
structure Rs (K : PySem.W.Frag) (w : Wd) (S : Sto) (H : Hp) : Prop where
  g : ∀ a o, w.G a = some o → H a = some o
  f : ∀ a o, w.F a = some o → H a = some o
  gf : ∀ a o, w.F a = some o → w.G a = none
  len : w.A.length = S.length
  nd : w.A.Nodup
  ag : ∀ a, a ∈ w.A → (w.G a = none ∨ ∃ o xs, w.G a = some (.frz o (.dK xs))) ∧ w.F a = none
  cell : ∀ (n : Nat) (a : Addr) (c : Cell), w.A[n]? = some a → S[n]? = some c → CellR K w H a c
  sy : SysF w.F
  tb : LamX.Tabs (LamTabs.T K) H
  nt : NoTb w.G
  nf : NoTb w.F
section
variable {K : PySem.W.Frag} {w w' : Wd} {S S' : Sto} {H H' : Hp}
theorem Rs.fresh (r : Rs K w S H) {p : Addr} (h : H p = none) : w.G p = none ∧ w.F p = none ∧ p ∉ w.A := by
  refine ⟨?_, ?_, fun hm => ?_⟩
  · cases e : w.G p with
    | none => rfl
    | some o => rw [r.g p o e] at h; cases h
  · cases e : w.F p with
    | none => rfl
    | some o => rw [r.f p o e] at h; cases h
  · obtain ⟨n, hn, e⟩ := List.mem_iff_getElem.mp hm
    have hn' : n < S.length := by rw [← r.len]; exact hn
    obtain ⟨o, ho⟩ := (r.cell n p S[n] (by rw [List.getElem?_eq_getElem hn, e]) (by rw [List.getElem?_eq_getElem hn'])).there
    rw [ho] at h
    cases h
/-- a new object that stays as it is -/
noncomputable def Wd.lay (w : Wd) (p : Addr) (o : HO) : Wd := { w with G := upd w.G p o }
theorem Rs.le_lay (r : Rs K w S H) {p : Addr} {o : HO} (h : H p = none) : Le w (w.lay p o) :=
  ⟨⟨[], by simp [Wd.lay]⟩, fun b u e => by
    show upd w.G p o b = some u
    rw [upd_ne (ne_of_none e (r.fresh h).1)]
    exact e, rfl⟩
theorem Rs.lay (r : Rs K w S H) {p : Addr} {o : HO} (h : H p = none) (ho : ∀ ps, o ≠ .tbl ps := by intro _ z; first | cases z | (unfold exq at z; cases z)) : Rs K (w.lay p o) S (upd H p o) := by
  obtain ⟨f1, f2, f3⟩ := r.fresh h
  refine ⟨fun a u e => ?_, fun a u e => ?_, fun a u e => ?_, r.len, r.nd, fun a ha => ⟨?_, (r.ag a ha).2⟩, fun n a c h1 h2 => ?_, r.sy, tabs_upd r.tb (.none h), r.nt.upd ho, r.nf⟩
  · by_cases q : a = p
    · subst q
      have e' : upd w.G a o a = some u := e
      rw [upd_same] at e' ⊢
      exact e'
    · have e' : upd w.G p o a = some u := e
      rw [upd_ne q] at e' ⊢
      exact r.g a u e'
  · rw [upd_ne (ne_of_none e f2)]
    exact r.f a u e
  · show upd w.G p o a = none
    rw [upd_ne (ne_of_none e f2)]
    exact r.gf a u e
  · have e : upd w.G p o a = w.G a := upd_ne (show a ≠ p by rintro rfl; exact f3 ha)
    show upd w.G p o a = none ∨ ∃ o' xs, upd w.G p o a = some (.frz o' (.dK xs))
    rw [e]
    exact (r.ag a ha).1
  · refine (r.cell n a c h1 h2).mono (r.le_lay h) fun u e => ?_
    rw [upd_ne (show a ≠ p by rintro rfl; exact f3 (List.mem_of_getElem? h1))]
    exact e
/-- a new cell -/
noncomputable def Wd.add (w : Wd) (p : Addr) : Wd := { w with A := w.A ++ [p] }
theorem le_add {p : Addr} : Le w (w.add p) := ⟨⟨[p], rfl⟩, fun _ _ h => h, rfl⟩
theorem Rs.add (r : Rs K w S H) {p : Addr} {o : HO} {c : Cell} (h : H p = none) (hc : CellR K (w.add p) (upd H p o) p c) : Rs K (w.add p) (S ++ [c]) (upd H p o) := by
  obtain ⟨f1, f2, f3⟩ := r.fresh h
  refine ⟨fun a u e => ?_, fun a u e => ?_, r.gf, by simp [Wd.add, r.len], ?_, fun a ha => ?_, fun n a c' h1 h2 => ?_, r.sy, tabs_upd r.tb (.none h), r.nt, r.nf⟩
  · rw [upd_ne (ne_of_none e f1)]
    exact r.g a u e
  · rw [upd_ne (ne_of_none e f2)]
    exact r.f a u e
  · show (w.A ++ [p]).Nodup
    refine List.nodup_append.mpr ⟨r.nd, by simp, fun a ha b hb => ?_⟩
    simp at hb
    rintro rfl
    exact f3 (hb ▸ ha)
  · have ha' : a ∈ w.A ++ [p] := ha
    rcases List.mem_append.mp ha' with z | z
    · exact r.ag a z
    · simp at z
      subst z
      exact ⟨.inl f1, f2⟩
  · have h1' : (w.A ++ [p])[n]? = some a := h1
    by_cases q : n < w.A.length
    · rw [List.getElem?_append_left q] at h1'
      rw [List.getElem?_append_left (by rw [← r.len]; exact q)] at h2
      refine (r.cell n a c' h1' h2).mono le_add fun u e => ?_
      rw [upd_ne (show a ≠ p by rintro rfl; exact f3 (List.mem_of_getElem? h1'))]
      exact e
    · have hn : n = w.A.length := by
        have := (List.getElem?_eq_some_iff.mp h1').1
        simp at this
        omega
      subst hn
      rw [List.getElem?_append_right (Nat.le_refl _)] at h1'
      rw [r.len, List.getElem?_append_right (Nat.le_refl _)] at h2
      simp at h1' h2
      subst h1' h2
      exact hc
/-- a cell is written -/
theorem Rs.ng (r : Rs K w S H) {n : Nat} {p : Addr} {o : HO} (hn : w.A[n]? = some p) (h0 : H p = some o) (hz : ∀ x u, o ≠ .frz x u) : w.G p = none := by
  rcases (r.ag p (List.mem_of_getElem? hn)).1 with h | ⟨x, xs, h⟩
  · exact h
  · have e := (r.g _ _ h).symm.trans h0
    injection e with e
    exact absurd e.symm (hz _ _)
theorem Rs.put (r : Rs K w S H) {n : Nat} {p : Addr} {o o0 : HO} {c : Cell} (hn : w.A[n]? = some p) (h0 : H p = some o0) (hz : ∀ x u, o0 ≠ .frz x u) (hc : CellR K w (upd H p o) p c) : Rs K w (S.set n c) (upd H p o) := by
  have hp : w.G p = none ∧ w.F p = none := ⟨r.ng hn h0 hz, (r.ag p (List.mem_of_getElem? hn)).2⟩
  have hS : n < S.length := by rw [← r.len]; exact (List.getElem?_eq_some_iff.mp hn).1
  refine ⟨fun a u e => ?_, fun a u e => ?_, r.gf, by simp [r.len], r.nd, r.ag, fun m a c' h1 h2 => ?_, r.sy, tabs_upd r.tb (r.cell n p S[n] hn (List.getElem?_eq_getElem hS)).soft, r.nt, r.nf⟩
  · rw [upd_ne (ne_of_none e hp.1)]
    exact r.g a u e
  · rw [upd_ne (ne_of_none e hp.2)]
    exact r.f a u e
  · by_cases q : m = n
    · subst q
      rw [hn] at h1
      cases h1
      have hl : m < S.length := by rw [← r.len]; exact (List.getElem?_eq_some_iff.mp hn).1
      rw [List.getElem?_set_self hl] at h2
      cases h2
      exact hc
    · rw [List.getElem?_set_ne (Ne.symm q)] at h2
      have hne : a ≠ p := by
        rintro rfl
        exact q ((List.getElem?_inj (List.getElem?_eq_some_iff.mp h1).1 r.nd).mp (h1.trans hn.symm))
      refine (r.cell m a c' h1 h2).mono (Le.refl w) fun u e => ?_
      rw [upd_ne hne]
      exact e
end
noncomputable abbrev Env := List (Option D)
structure Rn (K : PySem.W.Frag) (w : Wd) (σ : L2.St) (ρ : Env) : Prop where
  len : σ.length = ρ.length
  at' : ∀ (i : Nat) (d : D), ρ[i]? = some (some d) → ∃ v, σ[i]? = some (some v) ∧ Rv K w v d
section
variable {K : PySem.W.Frag} {w w' : Wd} {S S' : Sto} {H H' : Hp} {σ : L2.St} {ρ : Env}
theorem Rn.mono (l : Le w w') (r : Rn K w σ ρ) : Rn K w' σ ρ := ⟨r.len, fun i d h => let ⟨v, h1, h2⟩ := r.at' i d h; ⟨v, h1, Rv.mono l h2⟩⟩
theorem Rn.v (r : Rn K w σ ρ) (l : Lv w w') : Rn K w' σ ρ := ⟨r.len, fun i d h => let ⟨v, h1, h2⟩ := r.at' i d h; ⟨v, h1, Rv.monoV l h2⟩⟩
theorem Rn.set (r : Rn K w σ ρ) {i : Nat} {v : V} {d : D} (h : Rv K w v d) : Rn K w (σ.set i (some v)) (ρ.set i (some d)) := by
  refine ⟨by simp [r.len], fun j e hj => ?_⟩
  by_cases q : j = i
  · subst q
    have hl : j < ρ.length := by
      have := (List.getElem?_eq_some_iff.mp hj).1
      simpa using this
    rw [List.getElem?_set_self hl] at hj
    cases hj
    exact ⟨v, by rw [List.getElem?_set_self (by rw [r.len]; exact hl)], h⟩
  · rw [List.getElem?_set_ne (Ne.symm q)] at hj ⊢
    exact r.at' j e hj
theorem Rn.wipe (r : Rn K w σ ρ) (vs : List Nat) : Rn K w (wipe σ vs) (vs.foldr (fun i ρ => ρ.set i none) ρ) := by
  induction vs with
  | nil => exact r
  | cons i vs ih =>
    show Rn K w ((L2.wipe σ vs).set i none) ((vs.foldr (fun i ρ => ρ.set i none) ρ).set i none)
    refine ⟨by simp [ih.len], fun j e hj => ?_⟩
    by_cases q : j = i
    · subst q
      have hl := (List.getElem?_eq_some_iff.mp hj).1
      rw [List.getElem?_set_self (by simpa using hl)] at hj
      cases hj
    · rw [List.getElem?_set_ne (Ne.symm q)] at hj ⊢
      exact ih.at' j e hj
theorem Rn.start {vs : List V} {ds : List D} (h : RvL K w vs ds) (N : List Str) : Rn K w (start N vs) (ds.map some ++ List.replicate (N.length - ds.length) none) := by
  have hl := h.length
  unfold L2.start
  refine ⟨by simp [hl], fun i d e => ?_⟩
  by_cases q : i < ds.length
  · rw [List.getElem?_append_left (by simpa using q)] at e
    rw [List.getElem?_append_left (by simpa [hl] using q)]
    rw [List.getElem?_map] at e ⊢
    obtain ⟨x, hx, e'⟩ := Option.map_eq_some_iff.mp e
    cases e'
    obtain ⟨y, hy, r⟩ := h.get hx
    exact ⟨y, by rw [hy]; rfl, r⟩
  · rw [List.getElem?_append_right (by simpa using Nat.le_of_not_lt q)] at e
    have := List.mem_of_getElem? e
    have := (List.mem_replicate.mp this).2
    cases this
end
/-- what is wanted of an exception -/
noncomputable abbrev EK := Exn → Wd → Sto → Hp → Prop
noncomputable def Fin {α : Type} (K : PySem.W.Frag) (E : EK) (w : Wd) (o : Option (Except Exn α × Sto)) (P : Wd → Sto → Hp → α → Prop) : Prop := match o with
  | none => False
  | some (.ok a, S') => ∀ w' H', Le w w' → Rs K w' S' H' → P w' S' H' a
  | some (.error x, S') => ∀ w' H', Le w w' → Rs K w' S' H' → E x w' S' H'
section
variable {α β : Type} {K : PySem.W.Frag} {E : EK} {w w' : Wd} {S S' : Sto} {o : Option (Except Exn α × Sto)} {P P' : Wd → Sto → Hp → α → Prop} {R : Wd → Sto → Hp → β → Prop} {m : M α} {f : α → M β}
theorem Fin.mono (h : Fin K E w o P) (l : Le w w') : Fin K E w' o P := by
  rcases o with _ | ⟨_ | _, S'⟩
  · exact h
  · exact fun w2 H' l2 r => h w2 H' (l.trans l2) r
  · exact fun w2 H' l2 r => h w2 H' (l.trans l2) r
theorem Fin.imp (h : Fin K E w o P) (k : ∀ w' S' H' a, Le w w' → Rs K w' S' H' → P w' S' H' a → P' w' S' H' a) : Fin K E w o P' := by
  rcases o with _ | ⟨_ | _, S'⟩
  · exact h
  · exact h
  · exact fun w2 H' l2 r => k w2 S' H' _ l2 r (h w2 H' l2 r)
theorem Fin.bind (h : Fin K E w (M.bind m f S) R) : Fin K E w (m S) fun w' S' _ a => Fin K E w' (f a S') R := by
  unfold M.bind at h
  rcases hm : m S with _ | ⟨_ | a, S1⟩
  · rw [hm] at h; exact h
  · rw [hm] at h; exact h
  · rw [hm] at h
    exact fun w2 H' l2 r => Fin.mono (show Fin K E w (f a S1) R from h) l2
theorem Fin.ok {a : α} (h : Fin K E w (some (.ok a, S)) P) {H : Hp} (r : Rs K w S H) : P w S H a := h w H (Le.refl w) r
end
end Mi
namespace Mi
open PySem PySem.Spec L2
variable [LamTabs]
section
variable {X : Cx}
theorem pe_imp {e : Expr} {t t' : TE} (h : PE X e t) (k : ∀ σ H Q, t' σ H Q → t σ H Q) : PE X e t' := ⟨fun pins s σ H Q I q => h.run pins s σ H Q I (k σ H Q q)⟩
theorem pt_imp {e : Expr} {t t' : TT} (h : PT X e t) (k : ∀ σ H Q, t' σ H Q → t σ H Q) : PT X e t' := ⟨fun pins s σ H Q I q => h.run pins s σ H Q I (k σ H Q q)⟩
theorem pw_imp {e : Expr} {t t' : TT} (h : PW X e t) (k : ∀ σ H Q, t' σ H Q → t σ H Q) : PW X e t' := ⟨fun wh pins s σ H Q I q => h.run wh pins s σ H Q I (k σ H Q q)⟩
theorem pa_imp {e : List Expr} {t t' : TA} (h : PA X e t) (k : ∀ σ H Q, t' σ H Q → t σ H Q) : PA X e t' := ⟨fun pos pins s σ H Q I q => h.run pos pins s σ H Q I (k σ H Q q)⟩
theorem ps_imp {e : Stmt} {t t' : TS} (h : PS X e t) (k : ∀ D σ H, t' D σ H → t D σ H) : PS X e t' := ⟨fun pins s σ H D I q => h.run pins s σ H D I (k D σ H q)⟩
theorem pss_imp {e : List Stmt} {t t' : TS} (h : PSs X e t) (k : ∀ D σ H, t' D σ H → t D σ H) : PSs X e t' := ⟨fun pins s σ H D I q => h.run pins s σ H D I (k D σ H q)⟩
theorem pg_imp {e : Expr} {t t' : TG} (h : PG X e t) (k : ∀ v σ H Q, t' v σ H Q → t v σ H Q) : PG X e t' := ⟨fun pins s σ H v u Q I r q => h.run pins s σ H v u Q I r (k v σ H Q q)⟩
theorem pts_imp {e : List Expr} {t t' : TT} (h : PTs X e t) (k : ∀ σ H Q, t' σ H Q → t σ H Q) : PTs X e t' := ⟨fun pins s σ H Q I q => h.run pins s σ H Q I (k σ H Q q)⟩
end
inductive Fl where
  | nx | bk | ct | rt (d : D)
noncomputable def tM (K : PySem.W.Frag) (E : EK) (m : Env → M D) : TE := fun σ H Q => ∃ w S ρ, Rs K w S H ∧ Rn K w σ ρ ∧ Fin K E w (m ρ S) fun w' _ H' d => ∀ v, Rv K w' v d → Q v H'
noncomputable def tMt (K : PySem.W.Frag) (E : EK) (m : Env → M Bool) : TT := fun σ H Q => ∃ w S ρ, Rs K w S H ∧ Rn K w σ ρ ∧ Fin K E w (m ρ S) fun _ _ H' b => Q b H'
noncomputable def tMa (K : PySem.W.Frag) (E : EK) (m : Env → M (List D)) : TA := fun σ H Q => ∃ w S ρ, Rs K w S H ∧ Rn K w σ ρ ∧ Fin K E w (m ρ S) fun w' _ H' ds => ∀ vs, RvL K w' vs ds → Q vs H'
noncomputable def Land (K : PySem.W.Frag) (D : Ends) : Wd → Sto → Hp → Fl × Env → Prop := fun w' _ H' r => match r with
  | (.nx, ρ') => ∀ σ', Rn K w' σ' ρ' → D.nx σ' H'
  | (.bk, ρ') => ∀ σ', Rn K w' σ' ρ' → D.bk σ' H'
  | (.ct, ρ') => ∀ σ', Rn K w' σ' ρ' → D.ct σ' H'
  | (.rt d, _) => ∀ v, Rv K w' v d → D.rt v H'
noncomputable def tMs (K : PySem.W.Frag) (E : EK) (m : Env → M (Fl × Env)) : TS := fun D σ H => ∃ w S ρ, Rs K w S H ∧ Rn K w σ ρ ∧ Fin K E w (m ρ S) (Land K D)
noncomputable def gM (K : PySem.W.Frag) (E : EK) (m : D → Env → M Env) : TG := fun v σ H Q => ∃ w S ρ d, Rs K w S H ∧ Rn K w σ ρ ∧ Rv K w v d ∧ Fin K E w (m d ρ S) fun w' _ H' ρ' => ∀ σ', Rn K w' σ' ρ' → Q σ' H'
noncomputable def vget (i : Nat) (ρ : Env) : M D := match ρ[i]? with
  | some (some d) => M.pure d
  | _ => bad
section
variable {X : Cx} {E : EK}
theorem me_of {e : Expr} {i : Nat} (h : PE X e (tVar i)) : PE X e (tM X.K E (vget i)) := pe_imp h fun σ H Q ⟨w, S, ρ, hs, hn, h⟩ => by
  unfold vget at h
  rcases hd : ρ[i]? with _ | _ | d
  · rw [hd] at h; exact h.elim
  · rw [hd] at h; exact h.elim
  · rw [hd] at h
    obtain ⟨v, h1, h2⟩ := hn.at' i d hd
    exact ⟨v, h1, Fin.ok h hs v h2⟩
theorem me_cst {e : Expr} {v : V} {d : D} (h : PE X e (tC v)) (r : ∀ w, Rv X.K w v d) : PE X e (tM X.K E fun _ => M.pure d) := pe_imp h fun σ H Q ⟨w, S, ρ, hs, hn, h⟩ => h.ok hs v (r w)
theorem me_int {i j pos} : PE X (.Constant (.int i) j pos) (tM X.K E fun _ => M.pure (.int i)) := me_cst pe_int fun _ => .int i
theorem me_bl {i j pos} : PE X (.Constant (.bool i) j pos) (tM X.K E fun _ => M.pure (.bl i)) := me_cst pe_bl fun _ => .bl i
theorem me_non {j pos} : PE X (.Constant .none j pos) (tM X.K E fun _ => M.pure .non) := me_cst pe_non fun _ => .non
theorem me_str {i j pos} : PE X (.Constant (.str i) j pos) (tM X.K E fun _ => M.pure (.str i)) := me_cst pe_str fun _ => .str i
noncomputable def OpM (K : PySem.W.Frag) (r : R2) (f : D → D → M D) : Prop := ∀ (E : EK) (w : Wd) (S : Sto) (H : Hp) (v u : V) (x y : D) (Q : VK), Rs K w S H → Rv K w v x → Rv K w u y →
  Fin K E w (f x y S) (fun w' _ H' d => ∀ z, Rv K w' z d → Q z H') → r v u H Q
noncomputable def UnM (K : PySem.W.Frag) (r : V → Hp → VK → Prop) (f : D → M D) : Prop := ∀ (E : EK) (w : Wd) (S : Sto) (H : Hp) (v : V) (x : D) (Q : VK), Rs K w S H → Rv K w v x →
  Fin K E w (f x S) (fun w' _ H' d => ∀ z, Rv K w' z d → Q z H') → r v H Q
noncomputable def CaM (K : PySem.W.Frag) (r : List V → Hp → VK → Prop) (f : List D → M D) : Prop := ∀ (E : EK) (w : Wd) (S : Sto) (H : Hp) (vs : List V) (xs : List D) (Q : VK), Rs K w S H → RvL K w vs xs →
  Fin K E w (f xs S) (fun w' _ H' d => ∀ z, Rv K w' z d → Q z H') → r vs H Q
noncomputable def b2 (f : D → D → M D) (a b : Env → M D) : Env → M D := fun ρ => M.bind (a ρ) fun x => M.bind (b ρ) fun y => f x y
noncomputable def b1 (f : D → M D) (a : Env → M D) : Env → M D := fun ρ => M.bind (a ρ) f
variable {a b c : Expr} {ma mb mc : Env → M D} {pos : Pos}
theorem two {r : R2} {f : D → D → M D} (hf : OpM X.K r f) {σ : L2.St} {H : Hp} {Q : VK} (h : tM X.K E (b2 f ma mb) σ H Q) : tOp r (tM X.K E ma) (tM X.K E mb) σ H Q := by
  obtain ⟨w, S, ρ, hs, hn, h⟩ := h
  refine ⟨w, S, ρ, hs, hn, h.bind.imp fun w1 S1 H1 x l1 s1 h1 v rv => ?_⟩
  refine ⟨w1, S1, ρ, s1, hn.mono l1, h1.bind.imp fun w2 S2 H2 y l2 s2 h2 u ru => ?_⟩
  exact hf E w2 S2 H2 v u x y Q s2 (rv.mono l2) ru h2
theorem me_op {op : Operator} {r : R2} {f : D → D → M D} (ho : OpR X (binaryOp op) r) (hf : OpM X.K r f) (ha : PE X a (tM X.K E ma)) (hb : PE X b (tM X.K E mb)) : PE X (.BinOp a op b pos) (tM X.K E (b2 f ma mb)) :=
  pe_imp (pe_op ho ha hb) fun _ _ _ h => two hf h
theorem me_cmp {op : CmpOp} {r : R2} {f : D → D → M D} (ho : OpR X (compareOp op) r) (hf : OpM X.K r f) (ha : PE X a (tM X.K E ma)) (hb : PE X b (tM X.K E mb)) (hm : behindInMarks op b = false) : PE X (.Compare a [op] [b] pos) (tM X.K E (b2 f ma mb)) :=
  pe_imp (pe_cmpR ho ha hb hm) fun _ _ _ h => two hf h
theorem me_ix {r : R2} {f : D → D → M D} (ho : IxR X r) (hf : OpM X.K r f) (ha : PE X a (tM X.K E ma)) (hb : PE X b (tM X.K E mb)) (hs : PlainIx b) : PE X (.Subscript a b pos) (tM X.K E (b2 f ma mb)) :=
  pe_imp (pe_ix ho ha hb hs) fun _ _ _ h => two hf h
theorem me_un {op : UnaryOp} {r : V → Hp → VK → Prop} {f : D → M D} (ho : UnR X (unaryOp op) r) (hf : UnM X.K r f) (ha : PE X a (tM X.K E ma)) : PE X (.UnaryOp op a pos) (tM X.K E (b1 f ma)) :=
  pe_imp (pe_un ho ha) fun σ H Q ⟨w, S, ρ, hs, hn, h⟩ => ⟨w, S, ρ, hs, hn, h.bind.imp fun w1 S1 H1 x l1 s1 h1 v rv => hf E w1 S1 H1 v x Q s1 rv h1⟩
noncomputable def toB : D → M Bool
  | .bl b => M.pure b
  | _ => bad
noncomputable def tst (m : Env → M D) : Env → M Bool := fun ρ => M.bind (m ρ) toB
theorem toB_go {w : Wd} {S : Sto} {H : Hp} {d : D} {v : V} {P : Bool → Hp → Prop} (h : Fin X.K E w (toB d S) fun _ _ H' b => P b H') (hs : Rs X.K w S H) (rv : Rv X.K w v d) : ∃ k, v = .bl k ∧ P k H := by
  cases rv with
  | bl k => exact ⟨k, rfl, h.ok hs⟩
  | _ => exact h.elim
theorem mt_val {e : Expr} {m : Env → M D} (h : PE X e (tM X.K E m)) (he : ∀ whole, isTrue e X.env whole = (do let v ← whole; standAt e.pos; holding [v] (truthy v)) := by intro _; rfl) : PT X e (tMt X.K E (tst m)) :=
  pt_imp (pt_val h he) fun σ H Q ⟨w, S, ρ, hs, hn, h⟩ => ⟨w, S, ρ, hs, hn, h.bind.imp fun w1 S1 H1 x l1 s1 h1 v rv => toB_go h1 s1 rv⟩
theorem mt_cmp {op : CmpOp} {r : R2} {f : D → D → M D} (ho : OpR X (compareOp op) r) (hf : OpM X.K r f) (ha : PE X a (tM X.K E ma)) (hb : PE X b (tM X.K E mb)) (hm : behindInMarks op b = false) : PT X (.Compare a [op] [b] pos) (tMt X.K E (tst (b2 f ma mb))) := by
  refine pt_imp (pt_cmpR ho ha hb hm) fun σ H Q ⟨w, S, ρ, hs, hn, h⟩ => ?_
  exact two hf ⟨w, S, ρ, hs, hn, h.bind.imp fun w1 S1 H1 x l1 s1 h1 v rv => toB_go h1 s1 rv⟩
noncomputable def notT (m : Env → M Bool) : Env → M Bool := fun ρ => M.bind (m ρ) fun b => M.pure (!b)
noncomputable def andT (m n : Env → M Bool) : Env → M Bool := fun ρ => M.bind (m ρ) fun b => if b = true then n ρ else M.pure false
noncomputable def orT (m n : Env → M Bool) : Env → M Bool := fun ρ => M.bind (m ρ) fun b => if b = true then M.pure true else n ρ
variable {ta tb : Env → M Bool} {rest : List Expr}
theorem mt_not (ha : PT X a (tMt X.K E ta)) : PT X (.UnaryOp .Not a pos) (tMt X.K E (notT ta)) :=
  pt_imp (pt_not ha) fun σ H Q ⟨w, S, ρ, hs, hn, h⟩ => ⟨w, S, ρ, hs, hn, h.bind.imp fun w1 S1 H1 x l1 s1 h1 => h1.ok s1⟩
theorem mw_and1 (ha : PT X a (tMt X.K E ta)) : PW X (.BoolOp .And [a] pos) (tMt X.K E ta) := pw_and1 ha
theorem mw_or1 (ha : PT X a (tMt X.K E ta)) : PW X (.BoolOp .Or [a] pos) (tMt X.K E ta) := pw_or1 ha
theorem mw_and (ha : PT X a (tMt X.K E ta)) (hb : PW X (.BoolOp .And (b :: rest) pos) (tMt X.K E tb)) : PW X (.BoolOp .And (a :: b :: rest) pos) (tMt X.K E (andT ta tb)) :=
  pw_imp (pw_and ha hb) fun σ H Q ⟨w, S, ρ, hs, hn, h⟩ => ⟨w, S, ρ, hs, hn, h.bind.imp fun w1 S1 H1 x l1 s1 h1 => by
    cases x with
    | true => exact iteT ⟨w1, S1, ρ, s1, hn.mono l1, h1⟩
    | false => exact iteF (h1.ok s1)⟩
theorem mw_or (ha : PT X a (tMt X.K E ta)) (hb : PW X (.BoolOp .Or (b :: rest) pos) (tMt X.K E tb)) : PW X (.BoolOp .Or (a :: b :: rest) pos) (tMt X.K E (orT ta tb)) :=
  pw_imp (pw_or ha hb) fun σ H Q ⟨w, S, ρ, hs, hn, h⟩ => ⟨w, S, ρ, hs, hn, h.bind.imp fun w1 S1 H1 x l1 s1 h1 => by
    cases x with
    | false => exact iteF ⟨w1, S1, ρ, s1, hn.mono l1, h1⟩
    | true => exact iteT (h1.ok s1)⟩
/-- and, or, not as values -/
noncomputable def andV (m n : Env → M D) : Env → M D := fun ρ => M.bind (m ρ) fun x => M.bind (toB x) fun b => if b = true then n ρ else M.pure (.bl false)
noncomputable def orV (m n : Env → M D) : Env → M D := fun ρ => M.bind (m ρ) fun x => M.bind (toB x) fun b => if b = true then M.pure (.bl true) else n ρ
noncomputable def notV (m : Env → M D) : Env → M D := fun ρ => M.bind (m ρ) fun x => M.bind (toB x) fun b => M.pure (.bl (!b))
theorem me_one {op} {t : TE} (h : PE X a t) : PE X (.BoolOp op [a] pos) t := pe_one h
theorem me_and (ha : PE X a (tM X.K E ma)) (hb : PE X (.BoolOp .And (b :: rest) pos) (tM X.K E mb)) : PE X (.BoolOp .And (a :: b :: rest) pos) (tM X.K E (andV ma mb)) :=
  pe_imp (pe_and ha hb) fun σ H Q ⟨w, S, ρ, hs, hn, h⟩ => ⟨w, S, ρ, hs, hn, h.bind.imp fun w1 S1 H1 x l1 s1 h1 v rv => by
    cases rv with
    | bl k =>
      refine ⟨k, rfl, ?_⟩
      cases k with
      | true => exact iteT ⟨w1, S1, ρ, s1, hn.mono l1, h1⟩
      | false => exact iteF (Fin.ok h1 s1 _ (.bl false))
    | _ => exact h1.elim⟩
theorem me_or (ha : PE X a (tM X.K E ma)) (hb : PE X (.BoolOp .Or (b :: rest) pos) (tM X.K E mb)) : PE X (.BoolOp .Or (a :: b :: rest) pos) (tM X.K E (orV ma mb)) :=
  pe_imp (pe_or ha hb) fun σ H Q ⟨w, S, ρ, hs, hn, h⟩ => ⟨w, S, ρ, hs, hn, h.bind.imp fun w1 S1 H1 x l1 s1 h1 v rv => by
    cases rv with
    | bl k =>
      refine ⟨k, rfl, ?_⟩
      cases k with
      | false => exact iteF ⟨w1, S1, ρ, s1, hn.mono l1, h1⟩
      | true => exact iteT (Fin.ok h1 s1 _ (.bl true))
    | _ => exact h1.elim⟩
theorem me_not (ha : PE X a (tM X.K E ma)) : PE X (.UnaryOp .Not a pos) (tM X.K E (notV ma)) :=
  pe_imp (pe_not ha) fun σ H Q ⟨w, S, ρ, hs, hn, h⟩ => ⟨w, S, ρ, hs, hn, h.bind.imp fun w1 S1 H1 x l1 s1 h1 v rv => by
    cases rv with
    | bl k => exact ⟨k, rfl, Fin.ok h1 s1 _ (.bl _)⟩
    | _ => exact h1.elim⟩
/-- a chain of two -/
noncomputable def chn (f g : D → D → M D) (a b c : Env → M D) : Env → M D := fun ρ => M.bind (a ρ) fun x => M.bind (b ρ) fun y => M.bind (f x y) fun z => M.bind (toB z) fun k => if k = true then M.bind (c ρ) fun u => g y u else M.pure (.bl false)
theorem chn_go {r r' : R2} {f g : D → D → M D} (hf : OpM X.K r f) (hg : OpM X.K r' g) {σ : L2.St} {H : Hp} {Q : VK} (h : tM X.K E (chn f g ma mb mc) σ H Q) : tChain r r' (tM X.K E ma) (tM X.K E mb) (tM X.K E mc) σ H Q := by
  obtain ⟨w, S, ρ, hs, hn, h⟩ := h
  refine ⟨w, S, ρ, hs, hn, h.bind.imp fun w1 S1 H1 x l1 s1 h1 v rv => ?_⟩
  refine ⟨w1, S1, ρ, s1, hn.mono l1, h1.bind.imp fun w2 S2 H2 y l2 s2 h2 u ru => ?_⟩
  refine hf E w2 S2 H2 v u x y _ s2 (rv.mono l2) ru (h2.bind.imp fun w3 S3 H3 z l3 s3 h3 z' rz => ?_)
  cases rz with
  | bl k =>
    refine ⟨k, rfl, ?_⟩
    have h4 := h3.bind.ok s3
    cases k with
    | true =>
      refine iteT ⟨w3, S3, ρ, s3, hn.mono (l1.trans (l2.trans l3)), Fin.imp (Fin.bind h4) fun w4 S4 H4 t l4 s4 h5 t' rt => ?_⟩
      exact hg E w4 S4 H4 u t' y t Q s4 ((ru.mono l3).mono l4) rt h5
    | false => exact iteF (Fin.ok h4 s3 _ (.bl false))
  | _ => exact (Fin.bind h3).elim
theorem marks_two (op op' : CmpOp) (b c : Expr) : lastMarks [op, op'] [b, c] = behindInMarks op' c := by simp [lastMarks]
theorem me_chain {op op' : CmpOp} {r r' : R2} {f g : D → D → M D} (ho : OpR X (compareOp op) r) (hf : OpM X.K r f) (ho' : OpR X (compareOp op') r') (hg : OpM X.K r' g) (ha : PE X a (tM X.K E ma)) (hb : PE X b (tM X.K E mb)) (hc : PE X c (tM X.K E mc))
    (hm : behindInMarks op' c = false) : PE X (.Compare a [op, op'] [b, c] pos) (tM X.K E (chn f g ma mb mc)) := pe_imp (pe_chain ho ho' ha hb hc ((marks_two op op' b c).trans hm)) fun _ _ _ h => chn_go hf hg h
theorem mt_chain {op op' : CmpOp} {r r' : R2} {f g : D → D → M D} (ho : OpR X (compareOp op) r) (hf : OpM X.K r f) (ho' : OpR X (compareOp op') r') (hg : OpM X.K r' g) (ha : PE X a (tM X.K E ma)) (hb : PE X b (tM X.K E mb)) (hc : PE X c (tM X.K E mc))
    (hm : behindInMarks op' c = false) : PT X (.Compare a [op, op'] [b, c] pos) (tMt X.K E (tst (chn f g ma mb mc))) :=
  pt_imp (pt_chain ho ho' ha hb hc ((marks_two op op' b c).trans hm)) fun σ H Q ⟨w, S, ρ, hs, hn, h⟩ => chn_go hf hg ⟨w, S, ρ, hs, hn, h.bind.imp fun w1 S1 H1 x l1 s1 h1 v rv => toB_go h1 s1 rv⟩
/-- a if t else b -/
noncomputable def ifV (t : Env → M Bool) (m n : Env → M D) : Env → M D := fun ρ => M.bind (t ρ) fun k => if k = true then m ρ else n ρ
theorem me_ife (hc : PT X c (tMt X.K E ta)) (ha : PE X a (tM X.K E ma)) (hb : PE X b (tM X.K E mb)) : PE X (.IfExp c a b pos) (tM X.K E (ifV ta ma mb)) :=
  pe_imp (pe_ifExp hc ha hb) fun σ H Q ⟨w, S, ρ, hs, hn, h⟩ => ⟨w, S, ρ, hs, hn, h.bind.imp fun w1 S1 H1 x l1 s1 h1 => by
    cases x with
    | true => exact iteT ⟨w1, S1, ρ, s1, hn.mono l1, h1⟩
    | false => exact iteF ⟨w1, S1, ρ, s1, hn.mono l1, h1⟩⟩
variable {es : List Expr} {mas : Env → M (List D)}
noncomputable def aCons (m : Env → M D) (n : Env → M (List D)) : Env → M (List D) := fun ρ => M.bind (m ρ) fun x => M.bind (n ρ) fun xs => M.pure (x :: xs)
theorem ma_nil : PA X [] (tMa X.K E fun _ => M.pure []) := pa_imp pa_nil fun σ H Q ⟨w, S, ρ, hs, hn, h⟩ => Fin.ok h hs _ .nil
theorem ma_cons (ha : PE X a (tM X.K E ma)) (hr : PA X es (tMa X.K E mas)) (hst : starEach (a :: es) X.env = (false, eval a X.env) :: starEach es X.env := by rfl) : PA X (a :: es) (tMa X.K E (aCons ma mas)) :=
  pa_imp (pa_cons ha hr hst) fun σ H Q ⟨w, S, ρ, hs, hn, h⟩ => ⟨w, S, ρ, hs, hn, h.bind.imp fun w1 S1 H1 x l1 s1 h1 v rv =>
    ⟨w1, S1, ρ, s1, hn.mono l1, h1.bind.imp fun w2 S2 H2 xs l2 s2 h2 vs rvs => Fin.ok h2 s2 _ (.cons (rv.mono l2) rvs)⟩⟩
noncomputable def mkL (m : Env → M (List D)) : Env → M D := fun ρ => M.bind (m ρ) fun xs => if xs.length ≤ 100000 then M.pure (.lst xs) else bad
noncomputable def mkT (m : Env → M (List D)) : Env → M D := fun ρ => M.bind (m ρ) fun xs => if xs.length ≤ 100000 then M.pure (.tup xs) else bad
/-- a list that will be changed: a cell -/
noncomputable def newL (xs : List D) : M D := fun S => some (.ok (.ref S.length), S ++ [.lst xs])
noncomputable def mkC (m : Env → M (List D)) : Env → M D := fun ρ => M.bind (m ρ) fun xs => if xs.length ≤ 100000 then newL xs else bad
theorem sz_of {n : Nat} (h : n ≤ 100000) : n ≤ sizeLine := Nat.le_trans h (by decide)
theorem sz_lt {n : Nat} (h : n < 100000) : n < sizeLine := Nat.lt_of_lt_of_le h (by decide)
theorem lay_lst {w : Wd} {S : Sto} {H : Hp} {xs : List D} {vs : List V} {p : Addr} {P : Wd → Sto → Hp → D → Prop} (h : Fin X.K E w (some (.ok (.lst xs), S)) P) (hs : Rs X.K w S H) (rv : RvL X.K w vs xs) (hp : H p = none) :
    ∃ w', Le w w' ∧ Rv X.K w' (.ref p) (.lst xs) ∧ P w' S (upd H p (.lst vs)) (.lst xs) :=
  ⟨w.lay p (.lst vs), hs.le_lay hp, .lst (by show upd w.G p _ p = _; rw [upd_same]) (rv.mono (hs.le_lay hp)), h _ _ (hs.le_lay hp) (hs.lay hp)⟩
theorem lay_tup {w : Wd} {S : Sto} {H : Hp} {xs : List D} {vs : List V} {p : Addr} {P : Wd → Sto → Hp → D → Prop} (h : Fin X.K E w (some (.ok (.tup xs), S)) P) (hs : Rs X.K w S H) (rv : RvL X.K w vs xs) (hp : H p = none) :
    ∃ w', Le w w' ∧ Rv X.K w' (.ref p) (.tup xs) ∧ P w' S (upd H p (.tup vs)) (.tup xs) :=
  ⟨w.lay p (.tup vs), hs.le_lay hp, .tup (.of (by show upd w.G p _ p = _; rw [upd_same])) (rv.mono (hs.le_lay hp)), h _ _ (hs.le_lay hp) (hs.lay hp)⟩
theorem lay_new {w : Wd} {S : Sto} {H : Hp} {xs : List D} {vs : List V} {p : Addr} {P : Wd → Sto → Hp → D → Prop} (h : Fin X.K E w (newL xs S) P) (hs : Rs X.K w S H) (rv : RvL X.K w vs xs) (hp : H p = none) :
    ∃ w', Le w w' ∧ Rv X.K w' (.ref p) (.ref S.length) ∧ P w' (S ++ [.lst xs]) (upd H p (.lst vs)) (.ref S.length) :=
  ⟨w.add p, le_add, .ref (by show (w.A ++ [p])[S.length]? = some p; rw [← hs.len]; simp), h _ _ le_add (hs.add hp ⟨vs, by rw [upd_same], rv.mono le_add⟩)⟩
theorem me_lst {k} (ha : PA X es (tMa X.K E mas)) : PE X (.List es k) (tM X.K E (mkL mas)) := pe_imp (pe_lst ha) fun σ H Q ⟨w, S, ρ, hs, hn, h⟩ => ⟨w, S, ρ, hs, hn, h.bind.imp fun w1 S1 H1 xs l1 s1 h1 vs rvs => by
  by_cases hl : xs.length ≤ 100000
  · rw [if_pos hl] at h1
    refine ⟨sz_of (by rw [rvs.length]; exact hl), fun p hp => ?_⟩
    obtain ⟨w', _, r, q⟩ := lay_lst h1 s1 rvs hp
    exact q _ r
  · rw [if_neg hl] at h1
    exact h1.elim⟩
theorem me_new {k} (ha : PA X es (tMa X.K E mas)) : PE X (.List es k) (tM X.K E (mkC mas)) := pe_imp (pe_lst ha) fun σ H Q ⟨w, S, ρ, hs, hn, h⟩ => ⟨w, S, ρ, hs, hn, h.bind.imp fun w1 S1 H1 xs l1 s1 h1 vs rvs => by
  by_cases hl : xs.length ≤ 100000
  · rw [if_pos hl] at h1
    refine ⟨sz_of (by rw [rvs.length]; exact hl), fun p hp => ?_⟩
    obtain ⟨w', _, r, q⟩ := lay_new h1 s1 rvs hp
    exact q _ r
  · rw [if_neg hl] at h1
    exact h1.elim⟩
theorem me_tup {x k} (ha : PA X es (tMa X.K E mas)) : PE X (.Tuple es x k) (tM X.K E (mkT mas)) := pe_imp (pe_tup ha) fun σ H Q ⟨w, S, ρ, hs, hn, h⟩ => ⟨w, S, ρ, hs, hn, h.bind.imp fun w1 S1 H1 xs l1 s1 h1 vs rvs => by
  by_cases hl : xs.length ≤ 100000
  · rw [if_pos hl] at h1
    refine ⟨sz_of (by rw [rvs.length]; exact hl), fun p hp => ?_⟩
    obtain ⟨w', _, r, q⟩ := lay_tup h1 s1 rvs hp
    exact q _ r
  · rw [if_neg hl] at h1
    exact h1.elim⟩
noncomputable def cal (f : List D → M D) (m : Env → M (List D)) : Env → M D := fun ρ => M.bind (m ρ) f
variable {x : Str} {p : Pos} {id T : String} {r : List V → Hp → VK → Prop} {f : List D → M D}
theorem cal_go (hf : CaM X.K r f) {σ : L2.St} {H : Hp} {Q : VK} (h : tM X.K E (cal f mas) σ H Q) : tCB r (tMa X.K E mas) σ H Q := by
  obtain ⟨w, S, ρ, hs, hn, h⟩ := h
  exact ⟨w, S, ρ, hs, hn, h.bind.imp fun w1 S1 H1 xs l1 s1 h1 vs rvs => hf E w1 S1 H1 vs xs Q s1 rvs h1⟩
theorem me_callB (hc : CallR X (.builtin id) r) (hf : CaM X.K r f) (hg : Gl X x) (hm : X.mg x = none) (hv : bootBuiltins x = some (.builtin id)) (ha : PA X (a :: es) (tMa X.K E mas)) (hn : x ≠ "__name__" := by decide) (hdb : (x == ("__debug__" : Str)) = false := by decide)
    (he : starEach (a :: es) X.env = (false, eval a X.env) :: starEach es X.env := by rfl) (hpl : (backTo pos (starEach es X.env)).any (·.1) = false := by rfl) : PE X (.Call (.Name x p) (a :: es) [] pos) (tM X.K E (cal f mas)) :=
  pe_imp (pe_callB hc hg hm hv ha hn hdb he hpl) fun _ _ _ h => cal_go hf h
theorem me_callTy (hc : CallR X (.type T) r) (hf : CaM X.K r f) (hg : Gl X x) (hm : X.mg x = none) (hv : bootBuiltins x = some (.type T)) (ha : PA X (a :: es) (tMa X.K E mas)) (hn : x ≠ "__name__" := by decide) (hdb : (x == ("__debug__" : Str)) = false := by decide)
    (he : starEach (a :: es) X.env = (false, eval a X.env) :: starEach es X.env := by rfl) (hpl : (backTo pos (starEach es X.env)).any (·.1) = false := by rfl) : PE X (.Call (.Name x p) (a :: es) [] pos) (tM X.K E (cal f mas)) :=
  pe_imp (pe_callTy hc hg hm hv ha hn hdb he hpl) fun _ _ _ h => cal_go hf h
noncomputable def EK0 : EK := fun _ _ _ _ => False
noncomputable def spM (K : PySem.W.Frag) (n : Nat) (f : List D → M D) : Sp := fun vs H Q _ => vs.length = n ∧ ∃ w S ds, Rs K w S H ∧ RvL K w vs ds ∧ Fin K EK0 w (f ds S) fun w' _ H' d => ∀ v, Rv K w' v d → Q v H'
variable {CX : CXT} {k : Nat} {fa : Addr} {fd : FuncData} {ps : List Str}
noncomputable def calF (n : Nat) (f : List D → M D) (m : Env → M (List D)) : Env → M D := fun ρ => M.bind (m ρ) fun xs => if xs.length = n then f xs else bad
theorem me_call {n : Nat} (F : FnOk X.prog X.w X.K X.mg X.base CX k fa fd ps (spM X.K n f)) (hr : Room k X.A) (hg : Gl X x) (hm : X.mg x = some (.ref fa)) (hk : PySem.W.keepIn X.K (.ref fa) = true) (hb : Binds X.K fd ps []) {E' : XK} (hx : Passes CX X E')
    (ha : PA X (a :: es) (tMa X.K EK0 mas)) (hdb : (x == ("__debug__" : Str)) = false := by decide) (he : starEach (a :: es) X.env = (false, eval a X.env) :: starEach es X.env := by rfl) (hpl : (backTo pos (starEach es X.env)).any (·.1) = false := by rfl) :
    PE X (.Call (.Name x p) (a :: es) [] pos) (tM X.K EK0 (calF n f mas)) :=
  pe_imp (pe_call F hr hg hm hk hb .nil hx ha hdb he hpl) fun σ H Q ⟨w, S, ρ, hs, hn, h⟩ => ⟨w, S, ρ, hs, hn, h.bind.imp fun w1 S1 H1 xs l1 s1 h1 vs rvs => by
    by_cases hl : xs.length = n
    · rw [if_pos hl] at h1
      exact ⟨by rw [List.append_nil, rvs.length, hl], w1, S1, xs, s1, by rw [List.append_nil]; exact rvs, h1⟩
    · rw [if_neg hl] at h1
      exact h1.elim⟩
end
end Mi
namespace Mi
open PySem PySem.Spec L2
variable [LamTabs]
section
variable {X : Cx} {E : EK} {st : Stmt} {rest body : List Stmt} {e c o i : Expr} {pos : Pos} {m n : Env → M D} {t : Env → M Bool} {ms ns : Env → M (Fl × Env)}
noncomputable def sSeq (a b : Env → M (Fl × Env)) : Env → M (Fl × Env) := fun ρ => M.bind (a ρ) fun r => match r with
  | (.nx, ρ') => b ρ'
  | r => M.pure r
noncomputable def sNil : Env → M (Fl × Env) := fun ρ => M.pure (.nx, ρ)
noncomputable def sRet (m : Env → M D) : Env → M (Fl × Env) := fun ρ => M.bind (m ρ) fun d => M.pure (.rt d, ρ)
noncomputable def sDrop (m : Env → M D) : Env → M (Fl × Env) := fun ρ => M.bind (m ρ) fun _ => M.pure (.nx, ρ)
noncomputable def sIf (t : Env → M Bool) (a b : Env → M (Fl × Env)) : Env → M (Fl × Env) := fun ρ => M.bind (t ρ) fun k => if k = true then a ρ else b ρ
noncomputable def sAsg (m : Env → M D) (g : D → Env → M Env) : Env → M (Fl × Env) := fun ρ => M.bind (m ρ) fun d => M.bind (g d ρ) fun ρ' => M.pure (.nx, ρ')
noncomputable def gSet (i : Nat) : D → Env → M Env := fun d ρ => M.pure (ρ.set i (some d))
theorem mss_nil : PSs X [] (tMs X.K E sNil) := pss_imp pss_nil fun D σ H ⟨w, S, ρ, hs, hn, h⟩ => Fin.ok h hs σ hn
theorem mss_cons (h1 : PS X st (tMs X.K E ms)) (h2 : PSs X rest (tMs X.K E ns)) : PSs X (st :: rest) (tMs X.K E (sSeq ms ns)) :=
  pss_imp (pss_cons h1 h2) fun D σ H ⟨w, S, ρ, hs, hn, h⟩ => ⟨w, S, ρ, hs, hn, h.bind.imp fun w1 S1 H1 r l1 s1 q => by
    obtain ⟨fl, ρ'⟩ := r
    cases fl with
    | nx => exact fun σ' hn' => ⟨w1, S1, ρ', s1, hn', q⟩
    | bk => exact Fin.ok q s1
    | ct => exact Fin.ok q s1
    | rt d => exact Fin.ok q s1⟩
theorem ms_ret (he : PE X e (tM X.K E m)) : PS X (.Return (some e) pos) (tMs X.K E (sRet m)) :=
  ps_imp (ps_ret he) fun D σ H ⟨w, S, ρ, hs, hn, h⟩ => ⟨w, S, ρ, hs, hn, h.bind.imp fun w1 S1 H1 d l1 s1 q v rv => Fin.ok q s1 v rv⟩
theorem ms_expr (he : PE X e (tM X.K E m)) (hs : swapsWith e none pos.line X.env = pure false := by rfl) : PS X (.Expr e pos) (tMs X.K E (sDrop m)) :=
  ps_imp (ps_expr he hs) fun D σ H ⟨w, S, ρ, hs, hn, h⟩ => ⟨w, S, ρ, hs, hn, h.bind.imp fun w1 S1 H1 d l1 s1 q v rv => Fin.ok q s1 σ (hn.mono l1)⟩
theorem ms_if (hc : PT X c (tMt X.K E t)) (ha : PSs X body (tMs X.K E ms)) (hb : PSs X rest (tMs X.K E ns)) : PS X (.If c body rest pos) (tMs X.K E (sIf t ms ns)) :=
  ps_imp (ps_if hc ha hb) fun D σ H ⟨w, S, ρ, hs, hn, h⟩ => ⟨w, S, ρ, hs, hn, h.bind.imp fun w1 S1 H1 k l1 s1 q => by
    cases k with
    | true => exact iteT ⟨w1, S1, ρ, s1, hn.mono l1, q⟩
    | false => exact iteF ⟨w1, S1, ρ, s1, hn.mono l1, q⟩⟩
theorem mg_name {i : Nat} {x : Str} (hN : X.N.Nodup) (hi : X.N[i]? = some x) (hx : Loc X.env.scope x) (hf : X.fn x = true ∨ X.env.scope.names.lookup x = some .local := by first | exact .inl rfl | exact .inr rfl | assumption) : PG X (.Name x pos) (gM X.K E (gSet i)) :=
  pg_imp (pg_name hN hi hx hf) fun v σ H Q ⟨w, S, ρ, d, hs, hn, rv, h⟩ => Fin.ok h hs _ (hn.set rv)
theorem asg_go {g : D → Env → M Env} {D : Ends} {σ : L2.St} {H : Hp} (h : tMs X.K E (sAsg m g) D σ H) : tAsg (tM X.K E m) (gM X.K E g) D σ H := by
  obtain ⟨w, S, ρ, hs, hn, h⟩ := h
  exact ⟨w, S, ρ, hs, hn, h.bind.imp fun w1 S1 H1 d l1 s1 q v rv => ⟨w1, S1, ρ, d, s1, hn.mono l1, rv, q.bind.imp fun w2 S2 H2 ρ' l2 s2 q2 σ' hn' => Fin.ok q2 s2 σ' hn'⟩⟩
theorem ms_asg {g : D → Env → M Env} {tg : Expr} (he : PE X e (tM X.K E m)) (hg : PG X tg (gM X.K E g)) (hs : swapsWithSole [tg] e pos.line X.env = pure false := by rfl) (hw : swappedStores [tg] e X.env = pure none := by rfl)
    (h1 : (assignEach [tg] X.env).map (·.2) = [assign tg X.env] := by rfl) : PS X (.Assign [tg] e pos) (tMs X.K E (sAsg m g)) := ps_imp (ps_asg he hg hs hw h1) fun _ _ _ h => asg_go h
theorem ms_set {i : Nat} {x : Str} {pos' : Pos} (hN : X.N.Nodup) (hi : X.N[i]? = some x) (hx : Loc X.env.scope x) (he : PE X e (tM X.K E m)) (hs : swapsWith e (some (.Name x pos')) pos.line X.env = pure false := by rfl) (hf : X.fn x = true ∨ X.env.scope.names.lookup x = some .local := by first | exact .inl rfl | exact .inr rfl | assumption) :
    PS X (.Assign [.Name x pos'] e pos) (tMs X.K E (sAsg m (gSet i))) := ps_imp (ps_set hN hi hx he hs hf) fun D σ H ⟨w, S, ρ, hs, hn, h⟩ =>
  ⟨w, S, ρ, hs, hn, h.bind.imp fun w1 S1 H1 d l1 s1 q v rv => Fin.ok (Fin.bind q |>.ok s1) s1 _ ((hn.mono l1).set rv)⟩
/-- a, b = x, y -/
noncomputable def sPar (i j : Nat) (m n : Env → M D) : Env → M (Fl × Env) := fun ρ => M.bind (m ρ) fun x => M.bind (n ρ) fun y => M.pure (.nx, (ρ.set i (some x)).set j (some y))
theorem ms_par {i j : Nat} {x y : Str} {a b : Expr} {px py pt : Pos} {kt k2 pt2} (hc : X.calm = true) (hN : X.N.Nodup) (hi : X.N[i]? = some x) (hj : X.N[j]? = some y) (hij : i ≠ j)
    (hx : X.env.scope.names.lookup x = some .local) (hy : X.env.scope.names.lookup y = some .local) (ha : PE X a (tM X.K E m)) (hb : PE X b (tM X.K E n)) (hst : swappedStores [.Tuple [.Name x px, .Name y py] kt pt] (.Tuple [a, b] k2 pt2) X.env = pure (some [x, y]) := by rfl)
    (h1 : starEach [a, b] X.env = (false, eval a X.env) :: starEach [b] X.env := by rfl) (h2 : starEach [b] X.env = (false, eval b X.env) :: starEach [] X.env := by rfl) :
    PS X (.Assign [.Tuple [.Name x px, .Name y py] kt pt] (.Tuple [a, b] k2 pt2) pos) (tMs X.K E (sPar i j m n)) :=
  ps_imp (ps_par hc hN hi hj hij hx hy (pa_cons ha (pa_cons hb pa_nil h2) h1) hst) fun D σ H ⟨w, S, ρ, hs, hn, h⟩ =>
    ⟨w, S, ρ, hs, hn, h.bind.imp fun w1 S1 H1 d l1 s1 q v rv => ⟨w1, S1, ρ, s1, hn.mono l1, q.bind.imp fun w2 S2 H2 d2 l2 s2 q2 v2 rv2 =>
      ⟨v, v2, rfl, Fin.ok q2 s2 _ (((hn.mono (l1.trans l2)).set (rv.mono l2)).set rv2)⟩⟩⟩
end
/-- the items of a walk, one by one; a turn may lay a new pair -/
structure Out (w : Wd) (p : Addr) : Prop where
  g : w.G p = none
  f : w.F p = none
  a : p ∉ w.A
noncomputable def YM (K : PySem.W.Frag) (w : Wd) (ds : List D) (Y : Nat → Hp → V → Hp → Prop) : Prop := ∀ i H x H' w2 S2, Le w w2 → Rs K w2 S2 H → i < ds.length → Y i H x H' →
  ∃ w3 d, Le w2 w3 ∧ Rs K w3 S2 H' ∧ ds[i]? = some d ∧ Rv K w3 x d ∧ ∀ p o, H p = some o → H' p = some o ∧ (Out w2 p → Out w3 p)
noncomputable def tMi (K : PySem.W.Frag) (E : EK) (m : Env → M (List D)) : TI := fun σ H R => ∃ w S ρ, Rs K w S H ∧ Rn K w σ ρ ∧ Fin K E w (m ρ S) fun w' _ H' ds =>
  ∀ J G Y, Walk J ds.length G Y → (∀ w2 S2 H2, Le w' w2 → Rs K w2 S2 H2 → G H2) → YM K w' ds Y → R J H'
section
variable {X : Cx} {E : EK} {tg iter : Expr} {body rest : List Stmt} {pos : Pos} {wi : TI} {mi : Env → M (List D)} {ms : Env → M (Fl × Env)} {g : D → Env → M Env}
theorem pi_imp {wi wi' : TI} (h : PI X tg iter wi) (k : ∀ σ H R, wi' σ H R → wi σ H R) : PI X tg iter wi' := ⟨fun pins s σ H R I q => h.run pins s σ H R I (k σ H R q)⟩
noncomputable def loop (g : D → Env → M Env) (body : Env → M (Fl × Env)) : List D → Env → M (Fl × Env)
  | [], ρ => M.pure (.nx, ρ)
  | x :: xs, ρ => M.bind (g x ρ) fun ρ1 => M.bind (body ρ1) fun r => match r with
    | (.nx, ρ2) => loop g body xs ρ2
    | (.ct, ρ2) => loop g body xs ρ2
    | (.bk, ρ2) => M.pure (.nx, ρ2)
    | (.rt d, ρ2) => M.pure (.rt d, ρ2)
noncomputable def sFor (mi : Env → M (List D)) (g : D → Env → M Env) (body : Env → M (Fl × Env)) : Env → M (Fl × Env) := fun ρ => M.bind (mi ρ) fun xs => loop g body xs ρ
theorem ms_for (hp : PassesOwn (model X.prog X.w) X.A X.env X.xe) (hc : X.calm = true) (hi : PI X tg iter (tMi X.K E mi)) (hg : PG X tg (gM X.K E g)) (hb : PSs X body (tMs X.K E ms)) (hfs : ∀ x, foldedSetIterable iter X.env x = pure x := by intro _; rfl) :
    PS X (.For tg iter body [] pos) (tMs X.K E (sFor mi g ms)) := ps_imp (ps_for hp hc hi hg hb hfs) fun D σ H ⟨w, S, ρ, hs, hn, h⟩ => by
  refine ⟨w, S, ρ, hs, hn, h.bind.imp fun w1 S1 H1 ds l1 s1 q J G Y W hG hY => ?_⟩
  refine for_it W (fun i σ' H' => ∃ w' S' ρ', Le w1 w' ∧ Rs X.K w' S' H' ∧ Rn X.K w' σ' ρ' ∧ Fin X.K E w' (loop g ms (ds.drop i) ρ' S') (Land X.K D)) ⟨w1, S1, ρ, Le.refl w1, s1, hn.mono l1, q⟩
    (fun i σ' H' _ ⟨w', S', ρ', l, s, _⟩ => hG w' S' H' l s) (fun i x σ' H2 H3 hi ⟨w', S', ρ', l, s, n, q⟩ y => ?_) (fun σ' H' ⟨w', S', ρ', l, s, n, q⟩ => ?_)
  · obtain ⟨w3, d, l3, s3, hd, rv, _⟩ := hY i H2 x H3 w' S' l s hi y
    have e : ds.drop i = d :: ds.drop (i + 1) := by
      rw [List.drop_eq_getElem_cons hi]
      rw [List.getElem?_eq_getElem hi] at hd
      cases hd
      rfl
    rw [e] at q
    refine ⟨w3, S', ρ', d, s3, n.mono l3, rv, (Fin.bind (Fin.mono q l3)).imp fun w4 S4 H4 ρ1 l4 s4 q4 σ4 n4 => ⟨w4, S4, ρ1, s4, n4, q4.bind.imp fun w5 S5 H5 r l5 s5 q5 => ?_⟩⟩
    have ll : Le w1 w5 := l.trans (l3.trans (l4.trans l5))
    obtain ⟨fl, ρ2⟩ := r
    cases fl with
    | nx => exact fun σ5 n5 => ⟨w5, S5, ρ2, ll, s5, n5, q5⟩
    | ct => exact fun σ5 n5 => ⟨w5, S5, ρ2, ll, s5, n5, q5⟩
    | bk => exact fun σ5 n5 => Fin.ok q5 s5 σ5 n5
    | rt d => exact fun v rv => Fin.ok q5 s5 v rv
  · rw [List.drop_length] at q
    exact Fin.ok q s σ' n
end
noncomputable def Wd.fr (w : Wd) (p : Addr) (o : HO) : Wd := { w with F := upd w.F p o }
noncomputable def Wd.un (w : Wd) (F : Hp) : Wd := { w with F := F }
theorem lv_of {w w' : Wd} (a : w'.A = w.A) (g : w'.G = w.G) : Lv w w' := ⟨⟨[], by rw [a]; simp⟩, fun b o h => by rw [g]; exact h⟩
section
variable {K : PySem.W.Frag} {w w2 : Wd} {S : Sto} {H : Hp} {p : Addr} {o : HO}
theorem cell_fr {a : Addr} {c : Cell} (h : CellR K w H a c) : CellR K (w.fr p o) H a c := CellR.monoV (w := w) (w' := w.fr p o) (lv_of rfl rfl) (fun _ e => e) h
theorem cell_un {a : Addr} {c : Cell} {F : Hp} (h : CellR K w H a c) : CellR K (w.un F) H a c := CellR.monoV (w := w) (w' := w.un F) (lv_of rfl rfl) (fun _ e => e) h
theorem rv_fr {v : V} {d : D} (h : Rv K w v d) : Rv K (w.fr p o) v d := Rv.monoV (w := w) (w' := w.fr p o) (lv_of rfl rfl) h
theorem rv_un {v : V} {d : D} {F : Hp} (h : Rv K w v d) : Rv K (w.un F) v d := Rv.monoV (w := w) (w' := w.un F) (lv_of rfl rfl) h
theorem rn_fr {σ : L2.St} {ρ : Env} (h : Rn K w σ ρ) : Rn K (w.fr p o) σ ρ := Rn.v (w := w) (w' := w.fr p o) h (lv_of rfl rfl)
theorem rn_un {σ : L2.St} {ρ : Env} {F : Hp} (h : Rn K w σ ρ) : Rn K (w.un F) σ ρ := Rn.v (w := w) (w' := w.un F) h (lv_of rfl rfl)
theorem Rs.outs (r : Rs K w S H) (x : Out w p) (k : Soft (H p)) : Rs K w S (upd H p o) := by
  refine ⟨fun a u e => ?_, fun a u e => ?_, r.gf, r.len, r.nd, r.ag, fun n a c h1 h2 => ?_, r.sy, tabs_upd r.tb k, r.nt, r.nf⟩
  · rw [upd_ne (ne_of_none e x.g)]
    exact r.g a u e
  · rw [upd_ne (ne_of_none e x.f)]
    exact r.f a u e
  · refine (r.cell n a c h1 h2).mono (Le.refl w) fun u e => ?_
    rw [upd_ne (show a ≠ p by rintro rfl; exact x.a (List.mem_of_getElem? h1))]
    exact e
theorem Rs.fr (r : Rs K w S H) (x : Out w p) (h : H p = some o) (ho : ∀ ps, o ≠ .tbl ps := by intro _ z; cases z) : Rs K (w.fr p o) S H := by
  refine ⟨r.g, fun a u e => ?_, fun a u e => ?_, r.len, r.nd, fun a ha => ⟨(r.ag a ha).1, ?_⟩, fun n a c h1 h2 => cell_fr (r.cell n a c h1 h2), ?_, r.tb, r.nt, r.nf.upd ho⟩
  · have e' : upd w.F p o a = some u := e
    by_cases q : a = p
    · subst q
      rw [upd_same] at e'
      rw [h, e']
    · rw [upd_ne q] at e'
      exact r.f a u e'
  · have e' : upd w.F p o a = some u := e
    by_cases q : a = p
    · subst q
      exact x.g
    · rw [upd_ne q] at e'
      exact r.gf a u e'
  · show upd w.F p o a = none
    rw [upd_ne (show a ≠ p by rintro rfl; exact x.a ha)]
    exact (r.ag a ha).2
  · obtain ⟨φ, hφ⟩ := r.sy
    exact ⟨φ, by
      show upd w.F p o sysModules = _
      rw [upd_ne (ne_of_none hφ x.f)]
      exact hφ⟩
theorem Rs.lay' (r : Rs K w S H) (x : Out w p) (h : H p = some o) (ho : ∀ ps, o ≠ .tbl ps := by intro _ z; cases z) : Le w (w.lay p o) ∧ Rs K (w.lay p o) S H := by
  have l : Le w (w.lay p o) := ⟨⟨[], by simp [Wd.lay]⟩, fun b u e => by
    show upd w.G p o b = some u
    rw [upd_ne (ne_of_none e x.g)]
    exact e, rfl⟩
  refine ⟨l, fun a u e => ?_, r.f, fun a u e => ?_, r.len, r.nd, fun a ha => ⟨?_, (r.ag a ha).2⟩, fun n a c h1 h2 => (r.cell n a c h1 h2).monoV l.v fun _ e => e, r.sy, r.tb, r.nt.upd ho, r.nf⟩
  · have e' : upd w.G p o a = some u := e
    by_cases q : a = p
    · subst q
      rw [upd_same] at e'
      rw [h, e']
    · rw [upd_ne q] at e'
      exact r.g a u e'
  · show upd w.G p o a = none
    rw [upd_ne (ne_of_none e x.f)]
    exact r.gf a u e
  · have e : upd w.G p o a = w.G a := upd_ne (show a ≠ p by rintro rfl; exact x.a ha)
    show upd w.G p o a = none ∨ ∃ o' xs, upd w.G p o a = some (.frz o' (.dK xs))
    rw [e]
    exact (r.ag a ha).1
/-- behind a framed run -/
structure Kept (K : PySem.W.Frag) (w w' : Wd) (S : Sto) (H : Hp) (p : Addr) (o : HO) : Prop where
  le : Le w w'
  rs : Rs K w' S H
  out : Out w' p
  at' : H p = some o
theorem Fin.fr {α : Type} {r : Option (Except Exn α × Sto)} {P : Wd → Sto → Hp → α → Prop} (hf : w.F p = none) (sy : SysF w.F) (nf : NoTb w.F) (h : Fin K EK0 w r P) : Fin K EK0 (w.fr p o) r fun w2 S' H' a => Kept K w (w2.un w.F) S' H' p o ∧ P (w2.un w.F) S' H' a := by
  rcases r with _ | ⟨_ | a, S'⟩
  · exact h
  · intro w2 H' l2 r2
    have hF : w2.F = upd w.F p o := l2.f
    refine h (w2.un w.F) H' ⟨l2.a, l2.g, rfl⟩ ⟨r2.g, fun b u e => ?_, fun b u e => ?_, r2.len, r2.nd, fun b hb => ⟨(r2.ag b hb).1, ?_⟩, fun n b c h1 h2 => cell_un (r2.cell n b c h1 h2), sy, r2.tb, r2.nt, nf⟩
    · have e' : w.F b = some u := e
      refine r2.f b u ?_
      rw [hF, upd_ne (ne_of_none e' hf)]
      exact e'
    · have e' : w.F b = some u := e
      refine r2.gf b u ?_
      rw [hF, upd_ne (ne_of_none e' hf)]
      exact e'
    · have q := (r2.ag b hb).2
      rw [hF] at q
      by_cases z : b = p
      · rw [z]; exact hf
      · rw [upd_ne z] at q
        exact q
  · intro w2 H' l2 r2
    have hF : w2.F = upd w.F p o := l2.f
    have l : Le w (w2.un w.F) := ⟨l2.a, l2.g, rfl⟩
    have rr : Rs K (w2.un w.F) S' H' := ⟨r2.g, fun b u e => by
      have e' : w.F b = some u := e
      refine r2.f b u ?_
      rw [hF, upd_ne (ne_of_none e' hf)]
      exact e', fun b u e => by
      have e' : w.F b = some u := e
      refine r2.gf b u ?_
      rw [hF, upd_ne (ne_of_none e' hf)]
      exact e', r2.len, r2.nd, fun b hb => ⟨(r2.ag b hb).1, by
      have q := (r2.ag b hb).2
      rw [hF] at q
      by_cases z : b = p
      · rw [z]; exact hf
      · rw [upd_ne z] at q
        exact q⟩, fun n b c h1 h2 => cell_un (r2.cell n b c h1 h2), sy, r2.tb, r2.nt, nf⟩
    have hp : w2.F p = some o := by rw [hF, upd_same]
    exact ⟨⟨l, rr, ⟨r2.gf p o hp, hf, fun z => by have := (r2.ag p z).2; rw [hp] at this; cases this⟩, r2.f p o hp⟩, h (w2.un w.F) H' l rr⟩
end
noncomputable def noErr {α : Type} (m : M α) : M α := fun S => match m S with
  | some (.ok a, S') => some (.ok a, S')
  | _ => none
theorem Fin.noErr {α : Type} {K : PySem.W.Frag} {E : EK} {w : Wd} {m : M α} {S : Sto} {P : Wd → Sto → Hp → α → Prop} (h : Fin K E w (noErr m S) P) : Fin K EK0 w (m S) P := by
  unfold Mi.noErr at h
  rcases hm : m S with _ | ⟨_ | a, S'⟩
  · rw [hm] at h; exact h.elim
  · rw [hm] at h; exact h.elim
  · rw [hm] at h; exact h
noncomputable def lcGo (g : D → Env → M Env) (t : Env → M Bool) (e : Env → M D) (ρ : Env) : List D → M (List D)
  | [] => M.pure []
  | x :: xs => M.bind (g x ρ) fun ρ1 => M.bind (t ρ1) fun k => if k = true then M.bind (e ρ1) fun y => M.bind (lcGo g t e ρ xs) fun ys => M.pure (y :: ys) else lcGo g t e ρ xs
noncomputable def wipeE (vs : List Nat) (ρ : Env) : Env := vs.foldr (fun i ρ => ρ.set i none) ρ
noncomputable def eLc (mi : Env → M (List D)) (g : D → Env → M Env) (t : Env → M Bool) (e : Env → M D) (vs : List Nat) : Env → M D := fun ρ => M.bind (mi ρ) fun xs =>
  if xs.length ≤ 50000 then M.bind (noErr (lcGo g t e (wipeE vs ρ) xs)) fun ys => M.pure (.lst ys) else bad
theorem wipe_get (σ : L2.St) : ∀ (vs : List Nat) (j : Nat), (L2.wipe σ vs)[j]? = if j ∈ vs then σ[j]?.map (fun _ => none) else σ[j]?
  | [], j => by simp [L2.wipe]
  | v :: vs, j => by
    show ((L2.wipe σ vs).set v none)[j]? = _
    rw [List.getElem?_set]
    by_cases h : v = j
    · subst h
      have e := L2.wipe_length σ vs
      by_cases hl : v < σ.length
      · simp [e, hl]
      · simp [e, hl]
    · rw [if_neg h, wipe_get σ vs j]
      have : j ∈ v :: vs ↔ j ∈ vs := by simp [Ne.symm h]
      simp only [this]
theorem wipe_wipe (σ : L2.St) (vs : List Nat) : L2.wipe (L2.wipe σ vs) vs = L2.wipe σ vs := by
  apply List.ext_getElem?
  intro j
  rw [wipe_get, wipe_get]
  split
  · cases σ[j]? <;> rfl
  · rfl
theorem wipe_set {σ : L2.St} {vs : List Nat} {i : Nat} {x : Option V} (h : i ∈ vs) : L2.wipe (σ.set i x) vs = L2.wipe σ vs := by
  apply List.ext_getElem?
  intro j
  rw [wipe_get, wipe_get]
  split
  · rw [List.getElem?_set]
    split
    · rename_i e
      subst e
      split
      · rename_i hl
        simp [hl]
      · rename_i hl
        simp [hl]
    · rfl
  · rename_i hj
    rw [List.getElem?_set_ne (show i ≠ j by rintro rfl; exact hj h)]
/-- how a raw target answers a mirrored one: slots of vs alone change -/
noncomputable def GW (K : PySem.W.Frag) (vs : List Nat) (g : D → Env → M Env) (raw : TG) : Prop := ∀ (w : Wd) (S : Sto) (ρ : Env) (H : Hp) (v : V) (d : D) (σ : L2.St) (Q : L2.St → Hp → Prop), Rs K w S H → Rn K w σ ρ → Rv K w v d →
  Fin K EK0 w (g d ρ S) (fun w' _ H' ρ' => ∀ σ', Rn K w' σ' ρ' → L2.wipe σ' vs = L2.wipe σ vs → Q σ' H') → raw v σ H Q
theorem gw_name {K : PySem.W.Frag} {vs : List Nat} {i : Nat} (h : i ∈ vs) : GW K vs (gSet i) (gName i) := fun w S ρ H v d σ Q hs hn rv q => Fin.ok q hs _ (hn.set rv) (wipe_set h)
section
variable {X : Cx} {E : EK} {elt tg iter : Expr} {ifs : List Expr} {scope : Scope} {own : List (Str × Nat)} {pos : Pos} {raw : TG} {mi : Env → M (List D)} {g : D → Env → M Env} {t : Env → M Bool} {m : Env → M D}
theorem lc_go (hw : GW X.K (own.map (·.2)) g raw) {σ : L2.St} {H : Hp} {Q : VK} (h : tM X.K E (eLc mi g t m (own.map (·.2))) σ H Q) :
    tLc (tMi X.K E mi) raw (tMt X.K EK0 t) (tM X.K EK0 m) (own.map (·.2)) σ H Q := by
  generalize own.map (·.2) = vs at *
  obtain ⟨w, S, ρ, hs, hn, h⟩ := h
  refine ⟨w, S, ρ, hs, hn, h.bind.imp fun w1 S1 H1 ds l1 s1 q J G Y W hG hY D hD => ?_⟩
  by_cases hz : ds.length ≤ 50000
  case neg => rw [if_neg hz] at q; exact q.elim
  rw [if_pos hz] at q
  have q := Fin.noErr (Fin.bind q)
  have hn1 : Rn X.K w1 (L2.wipe σ vs) (wipeE vs ρ) := (hn.mono l1).wipe vs
  obtain ⟨f1, f2, f3⟩ := s1.fresh hD
  refine lc_it W (fun i H' => ∃ w' S' va ys, Le w1 w' ∧ Rs X.K w' S' H' ∧ H' D = some (.lst va) ∧ Out w' D ∧ RvL X.K w' va ys ∧ ys.length ≤ i ∧ i ≤ ds.length ∧
      Fin X.K EK0 w' (lcGo g t m (wipeE vs ρ) (ds.drop i) S') fun w2 S2 H2 more => Fin X.K E w2 (M.pure (Mi.D.lst (ys ++ more)) S2) fun w3 _ H3 d => ∀ v, Rv X.K w3 v d → Q v H3)
    ⟨w1, S1, [], [], Le.refl w1, s1.outs ⟨f1, f2, f3⟩ (.none hD), upd_same, ⟨f1, f2, f3⟩, .nil, Nat.le_refl _, Nat.zero_le _, q⟩
    (fun i H' _ ⟨w', S', va, ys, l, s, _⟩ => hG w' S' H' l s) (fun i x H2 H3 hi ⟨w', S', va, ys, l, s, hd, ho, rv, hl, _, q⟩ y => ?_) (fun H' ⟨w', S', va, ys, l, s, hd, ho, rv, hl, _, q⟩ => ?_)
  · obtain ⟨w3, d, l3, s3, hdi, rx, hkeep⟩ := hY i H2 x H3 w' S' l s hi y
    obtain ⟨hd3, ho3⟩ := hkeep D _ hd
    have ho3 := ho3 ho
    have e : ds.drop i = d :: ds.drop (i + 1) := by
      rw [List.drop_eq_getElem_cons hi]
      rw [List.getElem?_eq_getElem hi] at hdi
      cases hdi
      rfl
    rw [e] at q
    have s3f := s3.fr (o := .lst va) ho3 hd3
    have n3 : Rn X.K (w3.fr D (.lst va)) (L2.wipe σ vs) (wipeE vs ρ) := rn_fr (hn1.mono (l.trans l3))
    have q3 := Fin.fr (p := D) (o := .lst va) ho3.f s3.sy s3.nf (Fin.bind (Fin.mono q l3))
    refine hw (w3.fr D (.lst va)) S' (wipeE vs ρ) H3 x d (L2.wipe σ vs) _ s3f n3 (rv_fr rx) (q3.imp fun w4 S4 H4 ρ1 l4 s4 q4 σ4 n4 hw4 => ?_)
    rw [wipe_wipe] at hw4
    refine ⟨hw4, ?_⟩
    obtain ⟨k4, q4⟩ := q4
    have q5 := Fin.fr (p := D) (o := .lst va) k4.out.f k4.rs.sy k4.rs.nf (Fin.bind q4)
    refine ⟨(w4.un w3.F).fr D (.lst va), S4, ρ1, k4.rs.fr k4.out k4.at', rn_fr (rn_un n4), q5.imp fun w5 S5 H5 b l5 s5 q5 => ?_⟩
    obtain ⟨k5, q5⟩ := q5
    have ll : Le w1 (w5.un (w4.un w3.F).F) := l.trans (l3.trans (k4.le.trans k5.le))
    cases b with
    | false => exact iteF ⟨_, S5, va, ys, ll, k5.rs, k5.at', k5.out, rv.mono (l3.trans (k4.le.trans k5.le)), Nat.le_succ_of_le hl, hi, q5⟩
    | true =>
      refine iteT ?_
      have q6 := Fin.fr (p := D) (o := .lst va) k5.out.f k5.rs.sy k5.rs.nf (Fin.bind q5)
      refine ⟨(w5.un (w4.un w3.F).F).fr D (.lst va), S5, ρ1, k5.rs.fr k5.out k5.at', (rn_fr (rn_un (Rn.mono l5 (rn_fr (rn_un n4))))), q6.imp fun w6 S6 H6 z l6 s6 q6 v6 r6 => ?_⟩
      obtain ⟨k6, q6⟩ := q6
      refine ⟨va, k6.at', sz_lt (by rw [rv.length]; omega), _, S6, va ++ [v6], ys ++ [z], ll.trans k6.le, k6.rs.outs k6.out (fun o z => by rw [k6.at'] at z; cases z; exact ⟨fun _ z => (by cases z), fun _ z => (by cases z)⟩), upd_same, k6.out, (rv.mono (l3.trans (k4.le.trans (k5.le.trans k6.le)))).append (.one (rv_un r6)), by simp; omega, hi, ?_⟩
      refine (Fin.bind q6).imp fun w7 S7 H7 more l7 s7 q7 => ?_
      have q8 := Fin.ok q7 s7
      rw [show ys ++ [z] ++ more = ys ++ z :: more by simp]
      exact q8
  · rw [List.drop_length] at q
    have q := Fin.ok q s
    rw [List.append_nil] at q
    obtain ⟨l2, s2⟩ := s.lay' ho hd
    exact q _ _ l2 s2 _ (.lst (by show upd w'.G D _ D = _; rw [upd_same]) (rv.mono l2))
end
end Mi
namespace Mi
open PySem PySem.Spec L2
variable [LamTabs]
section
variable {X : Cx} {E : EK} {elt tg iter l : Expr} {ifs : List Expr} {scope : Scope} {own : List (Str × Nat)} {pos p : Pos} {raw : TG} {mi : Env → M (List D)} {g : D → Env → M Env} {t : Env → M Bool} {m : Env → M D}
theorem me_lc (hc : X.calm = true) (hN : X.N.Nodup) (hi : PI X tg iter (tMi X.K E mi)) (ok : BlkOk X.N X.env.scope scope own) (hw : GW X.K (own.map (·.2)) g raw)
    (hg : ∀ (s : Shared) (H : Hp) (C : Addr) (cl : List (Str × Addr)) (fp : List Addr), PG (X.blk s H scope (compEnvC scope cl C X.env) fp) tg raw) (ht : ∀ (s : Shared) (H : Hp) (C : Addr) (cl : List (Str × Addr)) (fp : List Addr), PTs (X.blk s H scope (compEnvC scope cl C X.env) fp) ifs (tMt X.K EK0 t))
    (he : ∀ (s : Shared) (H : Hp) (C : Addr) (cl : List (Str × Addr)) (fp : List Addr), PE (X.blk s H scope (compEnvC scope cl C X.env) fp) elt (tM X.K EK0 m)) (hs : ∀ x, foldedSetIterable iter X.env x = pure x := by intro _; rfl) :
    PE X (.ListComp elt [⟨tg, iter, ifs, 0⟩] scope pos) (tM X.K E (eLc mi g t m (own.map (·.2)))) := pe_imp (pe_lc hc hN hi ok hg ht he hs) fun _ _ _ h => lc_go hw h
theorem ms_setLc {i : Nat} {y : Str} {py spos : Pos} (hc : X.calm = true) (hN : X.N.Nodup) (hy : X.N[i]? = some y) (hyl : X.env.scope.names.lookup y = some .local)
    (hsw : swapsWith (.ListComp elt [⟨tg, iter, ifs, 0⟩] scope pos) (some (.Name y py)) spos.line X.env = pure true) (hi : PI X tg iter (tMi X.K E mi)) (ok : BlkOk X.N X.env.scope scope own) (hw : GW X.K (own.map (·.2)) g raw)
    (hg : ∀ (s : Shared) (H : Hp) (C : Addr) (cl : List (Str × Addr)) (fp : List Addr), PG (X.blk s H scope (compEnvC scope cl C X.env) fp) tg raw) (ht : ∀ (s : Shared) (H : Hp) (C : Addr) (cl : List (Str × Addr)) (fp : List Addr), PTs (X.blk s H scope (compEnvC scope cl C X.env) fp) ifs (tMt X.K EK0 t))
    (he : ∀ (s : Shared) (H : Hp) (C : Addr) (cl : List (Str × Addr)) (fp : List Addr), PE (X.blk s H scope (compEnvC scope cl C X.env) fp) elt (tM X.K EK0 m)) (hs : ∀ x, foldedSetIterable iter X.env x = pure x := by intro _; rfl) :
    PS X (.Assign [.Name y py] (.ListComp elt [⟨tg, iter, ifs, 0⟩] scope pos) spos) (tMs X.K E (sAsg (eLc mi g t m (own.map (·.2))) (gSet i))) :=
  ps_imp (ps_setLc hc hN hy hyl hsw hi ok hg ht he hs) fun D σ H ⟨w, S, ρ, hs, hn, h⟩ => lc_go hw ⟨w, S, ρ, hs, hn, h.bind.imp fun w1 S1 H1 d l1 s1 q v rv => Fin.ok (Fin.ok (Fin.bind q) s1) s1 _ ((hn.mono l1).set rv)⟩
theorem mts_nil : PTs X [] (tMt X.K E fun _ => M.pure true) := pts_imp pts_nil fun σ H Q ⟨w, S, ρ, hs, hn, h⟩ => Fin.ok h hs
theorem mts_one {c : Expr} (h : PT X c (tMt X.K E t)) : PTs X [c] (tMt X.K E t) := pts_one h
noncomputable def sgn (c : Nat) : D := .str ⟨#[c]⟩
noncomputable def itemsOf : D → M (List D)
  | .lst ds => M.pure ds
  | .lsr ds => M.pure ds
  | .tup ds => M.pure ds
  | .str x => M.pure (x.cps.toList.map sgn)
  | _ => bad
noncomputable def iSeq (m : Env → M D) : Env → M (List D) := fun ρ => M.bind (m ρ) itemsOf
theorem pi_or {wi wi' : TI} (h : PI X tg iter wi) (h' : PI X tg iter wi') : PI X tg iter fun σ H R => wi σ H R ∨ wi' σ H R := ⟨fun pins s σ H R I q => q.elim (h.run pins s σ H R I) (h'.run pins s σ H R I)⟩
theorem ym_at {K : PySem.W.Frag} {w : Wd} {xs : List V} {ds : List D} (r : RvL K w xs ds) : YM K w ds (YAt xs) := fun i H x H' w2 S2 l2 s2 hi y => by
  obtain ⟨rfl, e⟩ := y
  obtain ⟨d, hd, rd⟩ := (r.mono l2).getV e
  exact ⟨w2, d, Le.refl w2, s2, hd, rd, fun p o h => ⟨h, id⟩⟩
theorem sqL_up {K : PySem.W.Frag} {w w2 : Wd} {S : Sto} {H : Hp} {a : Addr} {xs : List V} (h : SqL K w.G a xs) (l : Le w w2) (s : Rs K w2 S H) : SqL K H a xs := by
  rcases h with (h | ⟨o, h⟩) | h
  · exact .inl (.inl (s.g _ _ (l.g _ _ h)))
  · exact .inl (.inr ⟨o, s.g _ _ (l.g _ _ h)⟩)
  · exact .inr h
theorem sqT_up {K : PySem.W.Frag} {w w2 : Wd} {S : Sto} {H : Hp} {a : Addr} {xs : List V} (h : SqT K w.G a xs) (l : Le w w2) (s : Rs K w2 S H) : SqT K H a xs := by
  rcases h with (h | ⟨o, h⟩) | h
  · exact .inl (.inl (s.g _ _ (l.g _ _ h)))
  · exact .inl (.inr ⟨o, s.g _ _ (l.g _ _ h)⟩)
  · exact .inr h
theorem tM_at {K : PySem.W.Frag} {σ : L2.St} {H : Hp} {w : Wd} {S : Sto} {ρ : Env} {P : Wd → Sto → Hp → D → Prop} {R : V → Hp → Prop} (hs : Rs K w S H) (hn : Rn K w σ ρ) (h : Fin K E w (m ρ S) P)
    (k : ∀ w1 S1 H1 d v, m ρ S = some (.ok d, S1) → Le w w1 → Rs K w1 S1 H1 → P w1 S1 H1 d → Rv K w1 v d → R v H1) : tM K E m σ H R := ⟨w, S, ρ, hs, hn, by
  rcases hm : m ρ S with _ | ⟨_ | d, S1⟩
  · rw [hm] at h; exact h
  · rw [hm] at h; exact h
  · rw [hm] at h
    exact fun w1 H1 l1 s1 v rv => k w1 S1 H1 d v hm l1 s1 (h w1 H1 l1 s1) rv⟩
theorem mi_seq (h : PE X l (tM X.K E m)) : PI X tg l (tMi X.K E (iSeq m)) := pi_imp (pi_or (pi_list h) (pi_or (pi_tup h) (pi_str h))) fun σ H R ⟨w, S, ρ, hs, hn, h⟩ => by
  have h := h.bind
  have err : (∀ d S1, m ρ S = some (.ok d, S1) → False) → tM X.K E m σ H (fun x H1 => ∃ a, x = .ref a ∧ (∃ xs, SqL X.K H1 a xs) ∧ R (Itl X.K a) H1) := fun no =>
    tM_at hs hn h fun w1 S1 H1 d v hm _ _ _ _ => (no d S1 hm).elim
  rcases hm : m ρ S with _ | ⟨x | d, S1⟩
  · exact .inl (err fun d S1 e => by rw [hm] at e; cases e)
  · exact .inl (err fun d S1 e => by rw [hm] at e; cases e)
  · cases d with
    | lst ds =>
      refine .inl (tM_at hs hn h fun w1 S2 H1 d v e l1 s1 q rv => ?_)
      rw [hm] at e
      cases e
      cases rv with
      | lst hG r => exact ⟨_, rfl, ⟨_, sqL_up (.of hG) (Le.refl _) s1⟩, Fin.ok q s1 _ _ _ (by rw [← r.length]; exact walk_list) (fun w2 S2 H2 l2 s2 => sqL_up (.of hG) l2 s2) (ym_at r)⟩
    | lsr ds =>
      refine .inl (tM_at hs hn h fun w1 S2 H1 d v e l1 s1 q rv => ?_)
      rw [hm] at e
      cases e
      cases rv with
      | lsr hG r => exact ⟨_, rfl, ⟨_, sqL_up hG (Le.refl _) s1⟩, Fin.ok q s1 _ _ _ (by rw [← r.length]; exact walk_list) (fun w2 S2 H2 l2 s2 => sqL_up hG l2 s2) (ym_at r)⟩
    | tup ds =>
      refine .inr (.inl (tM_at hs hn h fun w1 S2 H1 d v e l1 s1 q rv => ?_))
      rw [hm] at e
      cases e
      cases rv with
      | tup hG r => exact ⟨_, rfl, ⟨_, sqT_up hG (Le.refl _) s1⟩, Fin.ok q s1 _ _ _ (by rw [← r.length]; exact walk_tup) (fun w2 S2 H2 l2 s2 => sqT_up hG l2 s2) (ym_at r)⟩
    | str x =>
      refine .inr (.inr (tM_at hs hn h fun w1 S2 H1 d v e l1 s1 q rv => ?_))
      rw [hm] at e
      cases e
      cases rv with
      | str x =>
        refine ⟨x, rfl, Fin.ok q s1 _ _ _ (by rw [List.length_map, Array.length_toList]; exact walk_str) (fun _ _ _ _ _ => trivial) fun i H x' H' w2 S2 l2 s2 hi y => ?_⟩
        obtain ⟨rfl, c, hc, rfl⟩ := y
        exact ⟨w2, sgn c, Le.refl w2, s2, by rw [List.getElem?_map, Array.getElem?_toList, hc]; rfl, .str _, fun p o h => ⟨h, id⟩⟩
    | _ =>
      refine .inl (tM_at hs hn h fun w1 S2 H1 d v e l1 s1 q rv => ?_)
      rw [hm] at e
      cases e
      exact q.elim
/-- range(n), range(a, b) -/
noncomputable def rgD (lo : Int) (n : Nat) : List D := (List.range n).map fun (i : Nat) => .int (lo + (i : Int))
theorem ym_rg {K : PySem.W.Frag} {w : Wd} {lo : Int} {n : Nat} : YM K w (rgD lo n) (YFn fun i => .int (lo + i)) := fun i H x H' w2 S2 l2 s2 hi y => by
  obtain ⟨rfl, rfl⟩ := y
  have hi' : i < n := by simpa [rgD] using hi
  exact ⟨w2, .int (lo + i), Le.refl w2, s2, by simp [rgD, hi'], .int _, fun p o h => ⟨h, id⟩⟩
noncomputable def rngOf : List D → M (List D)
  | [.int n] => if -100000 ≤ n ∧ n ≤ 100000 then M.pure (rgD 0 n.toNat) else bad
  | [.int a, .int b] => if -100000 ≤ a ∧ a ≤ 100000 ∧ -100000 ≤ b ∧ b ≤ 100000 then M.pure (rgD a (b - a).toNat) else bad
  | _ => bad
variable {a b : Expr} {ma : Env → M (List D)}
theorem rng1_go {w : Wd} {S : Sto} {H : Hp} {xs : List D} {vs : List V} {R : It → Hp → Prop} (hl : xs.length = 1) (hs : Rs X.K w S H) (rv : RvL X.K w vs xs)
    (q : Fin X.K E w (rngOf xs S) fun w' _ H' ds => ∀ J G Y, Walk J ds.length G Y → (∀ w2 S2 H2, Le w' w2 → Rs X.K w2 S2 H2 → G H2) → YM X.K w' ds Y → R J H') : ∃ j : Int, vs = [.int j] ∧ -(2 ^ 62) ≤ j ∧ j < 2 ^ 62 ∧ R (Itr 0 j.toNat) H := by
  cases rv with
  | nil => cases hl
  | cons r rr =>
    cases rr with
    | cons _ _ => simp at hl
    | nil =>
      cases r with
      | int n =>
        by_cases h : -100000 ≤ n ∧ n ≤ 100000
        · have q : Fin X.K E w ((if -100000 ≤ n ∧ n ≤ 100000 then M.pure (rgD 0 n.toNat) else bad) S) _ := q
          rw [if_pos h] at q
          refine ⟨n, rfl, by omega, by omega, Fin.ok q hs _ _ _ ?_ (fun _ _ _ _ _ => trivial) ym_rg⟩
          have e : (rgD 0 n.toNat).length = n.toNat := by simp [rgD]
          rw [e]
          exact walk_range
        · have q : Fin X.K E w ((if -100000 ≤ n ∧ n ≤ 100000 then M.pure (rgD 0 n.toNat) else bad) S) _ := q
          rw [if_neg h] at q
          exact q.elim
      | _ => exact q.elim
theorem rng2_go {w : Wd} {S : Sto} {H : Hp} {xs : List D} {vs : List V} {R : It → Hp → Prop} (hl : xs.length = 2) (hs : Rs X.K w S H) (rv : RvL X.K w vs xs)
    (q : Fin X.K E w (rngOf xs S) fun w' _ H' ds => ∀ J G Y, Walk J ds.length G Y → (∀ w2 S2 H2, Le w' w2 → Rs X.K w2 S2 H2 → G H2) → YM X.K w' ds Y → R J H') :
    ∃ i j : Int, vs = [.int i, .int j] ∧ (-(2 ^ 62) ≤ i ∧ i < 2 ^ 62 ∧ -(2 ^ 62) ≤ j ∧ j < 2 ^ 62) ∧ R (Itr i (j - i).toNat) H := by
  cases rv with
  | nil => cases hl
  | cons r rr =>
    cases rr with
    | nil => cases hl
    | cons r2 rr =>
      cases rr with
      | cons _ _ => simp at hl
      | nil =>
        cases r with
        | int n =>
          cases r2 with
          | int b =>
            by_cases h : -100000 ≤ n ∧ n ≤ 100000 ∧ -100000 ≤ b ∧ b ≤ 100000
            · have q : Fin X.K E w ((if -100000 ≤ n ∧ n ≤ 100000 ∧ -100000 ≤ b ∧ b ≤ 100000 then M.pure (rgD n (b - n).toNat) else bad) S) _ := q
              rw [if_pos h] at q
              refine ⟨n, b, rfl, ⟨by omega, by omega, by omega, by omega⟩, Fin.ok q hs _ _ _ ?_ (fun _ _ _ _ _ => trivial) ym_rg⟩
              have e : (rgD n (b - n).toNat).length = (b - n).toNat := by simp [rgD]
              rw [e]
              exact walk_range
            · have q : Fin X.K E w ((if -100000 ≤ n ∧ n ≤ 100000 ∧ -100000 ≤ b ∧ b ≤ 100000 then M.pure (rgD n (b - n).toNat) else bad) S) _ := q
              rw [if_neg h] at q
              exact q.elim
          | _ => exact q.elim
        | _ => exact q.elim
noncomputable def len1 (f : List D → M (List D)) (n : Nat) (m : Env → M (List D)) : Env → M (List D) := fun ρ => M.bind (m ρ) fun xs => if xs.length = n then f xs else bad
theorem mi_range1 (hg : Gl X "range") (hm : X.mg "range" = none) (ha : PA X [a] (tMa X.K E ma)) (hs : starEach [a] X.env = [(false, eval a X.env)] := by rfl) : PI X tg (.Call (.Name "range" p) [a] [] pos) (tMi X.K E (len1 rngOf 1 ma)) :=
  pi_imp (pi_range1 hg hm ha hs) fun σ H R ⟨w, S, ρ, hs, hn, h⟩ => ⟨w, S, ρ, hs, hn, h.bind.imp fun w1 S1 H1 xs l1 s1 q vs rv => by
    by_cases hl : xs.length = 1
    · rw [if_pos hl] at q
      exact rng1_go hl s1 rv q
    · rw [if_neg hl] at q
      exact q.elim⟩
theorem mi_range2 (hg : Gl X "range") (hm : X.mg "range" = none) (ha : PA X [a, b] (tMa X.K E ma)) (hs : starEach [a, b] X.env = [(false, eval a X.env), (false, eval b X.env)] := by rfl) (hs2 : starEach [b] X.env = [(false, eval b X.env)] := by rfl) :
    PI X tg (.Call (.Name "range" p) [a, b] [] pos) (tMi X.K E (len1 rngOf 2 ma)) :=
  pi_imp (pi_range2 hg hm ha hs hs2) fun σ H R ⟨w, S, ρ, hs, hn, h⟩ => ⟨w, S, ρ, hs, hn, h.bind.imp fun w1 S1 H1 xs l1 s1 q vs rv => by
    by_cases hl : xs.length = 2
    · rw [if_pos hl] at q
      exact rng2_go hl s1 rv q
    · rw [if_neg hl] at q
      exact q.elim⟩
end
noncomputable def runM (N : Nat) (ms : Env → M (Fl × Env)) : List D → M D := fun ds => M.bind (ms (ds.map some ++ List.replicate (N - ds.length) none)) fun r => match r with
  | (.nx, _) => M.pure .non
  | (.rt d, _) => M.pure d
  | _ => bad
theorem body_go {K : PySem.W.Frag} {N : List Str} {n : Nat} {ms : Env → M (Fl × Env)} {vs : List V} {H : Hp} {Q : VK} {E : XK} (h : spM K n (runM N.length ms) vs H Q E) :
    tMs K EK0 ms { nx := fun _ H' => Q .non H', rt := Q } (start N vs) H := by
  obtain ⟨_, w, S, ds, hs, rv, h⟩ := h
  refine ⟨w, S, _, hs, Rn.start rv N, h.bind.imp fun w1 S1 H1 r l1 s1 q => ?_⟩
  obtain ⟨fl, ρ'⟩ := r
  cases fl with
  | nx => exact fun σ' _ => Fin.ok q s1 _ .non
  | rt d => exact fun v rv => Fin.ok q s1 v rv
  | bk => exact q.elim
  | ct => exact q.elim
theorem spM_len {K : PySem.W.Frag} {n : Nat} {f : List D → M D} {ps : List Str} (e : ps.length = n) : ∀ vs H Q E, spM K n f vs H Q E → vs.length = ps.length := fun vs H Q E h => h.1.trans e.symm
end Mi
namespace Mi
open PySem PySem.Spec L2
variable [LamTabs]
noncomputable def asC (S : Sto) : D → Option (List D)
  | .lst ds => some ds
  | .ref n => match S[n]? with
    | some (.lst ds) => some ds
    | _ => none
  | _ => none
noncomputable def asR (S : Sto) : D → Option (List D)
  | .lsr ds => some ds
  | d => asC S d
section
variable {K : PySem.W.Frag} {E : EK} {w : Wd} {S : Sto} {H : Hp} {v u : V} {d : D} {ds : List D}
theorem asC_go (hs : Rs K w S H) (rv : Rv K w v d) (h : asC S d = some ds) : ∃ a xs, v = .ref a ∧ H a = some (.lst xs) ∧ RvL K w xs ds := by
  cases rv with
  | lst hG r =>
    cases h
    exact ⟨_, _, rfl, hs.g _ _ hG, r⟩
  | ref hA =>
    rename_i a n
    rcases hc : S[n]? with _ | (⟨es⟩ | ⟨es⟩ | ⟨C, es⟩ | ⟨es⟩)
    · simp only [asC, hc] at h; cases h
    rotate_left
    · simp only [asC, hc] at h; cases h
    · simp only [asC, hc] at h; cases h
    · simp only [asC, hc] at h; cases h
    · simp only [asC, hc] at h
      cases h
      obtain ⟨xs, h1, h2⟩ := hs.cell n a _ hA hc
      exact ⟨_, _, rfl, h1, h2⟩
  | _ => cases h
theorem asR_go (hs : Rs K w S H) (rv : Rv K w v d) (h : asR S d = some ds) : ∃ a xs, v = .ref a ∧ SqL K H a xs ∧ RvL K w xs ds := by
  cases rv with
  | lsr hG r =>
    cases h
    exact ⟨_, _, rfl, sqL_up hG (Le.refl w) hs, r⟩
  | lst hG r =>
    obtain ⟨a, xs, e, h1, h2⟩ := asC_go hs (.lst hG r) h
    exact ⟨a, xs, e, .of h1, h2⟩
  | ref hA =>
    obtain ⟨a, xs, e, h1, h2⟩ := asC_go hs (.ref hA) h
    exact ⟨a, xs, e, .of h1, h2⟩
  | _ => cases h
theorem tup_go (hs : Rs K w S H) (rv : Rv K w v (.tup ds)) : ∃ a xs, v = .ref a ∧ SqT K H a xs ∧ RvL K w xs ds := by
  cases rv with
  | tup hG r => exact ⟨_, _, rfl, sqT_up hG (Le.refl w) hs, r⟩
end
noncomputable def addM (x y : D) : M D := fun S => match x, y with
  | .int i, .int j => some (.ok (.int (i + j)), S)
  | .int i, .bl b => some (.ok (.int (i + PyProof.Rows.b2i b)), S)
  | .str i, .str j => if i.length + j.length ≤ 100000 then some (.ok (.str (i ++ j)), S) else none
  | .tup a, .tup b => if a.length + b.length ≤ 100000 then some (.ok (.tup (a ++ b)), S) else none
  | x, y => match asC S x, asC S y with
    | some a, some b => if a.length + b.length ≤ 100000 then some (.ok (.lst (a ++ b)), S) else none
    | _, _ => none
noncomputable def rAddU (K : PySem.W.Frag) : R2 := fun x y H Q => rI0 (fun i j => .int (i + j)) x y H Q ∨ (∃ i k, x = .int i ∧ y = .bl k ∧ Q (.int (i + PyProof.Rows.b2i k)) H) ∨
  (∃ i j, x = .str i ∧ y = .str j ∧ i.length + j.length ≤ sizeLine ∧ Q (.str (i ++ j)) H) ∨ rCatA K x y H Q ∨ rCat x y H Q
theorem op_addU {X : Cx} : OpR X (binaryOp .Add) (rAddU X.K) := op_add.or (op_add_ib.or (op_add_str.or (op_catA.or op_cat)))
theorem cat_list {K : PySem.W.Frag} {E : EK} {w : Wd} {S : Sto} {H : Hp} {v u : V} {x y : D} {Q : VK} (hs : Rs K w S H) (rv : Rv K w v x) (ru : Rv K w u y)
    (h : Fin K E w (match asC S x, asC S y with | some a, some b => if a.length + b.length ≤ 100000 then some (.ok (D.lst (a ++ b)), S) else none | _, _ => none) (fun w' _ H' d => ∀ z, Rv K w' z d → Q z H')) : rCat v u H Q := by
  rcases h1 : asC S x with _ | a
  · rw [h1] at h; exact h.elim
  · rcases h2 : asC S y with _ | b
    · rw [h1, h2] at h; exact h.elim
    · rw [h1, h2] at h
      obtain ⟨p, xs, rfl, hp, rx⟩ := asC_go hs rv h1
      obtain ⟨q, ys, rfl, hq, ry⟩ := asC_go hs ru h2
      by_cases hl : a.length + b.length ≤ 100000
      · simp only [if_pos hl] at h
        refine ⟨p, q, xs, ys, rfl, rfl, hp, hq, sz_of (by rw [rx.length, ry.length]; exact hl), fun l hl' => ?_⟩
        have hs' := hs.lay (o := .lst (xs ++ ys)) hl'
        exact h _ _ (hs.le_lay hl') hs' _ (.lst (by show upd w.G l _ l = _; rw [upd_same]) ((rx.append ry).mono (hs.le_lay hl')))
      · simp only [if_neg hl] at h
        exact h.elim
theorem addM_ok {K : PySem.W.Frag} : OpM K (rAddU K) addM := by
  intro E w S H v u x y Q hs rv ru h
  have lst : ∀ (h' : Fin K E w (match asC S x, asC S y with | some a, some b => if a.length + b.length ≤ 100000 then some (.ok (D.lst (a ++ b)), S) else none | _, _ => none) (fun w' _ H' d => ∀ z, Rv K w' z d → Q z H')), rAddU K v u H Q :=
    fun h' => .inr (.inr (.inr (.inr (cat_list hs rv ru h'))))
  cases x with
  | int i =>
    cases rv
    cases y with
    | int j => cases ru; exact .inl ⟨i, j, rfl, rfl, Fin.ok h hs _ (.int _)⟩
    | bl j => cases ru; exact .inr (.inl ⟨i, j, rfl, rfl, Fin.ok h hs _ (.int _)⟩)
    | _ => exact h.elim
  | str i =>
    cases rv
    cases y with
    | str j =>
      cases ru
      have h : Fin K E w (if i.length + j.length ≤ 100000 then some (.ok (D.str (i ++ j)), S) else none) _ := h
      by_cases hl : i.length + j.length ≤ 100000
      · rw [if_pos hl] at h
        exact .inr (.inr (.inl ⟨i, j, rfl, rfl, sz_of hl, Fin.ok h hs _ (.str _)⟩))
      · rw [if_neg hl] at h
        exact h.elim
    | _ => exact h.elim
  | tup a =>
    cases y with
    | tup b =>
      have h : Fin K E w (if a.length + b.length ≤ 100000 then some (.ok (D.tup (a ++ b)), S) else none) _ := h
      by_cases hl : a.length + b.length ≤ 100000
      · rw [if_pos hl] at h
        obtain ⟨p, xs, rfl, hp, rx⟩ := tup_go hs rv
        obtain ⟨q, ys, rfl, hq, ry⟩ := tup_go hs ru
        refine .inr (.inr (.inr (.inl ⟨p, q, xs, ys, rfl, rfl, hp, hq, sz_of (by rw [rx.length, ry.length]; exact hl), fun e => ?_, fun _ e => ?_, fun _ _ l hl' => ?_⟩)))
        · subst e
          cases rx
          exact Fin.ok h hs _ ru
        · subst e
          cases ry
          have h := Fin.ok h hs
          rw [List.append_nil] at h
          exact h _ rv
        · exact h _ _ (hs.le_lay hl') (hs.lay (o := .tup (xs ++ ys)) hl') _ (.tup (.of (by show upd w.G l _ l = _; rw [upd_same])) ((rx.append ry).mono (hs.le_lay hl')))
      · rw [if_neg hl] at h
        exact h.elim
    | _ => exact h.elim
  | _ => exact lst h
theorem me_add {X : Cx} {E : EK} {a b : Expr} {ma mb : Env → M D} {pos : Pos} (ha : PE X a (tM X.K E ma)) (hb : PE X b (tM X.K E mb)) : PE X (.BinOp a .Add b pos) (tM X.K E (b2 addM ma mb)) := me_op op_addU addM_ok ha hb
noncomputable def int2 (C : Int → Int → Prop) [DecidableRel C] (g : Int → Int → D) (x y : D) : M D := match x, y with
  | .int i, .int j => if C i j then M.pure (g i j) else bad
  | _, _ => bad
theorem int2_ok {K : PySem.W.Frag} {C : Int → Int → Prop} [DecidableRel C] {g : Int → Int → D} {gv : Int → Int → V} (hg : ∀ w i j, Rv K w (gv i j) (g i j)) : OpM K (rI C gv) (int2 C g) := by
  intro E w S H v u x y Q hs rv ru h
  cases x with
  | int i =>
    cases rv
    cases y with
    | int j =>
      cases ru
      have h : Fin K E w ((if C i j then M.pure (g i j) else bad) S) _ := h
      by_cases hc : C i j
      · rw [if_pos hc] at h
        exact ⟨i, j, rfl, rfl, hc, Fin.ok h hs _ (hg w i j)⟩
      · rw [if_neg hc] at h
        exact h.elim
    | _ => exact h.elim
  | _ => exact h.elim
noncomputable def int20 (g : Int → Int → D) (x y : D) : M D := match x, y with
  | .int i, .int j => M.pure (g i j)
  | _, _ => bad
theorem int20_ok {K : PySem.W.Frag} {g : Int → Int → D} {gv : Int → Int → V} (hg : ∀ w i j, Rv K w (gv i j) (g i j)) : OpM K (rI0 gv) (int20 g) := by
  intro E w S H v u x y Q hs rv ru h
  cases x with
  | int i =>
    cases rv
    cases y with
    | int j =>
      cases ru
      exact ⟨i, j, rfl, rfl, Fin.ok h hs _ (hg w i j)⟩
    | _ => exact h.elim
  | _ => exact h.elim
noncomputable instance : DecidableRel CMul := fun i j => by unfold CMul; infer_instance
noncomputable instance : DecidableRel CDiv := fun i j => by unfold CDiv; infer_instance
noncomputable instance : DecidableRel CPow := fun i j => by unfold CPow; infer_instance
noncomputable abbrev subM := int20 fun i j => .int (i - j)
noncomputable abbrev mulM := int2 CMul fun i j => .int (i * j)
noncomputable abbrev fdivM := int2 CDiv fun i j => .int (i / j)
noncomputable abbrev modM := int2 (fun _ j => 0 < j) fun i j => .int (i % j)
noncomputable abbrev powM := int2 CPow fun i j => .int (i ^ j.toNat)
noncomputable abbrev ltM := int20 fun i j => .bl (decide (i < j))
noncomputable abbrev leM := int20 fun i j => .bl (decide (i ≤ j))
noncomputable abbrev gtM := int20 fun i j => .bl (decide (j < i))
noncomputable abbrev geM := int20 fun i j => .bl (decide (j ≤ i))
section
variable {X : Cx} {E : EK} {a b c : Expr} {ma mb mc : Env → M D} {pos : Pos}
theorem me_sub (ha : PE X a (tM X.K E ma)) (hb : PE X b (tM X.K E mb)) : PE X (.BinOp a .Sub b pos) (tM X.K E (b2 subM ma mb)) := me_op op_sub (int20_ok fun _ _ _ => .int _) ha hb
theorem me_mul (ha : PE X a (tM X.K E ma)) (hb : PE X b (tM X.K E mb)) : PE X (.BinOp a .Mult b pos) (tM X.K E (b2 mulM ma mb)) := me_op op_mul (int2_ok fun _ _ _ => .int _) ha hb
theorem me_fdiv (ha : PE X a (tM X.K E ma)) (hb : PE X b (tM X.K E mb)) : PE X (.BinOp a .FloorDiv b pos) (tM X.K E (b2 fdivM ma mb)) := me_op op_fdiv (int2_ok fun _ _ _ => .int _) ha hb
theorem me_mod (ha : PE X a (tM X.K E ma)) (hb : PE X b (tM X.K E mb)) : PE X (.BinOp a .Mod b pos) (tM X.K E (b2 modM ma mb)) := me_op op_mod (int2_ok fun _ _ _ => .int _) ha hb
theorem me_pow (ha : PE X a (tM X.K E ma)) (hb : PE X b (tM X.K E mb)) : PE X (.BinOp a .Pow b pos) (tM X.K E (b2 powM ma mb)) := me_op op_pow (int2_ok fun _ _ _ => .int _) ha hb
theorem ltM_ok {K : PySem.W.Frag} : OpM K (rI0 fun i j => .bl (decide (i < j))) ltM := int20_ok fun _ _ _ => .bl _
theorem leM_ok {K : PySem.W.Frag} : OpM K (rI0 fun i j => .bl (decide (i ≤ j))) leM := int20_ok fun _ _ _ => .bl _
theorem gtM_ok {K : PySem.W.Frag} : OpM K (rI0 fun i j => .bl (decide (j < i))) gtM := int20_ok fun _ _ _ => .bl _
theorem geM_ok {K : PySem.W.Frag} : OpM K (rI0 fun i j => .bl (decide (j ≤ i))) geM := int20_ok fun _ _ _ => .bl _
noncomputable def negM : D → M D
  | .int i => M.pure (.int (-i))
  | _ => bad
theorem me_neg (ha : PE X a (tM X.K E ma)) : PE X (.UnaryOp .USub a pos) (tM X.K E (b1 negM ma)) := me_un un_neg (fun E w S H v x Q hs rv h => by
  cases x with
  | int i => cases rv; exact ⟨i, rfl, Fin.ok h hs _ (.int _)⟩
  | _ => exact h.elim) ha
end
end Mi
namespace Mi
open PySem PySem.Spec L2
variable [LamTabs]
noncomputable def deS (S : Sto) : D → D
  | .ref n => match S[n]? with
    | some (.lst ds) => .lst ds
    | _ => .ref n
  | d => d
mutual
noncomputable def toPy : D → Option PyData
  | .non => some .none
  | .bl b => some (.bool b)
  | .int i => some (.int i)
  | .str x => some (.str x)
  | .tup ds => (toPyL ds).map .tuple
  | .lst ds => (toPyL ds).map .list
  | .lsr _ => none
  | .dct kvs => (toPyK kvs).map .dict
  | .ref _ => none
  | .exc _ _ => none
  | .stp ds => (toPyL ds).map .tuple
noncomputable def toPyL : List D → Option (List PyData)
  | [] => some []
  | d :: ds => (toPy d).bind fun p => (toPyL ds).map fun ps => p :: ps
noncomputable def toPyK : List (D × D) → Option (List (PyData × PyData))
  | [] => some []
  | (k, d) :: ds => (toPy k).bind fun q => (toPy d).bind fun p => (toPyK ds).map fun ps => (q, p) :: ps
end
section
variable {X : Cx} {pins : List (Addr × Obj)} {σ : L2.St} {H : Hp} {s : Shared} {w : Wd} {S : Sto}
/-- a cell read as it stands -/
inductive Rd2 (K : PySem.W.Frag) (w : Wd) (H : Hp) : V → D → Prop
  | of {v : V} {d : D} (h : Rv K w v d) : Rd2 K w H v d
  | cell {a : Addr} {xs : List V} {ds : List D} (h : H a = some (.lst xs)) (r : RvL K w xs ds) : Rd2 K w H (.ref a) (.lst ds)
theorem deS_go {K : PySem.W.Frag} {v : V} {d : D} (hs : Rs K w S H) (rv : Rv K w v d) : Rd2 K w H v (deS S d) := by
  cases rv with
  | ref hA =>
    rename_i a n
    rcases hc : S[n]? with _ | (⟨ds⟩ | ⟨ds⟩ | ⟨C, ds⟩ | ⟨ds⟩)
    · simp only [deS, hc]
      exact .of (.ref hA)
    rotate_left
    · simp only [deS, hc]
      exact .of (.ref hA)
    · simp only [deS, hc]
      exact .of (.ref hA)
    · simp only [deS, hc]
      exact .of (.ref hA)
    · simp only [deS, hc]
      obtain ⟨xs, h1, h2⟩ := hs.cell n a _ hA hc
      exact .cell h1 h2
  | non => exact .of .non
  | bl b => exact .of (.bl b)
  | int i => exact .of (.int i)
  | str x => exact .of (.str x)
  | tup h r => exact .of (.tup h r)
  | stp h r => exact .of (.stp h r)
  | lst h r => exact .of (.lst h r)
  | lsr h r => exact .of (.lsr h r)
  | dct h r => exact .of (.dct h r)
  | exn hC h => exact .of (.exn hC h)
  | exc hC h hd r => exact .of (.exc hC h hd r)
theorem mapO {α β : Type} {f : α → β} {o : Option α} {b : β} (h : o.map f = some b) : ∃ a, o = some a ∧ f a = b := Option.map_eq_some_iff.mp h
theorem bindO {α β : Type} {f : α → Option β} {o : Option α} {b : β} (h : o.bind f = some b) : ∃ a, o = some a ∧ f a = some b := Option.bind_eq_some_iff.mp h
mutual
theorem dp_of {K : PySem.W.Frag} (hs : Rs K w S H) : ∀ {d : D} {v : V} {p : PyData}, Rv K w v d → toPy d = some p → p.canLay0 = true → Dp K H v p
  | _, _, _, .non, h, _ => by cases h; exact .non
  | _, _, _, .bl b, h, _ => by cases h; exact .bl b
  | _, _, _, .int i, h, _ => by cases h; exact .int i
  | _, _, _, .str x, h, _ => by cases h; exact .str x
  | _, _, _, .tup hG r, h, c => by
    simp only [toPy] at h
    obtain ⟨ps, h1, rfl⟩ := mapO h
    exact .tup (sqT_up hG (Le.refl w) hs) (dp_ofL hs r h1 (by simpa [PyData.canLay0] using c))
  | _, _, _, .stp hG r, h, c => by
    simp only [toPy] at h
    obtain ⟨ps, h1, rfl⟩ := mapO h
    exact .tup (sqT_up hG.weak (Le.refl w) hs) (dp_ofL hs r h1 (by simpa [PyData.canLay0] using c))
  | _, _, _, .lst hG r, h, c => by
    simp only [toPy] at h
    obtain ⟨ps, h1, rfl⟩ := mapO h
    exact .lst (.of (hs.g _ _ hG)) (dp_ofL hs r h1 (by simpa [PyData.canLay0] using c))
  | _, _, _, .lsr _ _, h, _ => by simp only [toPy] at h; cases h
  | _, _, _, .dct hG r, h, c => by
    simp only [toPy] at h
    obtain ⟨ps, h1, rfl⟩ := mapO h
    simp [PyData.canLay0] at c
  | _, _, _, .ref _, h, _ => by simp only [toPy] at h; cases h
  | _, _, _, .exn _ _, h, _ => by simp only [toPy] at h; cases h
  | _, _, _, .exc _ _ _ _, h, _ => by simp only [toPy] at h; cases h
theorem dp_ofL {K : PySem.W.Frag} (hs : Rs K w S H) : ∀ {d : List D} {v : List V} {p : List PyData}, RvL K w v d → toPyL d = some p → PyData.canLayAll0 p = true → DpAll K H v p
  | _, _, _, .nil, h, _ => by cases h; exact .nil
  | _, _, _, .cons h1 r, h, c => by
    simp only [toPyL] at h
    obtain ⟨p, e1, h⟩ := bindO h
    obtain ⟨ps, e2, rfl⟩ := mapO h
    have c' : p.canLay0 = true ∧ PyData.canLayAll0 ps = true := by simpa [PyData.canLayAll0] using c
    exact .cons (dp_of hs h1 e1 c'.1) (dp_ofL hs r e2 c'.2)
end
theorem dp_of2 {K : PySem.W.Frag} {d : D} {v : V} {p : PyData} (hs : Rs K w S H) (rv : Rd2 K w H v d) (h : toPy d = some p) (c : p.canLay0 = true) : Dp K H v p := by
  cases rv with
  | of r => exact dp_of hs r h c
  | cell hH r =>
    simp only [toPy] at h
    obtain ⟨ps, h1, rfl⟩ := mapO h
    exact .lst (.of hH) (dp_ofL hs r h1 (by simpa [PyData.canLay0] using c))
end
noncomputable def lenDiff (S : Sto) (x y : D) : Bool := match asC S x, asC S y with
  | some a, some b => a.length != b.length
  | _, _ => false
noncomputable def eqB (neg : Bool) (x y : D) : M D := fun S => if lenDiff S x y = true then some (.ok (.bl neg), S) else match toPy (deS S x), toPy (deS S y) with
  | some p, some q => if SeqAt.shaped p = true ∧ SeqAt.shaped q = true then some (.ok (.bl (if neg then !PyData.eqv p q else PyData.eqv p q)), S) else none
  | _, _ => none
noncomputable abbrev eqM := eqB false
noncomputable abbrev neM := eqB true
theorem shaped_lay {p : PyData} (h : SeqAt.shaped p = true) : p.canLay0 = true := by
  unfold SeqAt.shaped at h
  simp only [Bool.and_eq_true] at h
  exact h.1
noncomputable def rLenD (neg : Bool) : R2 := fun x y H Q => ∃ a b xs ys, x = .ref a ∧ y = .ref b ∧ H a = some (.lst xs) ∧ H b = some (.lst ys) ∧ xs.length ≠ ys.length ∧ Q (.bl neg) H
theorem op_eqLen {X : Cx} (hu : X.A.units < cLine) : OpR X (compareOp .Eq) (rLenD false) := fun pins s σ H x y v u Q I rx ry ⟨a, b, xs, ys, e1, e2, h1, h2, hl, q⟩ => by
  subst e1 e2
  cases rx
  cases ry
  obtain ⟨its, r1, p1, _⟩ := I.list (.of h1)
  obtain ⟨its2, r2, p2, _⟩ := I.list (.of h2)
  have l1 := r1.length
  have l2 := r2.length
  exact SeqAt.RcAt.lists_lengths p1.isList p2.isList (by simp; omega) hu _ _ _ _ ⟨.bl false, H, I, rfl, q⟩
theorem op_neLen {X : Cx} (hu : X.A.units < cLine) : OpR X (compareOp .NotEq) (rLenD true) := fun pins s σ H x y v u Q I rx ry ⟨a, b, xs, ys, e1, e2, h1, h2, hl, q⟩ => by
  subst e1 e2
  cases rx
  cases ry
  obtain ⟨its, r1, p1, _⟩ := I.list (.of h1)
  obtain ⟨its2, r2, p2, _⟩ := I.list (.of h2)
  have l1 := r1.length
  have l2 := r2.length
  exact SeqAt.RcNeAt.lists_lengths p1.isList p2.isList (by simp; omega) hu _ _ _ _ ⟨.bl true, H, I, rfl, q⟩
noncomputable def rEqU (K : PySem.W.Frag) : R2 := fun x y H Q => rLenD false x y H Q ∨ rEqD K x y H Q
noncomputable def rNeU (K : PySem.W.Frag) : R2 := fun x y H Q => rLenD true x y H Q ∨ rNeD K x y H Q
theorem op_eqU {X : Cx} (hu : X.A.units + 64 < cLine) : OpR X (compareOp .Eq) (rEqU X.K) := OpR.or (op_eqLen (by omega)) (op_eqD hu)
theorem op_neU {X : Cx} (hu : X.A.units + 64 < cLine) : OpR X (compareOp .NotEq) (rNeU X.K) := OpR.or (op_neLen (by omega)) (op_neD hu)
theorem eqB_get {K : PySem.W.Frag} {E : EK} {w : Wd} {S : Sto} {H : Hp} {neg : Bool} {v u : V} {x y : D} {Q : VK} (hs : Rs K w S H) (rv : Rv K w v x) (ru : Rv K w u y) (h : Fin K E w (eqB neg x y S) fun w' _ H' d => ∀ z, Rv K w' z d → Q z H') :
    rLenD neg v u H Q ∨ ∃ p q, Dp K H v p ∧ Dp K H u q ∧ SeqAt.shaped p = true ∧ SeqAt.shaped q = true ∧ Q (.bl (if neg then !PyData.eqv p q else PyData.eqv p q)) H := by
  unfold eqB at h
  by_cases hd : lenDiff S x y = true
  · rw [if_pos hd] at h
    unfold lenDiff at hd
    rcases h1 : asC S x with _ | a
    · rw [h1] at hd; cases hd
    · rcases h2 : asC S y with _ | b
      · rw [h1, h2] at hd; cases hd
      · rw [h1, h2] at hd
        obtain ⟨p, xs, rfl, hp, rx⟩ := asC_go hs rv h1
        obtain ⟨q, ys, rfl, hq, ry⟩ := asC_go hs ru h2
        have hd : (a.length != b.length) = true := hd
        exact .inl ⟨p, q, xs, ys, rfl, rfl, hp, hq, by rw [rx.length, ry.length]; simpa using hd, Fin.ok h hs _ (.bl _)⟩
  · rw [if_neg hd] at h
    rcases h1 : toPy (deS S x) with _ | p
    · simp only [h1] at h; exact h.elim
    · rcases h2 : toPy (deS S y) with _ | q
      · simp only [h1, h2] at h; exact h.elim
      · simp only [h1, h2] at h
        by_cases hc : SeqAt.shaped p = true ∧ SeqAt.shaped q = true
        · rw [if_pos hc] at h
          exact .inr ⟨p, q, dp_of2 hs (deS_go hs rv) h1 (shaped_lay hc.1), dp_of2 hs (deS_go hs ru) h2 (shaped_lay hc.2), hc.1, hc.2, Fin.ok h hs _ (.bl _)⟩
        · rw [if_neg hc] at h
          exact h.elim
theorem eqM_ok {K : PySem.W.Frag} : OpM K (rEqU K) eqM := fun E w S H v u x y Q hs rv ru h => by
  rcases eqB_get hs rv ru h with h | ⟨p, q, h1, h2, h3, h4, h5⟩
  · exact .inl h
  · exact .inr ⟨p, q, h1, h2, h3, h4, h5⟩
theorem neM_ok {K : PySem.W.Frag} : OpM K (rNeU K) neM := fun E w S H v u x y Q hs rv ru h => by
  rcases eqB_get hs rv ru h with h | ⟨p, q, h1, h2, h3, h4, h5⟩
  · exact .inl h
  · exact .inr ⟨p, q, h1, h2, h3, h4, h5⟩
noncomputable def isNon : D → Bool
  | .non => true
  | _ => false
noncomputable def isN : D → D → M D
  | x, .non => M.pure (.bl (isNon x))
  | _, _ => bad
theorem non_iff {K : PySem.W.Frag} {w : Wd} {v : V} {x : D} (rv : Rv K w v x) : decide (v = .non) = isNon x := by
  cases rv <;> simp [isNon]
theorem isN_ok {K : PySem.W.Frag} : OpM K (fun x y H Q => y = .non ∧ Q (.bl (decide (x = .non))) H) isN := fun E w S H v u x y Q hs rv ru h => by
  cases ru with
  | non => exact ⟨rfl, by rw [non_iff rv]; exact Fin.ok h hs _ (.bl _)⟩
  | _ => cases rv <;> exact h.elim
/-- flat things alone -/
noncomputable def flatD : D → Option V
  | .non => some .non
  | .bl b => some (.bl b)
  | .int i => some (.int i)
  | .str x => some (.str x)
  | _ => none
noncomputable def flatL : List D → Option (List V)
  | [] => some []
  | d :: ds => (flatD d).bind fun v => (flatL ds).map fun vs => v :: vs
noncomputable def asQ (S : Sto) : D → Option (List D)
  | .tup ds => some ds
  | d => asR S d
noncomputable def inB (neg : Bool) (x y : D) : M D := fun S => match x, y with
  | .str z, .str y => match z.cps.toList with
    | [c] => some (.ok (.bl (if neg then !decide (c ∈ y.cps.toList) else decide (c ∈ y.cps.toList))), S)
    | _ => none
  | x, y => match flatD x, asQ S y with
    | some u, some ds => match flatL ds with
      | some vs => if flatV u = true ∧ vs.all flatV = true then some (.ok (.bl (if neg then !inV u vs else inV u vs)), S) else none
      | none => none
    | _, _ => none
noncomputable abbrev inM := inB false
theorem flat_go {K : PySem.W.Frag} {w : Wd} {v u : V} {d : D} (rv : Rv K w v d) (h : flatD d = some u) : v = u := by
  cases rv <;> (try cases h) <;> rfl
theorem flatL_go {K : PySem.W.Frag} {w : Wd} : ∀ {vs us : List V} {ds : List D}, RvL K w vs ds → flatL ds = some us → vs = us
  | _, _, _, .nil, h => by cases h; rfl
  | _, _, _, .cons r rr, h => by
    simp only [flatL] at h
    obtain ⟨u, e1, h⟩ := bindO h
    obtain ⟨us, e2, rfl⟩ := mapO h
    rw [flat_go r e1, flatL_go rr e2]
theorem asQ_go {K : PySem.W.Frag} {w : Wd} {S : Sto} {H : Hp} {v : V} {d : D} {ds : List D} (hs : Rs K w S H) (rv : Rv K w v d) (h : asQ S d = some ds) : ∃ a xs, v = .ref a ∧ (SqL K H a xs ∨ SqT K H a xs) ∧ RvL K w xs ds := by
  cases rv with
  | tup hG r =>
    cases h
    exact ⟨_, _, rfl, .inr (sqT_up hG (Le.refl w) hs), r⟩
  | lsr hG r => obtain ⟨a, xs, e, h1, h2⟩ := asR_go hs (.lsr hG r) h; exact ⟨a, xs, e, .inl h1, h2⟩
  | lst hG r => obtain ⟨a, xs, e, h1, h2⟩ := asR_go hs (.lst hG r) h; exact ⟨a, xs, e, .inl h1, h2⟩
  | ref hA => obtain ⟨a, xs, e, h1, h2⟩ := asR_go hs (.ref hA) h; exact ⟨a, xs, e, .inl h1, h2⟩
  | _ => cases h
noncomputable def rInSg (neg : Bool) : R2 := fun x y H Q => ∃ (c : Nat) (z : Str), x = .str ⟨#[c]⟩ ∧ y = .str z ∧ Q (.bl (if neg then !decide (c ∈ z.cps.toList) else decide (c ∈ z.cps.toList))) H
noncomputable def rInU (K : PySem.W.Frag) (neg : Bool) : R2 := fun x y H Q => rInSg neg x y H Q ∨ rIn K neg x y H Q
theorem inB_ok {K : PySem.W.Frag} {neg : Bool} : OpM K (rInU K neg) (inB neg) := fun E w S H v u x y Q hs rv ru h => by
  have seq : ∀ (h' : Fin K E w (match flatD x, asQ S y with
    | some u, some ds => match flatL ds with
      | some vs => if flatV u = true ∧ vs.all flatV = true then some (.ok (.bl (if neg then !inV u vs else inV u vs)), S) else none
      | none => none
    | _, _ => none) (fun w' _ H' d => ∀ z, Rv K w' z d → Q z H')), rInU K neg v u H Q := fun h' => by
    rcases h1 : flatD x with _ | f
    · simp only [h1] at h'; exact h'.elim
    · rcases h2 : asQ S y with _ | ds
      · simp only [h1, h2] at h'; exact h'.elim
      · rcases h3 : flatL ds with _ | vs
        · simp only [h1, h2, h3] at h'; exact h'.elim
        · simp only [h1, h2, h3] at h'
          by_cases hc : flatV f = true ∧ vs.all flatV = true
          · rw [if_pos hc] at h'
            obtain ⟨a, xs, rfl, hq, rx⟩ := asQ_go hs ru h2
            have e1 := flat_go rv h1
            have e2 := flatL_go rx h3
            subst e1 e2
            exact .inr ⟨a, xs, rfl, hq, hc.1, hc.2, Fin.ok h' hs _ (.bl _)⟩
          · rw [if_neg hc] at h'
            exact h'.elim
  cases x with
  | str z =>
    cases y with
    | str y =>
      cases rv
      cases ru
      rcases hz : z.cps.toList with _ | ⟨c, _ | ⟨c2, r⟩⟩
      · simp only [inB, hz] at h; exact h.elim
      · simp only [inB, hz] at h
        refine .inl ⟨c, y, ?_, rfl, Fin.ok h hs _ (.bl _)⟩
        have e : z.cps = #[c] := by rw [← Array.toList_inj, hz]
        show V.str z = V.str ⟨#[c]⟩
        rw [← e]
      · simp only [inB, hz] at h; exact h.elim
    | _ => exact seq h
  | _ => exact seq h
theorem op_inU {X : Cx} : OpR X (compareOp .In) (rInU X.K false) := OpR.or (fun pins s σ H x y v u Q I rx ry ⟨c, z, e1, e2, q⟩ => op_in_sign pins s σ H x y v u Q I rx ry ⟨c, z, e1, e2, q⟩) op_in_seq
end Mi
namespace Mi
open PySem PySem.Spec L2
variable [LamTabs]
theorem op_ninU {X : Cx} : OpR X (compareOp .NotIn) (rInU X.K true) := OpR.or (fun pins s σ H x y v u Q I rx ry ⟨c, z, e1, e2, q⟩ => op_notIn_sign pins s σ H x y v u Q I rx ry ⟨c, z, e1, e2, q⟩) op_notIn_seq
noncomputable def ixM (x y : D) : M D := fun S => match y with
  | .int i => match x with
    | .str z => match atI z.cps.toList i with
      | some c => if z.length ≤ 100000 then some (.ok (sgn c), S) else none
      | none => none
    | x => match asQ S x with
      | some ds => match atI ds i with
        | some d => some (.ok d, S)
        | none => none
      | none => none
  | _ => none
theorem at_rel {K : PySem.W.Frag} {w : Wd} {xs : List V} {ds : List D} {i : Int} {d : D} (r : RvL K w xs ds) (h : atI ds i = some d) : ∃ v, atI xs i = some v ∧ Rv K w v d := by
  unfold L2.atI at h ⊢
  rw [r.length]
  rcases hj : ixN ds.length i with _ | j
  · rw [hj] at h; cases h
  · rw [hj] at h
    exact r.get h
theorem ixM_ok {K : PySem.W.Frag} : OpM K (rIx K) ixM := fun E w S H v u x y Q hs rv ru h => by
  cases y with
  | int i =>
    cases ru
    have seq : ∀ (h' : Fin K E w (match asQ S x with
      | some ds => match atI ds i with
        | some d => some (.ok d, S)
        | none => none
      | none => none) (fun w' _ H' d => ∀ z, Rv K w' z d → Q z H')), rIx K v (.int i) H Q := fun h' => by
      rcases h1 : asQ S x with _ | ds
      · simp only [h1] at h'; exact h'.elim
      · rcases h2 : atI ds i with _ | d
        · simp only [h1, h2] at h'; exact h'.elim
        · simp only [h1, h2] at h'
          obtain ⟨a, xs, rfl, hq, rx⟩ := asQ_go hs rv h1
          obtain ⟨z, e1, e2⟩ := at_rel rx h2
          have q := Fin.ok h' hs z e2
          rcases hq with hq | hq
          · exact .inl ⟨a, xs, i, z, rfl, rfl, hq, e1, q⟩
          · exact .inr (.inl ⟨a, xs, i, z, rfl, rfl, hq, e1, q⟩)
    cases x with
    | str z =>
      cases rv
      rcases hz : atI z.cps.toList i with _ | c
      · simp only [ixM, hz] at h; exact h.elim
      · simp only [ixM, hz] at h
        by_cases hl : z.length ≤ 100000
        · rw [if_pos hl] at h
          exact .inr (.inr ⟨z, i, c, rfl, rfl, sz_of hl, hz, Fin.ok h hs _ (.str _)⟩)
        · rw [if_neg hl] at h
          exact h.elim
    | _ => exact seq h
  | _ => exact h.elim
noncomputable def cutD (xs : List D) (lo hi : Option Int) : List D := (xs.drop (HT.sIx xs.length 0 lo)).take (HT.sIx xs.length xs.length hi - HT.sIx xs.length 0 lo)
theorem cut_rel {K : PySem.W.Frag} {w : Wd} {xs : List V} {ds : List D} {lo hi : Option Int} (r : RvL K w xs ds) : RvL K w (cutV xs lo hi) (cutD ds lo hi) := by
  unfold L2.cutV cutD
  rw [r.length]
  exact (r.drop _).take _
noncomputable def slcM (lo hi : Option Int) (x : D) : M D := fun S => match x with
  | .str z => if z.length ≤ 100000 then some (.ok (.str (cutS z lo hi)), S) else none
  | .tup ds => some (.ok (.tup (cutD ds lo hi)), S)
  | x => match asR S x with
    | some ds => some (.ok (.lst (cutD ds lo hi)), S)
    | none => none
noncomputable def optI : Option D → M (Option Int)
  | none => M.pure none
  | some (.int i) => M.pure (some i)
  | _ => bad
noncomputable def parts (m : Option (Env → M D)) : Env → M (Option Int) := match m with
  | none => fun _ => M.pure none
  | some m => fun ρ => M.bind (m ρ) fun d => optI (some d)
noncomputable def slc (m : Env → M D) (lo hi : Option (Env → M D)) : Env → M D := fun ρ => M.bind (m ρ) fun x => M.bind (parts lo ρ) fun a => M.bind (parts hi ρ) fun b => slcM a b x
noncomputable def rSlU (K : PySem.W.Frag) : V → Option Int → Option Int → Hp → VK → Prop := fun x lo hi H Q => rSlL K x lo hi H Q ∨ rSlA K x lo hi H Q ∨ rSlS x lo hi H Q
theorem slcM_ok {K : PySem.W.Frag} {E : EK} {w : Wd} {S : Sto} {H : Hp} {v : V} {x : D} {lo hi : Option Int} {Q : VK} (hs : Rs K w S H) (rv : Rv K w v x) (h : Fin K E w (slcM lo hi x S) fun w' _ H' d => ∀ z, Rv K w' z d → Q z H') : rSlU K v lo hi H Q := by
  have seq : ∀ (h' : Fin K E w (match asR S x with
    | some ds => some (.ok (D.lst (cutD ds lo hi)), S)
    | none => none) (fun w' _ H' d => ∀ z, Rv K w' z d → Q z H')), rSlU K v lo hi H Q := fun h' => by
    rcases h1 : asR S x with _ | ds
    · simp only [h1] at h'; exact h'.elim
    · simp only [h1] at h'
      obtain ⟨a, xs, rfl, hq, rx⟩ := asR_go hs rv h1
      refine .inl ⟨a, xs, rfl, hq, fun p hp => ?_⟩
      exact h' _ _ (hs.le_lay hp) (hs.lay (o := .lst (cutV xs lo hi)) hp) _ (.lst (by show upd w.G p _ p = _; rw [upd_same]) ((cut_rel rx).mono (hs.le_lay hp)))
  cases x with
  | str z =>
    cases rv
    have h : Fin K E w (if z.length ≤ 100000 then some (.ok (D.str (cutS z lo hi)), S) else none) _ := h
    by_cases hl : z.length ≤ 100000
    · rw [if_pos hl] at h
      exact .inr (.inr ⟨z, rfl, sz_of hl, Fin.ok h hs _ (.str _)⟩)
    · rw [if_neg hl] at h
      exact h.elim
  | tup ds =>
    obtain ⟨a, xs, rfl, hq, rx⟩ := tup_go hs rv
    have h : Fin K E w (some (.ok (D.tup (cutD ds lo hi)), S)) _ := h
    refine .inr (.inl ⟨a, xs, rfl, hq, fun ⟨e1, e2⟩ => ?_, fun _ p hp => ?_⟩)
    · rw [rx.length] at e1 e2
      have e : cutD ds lo hi = ds := by
        unfold cutD
        rw [e1, e2]
        simp
      rw [e] at h
      exact Fin.ok h hs _ rv
    · exact h _ _ (hs.le_lay hp) (hs.lay (o := .tup (cutV xs lo hi)) hp) _ (.tup (.of (by show upd w.G p _ p = _; rw [upd_same])) ((cut_rel rx).mono (hs.le_lay hp)))
  | _ => exact seq h
section
variable {X : Cx} {E : EK} {a b e : Expr} {ma mb m : Env → M D} {pos p2 : Pos} {lo hi : Option Expr} {ml mh : Option (Env → M D)}
noncomputable def tMo (K : PySem.W.Frag) (E : EK) (m : Env → M (Option Int)) : TO := fun σ H Q => ∃ w S ρ, Rs K w S H ∧ Rn K w σ ρ ∧ Fin K E w (m ρ S) fun _ _ H' o => Q o H'
theorem mo_none : PO X none (tMo X.K E (parts none)) := ⟨fun pins s σ H Q I ⟨w, S, ρ, hs, hn, h⟩ => po_none.run pins s σ H Q I (Fin.ok h hs)⟩
theorem mo_some (h : PE X e (tM X.K E m)) : PO X (some e) (tMo X.K E (parts (some m))) := ⟨fun pins s σ H Q I ⟨w, S, ρ, hs, hn, q⟩ => (po_some h).run pins s σ H Q I ⟨w, S, ρ, hs, hn, q.bind.imp fun w1 S1 H1 d l1 s1 q v rv => by
  cases d with
  | int i => cases rv; exact ⟨i, rfl, Fin.ok q s1⟩
  | _ => exact q.elim⟩⟩
theorem me_slice (he : PE X e (tM X.K E m)) (hl : PO X lo (tMo X.K E (parts ml))) (hh : PO X hi (tMo X.K E (parts mh))) : PE X (.Subscript e (.Slice lo hi none p2) pos) (tM X.K E (slc m ml mh)) :=
  pe_imp (pe_slice (sl_list.or (sl_tupA.or sl_str)) he hl hh) fun σ H Q ⟨w, S, ρ, hs, hn, h⟩ => ⟨w, S, ρ, hs, hn, h.bind.imp fun w1 S1 H1 x l1 s1 q v rv =>
    ⟨w1, S1, ρ, s1, hn.mono l1, q.bind.imp fun w2 S2 H2 o l2 s2 q => ⟨w2, S2, ρ, s2, hn.mono (l1.trans l2), q.bind.imp fun w3 S3 H3 o2 l3 s3 q => slcM_ok s3 (rv.mono (l2.trans l3)) q⟩⟩⟩
noncomputable def putM (o : D) (i : D) (v : D) (ρ : Env) : M Env := fun S => match o, i with
  | .ref n, .int k => match S[n]? with
    | some (.lst ds) => match ixN ds.length k with
      | some j => some (.ok ρ, S.set n (.lst (ds.set j v)))
      | none => none
    | _ => none
  | _, _ => none
noncomputable def gPut (mo mi : Env → M D) : D → Env → M Env := fun v ρ => M.bind (mo ρ) fun o => M.bind (mi ρ) fun i => putM o i v ρ
noncomputable def appM (o : D) (xs : List D) : M D := fun S => match o, xs with
  | .ref n, [d] => match S[n]? with
    | some (.lst ds) => if ds.length < 100000 then some (.ok .non, S.set n (.lst (ds ++ [d]))) else none
    | _ => none
  | _, _ => none
noncomputable def strsOf : List D → Option (List Str)
  | [] => some []
  | .str x :: ds => (strsOf ds).map fun xs => x :: xs
  | _ => none
noncomputable def joinM (o : D) (xs : List D) : M D := fun S => match o, xs with
  | .str a, [d] => match asQ S d with
    | some ds => match strsOf ds with
      | some ys => if (ys.map (·.length)).sum + ys.length * a.length ≤ 100000 then some (.ok (.str (Txt.join a ys)), S) else none
      | none => none
    | none => none
  | _, _ => none
noncomputable def chkL (o : D) : M Unit := fun S => match o with
  | .ref n => match S[n]? with
    | some (.lst _) => some (.ok (), S)
    | _ => none
  | _ => none
noncomputable def chkS (o : D) : M Unit := fun S => match o with
  | .str _ => some (.ok (), S)
  | _ => none
noncomputable def mth (c : D → M Unit) (f : D → List D → M D) (m : Env → M D) (ma : Env → M (List D)) : Env → M D := fun ρ => M.bind (m ρ) fun o => M.bind (c o) fun _ => M.bind (ma ρ) fun xs => f o xs
theorem strs_rel {K : PySem.W.Frag} {w : Wd} : ∀ {xs : List V} {ds : List D} {ys : List Str}, RvL K w xs ds → strsOf ds = some ys → xs = ys.map V.str
  | _, _, _, .nil, h => by cases h; rfl
  | _, _, _, .cons r rr, h => by
    cases r with
    | str x =>
      simp only [strsOf] at h
      obtain ⟨ys, h1, rfl⟩ := mapO h
      rw [strs_rel rr h1]
      rfl
    | _ => cases h
theorem ref_ty {K : PySem.W.Frag} {w : Wd} {S : Sto} {H : Hp} {v : V} {n : Nat} (hs : Rs K w S H) (rv : Rv K w v (.ref n)) (hc : ∃ ds, S[n]? = some (.lst ds)) : tyV K "list" v H := by
  obtain ⟨ds, hc⟩ := hc
  cases rv with
  | ref hA =>
    obtain ⟨xs, h1, h2⟩ := hs.cell n _ _ hA hc
    exact .inl ⟨rfl, xs, .of h1⟩
variable {o : Expr} {es : List Expr} {mo : Env → M D} {ma' : Env → M (List D)} {cpos apos : Pos}
theorem args1 {K : PySem.W.Frag} {w : Wd} {vs : List V} {d : D} (r : RvL K w vs [d]) : ∃ v, vs = [v] ∧ Rv K w v d := by
  cases r with
  | cons h r => cases r; exact ⟨_, rfl, h⟩
noncomputable def ChkM (K : PySem.W.Frag) (T : String) (c : D → M Unit) : Prop := ∀ (E : EK) (w : Wd) (S : Sto) (H : Hp) (v : V) (x : D) (P : Wd → Sto → Hp → Unit → Prop), Rs K w S H → Rv K w v x → Fin K E w (c x S) P → tyV K T v H ∧ P w S H ()
theorem chkL_ok {K : PySem.W.Frag} : ChkM K "list" chkL := fun E w S H v x P hs rv h => by
  cases x with
  | ref n =>
    rcases hc : S[n]? with _ | (⟨ds⟩ | ⟨ds⟩ | ⟨C, ds⟩ | ⟨ds⟩)
    · simp only [chkL, hc] at h; exact h.elim
    rotate_left
    · simp only [chkL, hc] at h; exact h.elim
    · simp only [chkL, hc] at h; exact h.elim
    · simp only [chkL, hc] at h; exact h.elim
    · simp only [chkL, hc] at h
      exact ⟨ref_ty hs rv ⟨ds, hc⟩, Fin.ok h hs⟩
  | _ => exact h.elim
theorem chkS_ok {K : PySem.W.Frag} : ChkM K "str" chkS := fun E w S H v x P hs rv h => by
  cases x with
  | str z => cases rv; exact ⟨rfl, Fin.ok h hs⟩
  | _ => exact h.elim
/-- a method on values -/
noncomputable def MeM (K : PySem.W.Frag) (r : V → List V → Hp → VK → Prop) (f : D → List D → M D) : Prop := ∀ (E : EK) (w : Wd) (S : Sto) (H : Hp) (v : V) (vs : List V) (x : D) (xs : List D) (Q : VK), Rs K w S H → Rv K w v x → RvL K w vs xs →
  Fin K E w (f x xs S) (fun w' _ H' d => ∀ z, Rv K w' z d → Q z H') → r v vs H Q
theorem mth_go {T : String} {c : D → M Unit} {r : V → List V → Hp → VK → Prop} {f : D → List D → M D} (hc : ChkM X.K T c) (hf : MeM X.K r f) {σ : L2.St} {H : Hp} {Q : VK} (h : tM X.K E (mth c f mo ma') σ H Q) : tBM X.K T r (tM X.K E mo) (tMa X.K E ma') σ H Q := by
  obtain ⟨w, S, ρ, hs, hn, h⟩ := h
  refine ⟨w, S, ρ, hs, hn, h.bind.imp fun w1 S1 H1 x l1 s1 q v rv => ?_⟩
  obtain ⟨ty, q⟩ := hc E w1 S1 H1 v x _ s1 rv q.bind
  exact ⟨ty, w1, S1, ρ, s1, hn.mono l1, q.bind.imp fun w2 S2 H2 xs l2 s2 q vs rvs => hf E w2 S2 H2 v vs x xs Q s2 (rv.mono l2) rvs q⟩
theorem appM_ok {K : PySem.W.Frag} : MeM K rAppend appM := fun E w S H v vs x xs Q hs rv rvs h => by
  cases x with
  | ref n =>
    rcases xs with _ | ⟨d, _ | ⟨d2, r⟩⟩
    · exact h.elim
    · rcases hc : S[n]? with _ | (⟨ds⟩ | ⟨ds⟩ | ⟨C, ds⟩ | ⟨ds⟩)
      · simp only [appM, hc] at h; exact h.elim
      rotate_left
      · simp only [appM, hc] at h; exact h.elim
      · simp only [appM, hc] at h; exact h.elim
      · simp only [appM, hc] at h; exact h.elim
      · simp only [appM, hc] at h
        by_cases hl : ds.length < 100000
        · rw [if_pos hl] at h
          obtain ⟨u, rfl, ru⟩ := args1 rvs
          cases rv with
          | ref hA =>
            obtain ⟨ys, h1, h2⟩ := hs.cell n _ _ hA hc
            exact ⟨_, ys, u, rfl, rfl, h1, sz_lt (by rw [h2.length]; exact hl), h w _ (Le.refl w) (hs.put hA h1 (by intro _ _ z; cases z) ⟨_, upd_same, h2.append (.one ru)⟩) _ .non⟩
        · rw [if_neg hl] at h
          exact h.elim
    · exact h.elim
  | _ => exact h.elim
theorem joinM_ok {K : PySem.W.Frag} : MeM K (fun x xs H Q => ∃ a p, ∃ ys : List Str, x = .str a ∧ xs = [.ref p] ∧ (SqL K H p (ys.map V.str) ∨ SqT K H p (ys.map V.str)) ∧
    (ys.map (·.length)).sum + ys.length * a.length ≤ 16777216 ∧ Q (.str (Txt.join a ys)) H) joinM := fun E w S H v vs x xs Q hs rv rvs h => by
  cases x with
  | str a =>
    rcases xs with _ | ⟨d, _ | ⟨d2, r⟩⟩
    · exact h.elim
    · rcases hc : asQ S d with _ | ds
      · simp only [joinM, hc] at h; exact h.elim
      · rcases hc2 : strsOf ds with _ | ys
        · simp only [joinM, hc, hc2] at h; exact h.elim
        · simp only [joinM, hc, hc2] at h
          by_cases hl : (ys.map (·.length)).sum + ys.length * a.length ≤ 100000
          · rw [if_pos hl] at h
            obtain ⟨u, rfl, ru⟩ := args1 rvs
            obtain ⟨b, zs, rfl, hb, rz⟩ := asQ_go hs ru hc
            cases rv
            have e := strs_rel rz hc2
            subst e
            exact ⟨a, b, ys, rfl, rfl, hb, by omega, Fin.ok h hs _ (.str _)⟩
          · rw [if_neg hl] at h
            exact h.elim
    · exact h.elim
  | _ => exact h.elim
end
end Mi
namespace Mi
open PySem PySem.Spec L2
variable [LamTabs]
section
variable {X : Cx} {E : EK}
noncomputable def on1 (f : D → M D) : List D → M D
  | [d] => f d
  | _ => bad
theorem on1_ok {K : PySem.W.Frag} {r : List V → Hp → VK → Prop} {f : D → M D} (h : UnM K (fun v H Q => r [v] H Q) f) : CaM K r (on1 f) := fun E w S H vs xs Q hs rv q => by
  rcases xs with _ | ⟨d, _ | ⟨e, t⟩⟩
  · exact q.elim
  · obtain ⟨v, rfl, r1⟩ := args1 rv
    exact h E w S H v d Q hs r1 q
  · exact q.elim
noncomputable def lenM (d : D) : M D := fun S => match d with
  | .str x => if x.length ≤ 100000 then some (.ok (.int (x.length : Int)), S) else none
  | d => match asQ S d with
    | some ds => some (.ok (.int (ds.length : Int)), S)
    | none => none
theorem lenM_ok {K : PySem.W.Frag} : CaM K (fun xs H Q => ∃ x n, xs = [x] ∧ LenV K x H n ∧ Q (.int (n : Nat)) H) (on1 lenM) := on1_ok fun E w S H v x Q hs rv h => by
  have seq : ∀ (h' : Fin K E w (match asQ S x with
    | some ds => some (.ok (D.int (ds.length : Int)), S)
    | none => none) (fun w' _ H' d => ∀ z, Rv K w' z d → Q z H')), ∃ y n, [v] = [y] ∧ LenV K y H n ∧ Q (.int (n : Nat)) H := fun h' => by
    rcases h1 : asQ S x with _ | ds
    · simp only [h1] at h'; exact h'.elim
    · simp only [h1] at h'
      obtain ⟨a, xs, rfl, hq, rx⟩ := asQ_go hs rv h1
      refine ⟨_, ds.length, rfl, ?_, Fin.ok h' hs _ (.int _)⟩
      rcases hq with hq | hq
      · exact .inl ⟨xs, hq, rx.length.symm⟩
      · exact .inr ⟨xs, hq, rx.length.symm⟩
  cases x with
  | str z =>
    cases rv
    have h : Fin K E w (if z.length ≤ 100000 then some (.ok (D.int (z.length : Int)), S) else none) _ := h
    by_cases hl : z.length ≤ 100000
    · rw [if_pos hl] at h
      exact ⟨_, z.length, rfl, ⟨sz_of hl, rfl⟩, Fin.ok h hs _ (.int _)⟩
    · rw [if_neg hl] at h
      exact h.elim
  | _ => exact seq h
noncomputable def absM : D → M D
  | .int i => M.pure (.int (if i < 0 then -i else i))
  | _ => bad
theorem absM_ok {K : PySem.W.Frag} : CaM K (fun xs H Q => ∃ i, xs = [.int i] ∧ Q (.int (if i < 0 then -i else i)) H) (on1 absM) := on1_ok fun E w S H v x Q hs rv h => by
  cases x with
  | int i => cases rv; exact ⟨i, rfl, Fin.ok h hs _ (.int _)⟩
  | _ => exact h.elim
noncomputable def intM : D → M D
  | .int i => M.pure (.int i)
  | .bl b => M.pure (.int (if b then 1 else 0))
  | _ => bad
theorem intM_ok {K : PySem.W.Frag} : CaM K (fun xs H Q => (∃ i, xs = [.int i] ∧ Q (.int i) H) ∨ ∃ k, xs = [.bl k] ∧ Q (.int (if k then 1 else 0)) H) (on1 intM) := on1_ok fun E w S H v x Q hs rv h => by
  cases x with
  | int i => cases rv; exact .inl ⟨i, rfl, Fin.ok h hs _ (.int _)⟩
  | bl i => cases rv; exact .inr ⟨i, rfl, Fin.ok h hs _ (.int _)⟩
  | _ => exact h.elim
noncomputable def listM (d : D) : M D := fun S => match d with
  | .str x => if x.cps.size ≤ 100000 then some (.ok (.lst (x.cps.toList.map sgn)), S) else none
  | d => match asQ S d with
    | some ds => some (.ok (.lst ds), S)
    | none => none
noncomputable def rListS : List V → Hp → VK → Prop := fun xs H Q => ∃ x : Str, xs = [.str x] ∧ x.cps.size ≤ sizeLine ∧ ∀ l, H l = none → Q (.ref l) (upd H l (.lst (x.cps.toList.map fun c => V.str ⟨#[c]⟩)))
theorem call_listS (hc : X.calm = true) : CallR X (.type "list") rListS := by
  intro pins s σ H xs us Q I r h
  obtain ⟨x, rfl, hz, q⟩ := h
  obtain ⟨u, rfl, t, rfl⟩ := vals1 r
  refine call_list_str (I.ok.hd hc) x t (fun h' tk acc' c' hk hS hacc => ?_) hz
  refine ⟨.ref s.heap.objs.size, _, I.laid hk (Nat.le_refl _) (show ObjOk X.prog X.w _ _ _ (.lst (x.cps.toList.map fun c => V.str ⟨#[c]⟩)) from ⟨?_, acc'.toList, c', ?_, ?_⟩), rfl, q _ (I.hok.fresh (Nat.le_refl _))⟩
  · rw [List.length_map, Array.length_toList]; exact hz
  · refine vals_of_at (by rw [List.length_map, Array.length_toList, Array.length_toList, hacc.1]) fun j y v h1 h2 => ?_
    obtain ⟨c, t', e1, e2⟩ := hacc.2 j v (by rw [← Array.getElem?_toList]; exact h2)
    rw [List.getElem?_map, Array.getElem?_toList, e1] at h1
    cases h1
    exact ⟨t', e2⟩
  · rw [Array.toArray_toList]; exact hS
theorem sgn_rel {K : PySem.W.Frag} {w : Wd} : ∀ cs : List Nat, RvL K w (cs.map fun c => V.str ⟨#[c]⟩) (cs.map sgn)
  | [] => .nil
  | c :: cs => .cons (.str _) (sgn_rel cs)
noncomputable def rListU (K : PySem.W.Frag) : List V → Hp → VK → Prop := fun xs H Q => rListS xs H Q ∨ ∃ p ys, xs = [.ref p] ∧ (SqL K H p ys ∨ SqT K H p ys) ∧ ∀ l, H l = none → Q (.ref l) (upd H l (.lst ys))
theorem call_listU (hc : X.calm = true) : CallR X (.type "list") (rListU X.K) := (call_listS hc).or call_list_of
theorem listM_ok {K : PySem.W.Frag} : CaM K (rListU K) (on1 listM) := on1_ok fun E w S H v x Q hs rv h => by
  have seq : ∀ (h' : Fin K E w (match asQ S x with
    | some ds => some (.ok (D.lst ds), S)
    | none => none) (fun w' _ H' d => ∀ z, Rv K w' z d → Q z H')), rListU K [v] H Q := fun h' => by
    rcases h1 : asQ S x with _ | ds
    · simp only [h1] at h'; exact h'.elim
    · simp only [h1] at h'
      obtain ⟨a, xs, rfl, hq, rx⟩ := asQ_go hs rv h1
      refine .inr ⟨a, xs, rfl, hq, fun p hp => h' _ _ (hs.le_lay hp) (hs.lay (o := .lst xs) hp) _ (.lst (by show upd w.G p _ p = _; rw [upd_same]) (rx.mono (hs.le_lay hp)))⟩
  cases x with
  | str z =>
    cases rv
    have h : Fin K E w (if z.cps.size ≤ 100000 then some (.ok (D.lst (z.cps.toList.map sgn)), S) else none) _ := h
    by_cases hl : z.cps.size ≤ 100000
    · rw [if_pos hl] at h
      exact .inl ⟨z, rfl, sz_of hl, fun p hp => h _ _ (hs.le_lay hp) (hs.lay (o := .lst _) hp) _ (.lst (by show upd w.G p _ p = _; rw [upd_same]) (sgn_rel _))⟩
    · rw [if_neg hl] at h
      exact h.elim
  | _ => exact seq h
noncomputable def tupleM (d : D) : M D := fun S => match d with
  | .tup ds => some (.ok (.tup ds), S)
  | d => match asR S d with
    | some ds => some (.ok (.tup ds), S)
    | none => none
theorem tupleM_ok {K : PySem.W.Frag} : CaM K (fun xs H Q => ∃ p ys, xs = [.ref p] ∧ ((SqL K H p ys ∧ ∀ l, H l = none → Q (.ref l) (upd H l (.tup ys))) ∨ (SqT K H p ys ∧ Q (.ref p) H))) (on1 tupleM) := on1_ok fun E w S H v x Q hs rv h => by
  have seq : ∀ (h' : Fin K E w (match asR S x with
    | some ds => some (.ok (D.tup ds), S)
    | none => none) (fun w' _ H' d => ∀ z, Rv K w' z d → Q z H')), ∃ p ys, [v] = [.ref p] ∧ ((SqL K H p ys ∧ ∀ l, H l = none → Q (.ref l) (upd H l (.tup ys))) ∨ (SqT K H p ys ∧ Q (.ref p) H)) := fun h' => by
    rcases h1 : asR S x with _ | ds
    · simp only [h1] at h'; exact h'.elim
    · simp only [h1] at h'
      obtain ⟨a, xs, rfl, hq, rx⟩ := asR_go hs rv h1
      exact ⟨a, xs, rfl, .inl ⟨hq, fun p hp => h' _ _ (hs.le_lay hp) (hs.lay (o := .tup xs) hp) _ (.tup (.of (by show upd w.G p _ p = _; rw [upd_same])) (rx.mono (hs.le_lay hp)))⟩⟩
  cases x with
  | tup ds =>
    obtain ⟨a, xs, rfl, hq, rx⟩ := tup_go hs rv
    exact ⟨a, xs, rfl, .inr ⟨hq, Fin.ok (P := fun w' _ H' d => ∀ z, Rv K w' z d → Q z H') h hs _ rv⟩⟩
  | _ => exact seq h
noncomputable def blsOf : List D → Option (List Bool)
  | [] => some []
  | .bl b :: ds => (blsOf ds).map fun bs => b :: bs
  | _ => none
theorem bls_rel {K : PySem.W.Frag} {w : Wd} : ∀ {xs : List V} {ds : List D} {bs : List Bool}, RvL K w xs ds → blsOf ds = some bs → xs = bs.map V.bl
  | _, _, _, .nil, h => by cases h; rfl
  | _, _, _, .cons r rr, h => by
    cases r with
    | bl x =>
      simp only [blsOf] at h
      obtain ⟨ys, h1, rfl⟩ := mapO h
      rw [bls_rel rr h1]
      rfl
    | _ => cases h
noncomputable def allM (d : D) : M D := fun S => match asR S d with
  | some ds => match blsOf ds with
    | some bs => some (.ok (.bl (bs.all id)), S)
    | none => none
  | none => none
noncomputable def anyM (d : D) : M D := fun S => match asR S d with
  | some ds => match blsOf ds with
    | some bs => some (.ok (.bl (bs.any id)), S)
    | none => none
  | none => none
theorem allM_ok {K : PySem.W.Frag} : CaM K (rAll K) (on1 allM) := on1_ok fun E w S H v x Q hs rv h => by
  rcases h1 : asR S x with _ | ds
  · simp only [allM, h1] at h; exact h.elim
  · rcases h2 : blsOf ds with _ | bs
    · simp only [allM, h1, h2] at h; exact h.elim
    · simp only [allM, h1, h2] at h
      obtain ⟨a, xs, rfl, hq, rx⟩ := asR_go hs rv h1
      exact ⟨a, bs, rfl, by rw [← bls_rel rx h2]; exact hq, Fin.ok h hs _ (.bl _)⟩
theorem anyM_ok {K : PySem.W.Frag} : CaM K (rAny K) (on1 anyM) := on1_ok fun E w S H v x Q hs rv h => by
  rcases h1 : asR S x with _ | ds
  · simp only [anyM, h1] at h; exact h.elim
  · rcases h2 : blsOf ds with _ | bs
    · simp only [anyM, h1, h2] at h; exact h.elim
    · simp only [anyM, h1, h2] at h
      obtain ⟨a, xs, rfl, hq, rx⟩ := asR_go hs rv h1
      exact ⟨a, bs, rfl, by rw [← bls_rel rx h2]; exact hq, Fin.ok h hs _ (.bl _)⟩
noncomputable def tyN (S : Sto) : D → Option String
  | .non => some "NoneType"
  | .bl _ => some "bool"
  | .int _ => some "int"
  | .str _ => some "str"
  | .tup _ => some "tuple"
  | .lst _ => some "list"
  | .lsr _ => some "list"
  | .dct _ => some "dict"
  | .ref n => match S[n]? with
    | some (.lst _) => some "list"
    | some (.dct _) => some "dict"
    | _ => none
  | .exc _ _ => none
  | .stp _ => some "tuple"
theorem tyN_go {K : PySem.W.Frag} {w : Wd} {S : Sto} {H : Hp} {v : V} {d : D} {t : String} (hs : Rs K w S H) (rv : Rv K w v d) (h : tyN S d = some t) : TyX K H v (.type t) := by
  cases rv with
  | non => cases h; exact .base .non
  | bl b => cases h; exact .base (.bl b)
  | int b => cases h; exact .base (.int b)
  | str b => cases h; exact .base (.str b)
  | tup hG r =>
    cases h
    rcases sqT_up hG (Le.refl w) hs with (e | ⟨o, e⟩) | ⟨o, its, n, e, c, _⟩
    · exact .base (.tup e)
    · exact .fTuple e
    · exact .kTuple e c
  | stp hG r =>
    cases h
    rcases sqT_up hG.weak (Le.refl w) hs with (e | ⟨o, e⟩) | ⟨o, its, n, e, c, _⟩
    · exact .base (.tup e)
    · exact .fTuple e
    · exact .kTuple e c
  | lst hG r => cases h; exact .base (.lst (hs.g _ _ hG))
  | lsr hG r =>
    cases h
    rcases sqL_up hG (Le.refl w) hs with (e | ⟨o, e⟩) | ⟨o, its, n, e, c, _⟩
    · exact .base (.lst e)
    · exact .base (.frz e)
    · exact .kList e c
  | dct hG r => cases h; exact .base (.dK (hs.g _ _ hG))
  | ref hA =>
    rename_i a n
    rcases hc : S[n]? with _ | (⟨ds⟩ | ⟨ds⟩ | ⟨C, ds⟩ | ⟨ds⟩)
    · simp only [tyN, hc] at h; cases h
    rotate_left
    · simp only [tyN, hc] at h
      cases h
      obtain ⟨xs, h1, _⟩ := hs.cell n a _ hA hc
      exact .base (.dK h1)
    · simp only [tyN, hc] at h; cases h
    · simp only [tyN, hc] at h; cases h
    · simp only [tyN, hc] at h
      cases h
      obtain ⟨xs, h1, _⟩ := hs.cell n a _ hA hc
      exact .base (.lst h1)
  | exn _ _ => cases h
  | exc _ _ _ _ => cases h
noncomputable def isiM (T : String) (d : D) : M D := fun S => match tyN S d with
  | some t => match kitB t T with
    | some b => some (.ok (.bl b), S)
    | none => none
  | none => none
variable {a e : Expr} {m : Env → M D} {x T : Str} {p q pos : Pos} {T : String} {es : List Expr}
theorem me_isi (hg : Gl X "isinstance") (hm : X.mg "isinstance" = none) (hv : bootBuiltins "isinstance" = some (.builtin "isinstance")) (ha : PE X a (tM X.K E m)) (ht : PE X e (tC (.ty T)))
    (he : starEach [a, e] X.env = (false, eval a X.env) :: starEach [e] X.env := by rfl) (he2 : starEach [e] X.env = (false, eval e X.env) :: starEach [] X.env := by rfl) (hpl : (backTo pos (starEach [e] X.env)).any (·.1) = false := by rfl) :
    PE X (.Call (.Name "isinstance" p) [a, e] [] pos) (tM X.K E (b1 (isiM T) m)) :=
  pe_imp (pe_callB call_isi hg hm hv (pa_cons ha (pa_cons ht pa_nil he2) he) (by decide) (by decide) he hpl) fun σ H Q ⟨w, S, ρ, hs, hn, h⟩ => ⟨w, S, ρ, hs, hn, h.bind.imp fun w1 S1 H1 x l1 s1 h v rv => by
    rcases h1 : tyN S1 x with _ | t
    · simp only [isiM, h1] at h; exact h.elim
    · rcases h2 : kitB t T with _ | b
      · simp only [isiM, h1, h2] at h; exact h.elim
      · simp only [isiM, h1, h2] at h
        exact ⟨v, .ty T, .type t, .type T, b, rfl, .ty T, tyN_go s1 rv h1, kit_ty h2, Fin.ok h s1 _ (.bl _)⟩⟩
end
end Mi
namespace Mi
open PySem PySem.Spec L2
variable [LamTabs]
section
variable {X : Cx} {pins : List (Addr × Obj)} {σ : L2.St} {H : Hp} {s : Shared} {w : Wd} {S : Sto}
theorem lst_reads (I : Inv X pins σ H s) (hs : Rs X.K w S H) {a : Addr} {xs : List V} {ps : List PyData} (hx : H a = some (.lst xs)) (k : ∀ us, Vals xs us → ∃ as, ReadsAll s.heap us ps as ∧ sysModules ∉ as) : ∃ as, Reads s.heap (.ref a) (.list ps) as ∧ sysModules ∉ as := by
  obtain ⟨its, rv, ⟨o, n, ho, hc, _, hd⟩, _⟩ := I.list (.of hx)
  obtain ⟨as, h1, h2⟩ := k its rv
  obtain ⟨φ, hφ⟩ := hs.sy
  have hφ := hs.f _ _ hφ
  exact ⟨_, Reads.list ho hc hd h1, by
    intro z
    rcases List.mem_cons.mp z with z | z
    · rw [← z, hφ] at hx
      cases hx
    · exact h2 z⟩
mutual
theorem reads_of (I : Inv X pins σ H s) (hs : Rs X.K w S H) : ∀ {d : D} {v : V} {u : Value} {p : PyData}, Rv X.K w v d → toPy d = some p → RelV v u → ∃ as, Reads s.heap u p as ∧ sysModules ∉ as
  | _, _, _, _, .non, h, r => by cases h; cases r; exact ⟨_, Reads.none, by simp⟩
  | _, _, _, _, .bl b, h, r => by cases h; cases r; exact ⟨_, Reads.bool b, by simp⟩
  | _, _, _, _, .int i, h, r => by cases h; obtain ⟨t, rfl⟩ := r; exact ⟨_, Reads.int i t, by simp⟩
  | _, _, _, _, .str x, h, r => by cases h; obtain ⟨t, rfl⟩ := r; exact ⟨_, Reads.str x t, by simp⟩
  | _, _, _, _, .tup hG rr, h, r => by
    simp only [toPy] at h
    obtain ⟨ps, h1, rfl⟩ := mapO h
    cases r
    obtain ⟨its, rv, ⟨o, ho, hc, n, hd⟩, _⟩ := I.tuple (sqT_up hG (Le.refl w) hs)
    obtain ⟨as, e1, e2⟩ := reads_ofL I hs rr h1 rv
    exact ⟨_, Reads.tuple ho hc hd e1, e2⟩
  | _, _, _, _, .stp hG rr, h, r => by
    simp only [toPy] at h
    obtain ⟨ps, h1, rfl⟩ := mapO h
    cases r
    obtain ⟨its, rv, ⟨o, ho, hc, n, hd⟩, _⟩ := I.tuple (sqT_up hG.weak (Le.refl w) hs)
    obtain ⟨as, e1, e2⟩ := reads_ofL I hs rr h1 rv
    exact ⟨_, Reads.tuple ho hc hd e1, e2⟩
  | _, _, _, _, .lst hG rr, h, r => by
    simp only [toPy] at h
    obtain ⟨ps, h1, rfl⟩ := mapO h
    cases r
    exact lst_reads I hs (hs.g _ _ hG) fun us rv => reads_ofL I hs rr h1 rv
  | _, _, _, _, .lsr _ _, h, _ => by simp only [toPy] at h; cases h
  | _, _, _, _, .dct hG rr, h, r => by
    simp only [toPy] at h
    obtain ⟨ps, h1, rfl⟩ := mapO h
    cases r
    rename_i a xs ds
    obtain ⟨z, lo, vs, rk, o, es, ep, ho, hx, hd, _, hp, _⟩ := (show ObjOk X.prog X.w H s.heap a (.dK xs) from I.hok a _ (hs.g _ _ hG))
    obtain ⟨as, bs, e1, e2, e3, e4⟩ := reads_ofK I hs rr h1 rk hp
    refine ⟨_, Reads.dict ho hx.1 hd e1 e2, ?_⟩
    intro z
    rcases List.mem_append.mp z with z | z
    · rcases List.mem_cons.mp z with z | z
      · rw [← z] at lo
        simp at lo
      · exact e3 z
    · exact e4 z
  | _, _, _, _, .ref _, h, _ => by simp only [toPy] at h; cases h
theorem reads_ofL (I : Inv X pins σ H s) (hs : Rs X.K w S H) : ∀ {d : List D} {v : List V} {u : List Value} {p : List PyData}, RvL X.K w v d → toPyL d = some p → Vals v u → ∃ as, ReadsAll s.heap u p as ∧ sysModules ∉ as
  | _, _, _, _, .nil, h, r => by cases h; cases r; exact ⟨_, ReadsAll.nil, by simp⟩
  | _, _, _, _, .cons h1 rr, h, r => by
    simp only [toPyL] at h
    obtain ⟨p, e1, h⟩ := bindO h
    obtain ⟨ps, e2, rfl⟩ := mapO h
    cases r with
    | cons r1 r2 =>
      obtain ⟨as, a1, a2⟩ := reads_of I hs h1 e1 r1
      obtain ⟨bs, b1, b2⟩ := reads_ofL I hs rr e2 r2
      exact ⟨_, ReadsAll.cons a1 b1, by
        intro z
        rcases List.mem_append.mp z with z | z
        · exact a2 z
        · exact b2 z⟩
theorem reads_ofK (I : Inv X pins σ H s) (hs : Rs X.K w S H) : ∀ {d : List (D × D)} {v : List (Key × V)} {u : List (Key × Value)} {es : List DictEntry} {p : List (PyData × PyData)}, RvK X.K w v d → toPyK d = some p → KV v u → Pairs (mixKind X.prog X.w) es u →
    ∃ as bs, ReadsAll s.heap (es.map (·.key)) (p.map (·.1)) as ∧ ReadsAll s.heap (es.map (·.val)) (p.map (·.2)) bs ∧ sysModules ∉ as ∧ sysModules ∉ bs
  | _, _, _, _, _, .nil, h, r, q => by cases h; cases r; cases q; exact ⟨_, _, ReadsAll.nil, ReadsAll.nil, by simp, by simp⟩
  | _, _, _, _, _, .cons (k := k) h1 rr, h, r, q => by
    simp only [toPyK] at h
    obtain ⟨pk, e0, h⟩ := bindO h
    obtain ⟨p, e1, h⟩ := bindO h
    obtain ⟨ps, e2, rfl⟩ := mapO h
    cases r with
    | cons r1 r2 =>
      cases q with
      | cons q1 q2 q3 =>
        obtain ⟨r1a, r1b⟩ := r1
        obtain ⟨as, a1, a2⟩ := reads_of I hs h1 e1 r1b
        rw [← q2] at a1
        obtain ⟨bs, cs, b1, b2, b3, b4⟩ := reads_ofK I hs rr e2 r2 q3
        rename_i kv2 tl2 en es2
        have hk : ∃ ks, Reads s.heap en.key pk ks ∧ sysModules ∉ ks := by
          rw [← r1a] at q1
          have q1' : keyIs k en.key = true := q1
          rcases keyIs_shape q1' with ⟨i, t, ek, ev⟩ | ⟨x, t, ek, ev⟩
          · subst ek
            cases e0
            exact ⟨_, by rw [ev]; exact Reads.int i t, by simp⟩
          · subst ek
            cases e0
            exact ⟨_, by rw [ev]; exact Reads.str x t, by simp⟩
        obtain ⟨ks, k1, k2⟩ := hk
        exact ⟨_, _, ReadsAll.cons k1 b1, ReadsAll.cons a1 b2, by
          intro z
          rcases List.mem_append.mp z with z | z
          · exact k2 z
          · exact b3 z, by
          intro z
          rcases List.mem_append.mp z with z | z
          · exact a2 z
          · exact b4 z⟩
end
theorem reads_of2 (I : Inv X pins σ H s) (hs : Rs X.K w S H) {d : D} {v : V} {u : Value} {p : PyData} (rv : Rd2 X.K w H v d) (h : toPy d = some p) (r : RelV v u) : ∃ as, Reads s.heap u p as ∧ sysModules ∉ as := by
  cases rv with
  | of q => exact reads_of I hs q h r
  | cell hH rr =>
    simp only [toPy] at h
    obtain ⟨ps, h1, rfl⟩ := mapO h
    cases r
    exact lst_reads I hs hH fun us rv => reads_ofL I hs rr h1 rv
end
section
variable {X : Cx} {E : EK}
/-- the text of a value, by the library -/
noncomputable def rRepr (K : PySem.W.Frag) : List V → Hp → VK → Prop := fun xs H Q => ∃ (w : Wd) (S : Sto) (v : V) (d : D) (p : PyData), xs = [v] ∧ Rs K w S H ∧ Rv K w v d ∧ toPy (deS S d) = some p ∧ p.showable = true ∧ p.shown.length ≤ sizeLine ∧ p.depth ≤ 60 ∧ Q (.str p.shown) H
theorem repr_flat {p : PyData} {u : Value} {as : List Addr} {h : Heap} (r : Reads h u p as) (hn : ∀ a, u ≠ .ref a) {A : Around} {P : Program} {w : World} {E : Value → Shared → Prop} {s : Shared} {Q : Value → Shared → Prop} (hs : p.showable = true) (hz : p.shown.length ≤ sizeLine)
    (hQ : Q (.str p.shown s.toks) { s with toks := s.toks + 1 }) : wpAny (model P w) A (call (.builtin "repr") [u]) Q E s := by
  cases r with
  | none => simp only [PyData.shown] at hQ; exact PySem.P.repr_of_none hQ
  | bool b => simp only [PyData.shown] at hQ; exact PySem.P.repr_of_bool hQ
  | int i t => simp only [PyData.shown] at hQ; exact PySem.P.repr_of_int (by simpa [PyData.showable] using hs) hQ
  | str x t => simp only [PyData.shown] at hQ hz; exact PySem.P.repr_of_str hQ hz
  | list => exact absurd rfl (hn _)
  | tuple => exact absurd rfl (hn _)
  | dict => exact absurd rfl (hn _)
theorem call_reprU {k : Nat} (hr : Room k X.A) (hgd : X.A.guards = some []) : CallR X (.builtin "repr") (rRepr X.K) := by
  intro pins s σ H xs us Q I r h
  obtain ⟨w, S, v, d, p, rfl, hs, rv, hp, h1, h2, h3, q⟩ := h
  obtain ⟨u, rfl, ru⟩ := vals1 r
  obtain ⟨as, e1, e2⟩ := reads_of2 I hs (deS_go hs rv) hp ru
  by_cases hu : ∃ a, u = .ref a
  · obtain ⟨a, rfl⟩ := hu
    refine repr_of_reads' e1 h1 (fun _ => e2) hgd (by have := hr.units; omega) (fun _ _ e => e) (fun h' t tk hk => ?_) h2
    exact ⟨.str p.shown, H, I.kept hk, ⟨_, rfl⟩, q⟩
  · exact repr_flat e1 (fun a z => hu ⟨a, z⟩) h1 h2 ⟨.str p.shown, H, I.tok _, ⟨_, rfl⟩, q⟩
noncomputable def reprM (d : D) : M D := fun S => match toPy (deS S d) with
  | some p => if p.showable = true ∧ p.shown.length ≤ 100000 ∧ p.depth ≤ 60 then some (.ok (.str p.shown), S) else none
  | none => none
theorem reprM_ok {K : PySem.W.Frag} : CaM K (rRepr K) (on1 reprM) := on1_ok fun E w S H v x Q hs rv h => by
  rcases h1 : toPy (deS S x) with _ | p
  · simp only [reprM, h1] at h; exact h.elim
  · simp only [reprM, h1] at h
    by_cases hc : p.showable = true ∧ p.shown.length ≤ 100000 ∧ p.depth ≤ 60
    · rw [if_pos hc] at h
      exact ⟨w, S, v, x, p, rfl, hs, rv, h1, hc.1, sz_of hc.2.1, hc.2.2, Fin.ok h hs _ (.str _)⟩
    · rw [if_neg hc] at h
      exact h.elim
end
end Mi
namespace Mi
open PySem PySem.Spec PyProof.Rows L2
variable [LamTabs]
section
variable {P : Program} {w : World} {K : PySem.W.Frag} {mg : Str → Option Value}
/-- a promise kept by the outermost call alone; cs: the code objects of the defs that make lambdas, and their tables -/
noncomputable def TopOk (P : Program) (w : World) (K : PySem.W.Frag) (mg : Str → Option Value) (cs : List (Addr × Addr)) (fa : Addr) (x : Str) (sp : Sp) : Prop :=
  ∀ (base : Heap) (s : Shared) (H : Hp) (v : V) (u : Value) (Q : VK) (E : XK), K.In base → base.Ns mainGlobals mg → (∀ p ∈ cs, LamX.TabB base mg p.1 p.2) → Env0 P w K mg base callerA [] s H → RelV v u → sp [v] H Q E →
    codeAny (model P w) callerA (.call (.ref fa) ⟨[u], []⟩) (CR CX0 [] P w H s Q E) s
/-- all but the interpreter's own object and the tables -/
noncomputable def restH (cs : List (Addr × Addr)) (H : Hp) : Hp := fun b => if b = sysModules ∨ b ∈ cs.map (·.2) then none else H b
noncomputable abbrev emptyT : Obj := { cls := .none, data := .fields #[] }
theorem top_run {fa a : Addr} {cs : List (Addr × Addr)} {x : Str} {sp : Sp} {mb : Str → Option Value} {st : Shared} {us : List Value} {zs : List Int} {oM : Obj} (T : TopOk P w K mg cs fa x sp)
    (kIn : K.In st.heap) (gNs : st.heap.Ns mainGlobals mg) (bNs : st.heap.Ns builtinsNs mb) (bAll : ∀ y : Str, y ≠ "__name__" → mb y = bootBuiltins y) (lim : st.heap.NoLimit) (gens : st.gens = #[])
    (kno : K.lookup sysModules = none) (sM : st.heap.get? sysModules = some oM) (sD : ∃ es ep, oM.data = .dict es ep)
    (tE : ∀ p ∈ cs, st.heap.get? p.2 = some emptyT) (tK : ∀ p ∈ cs, K.lookup p.2 = none) (tC : ∀ p ∈ cs, PySem.W.CodeHd st.heap p.1 p.2)
    (bm : ∃ (bm : Addr) (ob : Obj), mg "__builtins__" = some (.ref bm) ∧ bm ≠ builtinsNs ∧ st.heap.get? bm = some ob ∧ ob.cls = .type "module" ∧ ob.dict = some builtinsNs ∧ ob.data = .plain)
    (at_a : st.heap.get? a = some { cls := .type "list", data := .seq us.toArray }) (zin : IntsAre us zs) (few : zs.length ≤ sizeLine)
    (ask : ∀ (H : Hp) (φ : Heap → Prop), H sysModules = some (.ext φ) → (∀ p ∈ cs, H p.2 = some (.tbl #[])) → (∀ p ∈ cs, p.2 ≠ sysModules) → NoTb (restH cs H) → SqL K (restH cs H) a (zs.map V.int) → sp [.ref a] H (fun v H' => v = .bl true ∧ H' sysModules = some (.ext φ)) fun _ _ _ => False) :
    codeAny (model P w) callerA (.call (.ref fa) ⟨[.ref a], []⟩) (fun r s' => r = .ok (.ret (.bool true)) ∧ OldK st.heap s'.heap ∧ s'.os = st.os ∧ AllBare s'.gens) st := by
  have rel := vals_ints zin
  have same := zin.length
  obtain ⟨es0, ep0, sD⟩ := sD
  have isT : ∀ b, b ∈ cs.map (·.2) → st.heap.get? b = some emptyT := fun b hb => by
    obtain ⟨p, hp, rfl⟩ := List.mem_map.mp hb
    exact tE p hp
  have apart : a ≠ sysModules := by
    rintro rfl
    rw [sM] at at_a
    cases at_a
    cases sD
  have apartT : a ∉ cs.map (·.2) := fun z => by
    have q := isT a z
    rw [at_a] at q
    cases q
  have sT : sysModules ∉ cs.map (·.2) := fun z => by
    have q := isT _ z
    rw [sM] at q
    cases q
    cases sD
  have main : ∀ H1 : Hp, (∀ b, H1 b = none ∨ ∃ o xs, H1 b = some (.frz o (.lst xs))) → (∀ b, b = sysModules ∨ b ∈ cs.map (·.2) → H1 b = none) → SqL K H1 a (zs.map V.int) → HOk P w H1 st.heap → (∀ b, H1 b ≠ none → b = a) → (H1 a ≠ none → K.lookup a = none) → codeAny (model P w) callerA (.call (.ref fa) ⟨[.ref a], []⟩)
      (fun r s' => r = .ok (.ret (.bool true)) ∧ OldK st.heap s'.heap ∧ s'.os = st.os ∧ AllBare s'.gens) st := fun H1 only free seq held just unk => by
    obtain ⟨φ, eφ⟩ : ∃ φ : Heap → Prop, φ = fun h => h.get? sysModules = some oM := ⟨_, rfl⟩
    obtain ⟨H, eH⟩ : ∃ H : Hp, H = fun b => if b = sysModules then some (.ext φ) else if b ∈ cs.map (·.2) then some (.tbl #[]) else H1 b := ⟨_, rfl⟩
    have at_s : H sysModules = some (.ext φ) := by rw [eH]; exact if_pos rfl
    have at_t : ∀ b, b ∈ cs.map (·.2) → H b = some (.tbl #[]) := fun b hb => by
      rw [eH]
      show (if b = sysModules then _ else _) = _
      rw [if_neg (show b ≠ sysModules by rintro rfl; exact sT hb), if_pos hb]
    have at_o : ∀ b, b ≠ sysModules → b ∉ cs.map (·.2) → H b = H1 b := fun b hb hc => by
      rw [eH]
      show (if b = sysModules then _ else _) = _
      rw [if_neg hb, if_neg hc]
    have same_tup : ∀ c o, (∃ u, o = HO.own u) ∨ (∃ xs, o = HO.tup xs) → H1 c = some o → H c = some o := fun c o _ q => by
      by_cases hc : c = sysModules ∨ c ∈ cs.map (·.2)
      · rw [free c hc] at q; cases q
      · rw [at_o c (fun z => hc (.inl z)) (fun z => hc (.inr z))]
        exact q
    have held' : HOk P w H st.heap := fun b o e => by
      by_cases hb : b = sysModules
      · subst hb
        rw [at_s] at e
        cases e
        subst eφ
        exact ⟨sM, ⟨_, sM⟩, fun h1 h2 p k => k _ p⟩
      · by_cases hc : b ∈ cs.map (·.2)
        · rw [at_t b hc] at e
          cases e
          exact isT b hc
        · rw [at_o b hb hc] at e
          exact (held b o e).stay (fun _ _ _ q => q) (fun c q => same_tup c _ (.inl ⟨_, rfl⟩) q) fun c xs q => same_tup c _ (.inr ⟨_, rfl⟩) q
    -- what is none of the three stands in the hidden heap
    have up : ∀ {b : Addr} {o : Obj}, st.heap.get? b = some o → b ≠ sysModules → (∀ vs n, o.data ≠ .seq vs n) → o.data ≠ .fields #[] → (hidT st.heap H).get? b = some o := fun {b o} e h1 h2 h3 => hidT_get e (by
      cases hh : H b with
      | none => rfl
      | some y =>
        by_cases hc : b ∈ cs.map (·.2)
        · rw [isT b hc] at e
          cases e
          exact absurd rfl h3
        · obtain rfl : b = a := just b (by rw [← at_o b h1 hc, hh]; simp)
          rw [at_a] at e
          cases e
          exact absurd rfl (h2 _ _))
    have ns_up : ∀ {b : Addr} {m : Str → Option Value}, b ≠ sysModules → st.heap.Ns b m → (hidT st.heap H).Ns b m := fun {b m} hb ⟨o, es, ep, e, d, r⟩ => ⟨o, es, ep, up e hb (fun vs n z => by rw [d] at z; cases z) (fun z => by rw [d] at z; cases z), d, r⟩
    have k_up : K.In (hidT st.heap H) := fun b o e => hidT_get (kIn b o e) (by
      by_cases hb : b = sysModules
      · subst hb
        rw [kno] at e
        cases e
      · cases hh : H b with
        | none => rfl
        | some y =>
          by_cases hc : b ∈ cs.map (·.2)
          · obtain ⟨p, hp, rfl⟩ := List.mem_map.mp hc
            rw [tK p hp] at e
            cases e
          · obtain rfl : b = a := just b (by rw [← at_o b hb hc, hh]; simp)
            rw [unk (by rw [← at_o b hb hc, hh]; simp)] at e
            cases e)
    have md : Mod K mg (hidT st.heap H) := ⟨k_up, ns_up (by decide) gNs, ⟨mb, ns_up (by decide) bNs, bAll⟩, lim.imp fun _ q => ⟨ns_up (by decide) q.1, q.2⟩⟩
    have en0 : Env0 P w K mg (hidT st.heap H) callerA [] st H := ⟨rfl, md, fun b o e => of_hidT e, Nat.le_of_eq (hidT_size _ _), trivial, (fun b hb => by cases hb), held', .of_eq gens⟩
    have TB : ∀ p ∈ cs, LamX.TabB (hidT st.heap H) mg p.1 p.2 := fun p hp => by
      have isE := tE p hp
      refine ⟨?_, ?_, fun z => ?_⟩
      · obtain ⟨o, us', file, tf, flags, tg, inF, text, tt, e1, r1, r2, r3, r4, r5, r6, r7, r8, hne⟩ := tC p hp
        refine ⟨o, us', file, tf, flags, tg, inF, text, tt, up e1 (fun z => ?_) (fun vs n z => ?_) (fun z => ?_), r1, r2, r3, r4, r5, r6, r7, r8, hne⟩
        · rw [z, sM] at e1
          cases e1
          rw [r2] at sD
          cases sD
        · rw [r2] at z
          cases z
        · rw [r2] at z
          cases z
          simp at r3
      · obtain ⟨bm, ob, b1, b2, b3, b4, b5, b6⟩ := bm
        have nG : bm ≠ mainGlobals := by
          rintro rfl
          obtain ⟨o, es, ep, e, hd, _⟩ := gNs
          rw [e] at b3
          cases b3
          rw [hd] at b6
          cases b6
        have nP : bm ≠ p.2 := by
          rintro rfl
          rw [isE] at b3
          cases b3
          cases b6
        refine ⟨bm, ob, b1, b2, nG, nP, up b3 (fun z => ?_) (fun vs n z => ?_) (fun z => ?_), b4, b5, b6⟩
        · rw [z, sM] at b3
          cases b3
          rw [b6] at sD
          cases sD
        · rw [b6] at z
          cases z
        · rw [b6] at z
          cases z
      · obtain ⟨o, es, ep, e, hd, _⟩ := gNs
        rw [z, isE] at e
        cases e
        cases hd
    have eR : restH cs H = H1 := by
      funext b
      unfold restH
      by_cases hb : b = sysModules ∨ b ∈ cs.map (·.2)
      · rw [if_pos hb, free b hb]
      · rw [if_neg hb, at_o b (fun z => hb (.inl z)) (fun z => hb (.inr z))]
    have nt : NoTb (restH cs H) := fun b ps z => by
      rw [eR] at z
      rcases only b with q | ⟨o, xs, q⟩ <;> rw [q] at z <;> cases z
    refine codeAny_mono (T _ st H (.ref a) (.ref a) _ _ k_up (ns_up (by decide) gNs) TB en0 rfl (ask H φ at_s (fun p hp => at_t _ (List.mem_map.mpr ⟨p, hp, rfl⟩)) (fun p hp z => sT (by rw [← z]; exact List.mem_map.mpr ⟨p, hp, rfl⟩)) nt (by rw [eR]; exact seq))) fun r s' h => ?_
    rcases r with e | fl
    · exact (show False from h).elim
    · cases fl with
      | ret u =>
        obtain ⟨v, H', os, bare, un, hok', rv, q, qs⟩ := h
        obtain rfl : v = V.bl true := q
        obtain rfl : u = Value.bool true := rv
        have key : ∀ b o, b ∉ cs.map (·.2) → st.heap.get? b = some o → s'.heap.get? b = some o := fun b o hc e => by
          by_cases hb : b = sysModules
          · subst hb
            have z := (hok' _ _ qs).1
            subst eφ
            have z : s'.heap.get? sysModules = some oM := z
            rw [sM] at e
            cases e
            exact z
          · cases q : H b with
            | none => exact un.keep b o e q (fun z => by cases z) (fun z => by cases z)
            | some y =>
              rcases only b with z | ⟨ob, xs, z⟩
              · rw [at_o b hb hc, z] at q
                cases q
              · rw [← at_o b hb hc] at z
                obtain ⟨e2, _⟩ := hok' b _ (un.frzs b ob _ z)
                obtain ⟨e1, _⟩ := held' b _ z
                rw [e] at e1
                cases e1
                exact e2
        have grown : ∀ p ∈ cs, ∃ more : Array Value, s'.heap.get? p.2 = some { cls := .none, data := .fields more } := fun p hp => by
          obtain ⟨more, z⟩ := un.tbls p.2 #[] (at_t _ (List.mem_map.mpr ⟨p, hp, rfl⟩))
          exact ⟨_, hok' p.2 _ z⟩
        refine ⟨rfl, ⟨fun b o e => ?_, fun b o e => ?_⟩, os, bare⟩
        · by_cases hb : b ∈ cs.map (·.2)
          · obtain ⟨p, hp, rfl⟩ := List.mem_map.mp hb
            obtain ⟨more, hm⟩ := grown p hp
            rw [tE p hp] at e
            cases e
            exact .inr (.inl ⟨((tC p hp).tab (tE p hp)).isCodeTable, rfl, #[], more, rfl, by rw [Array.empty_append]; exact hm⟩)
          · exact .inl (key b o hb e)
        · by_cases hb : b ∈ cs.map (·.2)
          · obtain ⟨p, hp, rfl⟩ := List.mem_map.mp hb
            obtain ⟨more, hm⟩ := grown p hp
            exact ⟨_, hm⟩
          · exact ⟨o, key b o hb e⟩
      | next => exact (show False from h).elim
      | brk => exact (show False from h).elim
      | cont => exact (show False from h).elim
  rcases hk : K.lookup a with _ | o
  · have hit : (fun b => if b = a then some (HO.frz { cls := .type "list", data := .seq us.toArray } (.lst (zs.map V.int))) else none) a = some (HO.frz { cls := .type "list", data := .seq us.toArray } (.lst (zs.map V.int))) := if_pos rfl
    refine main (fun b => if b = a then some (.frz { cls := .type "list", data := .seq us.toArray } (.lst (zs.map V.int))) else none) (fun b => ?_) (fun b hb => if_neg (show b ≠ a by rintro rfl; exact hb.elim apart apartT)) (.inl (.inr ⟨_, hit⟩)) (fun b u z => ?_) (fun b z => ?_) fun _ => hk
    · by_cases hb : b = a
      · exact .inr ⟨_, _, if_pos hb⟩
      · exact .inl (if_neg hb)
    · by_cases hb : b = a
      · subst hb
        have z2 := hit.symm.trans z
        cases z2
        exact ⟨at_a, by rw [List.length_map]; exact few, us, _, rel, at_a⟩
      · have z2 := (if_neg hb).symm.trans z
        cases z2
    · by_cases hb : b = a
      · exact hb
      · exact absurd (if_neg hb) z
  · have e := kIn a o hk
    rw [at_a] at e
    cases e
    exact main (fun _ => none) (fun _ => .inl rfl) (fun _ _ => rfl) (.inr ⟨_, us.toArray, _, hk, rfl, rfl, rfl, by rw [List.size_toArray, same]; exact few, by simpa using rel⟩) (fun b u z => by cases z) (fun b z => absurd rfl z) fun z => absurd rfl z
theorem top_of {fa : Addr} {cs : List (Addr × Addr)} {x name qual : Str} {params : Arguments} {body : List Stmt} {scope : Scope} {dV kV doc pm cdv ct oc : Value} {an od : Option Addr} {osl : Array (Option Value)} {N : List Str} {sp : Sp} {k : Nat} (rm : Room (k + 1) callerA)
    (lk : K.lookup fa = some ⟨oc, od, .func (PySem.W.fnOf name qual params body scope dV kV doc pm an cdv ct), osl⟩) (code : PySem.W.codeIn K cdv qual = true) (sc : FnScope N [x] scope)
    (bind : ∀ (s : Shared) (v : Value), BindsTo s (PySem.W.fnOf name qual params body scope dV kV doc pm an cdv ct) ⟨[v], []⟩ [(x, v)])
    (walk : ∀ (base : Heap) (s : Shared) (H : Hp) (v : V) (Q : VK) (E : XK), Room k (callerA.deeper (envOfC qual scope s.heap.objs.size fa cdv)) → K.In base → base.Ns mainGlobals mg → (∀ p ∈ cs, LamX.TabB base mg p.1 p.2) → sp [v] H Q E →
      ∃ t, PSs (cxOf CX0 P w K mg base N qual scope fa cdv callerA [] s H E).nox body t ∧ t { nx := fun _ H' => Q .non H', rt := Q } (start N [v]) H) : TopOk P w K mg cs fa x sp := fun base s H v u Q E kb gb tb e0 rv hsp => by
  have kh : K.In s.heap := e0.mod.kin.keeps fun b o e => (e0.bs b o e).1
  have lim : s.heap.NoLimit := e0.mod.nolimit.keeps fun b o e => (e0.bs b o e).1
  have rel : Vals [v] [u] := .cons rv .nil
  have kinds : ∀ y ∈ [(x, u)], scope.names.lookup y.1 = some .local ∨ (scope.names.lookup y.1 = some .cell ∧ ((cellsFrom (s.heap.objs.size + 1) scope.names []).lookup y.1).isSome = true) := fun ⟨n, z⟩ hy => (sc.par n (List.of_mem_zip (l₁ := [x]) (l₂ := [u]) hy).1).imp id fun q => ⟨q, PySem.W.cellsFrom_some _ _ _ (.inl q)⟩
  refine codeAny_call_function rm.depth (kh _ _ lk) rfl sc.co sc.gen rfl (PySem.W.codeRec_of kh code) (bind s u _ _ _ _ ?_)
  refine wpAny_newFunctionEnv_cells sc.kind kinds fun env he s1 xs => ?_
  subst he
  refine ⟨lim.keeps xs.toInCall.keep, codeAny_func ?_⟩
  obtain ⟨t, ht, hq⟩ := walk base s H v Q E (rm.deeper _) kb gb tb hsp
  refine wpAny_mono (ht.nox.run [] s1 (start N [v]) H _ (inv_start sc rm.hd e0 rfl rel xs) hq) (fun fl s' hs => ?_) fun e s' hs => hs
  cases fl with
  | ret z =>
    obtain ⟨y, σ', H', J, ry, q⟩ := hs
    exact ⟨y, H', J.os, J.bare, J.base, J.hok, ry, q⟩
  | next =>
    obtain ⟨σ', H', J, q⟩ := hs
    exact ⟨.non, H', J.os, J.bare, J.base, J.hok, rfl, q⟩
  | brk =>
    obtain ⟨_, _, _, q⟩ := hs
    exact q.elim
  | cont =>
    obtain ⟨_, _, _, q⟩ := hs
    exact q.elim
/-- the table of the def that stands at fa is empty -/
noncomputable def OwnTab (K : PySem.W.Frag) (mg : Str → Option Value) (x : Str) (h : Heap) : Prop := ∀ (fa c P : Addr) (o : Obj) (fd : FuncData) (e : Value) (dd : Option Addr) (vs : Array Value) (sl : Array (Option Value)), mg x = some (.ref fa) → K.lookup fa = some o → o.data = .func fd → fd.code = .ref c →
  K.lookup c = some ⟨e, dd, .fields vs, sl⟩ → vs[11]? = some (.ref P) → h.get? P = some emptyT
/-- the end of a law -/
theorem walk_top {l : PySem.W.OpenLaw} {n : Nat} {q : Program} {loose : List Str} {XP : (Str → Option Value) → Heap → Prop} {YP : World → Heap → Prop} {d : DefRec} {K : Params → PySem.W.Frag} {sp : PySem.W.Frag → Sp} {x : Str} {xs : List Str}
    (hn : l.most = some n) (hn2 : n ≤ sizeLine) (hdf : d.params.defaults = []) (hY : ∀ (w : World) (h : Heap), YP w h → (K w.params).In h) (himp : importsNone q = true) (kno : ∀ p, (K p).lookup sysModules = none) (hrec : (xs.all fun x => (recsOf q).any fun e => e.name == x) = true)
    (F : ∀ (w : World) (mg : Str → Option Value) (fa : Addr) (h : Heap), (K w.params).In h → h.Ns mainGlobals mg → mg d.name = some (.ref fa) → (∀ x ∈ xs, OwnTab (K w.params) mg x h) →
      ∃ cs : List (Addr × Addr), (∀ p ∈ cs, h.get? p.2 = some emptyT ∧ (K w.params).lookup p.2 = none ∧ PySem.W.codeHdIn (K w.params) p.1 p.2 = true) ∧ (∀ p ∈ LamTabs.T (K w.params), p.1 ∈ cs.map (·.2)) ∧ TopOk l.prog w (K w.params) mg cs fa x (sp (K w.params)))
    (hsp : ∀ (K : PySem.W.Frag) (cs : List (Addr × Addr)) (H : Hp) (a : Addr) (ns : List Int) (φ : Heap → Prop), ns.length ≤ n → H sysModules = some (.ext φ) → (∀ p ∈ LamTabs.T K, H p.1 = some (.tbl #[]) ∧ p.1 ≠ sysModules ∧ p.1 ∈ cs.map (·.2)) → (∀ p ∈ cs, p.2 ≠ sysModules) → NoTb (restH cs H) → SqL K (restH cs H) a (ns.map V.int) →
      sp K [.ref a] H (fun v H' => v = .bl true ∧ H' sysModules = some (.ext φ)) fun _ _ _ => False) :
    PySem.W.WalkO q loose XP YP l.row.toRowW d [] (fun f vs => PySem.call f vs) := by
  refine Att.attach_call hn hdf fun w s0 s1 mg mb fa o pm cd doc a us zs G Y ho hd hcd hmg hobj hz hlen hg => ?_
  obtain ⟨mm, ⟨oM, es, ep, eM, dM, _⟩, _⟩ := (G.T.seer himp).mods
  have KX := hY w _ Y
  have own : ∀ x ∈ xs, OwnTab (K w.params) mg x s1.heap := fun x hx fa1 c P o1 fd1 e dd vs1 sl k0 k1 k2 k3 k4 k5 => by
    obtain ⟨dL, hm, hn1⟩ := List.any_eq_true.mp (List.all_eq_true.mp hrec x hx)
    have hn2 : dL.name = x := beq_iff_eq.mp hn1
    obtain ⟨a', o', fd', c', P', h1, h2, h3, h4, h5, h6⟩ := G.T.tab dL hm
    rw [hn2, k0] at h1
    cases h1
    have g1 := KX _ _ k1
    rw [g1] at h2
    cases h2
    rw [k2] at h3
    cases h3
    rw [k3] at h4
    cases h4
    obtain ⟨⟨oc, vc, e1, _, e3, e4⟩, hP⟩ := h6
    have g2 := KX _ _ k4
    rw [g2] at e1
    cases e1
    cases e3
    rw [k5] at e4
    cases e4
    exact hP
  obtain ⟨cs, hc, hT, ok⟩ := F w mg fa _ KX G.T.g hmg own
  exact top_run ok KX G.T.g G.T.b G.T.builtins G.T.nolimit hg (kno _) eM ⟨es, ep, dM⟩ (fun p hp => (hc p hp).1) (fun p hp => (hc p hp).2.1) (fun p hp => PySem.W.codeHd_of_K KX (hc p hp).2.2) G.T.bmain hobj hz (Nat.le_trans hlen hn2)
    fun H φ hO hE hN nt hS => hsp (K w.params) cs H a zs φ hlen hO (fun p hp => by
      obtain ⟨r, hr, e⟩ := List.mem_map.mp (hT p hp)
      exact ⟨by rw [← e]; exact hE r hr, by rw [← e]; exact hN r hr, hT p hp⟩) hN nt hS
end
theorem int_rel {K : PySem.W.Frag} {w : Wd} : ∀ ns : List Int, RvL K w (ns.map V.int) (ns.map D.int)
  | [] => .nil
  | n :: ns => .cons (.int n) (int_rel ns)
/-- what the script's promise asks, and what it hands back: the object of the interpreter's own stands as it stood -/
theorem script_in {K : PySem.W.Frag} {cs : List (Addr × Addr)} {H : Hp} {a : Addr} {ns : List Int} {f : List D → M D} {φ : Heap → Prop} (hy : H sysModules = some (.ext φ)) (hT : ∀ p ∈ LamTabs.T K, H p.1 = some (.tbl #[]) ∧ p.1 ≠ sysModules ∧ p.1 ∈ cs.map (·.2)) (hN : ∀ p ∈ cs, p.2 ≠ sysModules)
    (nt : NoTb (restH cs H)) (hS : SqL K (restH cs H) a (ns.map V.int)) (h : ∃ S', f [.lsr (ns.map D.int)] [] = some (.ok (.bl true), S')) :
    spM K 1 f [.ref a] H (fun v H' => v = .bl true ∧ H' sysModules = some (.ext φ)) fun _ _ _ => False := by
  obtain ⟨S', h⟩ := h
  have rs : Rs K ⟨[], restH cs H, fun b => if b = sysModules then some (.ext φ) else none⟩ [] H := by
    refine ⟨fun b o e => ?_, fun b o e => ?_, fun b o e => ?_, rfl, List.nodup_nil, fun a h => (by cases h), fun n a c h => (by simp at h), ⟨φ, by show (if sysModules = sysModules then some (HO.ext φ) else none) = _; exact if_pos rfl⟩, fun p hp => LamX.TabS.nil (hT p hp).1, nt, fun b ps z => ?_⟩
    · have e' : (if b = sysModules ∨ b ∈ cs.map (·.2) then none else H b) = some o := e
      by_cases q : b = sysModules ∨ b ∈ cs.map (·.2)
      · rw [if_pos q] at e'
        cases e'
      · rw [if_neg q] at e'
        exact e'
    · have e' : (if b = sysModules then some (HO.ext φ) else none) = some o := e
      by_cases q : b = sysModules
      · rw [if_pos q] at e'
        rw [q, hy, e']
      · rw [if_neg q] at e'
        cases e'
    · have e' : (if b = sysModules then some (HO.ext φ) else none) = some o := e
      by_cases q : b = sysModules
      · exact if_pos (.inl q)
      · rw [if_neg q] at e'
        cases e'
    · have e' : (if b = sysModules then some (HO.ext φ) else none) = some (.tbl ps) := z
      by_cases q : b = sysModules
      · rw [if_pos q] at e'
        cases e'
      · rw [if_neg q] at e'
        cases e'
  refine ⟨rfl, _, [], [.lsr (ns.map D.int)], rs, .cons (.lsr hS (int_rel ns)) .nil, ?_⟩
  rw [h]
  intro w' H' l s v rv
  cases rv
  refine ⟨rfl, s.f _ _ ?_⟩
  rw [l.f]
  show (if sysModules = sysModules then some (HO.ext φ) else none) = _
  exact if_pos rfl
end Mi
namespace Mi
open PySem PySem.Spec PyProof.Rows L2
variable [LamTabs]
noncomputable def permL {α : Type} (π : List Nat) (xs : List α) : List α := if xs.length = π.length then π.filterMap fun i => xs[i]? else []
noncomputable def gPos {α : Type} (π : List Nat) : List α → List α → List α
  | [], ws => permL π ws
  | _, _ => []
theorem filt_rel {K : PySem.W.Frag} {w : Wd} {vs : List V} {ds : List D} (r : RvL K w vs ds) : ∀ π : List Nat, RvL K w (π.filterMap fun i => vs[i]?) (π.filterMap fun i => ds[i]?)
  | [] => .nil
  | i :: π => by
    rw [List.filterMap_cons, List.filterMap_cons]
    rcases h : ds[i]? with _ | d
    · have hv : vs[i]? = none := by
        rw [List.getElem?_eq_none_iff] at h ⊢
        rw [r.length]
        exact h
      rw [hv]
      exact filt_rel r π
    · obtain ⟨v, hv, rv⟩ := r.get h
      rw [hv]
      exact .cons rv (filt_rel r π)
theorem filt_vals {vs : List V} {us : List Value} (r : Vals vs us) : ∀ π : List Nat, Vals (π.filterMap fun i => vs[i]?) (π.filterMap fun i => us[i]?)
  | [] => .nil
  | i :: π => by
    rw [List.filterMap_cons, List.filterMap_cons]
    rcases h : vs[i]? with _ | v
    · have hu : us[i]? = none := r.none_of h
      rw [hu]
      exact filt_vals r π
    · obtain ⟨u, hu, ru⟩ := r.get h
      rw [hu]
      exact .cons ru (filt_vals r π)
theorem perm_rel {K : PySem.W.Frag} {w : Wd} {vs : List V} {ds : List D} (π : List Nat) (r : RvL K w vs ds) : RvL K w (permL π vs) (permL π ds) := by
  unfold permL
  rw [r.length]
  split
  · exact filt_rel r π
  · exact .nil
theorem perm_vals {vs : List V} {us : List Value} (π : List Nat) (r : Vals vs us) : Vals (permL π vs) (permL π us) := by
  unfold permL
  rw [r.length]
  split
  · exact filt_vals r π
  · exact .nil
/-- how a def without defaults takes keywords: h by «fun ws => match ws with | [_, _], _ => rfl» -/
theorem kb_of {K : PySem.W.Frag} {fd : FuncData} {ps ks : List Str} {π : List Nat} (h0 : ps ≠ []) (h : ∀ ws : List Value, ws.length = π.length → bindArgs fd ⟨[], ks.zip ws⟩ = pure (ps.zip (permL π ws))) : KBinds K fd ps ks (gPos π) (gPos π) where
  to := fun s us ws _ hl => by
    cases us with
    | nil =>
      have hw : ws.length = π.length := by
        have hl' : (permL π ws).length = ps.length := hl
        unfold permL at hl'
        by_cases e : ws.length = π.length
        · exact e
        · rw [if_neg e] at hl'
          exact absurd (List.length_eq_zero_iff.mp hl'.symm) h0
      exact .of_eq (h ws hw)
    | cons u us => exact absurd (List.length_eq_zero_iff.mp (show ps.length = 0 from hl.symm)) h0
  rel := fun r1 r2 => by
    cases r1 with
    | nil => exact perm_vals π r2
    | cons _ _ => exact .nil
section
variable {X : Cx} {CX : CXT} {k : Nat} {f : Addr} {fd : FuncData} {ps ks : List Str} {sp : Sp} {E : XK} {x : Str} {p pos : Pos} {kws : List Keyword} {tk : TA} {g : List Value → List Value → List Value} {gV : List V → List V → List V}
theorem pe_callK0 (F : FnOk X.prog X.w X.K X.mg X.base CX k f fd ps sp) (hr : Room k X.A) (hg : Gl X x) (hm : X.mg x = some (.ref f)) (hk : PySem.W.keepIn X.K (.ref f) = true) (hb : KBinds X.K fd ps ks g gV) (hx : Passes CX X E)
    (hkw : PK X kws tk) (hall : (backToKw pos (keywordEach kws X.env)).all (·.1.isSome) = true := by rfl) (hks : (backToKw pos (keywordEach kws X.env)).filterMap (·.1) = ks := by rfl) (hdb : (x == ("__debug__" : Str)) = false := by decide)
    (hpl : ((backTo pos (starEach [] X.env)).any (·.1) || (backToKw pos (keywordEach kws X.env)).any (·.1.isNone)) = false := by rfl) : PE X (.Call (.Name x p) [] kws pos) (tCallK sp gV E tNil tk) := by
  refine ⟨fun pins s σ H Q I h => wpAny_Call_Name_kw (ld_glob I hg hm ?_ hdb)⟩
  refine PySem.W.callWith_KW0 (h₀ := X.base) I.ok.mod.kin hk hall (thn (hkw.run pos pins s σ H _ I h) fun ws s2 ⟨zs, H2, I2, rz, q2⟩ => ⟨I2.kIn, ?_⟩) hpl
  rw [hks]
  exact run_fnk F hr hb hx I2 .nil rz q2
end
section
variable {X : Cx} {E : EK} {a : Expr} {m : Env → M D} {mk : Env → M (List D)} {kws : List Keyword} {nm : Option Str} {kpos p pos : Pos} {x : Str} {CX : CXT} {k : Nat} {fa : Addr} {fd : FuncData} {ps ks : List Str} {f : List D → M D}
theorem mk_nil : PK X [] (tMa X.K E fun _ => M.pure []) := ⟨fun pos pins s σ H Q I ⟨w, S, ρ, hs, hn, h⟩ => pk_nil.run pos pins s σ H Q I (Fin.ok h hs _ .nil)⟩
theorem mk_cons (ha : PE X a (tM X.K E m)) (hr : PK X kws (tMa X.K E mk)) : PK X (⟨nm, a, kpos⟩ :: kws) (tMa X.K E (aCons m mk)) := ⟨fun pos pins s σ H Q I ⟨w, S, ρ, hs, hn, h⟩ => (pk_cons ha hr).run pos pins s σ H Q I
  ⟨w, S, ρ, hs, hn, h.bind.imp fun w1 S1 H1 x l1 s1 h1 v rv => ⟨w1, S1, ρ, s1, hn.mono l1, h1.bind.imp fun w2 S2 H2 xs l2 s2 h2 vs rvs => Fin.ok h2 s2 _ (.cons (rv.mono l2) rvs)⟩⟩⟩
noncomputable def calK (n : Nat) (π : List Nat) (f : List D → M D) (m : Env → M (List D)) : Env → M D := fun ρ => M.bind (m ρ) fun xs => if (permL π xs).length = n then f (permL π xs) else bad
theorem me_callK0 {n : Nat} {π : List Nat} (F : FnOk X.prog X.w X.K X.mg X.base CX k fa fd ps (spM X.K n f)) (hr : Room k X.A) (hg : Gl X x) (hm : X.mg x = some (.ref fa)) (hk : PySem.W.keepIn X.K (.ref fa) = true) (hb : KBinds X.K fd ps ks (gPos π) (gPos π)) {E' : XK} (hx : Passes CX X E')
    (hkw : PK X kws (tMa X.K EK0 mk)) (hall : (backToKw pos (keywordEach kws X.env)).all (·.1.isSome) = true := by rfl) (hks : (backToKw pos (keywordEach kws X.env)).filterMap (·.1) = ks := by rfl) (hdb : (x == ("__debug__" : Str)) = false := by decide)
    (hpl : ((backTo pos (starEach [] X.env)).any (·.1) || (backToKw pos (keywordEach kws X.env)).any (·.1.isNone)) = false := by rfl) : PE X (.Call (.Name x p) [] kws pos) (tM X.K EK0 (calK n π f mk)) :=
  pe_imp (pe_callK0 F hr hg hm hk hb hx hkw hall hks hdb hpl) fun σ H Q ⟨w, S, ρ, hs, hn, h⟩ => ⟨w, S, ρ, hs, hn, h.bind.imp fun w1 S1 H1 xs l1 s1 h1 vs rvs => by
    by_cases hl : (permL π xs).length = n
    · rw [if_pos hl] at h1
      exact ⟨by rw [(show RvL X.K w1 (gPos π [] vs) (permL π xs) from perm_rel π rvs).length, hl], w1, S1, permL π xs, s1, perm_rel π rvs, h1⟩
    · rw [if_neg hl] at h1
      exact h1.elim⟩
end
structure DefAt (K : PySem.W.Frag) (mg : Str → Option Value) (x : Str) (st : Stmt) (ps : List Str) : Prop where
  ex : ∃ (fa : Addr) (fd : FuncData), Fun K x x st fa fd ∧ mg x = some (.ref fa) ∧ Binds K fd ps []
structure OkAt (P : Program) (w : World) (K : PySem.W.Frag) (mg : Str → Option Value) (base : Heap) (k : Nat) (x : Str) (st : Stmt) (ps : List Str) (f : List D → M D) : Prop where
  ex : ∃ (fa : Addr) (fd : FuncData), Fun K x x st fa fd ∧ mg x = some (.ref fa) ∧ Binds K fd ps [] ∧ FnOk P w K mg base CX0 k fa fd ps (spM K ps.length f)
section
variable {P : Program} {w : World} {K : PySem.W.Frag} {mg : Str → Option Value} {base : Heap} {x : Str} {st : Stmt} {ps N : List Str} {k : Nat} {ms : Env → M (Fl × Env)}
theorem OkAt.of {n : Nat} (hn : N.length = n) (D : DefAt K mg x st ps) (sc : FnScope N ps (defScope st)) (hb : ∀ (fa : Addr) (cdv : Value) (A : Around) (outer : List PySem.Env) (s : Shared) (H : Hp) (E : XK), Room k (A.deeper (envOfC x (defScope st) s.heap.objs.size fa cdv)) →
    PSs (cxOf CX0 P w K mg base N x (defScope st) fa cdv A outer s H E).nox (defBody st) (tMs K EK0 ms)) : OkAt P w K mg base (k + 1) x st ps (runM n ms) := by
  subst hn
  obtain ⟨fa, fd, F, hm, b⟩ := D.ex
  exact ⟨fa, fd, F, hm, b, F.ok sc (spM_len rfl) fun cdv A outer s H vs Q E hr h => ⟨_, hb fa cdv A outer s H E hr, body_go h⟩⟩
end
section
variable {X : Cx} {a : Expr} {es : List Expr} {mas mk : Env → M (List D)} {x : Str} {p pos : Pos} {k : Nat} {st : Stmt} {ps ks : List Str} {f : List D → M D} {π : List Nat} {kws : List Keyword} {E : EK}
theorem me_callO {n : Nat} (O : OkAt X.prog X.w X.K X.mg X.base k x st ps f) (hr : Room k X.A) (hg : Gl X x) (hn : ps.length = n) (ha : PA X (a :: es) (tMa X.K EK0 mas)) (hdb : (x == ("__debug__" : Str)) = false := by decide)
    (he : starEach (a :: es) X.env = (false, eval a X.env) :: starEach es X.env := by rfl) (hpl : (backTo pos (starEach es X.env)).any (·.1) = false := by rfl) : PE X (.Call (.Name x p) (a :: es) [] pos) (tM X.K EK0 (calF n f mas)) := by
  subst hn
  obtain ⟨fa, fd, F, hm, b, ok⟩ := O.ex
  exact me_call ok hr hg hm F.kp b (pass0) ha hdb he hpl
theorem me_callKO {n : Nat} (O : OkAt X.prog X.w X.K X.mg X.base k x st ps f) (hr : Room k X.A) (hg : Gl X x) (hn : ps.length = n) (h0 : ps ≠ []) (hkb : ∀ (kV doc pm : Value) (an : Option Addr) (cdv ct : Value) (ws : List Value), ws.length = π.length →
      bindArgs (PySem.W.fnOf x x (defArgs st) (defBody st) (defScope st) .none kV doc pm an cdv ct) ⟨[], ks.zip ws⟩ = pure (ps.zip (permL π ws)))
    (hkw : PK X kws (tMa X.K EK0 mk)) (hall : (backToKw pos (keywordEach kws X.env)).all (·.1.isSome) = true := by rfl) (hks : (backToKw pos (keywordEach kws X.env)).filterMap (·.1) = ks := by rfl) (hdb : (x == ("__debug__" : Str)) = false := by decide)
    (hpl : ((backTo pos (starEach [] X.env)).any (·.1) || (backToKw pos (keywordEach kws X.env)).any (·.1.isNone)) = false := by rfl) : PE X (.Call (.Name x p) [] kws pos) (tM X.K EK0 (calK n π f mk)) := by
  subst hn
  obtain ⟨fa, fd, F, hm, b, ok⟩ := O.ex
  obtain ⟨oc, od, kV, doc, pm, an, cdv, ct, osl, rfl, lk, hcd⟩ := F.ex
  exact me_callK0 ok hr hg hm F.kp (kb_of h0 (hkb kV doc pm an cdv ct)) pass0 hkw hall hks hdb hpl
theorem me_gint {i : Int} (hg : Gl X x) (h : ∃ t, X.mg x = some (.int i t)) (hd : (x == ("__debug__" : Str)) = false := by decide) : PE X (.Name x pos) (tM X.K E fun _ => M.pure (.int i)) := by
  obtain ⟨t, h⟩ := h
  exact me_cst (v := .int i) (pe_glob hg h ⟨t, rfl⟩ hd) fun _ => .int i
theorem me_gstr {i : Str} (hg : Gl X x) (h : ∃ t, X.mg x = some (.str i t)) (hd : (x == ("__debug__" : Str)) = false := by decide) : PE X (.Name x pos) (tM X.K E fun _ => M.pure (.str i)) := by
  obtain ⟨t, h⟩ := h
  exact me_cst (v := .str i) (pe_glob hg h ⟨t, rfl⟩ hd) fun _ => .str i
theorem me_dict0 : PE X (.Dict [] [] pos) (tM X.K E fun _ => M.pure (.dct [])) := pe_imp pe_dnewK fun σ H Q ⟨w, S, ρ, hs, hn, h⟩ p hp => h _ _ (hs.le_lay hp) (hs.lay (o := .dK []) hp) _ (.dct (by show upd w.G p _ p = _; rw [upd_same]) .nil)
theorem me_dict1 {k : Str} {i : Int} {jk jv : Nat} {pk pv : Pos} : PE X (.Dict [some (.Constant (.str k) jk pk)] [.Constant (.int i) jv pv] pos) (tM X.K E fun _ => M.pure (.dct [(.str k, .int i)])) :=
  pe_imp (pe_disp (pps_cons pe_str pe_int pps_nil) (by rfl) (by rfl) (fun z => by cases z) (by show 1 ≤ 15; decide)) fun σ H Q ⟨w, S, ρ, hs, hn, h⟩ p hp => by
    show upd H p (.dK []) p = _ ∧ _
    refine ⟨upd_same, [(Sum.inr k, .int i)], rfl, (by show 1 ≤ 15; decide), ?_⟩
    rw [upd_upd]
    exact h _ _ (hs.le_lay hp) (hs.lay (o := .dK [(Sum.inr k, .int i)]) hp) _ (.dct (by show upd w.G p _ p = _; rw [upd_same]) (.cons (k := Sum.inr k) (.int i) .nil))
end
end Mi
namespace Mi
open PySem PySem.Spec PyProof.Rows L2 HT
variable [LamTabs]
theorem fm_congr {α β : Type} {f g : α → Option β} : ∀ {l : List α}, (∀ a ∈ l, f a = g a) → l.filterMap f = l.filterMap g
  | [], _ => rfl
  | a :: l, h => by
    have ih := fm_congr (l := l) (fun b hb => h b (List.mem_cons_of_mem a hb))
    simp only [List.filterMap_cons, h a (by simp), ih]
theorem pick_rev (xs : Array Value) : ((List.range xs.size).filterMap fun (m : Nat) => xs[(((xs.size : Int) - 1) + (m : Int) * (-1)).toNat]?).toArray = xs.toList.reverse.toArray := by
  have at' : ∀ m ∈ List.range xs.size, xs[(((xs.size : Int) - 1) + (m : Int) * (-1)).toNat]? = some (xs.toList.reverse.getD m .none) := fun m hm => by
    have hm := List.mem_range.1 hm
    rw [show (((xs.size : Int) - 1) + (m : Int) * (-1)).toNat = xs.size - 1 - m by omega]
    simp [List.getD, List.getElem?_reverse, hm, show xs.size - 1 - m < xs.size by omega]
  rw [fm_congr at', List.filterMap_eq_map']
  refine congrArg _ (List.ext_getElem? fun i => ?_)
  by_cases hi : i < xs.size <;> simp [hi, List.getD]
section
variable {M : Program} {W : World} {O : Around} {Z : Value → Shared → Prop} {c : Shared} {t z : Addr} {its : Array Value} {st : Value}
/-- the bounds of [::-1] over n items: from the last one down, n of them -/
theorem bounds_rev (n : Nat) : (Builtin.Slice.sliceAdjust none none (-1) (n : Int) = ((n : Int) - 1, -1)) ∧ Builtin.Slice.slicePlaces ((n : Int) - 1) (-1) (-1) = n := by
  constructor
  · simp [Builtin.Slice.sliceAdjust]
  · simp [Builtin.Slice.slicePlaces]; omega
theorem applied_rev {n : Nat} {R : Int × Int × Nat → Shared → Prop} (hz : c.heap.IsSliceOf z .none .none st) (hst : IsPart st (some (-1))) (k : R ((n : Int) - 1, -1, n) c) :
    wpAny (model M W) O (Builtin.Slice.sliceApplied (.ref z) (pure (n : Int))) R Z c := by
  rcases hz with ⟨ob, g, _, dat⟩
  have last : wpAny (model M W) O (match Builtin.Slice.sliceAdjust none none (-1) (n : Int) with | (lo, hi) => pure (lo, (-1 : Int), Builtin.Slice.slicePlaces lo hi (-1))) R Z c := by
    rw [(bounds_rev n).1]
    exact wpAny_pure (by simpa only [(bounds_rev n).2] using k)
  rw [Builtin.Slice.sliceApplied, Builtin.Slice.sliceFields]
  exact wpAny_bind (wpAny_bind (wpAny_field g dat (x := .none) rfl (wpAny_bind (wpAny_field g dat (x := .none) rfl (wpAny_bind (wpAny_field g dat (x := st) rfl (wpAny_pure
    (wpAny_bind (slicePart_ hst (by
      show wpAny _ _ (if ((-1 : Int) == 0) = true then _ else _) _ _ c
      exact (if_neg (show ¬ ((-1 : Int) == 0) = true by decide)) ▸ wpAny_bind (slicePart_none (wpAny_bind (slicePart_none (wpAny_bind (wpAny_pure last)))))))))))))))
theorem item_rev {R : Value → Shared → Prop} (T : IsTup c.heap t its) (hz : c.heap.IsSliceOf z .none .none st) (hst : IsPart st (some (-1))) (big : its.size ≤ sizeLine)
    (k : R (.ref c.heap.objs.size) { c with heap := c.heap.push { cls := .type "tuple", data := .seq its.toList.reverse.toArray } }) : wpAny (model M W) O (getItem (.ref t) (.ref z)) R Z c := by
  have ok : sizeOk (.seq its.toList.reverse.toArray) := (show its.toList.reverse.toArray.size ≤ sizeLine by simpa using big)
  have isS : c.TypeIs (.ref z) "slice" := by rcases hz with ⟨ob, g, cl, _⟩; exact ⟨ob, g, cl⟩
  have whole : ((((its.size : Nat) : Int) - 1) == 0 && (-1 : Int) == 1 && its.size == its.size) = false := by simp
  have new : wpAny (model M W) O (Builtin.Tuple.tupleExact its.toList.reverse.toArray) (fun v s' => R v s') Z c := wpAny_newObj_type k ok
  unfold getItem
  with_reducible refine wpAny_holding ?_
  refine wpAny_bind (wpAny_sequenceKey T.typeIs (by decide) (wpAny_bind (wpAny_callSpecial?_slot (name := Str.ofString "__getitem__") T.typeIs PyProof.Rows.slot_tuple_getitem (wpAny_call_entry PyProof.Rows.slot_tuple_getitem T.typeIs entry_tuple_getitem ?_ (args_tuple_getitem _ _)))))
  refine wpAny_bind (m := Builtin.Tuple.tupleItemsOf (.ref t)) (tupleItemsOf_ T (wpAny_bind (wpAny_typeOf isS ?_)))
  rw [if_pos (by decide)]
  refine wpAny_bind (applied_rev hz hst ?_)
  show wpAny _ _ (if (((its.size : Nat) : Int) - 1 == 0 && (-1 : Int) == 1 && its.size == its.size) = true then _ else _) _ _ c
  rw [whole, if_neg Bool.false_ne_true, pick_rev]
  exact wpAny_bind (m := Builtin.Tuple.tupleExact _) (wpAny_newObj_type (wpAny_pure ⟨.ref _, rfl, wpAny_pure k⟩) ok)
end
/-- what x[::-1] asks and gives, of a list and of a tuple -/
noncomputable def tRevT (K : PySem.W.Frag) (te : TE) : TE := fun σ H Q => te σ H fun x H1 => ∃ a xs, x = .ref a ∧ SqT K H1 a xs ∧ ∀ p, H1 p = none → Q (.ref p) (upd H1 p (.tup xs.reverse))
section
variable {X : Cx} {e : Expr} {te : TE} {k : Nat} {pa pb pc pos : Pos}
theorem pe_revT (he : PE X e te) : PE X (.Subscript e (.Slice none none (some (.UnaryOp .USub (.Constant (.int 1) k pa) pb)) pc) pos) (tRevT X.K te) := ⟨fun pins s σ H Q I h => by
  have no : ∀ {s' : Shared} {H' : Hp}, Inv X pins σ H' s' → _ := fun {s' H'} I' => po_none.run pins s' σ H' (fun o G => o = none ∧ G = H') I' ⟨rfl, rfl⟩
  have neg : PO X (some (.UnaryOp .USub (.Constant (.int 1) k pa) pb)) _ := po_some (pe_un un_neg pe_int)
  refine Subscript_ (thn (he.run pins s σ H _ I h) fun v c1 ⟨x, H1, I1, rx, a, xs, ex, hx, q⟩ => wpAny_Slice (thn (no I1) fun v1 c2 ⟨_, _, I2, p1, e1, e2⟩ => ?_))
  subst e1 e2 ex
  refine thn (no I2) fun v2 c3 ⟨_, _, I3, p2, e1, e2⟩ => ?_
  subst e1 e2
  refine thn (neg.run pins c3 σ _ (fun o G => o = some (-1) ∧ G = _) I3 ⟨1, rfl, -1, rfl, rfl, rfl⟩) fun v3 c4 ⟨_, _, I4, p3, e1, e2⟩ => ?_
  subst e1 e2
  cases rx
  cases p1
  cases p2
  have I5 := I4.kept (h' := c4.heap.push { cls := .type "slice", data := .fields #[.none, .none, v3] }) (t' := c4.toks) fun b ob g => Heap.get?_push_of_some _ g
  obtain ⟨vs, rv, tup, big⟩ := I5.tuple hx
  refine tail_any (ops := [.ref a, .ref c4.heap.objs.size]) tup.typeIs PyProof.Rows.slot_tuple_getitem.lookup (item_rev tup (Heap.IsSliceOf.new c4.heap .none .none v3) p3 (by rw [List.size_toArray, ← rv.length]; exact big) ?_) (by with_unfolding_all rfl)
  refine ⟨.ref _, _, I5.laid (t' := c4.toks) (o := .tup xs.reverse) (fun b ob g => Heap.get?_push_of_some _ g) (Nat.le_refl _) ⟨by simpa using big, vs.reverse, rv.reverse, _, Heap.get?_push_size _ rfl, rfl, _, rfl⟩, rfl, q _ (I5.hok.fresh (Nat.le_refl _))⟩⟩
end
end Mi
namespace Mi
open PySem PySem.Spec PyProof.Rows L2
variable [LamTabs]
section
variable {X : Cx} {E : EK} {e : Expr} {m : Env → M D} {pos p2 : Pos}
noncomputable def revU (x : D) : M D := fun S => match x with
  | .tup ds => some (.ok (.tup ds.reverse), S)
  | x => match asR S x with
    | some ds => some (.ok (.lst ds.reverse), S)
    | none => none
theorem pe_or {e : Expr} {t u : TE} (a : PE X e t) (b : PE X e u) : PE X e fun σ H Q => t σ H Q ∨ u σ H Q := ⟨fun pins s σ H Q I h => h.elim (a.run pins s σ H Q I) (b.run pins s σ H Q I)⟩
theorem tM_cases {σ : L2.St} {H : Hp} {w : Wd} {S : Sto} {ρ : Env} {P : Wd → Sto → Hp → D → Prop} (hs : Rs X.K w S H) (hn : Rn X.K w σ ρ) (h : Fin X.K E w (m ρ S) P) {R R2 : V → Hp → Prop}
    (p : D → Bool) (k1 : ∀ w1 S1 H1 d v, p d = true → Le w w1 → Rs X.K w1 S1 H1 → P w1 S1 H1 d → Rv X.K w1 v d → R v H1) (k2 : ∀ w1 S1 H1 d v, p d = false → Le w w1 → Rs X.K w1 S1 H1 → P w1 S1 H1 d → Rv X.K w1 v d → R2 v H1) :
    tM X.K E m σ H R ∨ tM X.K E m σ H R2 := by
  rcases hm : m ρ S with _ | ⟨x | d, S1⟩
  · exact .inl (tM_at hs hn h fun _ _ _ _ _ e => by rw [hm] at e; cases e)
  · exact .inl (tM_at hs hn h fun _ _ _ _ _ e => by rw [hm] at e; cases e)
  · rcases hp : p d with _ | _
    · exact .inr (tM_at hs hn h fun w1 S2 H1 d' v e l1 s1 q rv => by rw [hm] at e; cases e; exact k2 _ _ _ _ _ hp l1 s1 q rv)
    · exact .inl (tM_at hs hn h fun w1 S2 H1 d' v e l1 s1 q rv => by rw [hm] at e; cases e; exact k1 _ _ _ _ _ hp l1 s1 q rv)
noncomputable def isTup : D → Bool
  | .tup _ => true
  | _ => false
theorem me_revU {k : Nat} {p1 p3 : Pos} (he : PE X e (tM X.K E m)) : PE X (.Subscript e (.Slice none none (some (.UnaryOp .USub (.Constant (.int 1) k p1) p2)) p3) pos) (tM X.K E (b1 revU m)) :=
  pe_imp (pe_or (pe_revT he) (pe_revL he)) fun σ H Q ⟨w, S, ρ, hs, hn, h⟩ => tM_cases hs hn h.bind isTup
    (fun w1 S1 H1 x v hp l1 s1 q rv => by
      cases x with
      | tup ds =>
        obtain ⟨a, xs, rfl, hq, rx⟩ := tup_go s1 rv
        have q : Fin X.K E w1 (some (.ok (D.tup ds.reverse), S1)) _ := q
        exact ⟨a, xs, rfl, hq, fun p hp => q _ _ (s1.le_lay hp) (s1.lay (o := .tup xs.reverse) hp) _ (.tup (.of (by show upd w1.G p _ p = _; rw [upd_same])) (rx.reverse.mono (s1.le_lay hp)))⟩
      | _ => cases hp)
    (fun w1 S1 H1 x v hp l1 s1 q rv => by
      have q : Fin X.K E w1 (match asR S1 x with
        | some ds => some (.ok (D.lst ds.reverse), S1)
        | none => none) (fun w' _ H' d => ∀ z, Rv X.K w' z d → Q z H') := by cases x <;> first | exact q | cases hp
      rcases h1 : asR S1 x with _ | ds
      · simp only [h1] at q; exact q.elim
      · simp only [h1] at q
        obtain ⟨a, xs, rfl, hq, rx⟩ := asR_go s1 rv h1
        exact ⟨a, xs, rfl, hq, fun p hp => q _ _ (s1.le_lay hp) (s1.lay (o := .lst xs.reverse) hp) _ (.lst (by show upd w1.G p _ p = _; rw [upd_same]) (rx.reverse.mono (s1.le_lay hp)))⟩)
noncomputable def strM : D → M D
  | .int i => if i.natAbs.log2 < 1920 then M.pure (.str (Str.ofString (toString i))) else bad
  | .str x => M.pure (.str x)
  | .bl b => M.pure (.str (if b = true then "True" else "False"))
  | .non => M.pure (.str "None")
  | _ => bad
noncomputable def rStrU : List V → Hp → VK → Prop := fun xs H Q => (∃ i : Int, xs = [.int i] ∧ i.natAbs.log2 < 1920 ∧ Q (.str (Str.ofString (toString i))) H) ∨ (∃ x, xs = [.str x] ∧ Q (.str x) H) ∨ (∃ b, xs = [.bl b] ∧ Q (.str (if b = true then "True" else "False")) H) ∨ (xs = [.non] ∧ Q (.str "None") H)
theorem call_strU : CallR X (.type "str") rStrU := by
  intro pins s σ H xs us Q I r h
  rcases h with ⟨i, rfl, hz, q⟩ | ⟨x, rfl, q⟩ | ⟨b, rfl, q⟩ | ⟨rfl, q⟩
  · obtain ⟨u, rfl, t, rfl⟩ := vals1 r
    exact PySem.P.str_of_int hz ⟨.str _, H, I.tok _, ⟨_, rfl⟩, q⟩
  · obtain ⟨u, rfl, t, rfl⟩ := vals1 r
    exact PySem.P.str_of_str ⟨.str _, H, I, ⟨_, rfl⟩, q⟩
  · obtain ⟨u, rfl, r1⟩ := vals1 r
    cases r1
    exact PySem.P.str_of_bool ⟨.str _, H, I.tok _, ⟨_, rfl⟩, q⟩
  · obtain ⟨u, rfl, r1⟩ := vals1 r
    cases r1
    exact PySem.P.str_of_none ⟨.str _, H, I.tok _, ⟨_, rfl⟩, q⟩
theorem strM_ok {K : PySem.W.Frag} : CaM K rStrU (on1 strM) := on1_ok fun E w S H v x Q hs rv h => by
  cases x with
  | int i =>
    cases rv
    by_cases hl : i.natAbs.log2 < 1920
    · have h : Fin K E w ((if i.natAbs.log2 < 1920 then M.pure (D.str (Str.ofString (toString i))) else bad) S) _ := h
      rw [if_pos hl] at h
      exact .inl ⟨i, rfl, hl, Fin.ok h hs _ (.str _)⟩
    · have h : Fin K E w ((if i.natAbs.log2 < 1920 then M.pure (D.str (Str.ofString (toString i))) else bad) S) _ := h
      rw [if_neg hl] at h
      exact h.elim
  | str z => cases rv; exact .inr (.inl ⟨z, rfl, Fin.ok h hs _ (.str _)⟩)
  | bl b => cases rv; exact .inr (.inr (.inl ⟨b, rfl, Fin.ok h hs _ (.str _)⟩))
  | non => cases rv; exact .inr (.inr (.inr ⟨rfl, Fin.ok h hs _ (.str _)⟩))
  | _ => exact h.elim
noncomputable def splitM (o : D) (xs : List D) : M D := fun S => match o, xs with
  | .str a, [.str b] => if b.length ≠ 0 ∧ a.length ≤ 90000 then some (.ok (.lst ((Txt.split a b).map D.str)), S) else none
  | _, _ => none
theorem strs_up {K : PySem.W.Frag} {w : Wd} : ∀ ys : List Str, RvL K w (ys.map V.str) (ys.map D.str)
  | [] => .nil
  | y :: ys => .cons (.str y) (strs_up ys)
theorem splitM_ok {K : PySem.W.Frag} : MeM K (fun x xs H Q => ∃ a b, x = .str a ∧ xs = [.str b] ∧ (b.length == 0) = false ∧ a.length + 2 ≤ sizeLine ∧ rNewStrs (Txt.split a b) H Q) splitM := fun E w S H v vs x xs Q hs rv rvs h => by
  cases x with
  | str a =>
    rcases xs with _ | ⟨d, _ | ⟨d2, r⟩⟩
    · exact h.elim
    · cases d with
      | str b =>
        obtain ⟨u, rfl, ru⟩ := args1 rvs
        cases rv
        cases ru
        have h : Fin K E w (if b.length ≠ 0 ∧ a.length ≤ 90000 then some (.ok (D.lst ((Txt.split a b).map D.str)), S) else none) _ := h
        by_cases hl : b.length ≠ 0 ∧ a.length ≤ 90000
        · rw [if_pos hl] at h
          exact ⟨a, b, rfl, rfl, by simpa using hl.1, sz_of (by omega), fun p hp => h _ _ (hs.le_lay hp) (hs.lay (o := .lst _) hp) _ (.lst (by show upd w.G p _ p = _; rw [upd_same]) (strs_up _))⟩
        · rw [if_neg hl] at h
          exact h.elim
      | _ => exact h.elim
    · cases d <;> exact h.elim
  | _ => exact h.elim
noncomputable def pairD (x y : D) : D := .tup [x, y]
noncomputable def frzL : D → Option (List D)
  | .lst ds => some ds
  | .lsr ds => some ds
  | _ => none
noncomputable def zipOf : List D → M (List D)
  | [.tup a, .tup b] => M.pure (List.zipWith pairD a b)
  | [x, y] => match frzL x, frzL y with
    | some a, some b => M.pure (List.zipWith pairD a b)
    | _, _ => bad
  | _ => bad
theorem frz_go {K : PySem.W.Frag} {w : Wd} {v : V} {d : D} {ds : List D} (rv : Rv K w v d) (h : frzL d = some ds) : ∃ a xs, v = .ref a ∧ RvL K w xs ds ∧ ∀ w2 S2 H2, Le w w2 → Rs K w2 S2 H2 → SqL K H2 a xs := by
  cases rv with
  | lst hG r => cases h; exact ⟨_, _, rfl, r, fun w2 S2 H2 l s => sqL_up (.of hG) l s⟩
  | lsr hG r => cases h; exact ⟨_, _, rfl, r, fun w2 S2 H2 l s => sqL_up hG l s⟩
  | _ => cases h
theorem tupG_go {K : PySem.W.Frag} {w : Wd} {v : V} {ds : List D} (rv : Rv K w v (.tup ds)) : ∃ a xs, v = .ref a ∧ RvL K w xs ds ∧ ∀ w2 S2 H2, Le w w2 → Rs K w2 S2 H2 → SqT K H2 a xs := by
  cases rv with
  | tup hG r => exact ⟨_, _, rfl, r, fun w2 S2 H2 l s => sqT_up hG l s⟩
theorem walk_zipT {K : PySem.W.Frag} {a b : Addr} {xs ys : List V} {n : Nat} (hn : n = min xs.length ys.length) : Walk (RZ.ItzT K a b) n (fun H => SqT K H a xs ∧ SqT K H b ys) (YPair (fun i => xs[i]?) (fun i => ys[i]?)) where
  goes i H hi q := ⟨xs, ys, xs[i]'(by omega), ys[i]'(by omega), q.1, q.2, List.getElem?_eq_getElem _, List.getElem?_eq_getElem _⟩
  stops H q := ⟨xs, ys, q.1, q.2, by omega⟩
  yields i H v H' _ q := fun ⟨T, x, z, e1, e2, e3, ex, ey⟩ => ⟨T, x, z, e1, e2, e3, ex _ q.1, ey _ q.2⟩
theorem ym_pair {K : PySem.W.Frag} {w : Wd} {xs ys : List V} {ds es : List D} (r : RvL K w xs ds) (r2 : RvL K w ys es) : YM K w (List.zipWith pairD ds es) (YPair (fun i => xs[i]?) (fun i => ys[i]?)) := fun i H x H' w2 S2 l2 s2 hi y => by
  obtain ⟨T, u, v, rfl, hT, rfl, e1, e2⟩ := y
  obtain ⟨d1, hd1, rd1⟩ := (r.mono l2).getV e1
  obtain ⟨d2, hd2, rd2⟩ := (r2.mono l2).getV e2
  refine ⟨w2.lay T (.tup [u, v]), pairD d1 d2, s2.le_lay hT, s2.lay hT, by simp [List.getElem?_zipWith, hd1, hd2], .tup (.of (by show upd w2.G T _ T = _; rw [upd_same])) ((RvL.cons rd1 (.cons rd2 .nil)).mono (s2.le_lay hT)), fun p o hp => ?_⟩
  have hne : p ≠ T := by rintro rfl; rw [hT] at hp; cases hp
  refine ⟨by rw [upd_ne hne]; exact hp, fun ho => ⟨?_, ho.f, ho.a⟩⟩
  show upd w2.G T _ p = none
  rw [upd_ne hne]
  exact ho.g
variable {e2 : Expr} {ma : Env → M (List D)} {elts : List Expr} {kk : Nat} {tpos p : Pos}
theorem zip_go {K : PySem.W.Frag} {w1 : Wd} {S1 : Sto} {H1 : Hp} {vs : List V} {xs : List D} {R : It → Hp → Prop} (s1 : Rs K w1 S1 H1) (rv : RvL K w1 vs xs)
    (q : Fin K E w1 (zipOf xs S1) fun w' _ H' ds => ∀ J G Y, Walk J ds.length G Y → (∀ w2 S2 H2, Le w' w2 → Rs K w2 S2 H2 → G H2) → YM K w' ds Y → R J H') :
    ∃ a b xs ys, vs = [V.ref a, V.ref b] ∧ (SqL K H1 a xs ∧ SqL K H1 b ys ∧ R (Itz K a b) H1 ∨ SqT K H1 a xs ∧ SqT K H1 b ys ∧ R (RZ.ItzT K a b) H1) := by
  rcases xs with _ | ⟨x, _ | ⟨y, _ | ⟨z, t⟩⟩⟩
  · exact q.elim
  · cases x <;> exact q.elim
  · cases rv with
    | cons r1 rr =>
      cases rr with
      | cons r2 rr =>
        cases rr
        by_cases hT : ∃ a b, x = .tup a ∧ y = .tup b
        · obtain ⟨a, b, rfl, rfl⟩ := hT
          obtain ⟨pa, xs, rfl, rx, gx⟩ := tupG_go r1
          obtain ⟨pb, ys, rfl, ry, gy⟩ := tupG_go r2
          have q := Fin.ok (a := List.zipWith pairD a b) q s1
          exact ⟨pa, pb, xs, ys, rfl, .inr ⟨gx _ _ _ (Le.refl _) s1, gy _ _ _ (Le.refl _) s1, q _ (fun H => SqT K H pa xs ∧ SqT K H pb ys) (YPair (fun i => xs[i]?) (fun i => ys[i]?)) (by rw [List.length_zipWith, ← rx.length, ← ry.length]; exact walk_zipT rfl) (fun w2 S2 H2 l s => ⟨gx _ _ _ l s, gy _ _ _ l s⟩) (ym_pair rx ry)⟩⟩
        · have q : Fin K E w1 ((match frzL x, frzL y with
            | some a, some b => M.pure (List.zipWith pairD a b)
            | _, _ => bad) S1) fun w' _ H' ds => ∀ J G Y, Walk J ds.length G Y → (∀ w2 S2 H2, Le w' w2 → Rs K w2 S2 H2 → G H2) → YM K w' ds Y → R J H' := by
            cases x <;> cases y <;> first | exact q | exact absurd ⟨_, _, rfl, rfl⟩ hT
          rcases ea : frzL x with _ | a
          · rw [ea] at q; exact q.elim
          · rcases eb : frzL y with _ | b
            · rw [ea, eb] at q; exact q.elim
            · rw [ea, eb] at q
              obtain ⟨pa, xs, rfl, rx, gx⟩ := frz_go r1 ea
              obtain ⟨pb, ys, rfl, ry, gy⟩ := frz_go r2 eb
              have q := Fin.ok (a := List.zipWith pairD a b) q s1
              exact ⟨pa, pb, xs, ys, rfl, .inl ⟨gx _ _ _ (Le.refl _) s1, gy _ _ _ (Le.refl _) s1, q _ (fun H => SqL K H pa xs ∧ SqL K H pb ys) (YPair (fun i => xs[i]?) (fun i => ys[i]?)) (by rw [List.length_zipWith, ← rx.length, ← ry.length]; exact walk_zip rfl) (fun w2 S2 H2 l s => ⟨gx _ _ _ l s, gy _ _ _ l s⟩) (ym_pair rx ry)⟩⟩
  · cases x <;> cases y <;> exact q.elim
noncomputable def iZip (m : Env → M (List D)) : Env → M (List D) := fun ρ => M.bind (m ρ) zipOf
theorem mi_zip (hg : Gl X "zip") (hm : X.mg "zip" = none) (ha : PA X [e, e2] (tMa X.K E ma)) (h1 : starEach [e, e2] X.env = (false, eval e X.env) :: starEach [e2] X.env := by rfl) (h2 : (backTo pos (starEach [e2] X.env)).any (·.1) = false := by rfl) :
    PI X (.Tuple elts kk tpos) (.Call (.Name "zip" p) [e, e2] [] pos) (tMi X.K E (iZip ma)) :=
  pi_imp (RZ.pi_zipA hg hm ha h1 h2) fun σ H R ⟨w, S, ρ, hs, hn, h⟩ => ⟨w, S, ρ, hs, hn, h.bind.imp fun w1 S1 H1 xs l1 s1 q vs rv => zip_go s1 rv q⟩
noncomputable def gTwo (i j : Nat) : D → Env → M Env := fun d ρ => match d with
  | .tup [x, y] => M.pure ((ρ.set i (some x)).set j (some y))
  | _ => bad
theorem gTwo_go {K : PySem.W.Frag} {w : Wd} {S : Sto} {H : Hp} {v : V} {d : D} {σ : L2.St} {ρ : Env} {i j : Nat} {P : Wd → Sto → Hp → Env → Prop} {Q : L2.St → Hp → Prop} (hs : Rs K w S H) (hn : Rn K w σ ρ) (rv : Rv K w v d)
    (h : Fin K E w (gTwo i j d ρ S) P) (k : ∀ x y, P w S H ((ρ.set i (some x)).set j (some y)) → ∀ a b, Rv K w a x → Rv K w b y → Q ((σ.set i (some a)).set j (some b)) H) : gTup K 2 (gCons (gName i) (gCons (gName j) gNil)) v σ H Q := by
  cases d with
  | tup ds =>
    rcases ds with _ | ⟨x, _ | ⟨y, _ | ⟨z, t⟩⟩⟩
    · exact h.elim
    · exact h.elim
    · obtain ⟨a, xs, rfl, hq, rx⟩ := tup_go hs rv
      cases rx with
      | cons r1 rr =>
        cases rr with
        | cons r2 rr =>
          cases rr
          exact ⟨a, _, rfl, hq, rfl, _, _, rfl, _, _, rfl, rfl, k x y (Fin.ok h hs) _ _ r1 r2⟩
    · exact h.elim
  | _ => exact h.elim
theorem gw_two {K : PySem.W.Frag} {vs : List Nat} {i j : Nat} (hi : i ∈ vs) (hj : j ∈ vs) : GW K vs (gTwo i j) (gTup K 2 (gCons (gName i) (gCons (gName j) gNil))) := fun w S ρ H v d σ Q hs hn rv q =>
  gTwo_go hs hn rv q fun x y p a b ra rb => p _ ((hn.set ra).set rb) (by rw [wipe_set hj, wipe_set hi])
theorem mg_two {es : List Expr} {i j : Nat} (h : PG X (.Tuple es kk tpos) (gTup X.K 2 (gCons (gName i) (gCons (gName j) gNil)))) : PG X (.Tuple es kk tpos) (gM X.K E (gTwo i j)) := ⟨fun pins s σ H v u Q I ru ⟨w, S, ρ, d, hs, hn, rv, q⟩ => h.run pins s σ H v u Q I ru (gTwo_go hs hn rv q fun x y p a b ra rb => p _ ((hn.set ra).set rb))⟩
end
end Mi
namespace Mi
open PySem PySem.Spec PyProof.Rows L2
variable [LamTabs]
noncomputable def intsOf : List D → Option (List Int)
  | [] => some []
  | .int i :: ds => (intsOf ds).map fun is => i :: is
  | _ => none
end Mi
namespace Mi
open PySem PySem.Spec PyProof.Rows L2
variable [LamTabs]
noncomputable abbrev enum0 (it : Addr) : Obj := { cls := .type "enumerate", data := .fields #[.none, .bool false, .ref it, rawInt 0, .none, .none] }
theorem enum_new1 {v : Value} {o : Obj} {G : Heap → Prop} (B : Begins v o G) :
    Meets (Builtin.«enumerate.__new__» ⟨[.type "enumerate", v], []⟩) (fun _ R c => G c.heap ∧ R (.ok (.ret (.ref (c.heap.push o).objs.size))) { c with heap := (c.heap.push o).push (enum0 c.heap.objs.size) }) := .of_wp fun P w A R c ⟨g, r⟩ => by
  obtain ⟨hp, gs, dr, tk, os⟩ := c
  have f1 := sub_enumerate
  have go : ∀ {A' : Around} {E : Value → Shared → Prop} {Q : Value → Shared → Prop}, Q (.ref hp.objs.size) ⟨hp.push o, gs, dr, tk, os⟩ → wpAny (model P w) A' (pyIter v) Q E ⟨hp, gs, dr, tk, os⟩ := fun q => B.iter P w _ _ ⟨hp, gs, dr, tk, os⟩ _ g q
  wp_walk using go
  refine wpAny_stack_any fun st => wpAny_pure ?_
  split
  next c _ _ _ _ _ => cases (c == Value.type "enumerate") <;> (wp_walk using go; exact ⟨_, rfl, r⟩)
  next => wp_walk using go; exact ⟨_, rfl, r⟩
theorem call_enum1 {P : Program} {w : World} {A : Around} {E : Value → Shared → Prop} {c : Shared} {v : Value} {o : Obj} {G : Heap → Prop} {Q : Value → Shared → Prop} (B : Begins v o G) (g : G c.heap)
    (k : ∀ h', IsEnum h' (c.heap.objs.size + 1) c.heap.objs.size 0 .none → h'.get? c.heap.objs.size = some o → h'.objs.size = c.heap.objs.size + 2 → (∀ b ob, c.heap.get? b = some ob → h'.get? b = some ob) → Q (.ref (c.heap.objs.size + 1)) { c with heap := h' }) :
    wpAny (model P w) A (call (.type "enumerate") [v]) Q E c := by
  have z1 : (c.heap.push o).objs.size = c.heap.objs.size + 1 := Heap.size_push ..
  have en : IsEnum ((c.heap.push o).push (enum0 c.heap.objs.size)) (c.heap.objs.size + 1) c.heap.objs.size 0 .none := by
    rw [← z1]
    exact Heap.get?_push_size (c.heap.push o) rfl
  refine callType_new F.called_enumerate (by decide) (F.typeCall_enumerate_1 _) (F.newCall_enumerate_1 _) (fun obj => F.args_object_init_2 obj _) F.entry_enumerate_new (enum_new1 B) ⟨g, ?_⟩
  rw [z1]
  exact ⟨⟨_, en, rfl⟩, k _ en (Heap.get?_push_of_some _ (Heap.get?_push_size _ B.free)) (by rw [Heap.size_push, z1]) fun b ob x => Heap.get?_push_of_some _ (Heap.get?_push_of_some _ x)⟩
/-- the tuple at a as it stands at each turn, its items numbered in new pairs -/
noncomputable def IteT (K : PySem.W.Frag) (a : Addr) : It where
  go i H := ∃ (xs : List V) (x : V), SqT K H a xs ∧ xs[i]? = some x
  yld i H v H' := ∃ T x, v = .ref T ∧ H T = none ∧ H' = upd H T (.tup [.int (i : Nat), x]) ∧ ∀ xs, SqT K H a xs → xs[i]? = some x
  stop i H := ∃ xs : List V, SqT K H a xs ∧ xs.length = i
theorem in2 {b e it : Addr} (h : b ∈ [e, it]) : b = e ∨ b = it := by simpa using h
theorem turn_enumT {P : Program} {w : World} {K : PySem.W.Frag} {elts : List Expr} {kk : Nat} {tpos : Pos} (a e it : Addr) :
    Turn P w K (.Tuple elts kk tpos) (IteT K a) [e, it] e (fun i h => (∃ old, IsEnum h e it ((i : Nat) : Int) old) ∧ h.IsTupleIter it a i ∧ e ≠ it ∧ a ≠ it ∧ e ≠ a) where
  mem := List.mem_cons_self ..
  obj i h := fun ⟨⟨old, en⟩, ⟨o, g, _, d⟩, _⟩ b hb => by
    rcases in2 hb with rfl | rfl
    · exact ⟨_, en, fun v q => nomatch q⟩
    · exact ⟨o, g, fun v q => by rw [d] at q; cases q⟩
  keep i h h' := fun ⟨⟨old, en⟩, ti, ap⟩ k => ⟨⟨old, k e (by simp) _ en⟩, ti.at fun o q => k it (by simp) o q, ap⟩
  item := by
    intro X hP hw hK hc i pins s σ H E I apart ⟨⟨old, en⟩, ti, n1, n2, n3⟩ ⟨xs, x, hq, hx⟩
    subst hP hw hK
    obtain ⟨its, rv, tp, _⟩ := I.tuple hq
    obtain ⟨u, hu, ru⟩ := rv.get hx
    have le : e < s.heap.objs.size := Heap.lt_size en
    have lt : it < s.heap.objs.size := by obtain ⟨_, g, _⟩ := ti; exact Heap.lt_size g
    have li : i < its.toArray.size := by rw [List.size_toArray]; exact (List.getElem?_eq_some_iff.1 hu).1
    refine wpAny_pyNext_enum_itemC (Draws.tuple (A := X.A.in1) (by simp [I.ok.hd hc]) it a n2 its.toArray) en ⟨ti, tp⟩ li n1 (by simp [n1, n3]) fun y h1 tk hy out st new size keep => ?_
    obtain rfl : y = u := by simpa [hu] using hy.symm
    refine ⟨_, rfl, wpAny_letOwnedTupleGo_enum (s := { s with heap := h1, toks := tk + 1 }) out fun h2 en2 same => ?_⟩
    have new2 : h2.get? s.heap.objs.size = some { cls := .type "tuple", data := .seq #[.int i tk, y] } := (same.2 _ (Nat.ne_of_gt le)).trans new
    have fine : ObjOk X.prog X.w (upd H s.heap.objs.size (.tup [.int (i : Nat), x])) h2 s.heap.objs.size (.tup [.int (i : Nat), x]) := ⟨by show 2 ≤ sizeLine; decide, [.int i tk, y], .cons ⟨_, rfl⟩ (.cons ru .nil), ⟨_, new2, rfl, _, rfl⟩⟩
    have I2 : Inv X pins σ (upd H s.heap.objs.size (.tup [.int (i : Nat), x])) { s with heap := h2, toks := tk + 1 } := I.turnedNew (ch := [e, it]) (fun b ob hb q => (same.2 b (fun z => hb (by simp [z]))).trans (keep b ob (fun z => hb (by simp [z])) (fun z => hb (by simp [z])) q)) apart (Nat.le_refl _) fine
    refine ⟨.ref s.heap.objs.size, _, I2, rfl, ⟨_, x, rfl, I.hok.fresh (Nat.le_refl _), rfl, fun ys hy => by rw [I.tuple_inj hy hq]; exact hx⟩, ⟨⟨y, ?_⟩, st.1.at fun o q => (same.2 it (Ne.symm n1)).trans q, n1, n2, n3⟩, fun b hb => ?_⟩
    · rw [show ((i + 1 : Nat) : Int) = (i : Int) + 1 by omega]
      exact en2
    · rw [upd_ne (Nat.ne_of_lt (by rcases in2 hb with rfl | rfl <;> assumption))]
      exact (apart b hb).1
  done := by
    intro X hP hw hK hc i pins s σ H E I apart ⟨⟨old, en⟩, ti, n1, n2, n3⟩ ⟨xs, hq, hx⟩
    subst hP hw hK
    obtain ⟨its, rv, tp, _⟩ := I.tuple hq
    subst hx
    obtain ⟨f0, f1, _, f3, f4, f5⟩ := apart it (by simp)
    have sz : its.toArray.size = xs.length := by rw [List.size_toArray, rv.length]
    exact wpAny_pyNext_enum_endD (Draws.tuple (A := X.A.in1) (by simp [I.ok.hd hc]) it a n2 its.toArray) en ⟨sz ▸ ti, tp⟩ fun h' eb => ⟨rfl, I.turned (t' := s.toks) (fun b o hb q => eb b o hb q) f0 f1 f3 f4 f5⟩
  self A i s Q E := fun ⟨⟨_, en⟩, _⟩ h => wpAny_pyIter_enum en h
section
variable {X : Cx} {E : EK} {e : Expr} {ta : TA} {p pos tpos : Pos} {elts : List Expr} {kk : Nat} {m : Env → M (List D)}
noncomputable def iEnumT (K : PySem.W.Frag) (ta : TA) : TI := fun σ H R => ta σ H fun vs H1 => ∃ a xs, vs = [.ref a] ∧ SqT K H1 a xs ∧ R (IteT K a) H1
theorem pi_enumT (hg : Gl X "enumerate") (hm : X.mg "enumerate" = none) (ha : PA X [e] ta) (hs : starEach [e] X.env = [(false, eval e X.env)] := by rfl) : PI X (.Tuple elts kk tpos) (.Call (.Name "enumerate" p) [e] [] pos) (iEnumT X.K ta) := ⟨fun pins s σ H R I h => by
  refine Call_ (ld_blt I hg hm boot_enumerate (PyProof.Rows.callWith_type1 (thn (ha.run pos pins s σ H _ I h) fun us c ⟨vs, H1, I1, r1, a, xs, ex, hq, q⟩ => ?_) hs rfl))
  subst ex
  rw [Vals.ref1 r1]
  obtain ⟨its, rv, tp, _⟩ := I1.tuple hq
  have la : a < c.heap.objs.size := by obtain ⟨o, g, _⟩ := tp; exact Heap.lt_size g
  refine call_enum1 (begins_tuple a its.toArray) tp fun h' en it0 size keep => wpAny_pyIter_enum en ?_
  refine ⟨c.heap.objs.size + 1, [c.heap.objs.size + 1, c.heap.objs.size], _, _, H1, rfl, I1.kept (h' := h') (t' := c.toks) keep, turn_enumT a (c.heap.objs.size + 1) c.heap.objs.size, ⟨⟨.none, en⟩, ⟨_, it0, rfl, rfl⟩, Nat.succ_ne_self _, Nat.ne_of_lt la, (Nat.ne_of_lt (Nat.lt_succ_of_lt la)).symm⟩, fun b hb => ?_, q⟩
  have le : c.heap.objs.size ≤ b := by rcases in2 hb with rfl | rfl <;> omega
  exact I1.fpOk le (I1.hok.fresh le)⟩
end
end Mi
namespace Mi
open PySem PySem.Spec PyProof.Rows L2
variable [LamTabs]
noncomputable def numD : Nat → List D → List D
  | _, [] => []
  | k, d :: ds => pairD (.int (k : Int)) d :: numD (k + 1) ds
theorem numD_len : ∀ (k : Nat) (ds : List D), (numD k ds).length = ds.length
  | _, [] => rfl
  | k, d :: ds => by simp [numD, numD_len (k + 1) ds]
theorem numD_at : ∀ (k i : Nat) (ds : List D) (d : D), ds[i]? = some d → (numD k ds)[i]? = some (pairD (.int ((k + i : Nat) : Int)) d)
  | _, _, [], _, h => by simp at h
  | k, 0, x :: ds, d, h => by simp at h; subst h; rfl
  | k, i + 1, x :: ds, d, h => by
    rw [List.getElem?_cons_succ] at h
    have := numD_at (k + 1) i ds d h
    rw [show k + (i + 1) = k + 1 + i by omega]
    exact this
noncomputable def enumOf : List D → M (List D)
  | [.tup ds] => M.pure (numD 0 ds)
  | [d] => match frzL d with
    | some ds => M.pure (numD 0 ds)
    | none => bad
  | _ => bad
theorem walk_enumT {K : PySem.W.Frag} {a : Addr} {xs : List V} : Walk (IteT K a) xs.length (fun H => SqT K H a xs) (YPair (fun i => some (.int (i : Nat))) (fun i => xs[i]?)) where
  goes i H hi q := ⟨xs, xs[i]'hi, q, List.getElem?_eq_getElem _⟩
  stops H q := ⟨xs, q, rfl⟩
  yields i H v H' _ q := fun ⟨T, x, e1, e2, e3, ex⟩ => ⟨T, .int (i : Nat), x, e1, e2, e3, rfl, ex _ q⟩
theorem ym_num {K : PySem.W.Frag} {w : Wd} {xs : List V} {ds : List D} (r : RvL K w xs ds) : YM K w (numD 0 ds) (YPair (fun i => some (.int (i : Nat))) (fun i => xs[i]?)) := fun i H x H' w2 S2 l2 s2 hi y => by
  obtain ⟨T, u, v, rfl, hT, rfl, e1, e2⟩ := y
  obtain ⟨d2, hd2, rd2⟩ := (r.mono l2).getV e2
  cases e1
  have at' := numD_at 0 i ds d2 hd2
  rw [Nat.zero_add] at at'
  refine ⟨w2.lay T (.tup [.int (i : Nat), v]), _, s2.le_lay hT, s2.lay hT, at', .tup (.of (by show upd w2.G T _ T = _; rw [upd_same])) ((RvL.cons (.int _) (.cons rd2 .nil)).mono (s2.le_lay hT)), fun p o hp => ?_⟩
  have hne : p ≠ T := by rintro rfl; rw [hT] at hp; cases hp
  refine ⟨by rw [upd_ne hne]; exact hp, fun ho => ⟨?_, ho.f, ho.a⟩⟩
  show upd w2.G T _ p = none
  rw [upd_ne hne]
  exact ho.g
section
variable {X : Cx} {E : EK} {e : Expr} {ma : Env → M (List D)} {elts : List Expr} {kk : Nat} {tpos p pos : Pos}
noncomputable def iEnu (m : Env → M (List D)) : Env → M (List D) := fun ρ => M.bind (m ρ) enumOf
noncomputable def isT1 : List D → Bool
  | [.tup _] => true
  | _ => false
theorem tMa_cases {σ : L2.St} {H : Hp} {w : Wd} {S : Sto} {ρ : Env} {P : Wd → Sto → Hp → List D → Prop} (hs : Rs X.K w S H) (hn : Rn X.K w σ ρ) (h : Fin X.K E w (ma ρ S) P) {R R2 : List V → Hp → Prop}
    (q : List D → Bool) (k1 : ∀ w1 S1 H1 ds vs, q ds = true → Le w w1 → Rs X.K w1 S1 H1 → P w1 S1 H1 ds → RvL X.K w1 vs ds → R vs H1) (k2 : ∀ w1 S1 H1 ds vs, q ds = false → Le w w1 → Rs X.K w1 S1 H1 → P w1 S1 H1 ds → RvL X.K w1 vs ds → R2 vs H1) :
    tMa X.K E ma σ H R ∨ tMa X.K E ma σ H R2 := by
  rcases hm : ma ρ S with _ | ⟨x | d, S1⟩
  · rw [hm] at h; exact h.elim
  · exact .inl ⟨w, S, ρ, hs, hn, by rw [hm] at h ⊢; exact h⟩
  · rcases hp : q d with _ | _
    · exact .inr ⟨w, S, ρ, hs, hn, by rw [hm] at h ⊢; exact fun w1 H1 l1 s1 vs rv => k2 _ _ _ _ _ hp l1 s1 (h w1 H1 l1 s1) rv⟩
    · exact .inl ⟨w, S, ρ, hs, hn, by rw [hm] at h ⊢; exact fun w1 H1 l1 s1 vs rv => k1 _ _ _ _ _ hp l1 s1 (h w1 H1 l1 s1) rv⟩
theorem mi_enum (hg : Gl X "enumerate") (hm : X.mg "enumerate" = none) (ha : PA X [e] (tMa X.K E ma)) (hs : starEach [e] X.env = [(false, eval e X.env)] := by rfl) :
    PI X (.Tuple elts kk tpos) (.Call (.Name "enumerate" p) [e] [] pos) (tMi X.K E (iEnu ma)) :=
  pi_imp (pi_or (pi_enumT hg hm ha hs) (pi_enum hg hm ha hs)) fun σ H R ⟨w, S, ρ, hs, hn, h⟩ => tMa_cases hs hn h.bind isT1
    (fun w1 S1 H1 xs vs hp l1 s1 q rv => by
      rcases xs with _ | ⟨x, _ | ⟨y, t⟩⟩
      · cases hp
      · cases x with
        | tup ds =>
          obtain ⟨v, rfl, r1⟩ := args1 rv
          obtain ⟨a, ys, rfl, ry, gy⟩ := tupG_go r1
          have q := Fin.ok (a := numD 0 ds) q s1
          exact ⟨a, ys, rfl, gy _ _ _ (Le.refl _) s1, q _ (fun H => SqT X.K H a ys) _ (by rw [numD_len, ← ry.length]; exact walk_enumT) (fun w2 S2 H2 l s => gy _ _ _ l s) (ym_num ry)⟩
        | _ => cases hp
      · cases x <;> cases hp)
    (fun w1 S1 H1 xs vs hp l1 s1 q rv => by
      rcases xs with _ | ⟨x, _ | ⟨y, t⟩⟩
      · exact q.elim
      · obtain ⟨v, rfl, r1⟩ := args1 rv
        rcases hx : frzL x with _ | ds
        · cases x with
          | tup ds => exact absurd hp (by simp [isT1])
          | lst ds => exact absurd hx (by simp [frzL])
          | lsr ds => exact absurd hx (by simp [frzL])
          | _ => exact q.elim
        · obtain ⟨a, ys, rfl, ry, gy⟩ := frz_go r1 hx
          have e2 : enumOf [x] S1 = some (.ok (numD 0 ds), S1) := by
            cases x with
            | lst es => cases hx; rfl
            | lsr es => cases hx; rfl
            | _ => cases hx
          rw [e2] at q
          have q := Fin.ok (a := numD 0 ds) q s1
          exact ⟨a, ys, rfl, gy _ _ _ (Le.refl _) s1, q _ (fun H => SqL X.K H a ys) _ (by rw [numD_len, ← ry.length]; exact walk_enum) (fun w2 S2 H2 l s => gy _ _ _ l s) (ym_num ry)⟩
      · cases x <;> exact q.elim)
end
end Mi
namespace Mi
open PySem PySem.Spec PyProof.Rows L2
variable [LamTabs]
noncomputable def Wp {α : Type} (m : M α) (S : Sto) (Q : α → Sto → Prop) : Prop := ∃ x S', m S = some (.ok x, S') ∧ Q x S'
section
variable {α β : Type} {m : M α} {S : Sto} {f : α → M β}
theorem wp_bind {Q : β → Sto → Prop} : Wp (M.bind m f) S Q ↔ Wp m S fun x S' => Wp (f x) S' Q := by
  constructor
  · rintro ⟨y, S2, h, q⟩
    unfold M.bind at h
    rcases hm : m S with _ | ⟨_ | x, S1⟩
    · rw [hm] at h; cases h
    · rw [hm] at h; cases h
    · rw [hm] at h; exact ⟨x, S1, rfl.trans hm.symm |>.symm, y, S2, h, q⟩
  · rintro ⟨x, S1, h, y, S2, h2, q⟩
    refine ⟨y, S2, ?_, q⟩
    unfold M.bind
    rw [h]
    exact h2
theorem wp_pure {x : α} {Q : α → Sto → Prop} : Wp (M.pure x) S Q ↔ Q x S := by
  constructor
  · rintro ⟨y, S2, h, q⟩; cases h; exact q
  · exact fun q => ⟨x, S, rfl, q⟩
theorem wp_of {x : α} {S' : Sto} {Q : α → Sto → Prop} (h : m S = some (.ok x, S')) : Wp m S Q ↔ Q x S' := by
  constructor
  · rintro ⟨y, S2, h2, q⟩; rw [h] at h2; cases h2; exact q
  · exact fun q => ⟨x, S', h, q⟩
theorem Wp.mono {Q R : α → Sto → Prop} (h : Wp m S Q) (k : ∀ x S', Q x S' → R x S') : Wp m S R := by
  obtain ⟨x, S', e, q⟩ := h
  exact ⟨x, S', e, k x S' q⟩
theorem wp_if {c : Prop} [Decidable c] {a b : M α} {Q : α → Sto → Prop} : Wp (if c then a else b) S Q ↔ if c then Wp a S Q else Wp b S Q := by split <;> rfl
end
/-- the pen's cell, and the cells behind it -/
noncomputable def penS (cells : List Int) (a r : Int) (T : Sto) : Sto := .lst [.lst (cells.map D.int), .int a, .int r] :: T
noncomputable def Pen (cells : List Int) (T : Sto) (A : Int) (S : Sto) : Prop := ∃ a r, 0 ≤ a ∧ a ≤ A ∧ S = penS cells a r T
theorem Pen.mono {cells : List Int} {T : Sto} {A B : Int} {S : Sto} (h : Pen cells T A S) (l : A ≤ B) : Pen cells T B S := by
  obtain ⟨a, r, h0, h1, e⟩ := h
  exact ⟨a, r, h0, by omega, e⟩
section
variable {S : Sto} {i j : Int} {Q : D → Sto → Prop}
theorem wp_int20 {g : Int → Int → D} : Wp (int20 g (.int i) (.int j)) S Q ↔ Q (g i j) S := wp_of rfl
theorem wp_int2 {C : Int → Int → Prop} [DecidableRel C] {g : Int → Int → D} (h : C i j) : Wp (int2 C g (.int i) (.int j)) S Q ↔ Q (g i j) S := wp_of (by show (if C i j then M.pure (g i j) else bad) S = _; rw [if_pos h]; rfl)
theorem wp_mod (h : 0 < j) : Wp (modM (.int i) (.int j)) S Q ↔ Q (.int (i % j)) S := wp_int2 (C := fun _ j => 0 < j) h
theorem wp_add : Wp (addM (.int i) (.int j)) S Q ↔ Q (.int (i + j)) S := wp_of rfl
theorem wp_neg : Wp (negM (.int i)) S Q ↔ Q (.int (-i)) S := wp_of rfl
theorem wp_int : Wp (intM (.int i)) S Q ↔ Q (.int i) S := wp_of rfl
theorem wp_intb {b : Bool} : Wp (intM (.bl b)) S Q ↔ Q (.int (if b then 1 else 0)) S := wp_of rfl
theorem wp_abs : Wp (absM (.int i)) S Q ↔ Q (.int (if i < 0 then -i else i)) S := wp_of rfl
theorem wp_lenL {ds : List D} : Wp (lenM (.lst ds)) S Q ↔ Q (.int (ds.length : Int)) S := wp_of rfl
theorem wp_toB {b : Bool} {Q : Bool → Sto → Prop} : Wp (toB (.bl b)) S Q ↔ Q b S := wp_of rfl
theorem wp_ixL {ds : List D} {k : Nat} {d : D} (h : ds[k]? = some d) : Wp (ixM (.lst ds) (.int k)) S Q ↔ Q d S := wp_of (by
  have e : atI ds (k : Int) = some d := atI_nat h
  simp only [ixM, asQ, asR, asC, e])
theorem wp_neNil {ds : List D} (h : ds.length ≠ 0) : Wp (neM (.lst ds) (.lst [])) S Q ↔ Q (.bl true) S := wp_of (by simp [eqB, lenDiff, asC, h])
theorem wp_neNil0 : Wp (neM (.lst []) (.lst [])) S Q ↔ Q (.bl false) S := wp_of (by
  have h : lenDiff S (.lst []) (.lst []) = false := rfl
  have h1 : SeqAt.shaped (.list []) = true := by decide +kernel
  have h2 : PyData.eqv (.list []) (.list []) = true := by decide +kernel
  simp [eqB, h, deS, toPy, toPyL, h1, h2])
theorem wp_eqNil0 : Wp (eqM (.lst []) (.lst [])) S Q ↔ Q (.bl true) S := wp_of (by
  have h : lenDiff S (.lst []) (.lst []) = false := rfl
  have h1 : SeqAt.shaped (.list []) = true := by decide +kernel
  have h2 : PyData.eqv (.list []) (.list []) = true := by decide +kernel
  simp [eqB, h, deS, toPy, toPyL, h1, h2])
end
section
variable {cells : List Int} {T : Sto} {a r x : Int} {Q : D → Sto → Prop}
theorem pen0 : Wp (ixM (.ref 0) (.int 0)) (penS cells a r T) Q ↔ Q (.lst (cells.map D.int)) (penS cells a r T) := wp_of rfl
theorem pen1 : Wp (ixM (.ref 0) (.int 1)) (penS cells a r T) Q ↔ Q (.int a) (penS cells a r T) := wp_of rfl
theorem pen2 : Wp (ixM (.ref 0) (.int 2)) (penS cells a r T) Q ↔ Q (.int r) (penS cells a r T) := wp_of rfl
theorem put1 {ρ : Env} {Q : Env → Sto → Prop} : Wp (putM (.ref 0) (.int 1) (.int x) ρ) (penS cells a r T) Q ↔ Q ρ (penS cells x r T) := wp_of rfl
theorem put2 {ρ : Env} {Q : Env → Sto → Prop} : Wp (putM (.ref 0) (.int 2) (.int x) ρ) (penS cells a r T) Q ↔ Q ρ (penS cells a x T) := wp_of rfl
end
theorem pow18 : (10 : Int) ^ (18 : Int).toNat = 1000000000000000000 := by decide
theorem cpow18 : CPow 10 18 := by decide
theorem cpow (i : Int) (h0 : 0 ≤ i) (h1 : i < 18446744073709551616) (n : Int) (hn : 0 ≤ n ∧ n ≤ 1000000) : CPow i n := ⟨hn.1, hn.2, by omega⟩
theorem cmul1 {i j : Int} (h0 : -18446744073709551616 < i) (h1 : i < 18446744073709551616) : CMul i j := .inl ⟨by simpa using h0, by simpa using h1⟩
section
variable {cells : List Int} {a r b cell : Int}
theorem wp_run {N : Nat} {ms : Env → M (Fl × Env)} {ds : List D} {S : Sto} {Q : D → Sto → Prop} (h : Wp (ms (ds.map some ++ List.replicate (N - ds.length) none)) S fun r S' => ∃ d, r.1 = .rt d ∧ Q d S') : Wp (runM N ms ds) S Q := by
  refine wp_bind.2 (h.mono ?_)
  rintro ⟨f, ρ⟩ S' ⟨d, e, q⟩
  cases e
  exact wp_pure.2 q
theorem map_at {i : Nat} (h : i < cells.length) : (cells.map D.int)[i]? = some (.int (cells[i]'h)) := by simp [h]
end
section
variable {S : Sto} {i j : Int} {Q : D → Sto → Prop}
theorem shI (i : Int) : SeqAt.shaped (.int i) = true := by
  unfold SeqAt.shaped
  simp [PyData.canLay0, PyData.depth]
theorem shS {x : Str} (h : PyData.strOk x = true) : SeqAt.shaped (.str x) = true := by
  unfold SeqAt.shaped
  simp [PyData.canLay0, PyData.depth, h]
theorem wp_eqI : Wp (eqM (.int i) (.int j)) S Q ↔ Q (.bl (i == j)) S := wp_of (by
  have h : lenDiff S (.int i) (.int j) = false := rfl
  simp [eqB, h, deS, toPy, shI, PyData.eqv])
theorem wp_neI : Wp (neM (.int i) (.int j)) S Q ↔ Q (.bl (!(i == j))) S := wp_of (by
  have h : lenDiff S (.int i) (.int j) = false := rfl
  simp [eqB, h, deS, toPy, shI, PyData.eqv])
theorem wp_addL {x y : List D} (h : x.length + y.length ≤ 100000) : Wp (addM (.lst x) (.lst y)) S Q ↔ Q (.lst (x ++ y)) S := wp_of (by
  show (if x.length + y.length ≤ 100000 then _ else _) = _
  rw [if_pos h])
end
noncomputable def nrB : D → Bool
  | .ref _ => false
  | .exc _ _ => false
  | .stp _ => false
  | .lsr _ => false
  | _ => true
noncomputable def Small (x : Str) : Prop := ∀ c ∈ x.cps.toList, c < 128
theorem char_ok : ∀ c < 128, ((Builtin.Str.reprChar 34 c) ++ (Builtin.Str.reprChar 39 c)).all (fun c => decide (c < 1114112)) = true := by decide +kernel
theorem repr_fold {q : Nat} (hq : ∀ c < 128, ∀ k ∈ Builtin.Str.reprChar q c, k < 1114112) : ∀ (cs : List Nat) (acc : Array Nat), (∀ c ∈ cs, c < 128) → (∀ c ∈ acc.toList, c < 1114112) → ∀ c ∈ (cs.foldl (fun out c => out ++ (Builtin.Str.reprChar q c).toArray) acc).toList, c < 1114112
  | [], acc, _, h => h
  | y :: ys, acc, hy, h => repr_fold hq ys _ (fun z hz => hy z (by simp [hz])) (fun c hc => by
      simp only [Array.toList_append, List.mem_append] at hc
      rcases hc with hc | hc
      · exact h c hc
      · exact hq y (hy y (by simp)) c hc)
theorem strOk_repr {x : Str} (h : Small x) : PyData.strOk (reprText x) = true := by
  have hq : reprQuote x = 34 ∨ reprQuote x = 39 := by unfold reprQuote; split <;> simp
  have hc : ∀ c < 128, ∀ k ∈ Builtin.Str.reprChar (reprQuote x) c, k < 1114112 := fun c hc k hk => by
    have e := List.all_eq_true.1 (char_ok c hc)
    rcases hq with q | q <;> rw [q] at hk
    · exact of_decide_eq_true (e k (List.mem_append_left _ hk))
    · exact of_decide_eq_true (e k (List.mem_append_right _ hk))
  have hq2 : reprQuote x < 1114112 := by omega
  unfold PyData.strOk reprText
  rw [← Array.all_toList, List.all_eq_true]
  intro c hc2
  simp only [Array.toList_push, List.mem_append, List.mem_singleton, ← Array.foldl_toList] at hc2
  refine decide_eq_true ?_
  rcases hc2 with hc2 | rfl
  · exact repr_fold hc _ _ h (by simpa using hq2) c hc2
  · exact hq2
theorem wp_chkS {x : Str} {S : Sto} {Q : Unit → Sto → Prop} : Wp (chkS (.str x)) S Q ↔ Q () S := wp_of rfl
theorem wp_rng {n : Int} {S : Sto} {Q : List D → Sto → Prop} (h : -100000 ≤ n ∧ n ≤ 100000) : Wp (rngOf [.int n]) S Q ↔ Q (rgD 0 n.toNat) S := wp_of (by
  show (if -100000 ≤ n ∧ n ≤ 100000 then M.pure (rgD 0 n.toNat) else bad) S = _
  rw [if_pos h]; rfl)
theorem rgD_len {lo : Int} {n : Nat} : (rgD lo n).length = n := by simp [rgD]
theorem eq_of_wp {α : Type} {m : M α} {v : α} {S S0 : Sto} (h : Wp m S fun x S' => x = v ∧ S' = S0) : m S = some (.ok v, S0) := by
  obtain ⟨x, S', e, rfl, rfl⟩ := h
  exact e
theorem lcGo_pure {α : Type} {t : Env → M Bool} {e : Env → M D} {i : Nat} {ρ : Env} {S : Sto} (g f : α → D) (p : α → Bool) : ∀ (ys : List α),
    (∀ y ∈ ys, t (ρ.set i (some (g y))) S = some (.ok (p y), S)) → (∀ y ∈ ys, p y = true → e (ρ.set i (some (g y))) S = some (.ok (f y), S)) →
    lcGo (gSet i) t e ρ (ys.map g) S = some (.ok ((ys.filter p).map f), S)
  | [], _, _ => rfl
  | y :: ys, ht, he => by
    have ih := lcGo_pure (t := t) (e := e) (ρ := ρ) (S := S) (i := i) g f p ys (fun z hz => ht z (by simp [hz])) (fun z hz => he z (by simp [hz]))
    refine eq_of_wp ?_
    simp only [List.map_cons, lcGo, gSet, wp_bind, wp_pure]
    rw [wp_of (ht y (by simp))]
    by_cases hp : p y = true
    · simp only [hp, if_true, wp_bind]
      rw [wp_of (he y (by simp) hp), wp_of ih]
      simp [wp_pure, hp]
    · simp only [hp, if_false, Bool.false_eq_true]
      rw [wp_of ih]
      simp [hp]
theorem wp_lc {α : Type} {t : Env → M Bool} {e : Env → M D} {i : Nat} {ρ : Env} {S : Sto} {Q : List D → Sto → Prop} (g f : α → D) (p : α → Bool) {ys : List α}
    (ht : ∀ y ∈ ys, t (ρ.set i (some (g y))) S = some (.ok (p y), S)) (he : ∀ y ∈ ys, p y = true → e (ρ.set i (some (g y))) S = some (.ok (f y), S)) :
    Wp (noErr (lcGo (gSet i) t e ρ (ys.map g))) S Q ↔ Q ((ys.filter p).map f) S := wp_of (by unfold noErr; rw [lcGo_pure g f p ys ht he])
section
variable {S : Sto} {d : D} {Q : D → Sto → Prop}
theorem bls_map {α : Type} (f : α → Bool) : ∀ (ys : List α), blsOf (ys.map fun y => D.bl (f y)) = some (ys.map f)
  | [] => rfl
  | y :: ys => by simp [blsOf, bls_map f ys]
theorem wp_lenS {y : Str} (h : y.length ≤ 100000) : Wp (lenM (.str y)) S Q ↔ Q (.int (y.length : Int)) S := wp_of (by
  show (if y.length ≤ 100000 then _ else _) = _
  rw [if_pos h])
end
theorem strOk_app {x y : Str} : PyData.strOk (x ++ y) = (PyData.strOk x && PyData.strOk y) := by
  show (x.cps ++ y.cps).all _ = _
  rw [Array.all_append]; rfl
theorem strOk_from : ∀ (ts : List Str) (i : Nat) (acc : Str), PyData.strOk acc = true → (∀ t ∈ ts, PyData.strOk t = true) → PyData.strOk (textFrom i acc ts) = true
  | [], i, acc, h, _ => h
  | t :: ts, i, acc, h, ht => by
    refine strOk_from ts _ _ ?_ (fun z hz => ht z (by simp [hz]))
    simp only [strOk_app, h, ht t (by simp), Bool.true_and, Bool.and_true]
    split <;> decide +kernel
theorem strOk_list {ts : List Str} (ht : ∀ t ∈ ts, PyData.strOk t = true) : PyData.strOk (listText ts) = true := by
  unfold listText
  rw [strOk_app, strOk_from ts _ _ (by decide +kernel) ht]
  decide +kernel
end Mi
namespace Mi
open PySem PySem.Spec PyProof.Rows L2
variable [LamTabs]
noncomputable def GB : Int := 10 ^ 100
noncomputable def GL (P : Nat → D → Prop) : Nat → List D → Prop
  | w, [] => 3 ≤ w
  | w, d :: ds => ∃ w1 w2, P w1 d ∧ GL P w2 ds ∧ w1 + 2 + w2 ≤ w
noncomputable def leafG (b : Int) (w : Nat) : D → Prop
  | .non => 8 ≤ w
  | .bl _ => 8 ≤ w
  | .int i => -b ≤ i ∧ i ≤ b ∧ 110 ≤ w
  | .str x => Small x ∧ 10 * x.length + 2 ≤ w
  | .dct [] => 8 ≤ w
  | .dct [(.str x, .int i)] => 30 ≤ w ∧ x = "a" ∧ i = 1
  | _ => False
noncomputable def GD (b : Int) : Nat → Nat → D → Prop
  | 0, w, d => leafG b w d
  | h + 1, w, d => leafG b w d ∨ ∃ ds, (d = .tup ds ∨ d = .lst ds) ∧ GL (GD b h) w ds
theorem leafG.mono {b b' : Int} {w w' : Nat} {d : D} (h : leafG b w d) (hb : b ≤ b') (hw : w ≤ w') : leafG b' w' d := by
  unfold leafG at h ⊢
  split at h <;> first | (exact h.elim) | (exact ⟨by omega, h.2⟩) | (exact ⟨h.1, by omega⟩) | (exact ⟨by omega, by omega, by omega⟩) | (exact Nat.le_trans h hw)
theorem GL.mono {P P' : Nat → D → Prop} (hP : ∀ w d, P w d → P' w d) : ∀ {ds : List D} {w w' : Nat}, GL P w ds → w ≤ w' → GL P' w' ds
  | [], _, _, h, l => by simp only [GL] at h ⊢; omega
  | d :: ds, _, _, ⟨w1, w2, h1, h2, h3⟩, l => ⟨w1, w2, hP _ _ h1, GL.mono hP h2 (Nat.le_refl _), by omega⟩
theorem GD.mono {b b' : Int} (hb : b ≤ b') : ∀ {h h' w w' : Nat} {d : D}, GD b h w d → h ≤ h' → w ≤ w' → GD b' h' w' d
  | 0, 0, _, _, _, g, _, l => leafG.mono g hb l
  | 0, h' + 1, _, _, _, g, _, l => .inl (leafG.mono g hb l)
  | h + 1, 0, _, _, _, g, k, l => absurd k (by omega)
  | h + 1, h' + 1, _, _, _, g, k, l => by
    rcases g with g | ⟨ds, e, g⟩
    · exact .inl (leafG.mono g hb l)
    · exact .inr ⟨ds, e, GL.mono (fun w d g => GD.mono hb g (by omega) (Nat.le_refl _)) g l⟩
theorem GL.ge {P : Nat → D → Prop} : ∀ {ds : List D} {w : Nat}, GL P w ds → 2 * ds.length + 3 ≤ w
  | [], _, h => by simpa [GL] using h
  | d :: ds, _, ⟨w1, w2, h1, h2, h3⟩ => by have := GL.ge h2; simp only [List.length_cons]; omega
theorem GL.app {P : Nat → D → Prop} : ∀ {a b : List D} {wa wb : Nat}, GL P wa a → GL P wb b → GL P (wa + wb - 3) (a ++ b)
  | [], b, wa, wb, ha, hb => by simp only [GL] at ha; exact GL.mono (fun _ _ h => h) hb (by omega)
  | d :: a, b, wa, wb, ⟨w1, w2, h1, h2, h3⟩, hb => ⟨w1, _, h1, GL.app h2 hb, by have := GL.ge h2; omega⟩
theorem GL.split {P : Nat → D → Prop} : ∀ {a b : List D} {w : Nat}, GL P w (a ++ b) → ∃ wa wb, GL P wa a ∧ GL P wb b ∧ wa + wb ≤ w + 3
  | [], b, w, h => ⟨3, w, by simp [GL], h, by omega⟩
  | d :: a, b, w, ⟨w1, w2, h1, h2, h3⟩ => by
    obtain ⟨wa, wb, e1, e2, e3⟩ := GL.split h2
    exact ⟨w1 + 2 + wa, wb, ⟨w1, wa, h1, e1, Nat.le_refl _⟩, e2, by omega⟩
theorem GL.one {P : Nat → D → Prop} {w : Nat} {d : D} (h : P w d) : GL P (w + 5) [d] := ⟨w, 3, h, by simp [GL], by omega⟩
theorem GL.un {P : Nat → D → Prop} {w : Nat} {d : D} {ds : List D} (h : GL P w (d :: ds)) : ∃ w1 w2, P w1 d ∧ GL P w2 ds ∧ w1 + 2 + w2 ≤ w := h
theorem GL.take {P : Nat → D → Prop} {w : Nat} {ds : List D} (n : Nat) (h : GL P w ds) : GL P w (ds.take n) := by
  rw [← List.take_append_drop n ds] at h
  obtain ⟨wa, wb, e1, e2, e3⟩ := GL.split h
  exact GL.mono (fun _ _ h => h) e1 (by have := GL.ge e2; omega)
theorem GL.drop {P : Nat → D → Prop} {w : Nat} {ds : List D} (n : Nat) (h : GL P w ds) : GL P w (ds.drop n) := by
  rw [← List.take_append_drop n ds] at h
  obtain ⟨wa, wb, e1, e2, e3⟩ := GL.split h
  exact GL.mono (fun _ _ h => h) e2 (by have := GL.ge e1; omega)
/-- an item, and what stands on its left and right -/
theorem GL.at {P : Nat → D → Prop} {w n : Nat} {ds : List D} {d : D} (h : GL P w ds) (e : ds[n]? = some d) : ∃ wl wi wr, GL P wl (ds.take n) ∧ P wi d ∧ GL P wr (ds.drop (n + 1)) ∧ wl + wi + wr ≤ w + 1 := by
  obtain ⟨hn, e⟩ := List.getElem?_eq_some_iff.1 e
  have k : ds.take n ++ (d :: ds.drop (n + 1)) = ds := by rw [← e]; simp
  rw [← k] at h
  obtain ⟨wa, wb, e1, ⟨w1, w2, e2, e3, e4⟩, e5⟩ := GL.split h
  exact ⟨wa, w1, w2, e1, e2, e3, by omega⟩
theorem GL.get {P : Nat → D → Prop} {w n : Nat} {ds : List D} {d : D} (h : GL P w ds) (e : ds[n]? = some d) : ∃ wi, P wi d ∧ wi ≤ w := by
  obtain ⟨wl, wi, wr, h1, h2, h3, h4⟩ := GL.at h e
  exact ⟨wi, h2, by have := GL.ge h1; have := GL.ge h3; omega⟩
theorem GL.mem {P : Nat → D → Prop} {w : Nat} {ds : List D} {d : D} (h : GL P w ds) (e : d ∈ ds) : ∃ wi, P wi d ∧ wi ≤ w := by
  obtain ⟨n, hn⟩ := List.getElem?_of_mem e
  exact GL.get h hn
theorem small_ok {x : Str} (h : Small x) : PyData.strOk x = true := by
  unfold PyData.strOk
  rw [← Array.all_toList, List.all_eq_true]
  intro c hc
  have := h c hc
  exact decide_eq_true (by omega)
theorem int_log {i b : Int} (h : -b ≤ i ∧ i ≤ b) (hb : b ≤ GB) : i.natAbs.log2 < 1920 := by
  have e : GB = ((10 ^ 100 : Nat) : Int) := by decide +kernel
  have h1 : i.natAbs ≤ 10 ^ 100 := by rw [e] at hb; omega
  have h3 : (10 : Nat) ^ 100 < 2 ^ 400 := by decide +kernel
  by_cases h0 : i.natAbs = 0
  · rw [h0]; decide
  · have : i.natAbs.log2 < 400 := (Nat.log2_lt h0).2 (Nat.lt_of_le_of_lt h1 h3)
    omega
theorem strOk_tup {ts : List Str} (ht : ∀ t ∈ ts, PyData.strOk t = true) : PyData.strOk (tupleText ts) = true := by
  have hs : ∀ ts : List Str, (∀ t ∈ ts, PyData.strOk t = true) → PyData.strOk (Str.join ", " ts) = true := by
    intro ts
    induction ts with
    | nil => intro _; decide +kernel
    | cons t ts ih =>
      intro h
      have e1 := h t (by simp)
      have e2 := ih (fun z hz => h z (by simp [hz]))
      cases ts with
      | nil => exact e1
      | cons y ys =>
        show PyData.strOk (t ++ ", " ++ Str.join ", " (y :: ys)) = true
        rw [strOk_app, strOk_app, e1, e2]
        decide +kernel
  unfold tupleText
  rw [strOk_app, strOk_app, hs ts ht]
  split <;> decide +kernel
structure Told (b : Int) (h w : Nat) (d : D) (p : PyData) : Prop where
  py : toPy d = some p
  show_ : p.showable = true
  len : p.shown.length ≤ w
  ok : PyData.strOk p.shown = true
  depth : p.depth ≤ h + 1
structure Tolds (h w : Nat) (ds : List D) (ps : List PyData) : Prop where
  py : toPyL ds = some ps
  show_ : PyData.showableAll ps = true
  len : ((PyData.shownAll ps).map fun x => x.length).sum + 2 * (PyData.shownAll ps).length + 3 ≤ w
  ok : ∀ t ∈ PyData.shownAll ps, PyData.strOk t = true
  depth : PyData.depthAll ps ≤ h
theorem list_told {P : Nat → D → Prop} {b : Int} {h : Nat} (hP : ∀ w d, P w d → ∃ p, Told b h w d p) : ∀ {ds : List D} {w : Nat}, GL P w ds → ∃ ps, Tolds (h + 1) w ds ps
  | [], w, g => ⟨[], rfl, by simp [PyData.showableAll], by simpa [PyData.shownAll, GL] using g, by simp [PyData.shownAll], by simp [PyData.depthAll]⟩
  | d :: ds, w, ⟨w1, w2, g1, g2, g3⟩ => by
    obtain ⟨p, k⟩ := hP _ _ g1
    obtain ⟨ps, ks⟩ := list_told hP g2
    refine ⟨p :: ps, by simp [toPyL, k.py, ks.py], by simp [PyData.showableAll, k.show_, ks.show_], ?_, ?_, ?_⟩
    · have := k.len
      have := ks.len
      simp only [PyData.shownAll, List.map_cons, List.sum_cons, List.length_cons]
      omega
    · intro t ht
      simp only [PyData.shownAll, List.mem_cons] at ht
      rcases ht with rfl | ht
      · exact k.ok
      · exact ks.ok t ht
    · have := k.depth
      have := ks.depth
      simp only [PyData.depthAll]
      omega
/-- what is no reference -/
theorem GD.nr {b : Int} {h w : Nat} {d : D} (g : GD b h w d) : nrB d = true := by
  cases h with
  | zero => cases d <;> first | rfl | exact g.elim
  | succ h =>
    rcases g with g | ⟨ds, e, _⟩
    · cases d <;> first | rfl | exact g.elim
    · rcases e with rfl | rfl <;> rfl
/-- == against a text -/
noncomputable def isS (z : Str) : D → Bool
  | .str x => x == z
  | _ => false
end Mi
namespace Mi
open PySem PySem.Spec PyProof.Rows L2
variable [LamTabs]
section
variable {S : Sto} {Q : D → Sto → Prop} {ds es : List D} {x y : Str} {i j : Int} {k : Bool} {v : D} {cells : List Int} {T : Sto} {A : Int} {b : Int} {h w : Nat}
theorem GD.tup {b : Int} {h w : Nat} {ds : List D} (g : GL (GD b h) w ds) : GD b (h + 1) w (.tup ds) := .inr ⟨ds, .inl rfl, g⟩
theorem GD.lst {b : Int} {h w : Nat} {ds : List D} (g : GL (GD b h) w ds) : GD b (h + 1) w (.lst ds) := .inr ⟨ds, .inr rfl, g⟩
theorem wp_isi {d : D} {T t : String} {k : Bool} {S : Sto} {Q : D → Sto → Prop} (h : ∀ S, tyN S d = some t) (hk : kitB t T = some k) : Wp (isiM T d) S Q ↔ Q (.bl k) S := wp_of (by unfold isiM; simp only [h, hk])
theorem isi_nonS : Wp (isiM "str" .non) S Q ↔ Q (.bl false) S := wp_isi (fun _ => rfl) (by decide +kernel)
theorem isi_blS : Wp (isiM "str" (.bl k)) S Q ↔ Q (.bl false) S := wp_isi (fun _ => rfl) (by decide +kernel)
theorem isi_intS : Wp (isiM "str" (.int i)) S Q ↔ Q (.bl false) S := wp_isi (fun _ => rfl) (by decide +kernel)
theorem isi_intI : Wp (isiM "int" (.int i)) S Q ↔ Q (.bl true) S := wp_isi (fun _ => rfl) (by decide +kernel)
theorem isi_intB : Wp (isiM "bool" (.int i)) S Q ↔ Q (.bl false) S := wp_isi (fun _ => rfl) (by decide +kernel)
theorem isi_strS : Wp (isiM "str" (.str x)) S Q ↔ Q (.bl true) S := wp_isi (fun _ => rfl) (by decide +kernel)
theorem isi_tupS : Wp (isiM "str" (.tup ds)) S Q ↔ Q (.bl false) S := wp_isi (fun _ => rfl) (by decide +kernel)
theorem isi_lstS : Wp (isiM "str" (.lst ds)) S Q ↔ Q (.bl false) S := wp_isi (fun _ => rfl) (by decide +kernel)
theorem isi_dctS {kv : List (D × D)} : Wp (isiM "str" (.dct kv)) S Q ↔ Q (.bl false) S := wp_isi (fun _ => rfl) (by decide +kernel)
theorem ixT {k : Nat} {d : D} (h : ds[k]? = some d) : Wp (ixM (.tup ds) (.int k)) S Q ↔ Q d S := wp_of (by
  have e : atI ds (k : Int) = some d := atI_nat h
  simp only [ixM, asQ, e])
theorem small_app {x y : Str} (hx : Small x) (hy : Small y) : Small (x ++ y) := fun c hc => by
  have e : (x ++ y).cps.toList = x.cps.toList ++ y.cps.toList := Array.toList_append
  rw [e] at hc
  rcases List.mem_append.1 hc with h | h
  · exact hx c h
  · exact hy c h
theorem small_cut {x : Str} {lo hi : Option Int} (h : Small x) : Small (cutS x lo hi) ∧ (cutS x lo hi).length ≤ x.length := by
  unfold cutS
  constructor
  · intro c hc
    exact h c (List.mem_of_mem_drop (List.mem_of_mem_take (by simpa using hc)))
  · show (List.toArray _).size ≤ x.cps.size
    rw [List.size_toArray, List.length_take, List.length_drop, Array.length_toList]
    omega
theorem cut_lo {ds : List D} {n : Nat} (h : n ≤ ds.length) : cutD ds none (some (n : Int)) = ds.take n := by
  have e : HT.sIx ds.length ds.length (some (n : Int)) = n := by
    unfold HT.sIx
    simp
    rw [if_neg (by omega)]
    omega
  have e0 : HT.sIx ds.length 0 none = 0 := by unfold HT.sIx; simp
  unfold cutD
  rw [e, e0]
  simp
theorem cut_hi {ds : List D} {n : Nat} (h : n ≤ ds.length) : cutD ds (some (n : Int)) none = ds.drop n := by
  have e : HT.sIx ds.length 0 (some (n : Int)) = n := by
    unfold HT.sIx
    simp
    rw [if_neg (by omega)]
    omega
  have e0 : HT.sIx ds.length ds.length none = ds.length := by unfold HT.sIx; simp
  unfold cutD
  rw [e, e0]
  exact List.take_of_length_le (by simp)
theorem GL.cons {P : Nat → D → Prop} {w1 w2 : Nat} {d : D} {ds : List D} (h : P w1 d) (g : GL P w2 ds) : GL P (w1 + 2 + w2) (d :: ds) := ⟨w1, w2, h, g, Nat.le_refl _⟩
theorem GL.nil {P : Nat → D → Prop} : GL P 3 [] := Nat.le_refl _
noncomputable def wordB (al : Str) : D → Bool
  | .str x => decide (1 ≤ x.length) && decide (x.length ≤ 8) && x.cps.toList.all fun c => decide (c ∈ al.cps.toList)
  | _ => false
noncomputable def okV (v : D) : Prop := nrB v = true ∧ ∀ x, v = .str x → x.length ≤ 100000 ∧ PyData.strOk x = true
noncomputable def ascB : List Int → Bool
  | a :: b :: ns => decide (a < b) && ascB (b :: ns)
  | _ => true
noncomputable def isT : D → Bool
  | .str _ => true
  | _ => false
theorem neSS {x z : Str} (hx : PyData.strOk x = true) (hz : PyData.strOk z = true) : Wp (neM (.str x) (.str z)) S Q ↔ Q (.bl (!(x == z))) S := wp_of (by
  have h : lenDiff S (.str x) (.str z) = false := rfl
  simp [eqB, h, shS hx, shS hz, deS, toPy, PyData.eqv])
theorem eqSS {x z : Str} (hx : PyData.strOk x = true) (hz : PyData.strOk z = true) : Wp (eqM (.str x) (.str z)) S Q ↔ Q (.bl (x == z)) S := wp_of (by
  have h : lenDiff S (.str x) (.str z) = false := rfl
  simp [eqB, h, shS hx, shS hz, deS, toPy, PyData.eqv])
end
end Mi
namespace Mi
open PySem PySem.Spec L2
section
variable {M : Model} {A : Around} {E : Value → Shared → Prop} {h : Heap} {g : Array GenState} {d : Drawn} {t : Nat} {os : OsState}
  {nm q : Str} {C N : Addr} {bs bm tl : List Value} {hd : Bool} {sn : List Str} {sub : List Value} {ab : Bool} {col : Option Bool} {dd : Option Addr} {k0 k1 k2 k3 k5 : Option Value} {B nw ini : String}
theorem xchk (F : ExcBaseFacts B nw ini tl) (hT : ∀ Y : String, bm.contains (.type Y) = tl.contains (.type Y)) {us : List Value} {kw : List (Str × Value)} {Q : Unit → Shared → Prop}
    (hC : h.get? C = some (excClassObj nm q C N bs bm hd sn sub ab col dd k0 k1 k2 k3 k5 nw)) (hq : Q () ⟨h, g, d, t, os⟩) :
    wpAny M A (checkBuiltinCall nw ⟨.ref C :: us, kw⟩) Q E ⟨h, g, d, t, os⟩ := by
  have sb : (Value.ref C :: bm).contains (.type B) = true := by
    rw [List.contains_cons, hT, F.hasB, Bool.or_true]
  have ns := F.noStar
  simp only [checkBuiltinCall, F.newKind, F.newSplit, F.newRow]
  repeat (first
    | refine wpAny_staticBase_exc hC ?_
    | refine wpAny_madeBy_exc hC ?_
    | (refine wpAny_isSubtype_exc hC ?_; rw [sb])
    | refine wpAny_loadPart_at hC ?_
    | simp only [Bool.false_eq_true, bne_self_eq_false, if_false]
    | wp_step)
  exact hq
end
section
variable {prog : Program} {w : World} {A : Around} {E : Value → Shared → Prop} {R : Result → Shared → Prop} {h : Heap} {g : Array GenState} {d : Drawn} {t : Nat} {os : OsState}
  {nm q : Str} {C N : Addr} {bs bm tl : List Value} {hd : Bool} {sn : List Str} {sub : List Value} {ab : Bool} {col : Option Bool} {dd : Option Addr} {k0 k1 k2 k3 k5 : Option Value} {B nw ini : String}
theorem xnew (F : ExcBaseFacts B nw ini tl) (hT : ∀ Y : String, bm.contains (.type Y) = tl.contains (.type Y)) {us : List Value} {kw : List (Str × Value)}
    (hC : h.get? C = some (excClassObj nm q C N bs bm hd sn sub ab col dd k0 k1 k2 k3 k5 nw))
    (hq : R (.ok (.ret (.ref (h.objs.size + 1)))) ⟨(h.push (PySem.W.kdv_tup us)).push (HandSPX.excO C h.objs.size), g, d, t, os⟩) (hz : us.length ≤ sizeLine) :
    codeAny (model prog w) A (.builtin nw ⟨.ref C :: us, kw⟩) R ⟨h, g, d, t, os⟩ := by
  have ends := F.ends
  have s1 : (Value.ref C :: bm).contains (.type B) = true := by
    rw [List.contains_cons, hT, F.hasB, Bool.or_true]
  have s2 : (Value.ref C :: bm).contains (.type "AttributeError") = false := by
    rw [List.contains_cons, hT, F.noAttr]; rfl
  have s3 : (Value.ref C :: bm).contains (.type "NameError") = false := by
    rw [List.contains_cons, hT, F.noName]; rfl
  refine codeAny_builtinAt F.entry ?_
  unfold Builtin.«BaseException.__new__»
  refine wpAt_bind ?_
  show wpAt _ _ _ (stack >>= _) _ _ _
  refine wpAt_bind (wpAt_stack fun p below => wpAt_of_wpAny ?_)
  wp_walk
  refine wpAt_of_wpAny ?_
  rw [F.owner]
  repeat (first
    | with_reducible refine wpAny_loadPart_at hC ?_
    | with_reducible refine wpAny_madeHere_exc F.canon hC ?_
    | (with_reducible refine wpAny_isSubtype_exc hC ?_
       first | rw [s1] | rw [s2] | rw [s3])
    | wp_step)
  show R _ _
  rw [Heap.size_push]
  exact hq
theorem xcall0 (F : ExcBaseFacts B nw ini tl) (hT : ∀ Y : String, bm.contains (.type Y) = tl.contains (.type Y)) {us : List Value} {kw : List (Str × Value)} {fI : Addr} {Q : PySem.Fin → Shared → Prop}
    (hC : h.get? C = some (excClassObj nm q C N bs bm hd sn sub ab col dd k0 k1 k2 k3 k5 nw))
    (hi : PySem.W.Looks (model prog w) h (typeLookup (.ref C) "__init__") (some (.ref fI))) (hb : ∀ self, PySem.W.Looks (model prog w) h (bindSpecial (.ref fI) self) (.ref fI, [self])) (hz : us.length ≤ sizeLine)
    (hq : codeAny (model prog w) A (.call (.ref fI) ⟨.ref (h.objs.size + 1) :: us, kw⟩)
      (fun r s' => match r with
        | .ok (.ret v) => v = .none ∧ Q (.done (.ret (.ref (h.objs.size + 1)))) s'
        | .ok _ => False
        | .error e => E e s') ⟨(h.push (PySem.W.kdv_tup us)).push (HandSPX.excO C h.objs.size), g, d, t, os⟩) :
    wpAny (model prog w) A (Builtin.«type.__call__» ⟨.ref C :: us, kw⟩) Q E ⟨h, g, d, t, os⟩ := by
  repeat (first
    | with_reducible refine wpAny_madeBy_exc hC ?_
    | with_reducible refine wpAny_loadPart_at hC ?_
    | wp_step)
  refine codeAny_call_builtin_code (Code.quiet_builtin _ F.quiet) (xchk F hT hC ?_)
  refine xnew F hT hC ?_ hz
  show wpAny _ _ _ _ _ _
  have kp : ∀ b o, h.get? b = some o → ((h.push (PySem.W.kdv_tup us)).push (HandSPX.excO C h.objs.size)).get? b = some o :=
    fun b o e => Heap.get?_push_of_some _ (Heap.get?_push_of_some _ e)
  have hC1 := kp _ _ hC
  have gx : ((h.push (PySem.W.kdv_tup us)).push (HandSPX.excO C h.objs.size)).get? (h.objs.size + 1) = some (HandSPX.excO C h.objs.size) := by
    heap_get
  have cc : (Value.ref C :: bm).contains (.ref C) = true := by simp
  have i2 := hi.keeps kp
  have b2 := (hb (.ref (h.objs.size + 1))).keeps kp
  unfold isInstance
  repeat (first
    | with_reducible refine wpAny_loadPart_at gx ?_
    | (with_reducible refine wpAny_isSubtype_exc hC1 ?_
       rw [cc])
    | wp_step)
  show wpAny _ _ (typeLookup (.ref C) _) _ _ _
  refine i2.at ?_
  refine wpAny_holding (wpAny_bind (b2.at ?_))
  refine wpAny_bind (wpAny_call (codeAny_mono hq fun r s' z => ?_))
  cases r with
  | error e => exact z
  | ok fl =>
    cases fl with
    | ret v =>
      obtain ⟨rfl, z⟩ := z
      first
        | exact wpAny_pure (wpAny_pure z)
        | (wp_walk; exact z)
    | next => exact z.elim
    | brk => exact z.elim
    | cont => exact z.elim
theorem xcall (F : ExcBaseFacts B nw ini tl) (hT : ∀ Y : String, bm.contains (.type Y) = tl.contains (.type Y)) {us : List Value} {kw : List (Str × Value)} {fI : Addr}
    (hC : h.get? C = some (excClassObj nm q C N bs bm hd sn sub ab col dd k0 k1 k2 k3 k5 nw))
    (hi : PySem.W.Looks (model prog w) h (typeLookup (.ref C) "__init__") (some (.ref fI))) (hb : ∀ self, PySem.W.Looks (model prog w) h (bindSpecial (.ref fI) self) (.ref fI, [self])) (hz : us.length ≤ sizeLine)
    (hq : codeAny (model prog w) (A.under (.builtin "type.__call__" ⟨.ref C :: us, kw⟩)) (.call (.ref fI) ⟨.ref (h.objs.size + 1) :: us, kw⟩) (PySem.W.InitBack (h.objs.size + 1) R)
      ⟨(h.push (PySem.W.kdv_tup us)).push (HandSPX.excO C h.objs.size), g, d, t, os⟩) :
    codeAny (model prog w) A (.call (.ref C) ⟨us, kw⟩) R ⟨h, g, d, t, os⟩ := by
  have f1 := tc_lookup
  have f2 := tc_bind (.ref C)
  have ty : (⟨h, g, d, t, os⟩ : Shared).TypeIs (.ref C) "type" := ⟨_, hC, rfl⟩
  have ti : PySem.W.Looks (model prog w) h (isInstance (.ref C) (.type "type")) true := by
    unfold isInstance
    exact (PySem.W.Looks.andThen (show PySem.W.Looks (model prog w) h (typeOf (.ref C)) (.type "type") from (PySem.W.Looks.ld hC).andThen .now) (PySem.W.Looks.of_pure tc_sub))
  refine codeAny_of_tree ?_
  show wpAny _ _ (callAny (.ref C) _) _ _ _
  repeat (any_goals (first
    | assumption
    | with_reducible refine wpAny_loadPart_at hC ?_
    | wp_step))
  refine ⟨rfl, ?_⟩
  refine codeAny_call_builtin_at (Code.quiet_builtin _ (by decide +kernel)) entry_typeCall (PySem.W.check_slot tc_kind tc_split ti (PySem.W.tc_args _ _ _) (xcall0 F hT hC hi hb hz ?_))
  refine codeAny_mono hq fun r s' z => ?_
  cases r with
  | error e => exact z
  | ok fl => cases fl <;> exact z
end
section
open Builtin Builtin.ObjectAttr
variable {prog : Program} {w : World} {A : Around} {R : Result → Shared → Prop} {hp : Heap} {g : Array GenState} {d : Drawn} {t : Nat} {os : OsState} {K : PySem.W.Frag} {f : Str} {tk : Tok} {v : Value} {x C dx : Addr} {fv : Array Value} {B : String} {tl : List Value}
theorem xput0 (SF : StoreFacts B tl "object.__setattr__" "object") (X : K.In hp) (hx : hp.get? x = some { cls := .ref C, data := .fields fv }) (ho : PySem.W.excOver K C tl = true) (ht : PySem.W.takerIn K C f = some none) (hh : PySem.W.hasDictIn K C = true)
    (hq : ∀ h' tk' dx, (∀ b o, b ≠ x → hp.get? b = some o → h'.get? b = some o) → hp.objs.size ≤ dx → dx ≠ x → h'.get? x = some { cls := .ref C, dict := some dx, data := .fields fv } →
      h'.Ns1 dx (fun y => if y = f then some v else none) → R (.ok (.ret .none)) ⟨h', g, d, tk', os⟩) :
    codeAny (model prog w) A (.call (.builtin "object.__setattr__") ⟨[.ref x, .str f tk, v], []⟩) R ⟨hp, g, d, t, os⟩ := by
  have ne : x ≠ hp.objs.size := Nat.ne_of_lt (Heap.lt_size hx)
  refine PySem.W.osa_openX (s := ⟨hp, g, d, t, os⟩) (od := none) SF X ⟨hx, rfl, rfl, trivial⟩ ho ht fun b => ?_
  obtain ⟨cd, hcd, hdi⟩ := PySem.W.any_some hh
  have lc : PySem.W.Looks (model prog w) hp (classData C) cd := PySem.W.looks_clsIn X hcd
  obtain ⟨nm, bs, mro, ns, qn, hd, sn, sb, ab, col, del⟩ := cd
  dsimp only at hdi
  subst hdi
  show wpAny _ _ (storeInOwnDict (.ref x) (.ref C) (.str f tk) f v b) _ _ _
  unfold storeInOwnDict ownDictForStores
  repeat (first
    | with_reducible refine HandSPX.store_in_new ?_ ?_
    | with_reducible refine lc.at ?_
    | with_reducible refine wpAny_loadPart_at hx ?_
    | wp_step)
  · exact ⟨_, #[], _, (Heap.get?_update_ne _ _ _ _ ne.symm).trans (Heap.get?_push_at rfl rfl), rfl, fun e he => absurd he (by simp), fun _ => rfl⟩
  · intro h' tk' hn hs
    have hx1 : (hp.push { cls := .type "dict", data := .dict #[] }).get? x = some { cls := .ref C, data := .fields fv } := Heap.get?_push_of_some _ hx
    refine hq h' tk' hp.objs.size (fun b o hb ho => ?_) (Nat.le_refl _) ne.symm ?_ hn
    · exact (hs.2 b (Nat.ne_of_lt (Heap.lt_size ho))).trans ((Heap.get?_update_ne _ _ _ _ hb).trans (Heap.get?_push_of_some _ ho))
    · exact (hs.2 x ne).trans (Heap.get?_update_self _ hx1 rfl)
theorem xput1 {m0 : Str → Option Value} {nl : List Str} (SF : StoreFacts B tl "object.__setattr__" "object") (X : K.In hp) (hx : hp.get? x = some { cls := .ref C, dict := some dx, data := .fields fv }) (hns : hp.Ns1 dx m0) (hw : Within m0 nl) (hz : nl.length ≤ 1000)
    (ho : PySem.W.excOver K C tl = true) (ht : PySem.W.takerIn K C f = some none) (hh : PySem.W.hasDictIn K C = true)
    (hq : ∀ h' tk', (∀ b o, b ≠ dx → hp.get? b = some o → h'.get? b = some o) → h'.Ns1 dx (fun y => if y = f then some v else m0 y) → R (.ok (.ret .none)) ⟨h', g, d, tk', os⟩) :
    codeAny (model prog w) A (.call (.builtin "object.__setattr__") ⟨[.ref x, .str f tk, v], []⟩) R ⟨hp, g, d, t, os⟩ := by
  obtain ⟨oD, _, _, hoD, _, _⟩ := hns.count hw
  refine PySem.W.osa_openX (s := ⟨hp, g, d, t, os⟩) (od := some oD) SF X ⟨hx, rfl, rfl, hoD⟩ ho ht fun b => ?_
  obtain ⟨cd, hcd, hdi⟩ := PySem.W.any_some hh
  have lc : PySem.W.Looks (model prog w) hp (classData C) cd := PySem.W.looks_clsIn X hcd
  obtain ⟨nm, bs, mro, ns, qn, hd, sn, sb, ab, col, del⟩ := cd
  dsimp only at hdi
  subst hdi
  show wpAny _ _ (storeInOwnDict (.ref x) (.ref C) (.str f tk) f v b) _ _ _
  unfold storeInOwnDict ownDictForStores
  repeat (first
    | with_reducible refine OEX.store_in_old hns hw hz ?_
    | with_reducible refine lc.at ?_
    | with_reducible refine wpAny_loadPart_at hx ?_
    | wp_step)
  intro h' tk' hn hs
  exact hq h' tk' (fun b o hb ho => (hs.2 b hb).trans ho) hn
end
end Mi
namespace Mi
open PySem PySem.Spec PyProof.Rows L2
variable [LamTabs]
structure KTab (K : PySem.W.Frag) (w : World) (d : Addr) (tbl : List (Str × D)) : Prop where
  kd : ∃ es n, KDict K w d es n
  has : ∀ z, (tbl.lookup z = none ∧ PySem.W.nsIn K d z = some none) ∨ ∃ e u v, tbl.lookup z = some e ∧ PySem.W.nsIn K d z = some (some u) ∧ RelV v u ∧ ∀ wd, Rv K wd v e
noncomputable def EntsAre (K : PySem.W.Frag) : List DictEntry → List (Str × D) → Prop
  | [], [] => True
  | e :: es, (x, d) :: tbl => (∃ t, e.key = .str x t) ∧ (∃ v, RelV v e.val ∧ ∀ wd, Rv K wd v d) ∧ EntsAre K es tbl
  | _, _ => False
theorem ents_find {K : PySem.W.Frag} (z : Str) : ∀ {es : List DictEntry} {tbl : List (Str × D)}, EntsAre K es tbl →
    (tbl.lookup z = none ∧ es.find? (fun e => e.key.isStr z) = none ∧ es.any (fun e => e.refKey) = false) ∨
      ∃ e u v, tbl.lookup z = some e ∧ es.find? (fun e => e.key.isStr z) = some u ∧ RelV v u.val ∧ ∀ wd, Rv K wd v e
  | [], [], _ => .inl ⟨rfl, rfl, rfl⟩
  | e :: es, (x, d) :: tbl, ⟨⟨t, hk⟩, ⟨v, r, g⟩, more⟩ => by
    by_cases hz : x = z
    · subst hz
      refine .inr ⟨d, e, v, ?_, ?_, r, g⟩
      · simp [List.lookup]
      · simp [List.find?, hk, Value.isStr]
    · have h1 : (z == x) = false := beq_eq_false_iff_ne.2 fun h => hz h.symm
      have h2 : (x == z) = false := beq_eq_false_iff_ne.2 hz
      have h3 : e.key.isStr z = false := by rw [hk]; exact h2
      have h4 : e.refKey = false := by
        unfold DictEntry.refKey
        rw [hk]
      rcases ents_find z more with ⟨a, b, c⟩ | ⟨e2, u, v2, a, b, c, k⟩
      · exact .inl ⟨by simp [List.lookup, h1, a], by simp [List.find?, h3, b], by simp [h4, c]⟩
      · exact .inr ⟨e2, u, v2, by simp [List.lookup, h1, a], by simp [List.find?, h3, b], c, k⟩
  | [], _ :: _, h => h.elim
  | _ :: _, [], h => h.elim
theorem ktab_of {K : PySem.W.Frag} {w : World} {d : Addr} {es : Array DictEntry} {n : Nat} {tbl : List (Str × D)} (D : KDict K w d es n) (h : EntsAre K es.toList tbl) : KTab K w d tbl := by
  refine ⟨⟨es, n, D⟩, fun z => ?_⟩
  rcases ents_find z h with ⟨a, b, c⟩ | ⟨e, u, v, a, b, c, k⟩
  · refine .inl ⟨a, ?_⟩
    unfold PySem.W.nsIn
    rw [D.at_]
    simp only [b, c]
    rfl
  · refine .inr ⟨e, u.val, v, a, ?_, c, k⟩
    unfold PySem.W.nsIn
    rw [D.at_]
    simp only [b]
/-- a tuple of the module's texts -/
theorem rv_ktup {K : PySem.W.Frag} {a : Addr} {its : Array Value} {n : Nat} {o : Option Addr} {sl : Array (Option Value)} {ds : List D} (h : K.lookup a = some ⟨.type "tuple", o, .seq its n, sl⟩) (hl : its.size ≤ 1000)
    (hv : ∃ vs, Vals vs its.toList ∧ ∀ wd, RvL K wd vs ds) (wd : Wd) : Rv K wd (.ref a) (.tup ds) := by
  obtain ⟨vs, h1, h2⟩ := hv
  exact .tup (.inr ⟨_, _, _, h, rfl, rfl, Nat.le_trans hl (by decide), h1⟩) (h2 wd)
noncomputable def kdIx (tbl : List (Str × D)) : D → M D
  | .str z => match tbl.lookup z with
    | some d => M.pure d
    | none => bad
  | _ => bad
section
variable {X : Cx} {E : EK} {a : Expr} {m : Env → M D} {x : Str} {p pos : Pos} {tbl : List (Str × D)}
theorem me_ixKd (hg : Gl X x) (hm : ∃ c, X.mg x = some (.ref c) ∧ KTab X.K X.w c tbl) (ha : PE X a (tM X.K E m)) (hs : PlainIx a) (hd : (x == ("__debug__" : Str)) = false := by decide) :
    PE X (.Subscript (.Name x p) a pos) (tM X.K E (b1 (kdIx tbl) m)) := by
  obtain ⟨c, hm, T⟩ := hm
  obtain ⟨es, n, D⟩ := T.kd
  refine pe_imp (pe_ix ix_kdict (pe_glob (v := .ref c) hg hm rfl hd) ha hs) fun σ H Q ⟨w, S, ρ, hs, hn, h⟩ => ⟨w, S, ρ, hs, hn, h.bind.imp fun w1 S1 H1 d l1 s1 q v rv => ?_⟩
  cases d with
  | str z =>
    cases rv
    rcases T.has z with ⟨e1, e2⟩ | ⟨e, u, v0, e1, e2, e3, e4⟩
    · simp only [kdIx, e1] at q
      exact q.elim
    · simp only [kdIx, e1] at q
      have q := Fin.ok (P := fun w' _ H' d => ∀ v, Rv X.K w' v d → Q v H') q s1 _ (e4 w1)
      exact ⟨c, z, v0, rfl, rfl, ⟨es, n, u, D.at_, D.lit, e2, e3⟩, q⟩
  | _ => exact q.elim
end
end Mi
namespace Mi
open PySem PySem.Spec PyProof.Rows L2
variable [LamTabs]
section
variable {κ : Type} [DecidableEq κ]
noncomputable def valD (kvs : List (κ × D)) (k : κ) : Option D := (kvs.find? fun p => decide (p.1 = k)).map (·.2)
noncomputable def putD (kvs : List (κ × D)) (k : κ) (v : D) : List (κ × D) := if kvs.any (fun p => decide (p.1 = k)) then kvs.map (fun p => if p.1 = k then (p.1, v) else p) else kvs ++ [(k, v)]
theorem RvP.length {K : PySem.W.Frag} {w : Wd} : ∀ {vs : List (κ × V)} {ds : List (κ × D)}, RvP K w vs ds → vs.length = ds.length
  | _, _, .nil => rfl
  | _, _, .cons _ r => by simp [RvP.length r]
theorem RvP.val {K : PySem.W.Frag} {w : Wd} (k : κ) : ∀ {vs : List (κ × V)} {ds : List (κ × D)}, RvP K w vs ds → (valV vs k = none ∧ valD ds k = none) ∨ ∃ v d, valV vs k = some v ∧ valD ds k = some d ∧ Rv K w v d
  | _, _, .nil => .inl ⟨rfl, rfl⟩
  | (x, v) :: vs, (_, d) :: ds, .cons h r => by
    by_cases e : x = k
    · exact .inr ⟨v, d, by simp [valV, List.find?, e], by simp [valD, List.find?, e], h⟩
    · rcases RvP.val k r with ⟨a, b⟩ | ⟨v2, d2, a, b, c⟩
      · exact .inl ⟨by simpa [valV, List.find?, e] using a, by simpa [valD, List.find?, e] using b⟩
      · exact .inr ⟨v2, d2, by simpa [valV, List.find?, e] using a, by simpa [valD, List.find?, e] using b, c⟩
theorem RvP.any {K : PySem.W.Frag} {w : Wd} (k : κ) : ∀ {vs : List (κ × V)} {ds : List (κ × D)}, RvP K w vs ds → vs.any (fun p => decide (p.1 = k)) = ds.any (fun p => decide (p.1 = k))
  | _, _, .nil => rfl
  | _, _, .cons _ r => by simp [RvP.any k r]
theorem RvP.map {K : PySem.W.Frag} {w : Wd} {k : κ} {y : V} {e : D} (hy : Rv K w y e) : ∀ {vs : List (κ × V)} {ds : List (κ × D)}, RvP K w vs ds → RvP K w (vs.map fun p => if p.1 = k then (p.1, y) else p) (ds.map fun p => if p.1 = k then (p.1, e) else p)
  | _, _, .nil => .nil
  | (x, v) :: vs, (_, d) :: ds, .cons h r => by
    simp only [List.map_cons]
    by_cases q : x = k
    · simp only [q, if_true]; exact .cons hy (RvP.map hy r)
    · simp only [q, if_false]; exact .cons h (RvP.map hy r)
theorem RvP.snoc {K : PySem.W.Frag} {w : Wd} {k : κ} {y : V} {e : D} (hy : Rv K w y e) : ∀ {vs : List (κ × V)} {ds : List (κ × D)}, RvP K w vs ds → RvP K w (vs ++ [(k, y)]) (ds ++ [(k, e)])
  | _, _, .nil => .cons hy .nil
  | _, _, .cons h r => .cons h (RvP.snoc hy r)
theorem RvP.put {K : PySem.W.Frag} {w : Wd} {k : κ} {y : V} {e : D} (hy : Rv K w y e) {vs : List (κ × V)} {ds : List (κ × D)} (r : RvP K w vs ds) : RvP K w (putK vs k y) (putD ds k e) := by
  unfold L2.putK putD
  rw [r.any k]
  split
  · exact r.map hy
  · exact r.snoc hy
end
noncomputable def keyOf : D → Option Key
  | .int i => some (.inl i)
  | .str x => some (.inr x)
  | _ => none
theorem keyOf_go {K : PySem.W.Frag} {w : Wd} {v : V} {d : D} {k : Key} (rv : Rv K w v d) (h : keyOf d = some k) : v = kV k := by
  cases rv <;> (try cases h) <;> rfl
/-- the dict at a cell -/
noncomputable def dctAt (S : Sto) : D → Option (List (Key × D))
  | .ref n => match S[n]? with
    | some (.dct kvs) => some kvs
    | _ => none
  | _ => none
theorem dctAt_go {K : PySem.W.Frag} {w : Wd} {S : Sto} {H : Hp} {v : V} {d : D} {kvs : List (Key × D)} (hs : Rs K w S H) (rv : Rv K w v d) (h : dctAt S d = some kvs) : ∃ n a xs, d = .ref n ∧ v = .ref a ∧ w.A[n]? = some a ∧ H a = some (.dK xs) ∧ RvP K w xs kvs := by
  cases rv with
  | ref hA =>
    rename_i a n
    rcases hc : S[n]? with _ | (⟨ds⟩ | ⟨ds⟩ | ⟨C, ds⟩ | ⟨ds⟩)
    · simp only [dctAt, hc] at h; cases h
    · simp only [dctAt, hc] at h; cases h
    · simp only [dctAt, hc] at h
      cases h
      obtain ⟨xs, h1, h2⟩ := hs.cell n a _ hA hc
      exact ⟨n, a, xs, rfl, rfl, hA, h1, h2⟩
    · simp only [dctAt, hc] at h; cases h
    · simp only [dctAt, hc] at h; cases h
  | _ => cases h
section
variable {X : Cx} {E : EK} {o i a e : Expr} {m mo mi : Env → M D} {pos : Pos}
noncomputable def rInK (neg : Bool) : R2 := fun x y H Q => ∃ a kvs k, x = kV k ∧ y = .ref a ∧ Rd H a (.dK kvs) ∧ Q (.bl (if neg then !(valV kvs k).isSome else (valV kvs k).isSome)) H
theorem op_inK (hu : X.A.units + 1 < cLine) : OpR X (compareOp .In) (rInK false) := fun pins s σ H x y v u Q I rx ry ⟨a, kvs, k, e1, e2, h, q⟩ => by
  subst e1 e2
  cases ry
  exact d_in hu I (.inl ⟨kvs, k, h, rfl, rfl⟩) rx fun s3 I3 => ⟨.bl _, H, I3, rfl, q⟩
theorem op_notInK (hu : X.A.units + 1 < cLine) : OpR X (compareOp .NotIn) (rInK true) := fun pins s σ H x y v u Q I rx ry ⟨a, kvs, k, e1, e2, h, q⟩ => by
  subst e1 e2
  cases ry
  exact d_notIn hu I (.inl ⟨kvs, k, h, rfl, rfl⟩) rx fun s3 I3 => ⟨.bl _, H, I3, rfl, q⟩
/-- a dict that may be read: a locked one too -/
noncomputable def dctRd (S : Sto) : D → Option (List (Key × D))
  | .ref n => match S[n]? with
    | some (.dct kvs) => some kvs
    | some (.fdct kvs) => some kvs
    | _ => none
  | _ => none
theorem dctRd_go {K : PySem.W.Frag} {w : Wd} {S : Sto} {H : Hp} {v : V} {d : D} {kvs : List (Key × D)} (hs : Rs K w S H) (rv : Rv K w v d) (h : dctRd S d = some kvs) : ∃ n a xs, d = .ref n ∧ v = .ref a ∧ w.A[n]? = some a ∧ Rd H a (.dK xs) ∧ RvP K w xs kvs := by
  cases rv with
  | ref hA =>
    rename_i a n
    rcases hc : S[n]? with _ | (⟨ds⟩ | ⟨ds⟩ | ⟨C, ds⟩ | ⟨ds⟩)
    · simp only [dctRd, hc] at h; cases h
    · simp only [dctRd, hc] at h; cases h
    · simp only [dctRd, hc] at h
      cases h
      obtain ⟨xs, h1, h2⟩ := hs.cell n a _ hA hc
      exact ⟨n, a, xs, rfl, rfl, hA, .inl h1, h2⟩
    · simp only [dctRd, hc] at h; cases h
    · simp only [dctRd, hc] at h
      cases h
      obtain ⟨o, xs, h0, h1, h2⟩ := hs.cell n a _ hA hc
      exact ⟨n, a, xs, rfl, rfl, hA, .inr ⟨o, h1⟩, h2⟩
  | _ => cases h
noncomputable def inD (neg : Bool) (x y : D) : M D := fun S => match dctRd S y with
  | some kvs => match keyOf x with
    | some k => some (.ok (.bl (if neg then !(valD kvs k).isSome else (valD kvs k).isSome)), S)
    | none => none
  | none => inB neg x y S
theorem inD_ok {K : PySem.W.Frag} {neg : Bool} : OpM K (fun x y H Q => rInK neg x y H Q ∨ rInU K neg x y H Q) (inD neg) := fun E w S H v u x y Q hs rv ru h => by
  rcases h1 : dctRd S y with _ | kvs
  · simp only [inD, h1] at h
    exact .inr (inB_ok E w S H v u x y Q hs rv ru h)
  · rcases h2 : keyOf x with _ | k
    · simp only [inD, h1, h2] at h; exact h.elim
    · simp only [inD, h1, h2] at h
      obtain ⟨n, a, xs, rfl, rfl, hA, hx, rx⟩ := dctRd_go hs ru h1
      have q := Fin.ok (P := fun w' _ H' d => ∀ z, Rv K w' z d → Q z H') h hs _ (.bl _)
      refine .inl ⟨a, xs, k, keyOf_go rv h2, rfl, hx, ?_⟩
      have e : (valV xs k).isSome = (valD kvs k).isSome := by
        rcases rx.val k with ⟨a, b⟩ | ⟨v2, d2, a, b, c⟩
        · rw [a, b]; rfl
        · rw [a, b]; rfl
      rw [e]
      exact q
theorem op_inDU (hu : X.A.units + 1 < cLine) : OpR X (compareOp .In) (fun x y H Q => rInK false x y H Q ∨ rInU X.K false x y H Q) := OpR.or (op_inK hu) op_inU
theorem op_ninDU (hu : X.A.units + 1 < cLine) : OpR X (compareOp .NotIn) (fun x y H Q => rInK true x y H Q ∨ rInU X.K true x y H Q) := OpR.or (op_notInK hu) op_ninU
noncomputable def rIxK : R2 := fun x y H Q => ∃ a kvs k z, x = .ref a ∧ y = kV k ∧ Rd H a (.dK kvs) ∧ valV kvs k = some z ∧ Q z H
theorem ix_dictK (hu : X.A.units + 1 < cLine) : IxR X rIxK := fun value slice pins s σ H x y v u Q I rx ry ⟨a, kvs, k, z, e1, e2, h, hz, q⟩ hs => by
  subst e1 e2
  obtain rfl : v = Value.ref a := rx
  have g : DGet H a (kV k) (some z) := by rw [← hz]; exact .inl ⟨kvs, k, h, rfl, rfl⟩
  exact tail_any (dict_typeIs I g) PySem.F.slot_dict_getitem.lookup (d_getItem hu I g ry fun w' s3 I3 rw' => ⟨z, H, I3, rw', q⟩) hs
noncomputable def ixD (x y : D) : M D := fun S => match dctRd S x with
  | some kvs => match keyOf y with
    | some k => match valD kvs k with
      | some d => some (.ok d, S)
      | none => none
    | none => none
  | none => ixM x y S
theorem ixD_ok {K : PySem.W.Frag} : OpM K (fun x y H Q => rIxK x y H Q ∨ rIx K x y H Q) ixD := fun E w S H v u x y Q hs rv ru h => by
  rcases h1 : dctRd S x with _ | kvs
  · simp only [ixD, h1] at h
    exact .inr (ixM_ok E w S H v u x y Q hs rv ru h)
  · rcases h2 : keyOf y with _ | k
    · simp only [ixD, h1, h2] at h; exact h.elim
    · rcases h3 : valD kvs k with _ | d
      · simp only [ixD, h1, h2, h3] at h; exact h.elim
      · simp only [ixD, h1, h2, h3] at h
        obtain ⟨n, a, xs, rfl, rfl, hA, hx, rx⟩ := dctRd_go hs rv h1
        rcases rx.val k with ⟨a, b⟩ | ⟨v2, d2, a2, b, c⟩
        · rw [h3] at b; cases b
        · rw [h3] at b
          cases b
          exact .inl ⟨a, xs, k, v2, rfl, keyOf_go ru h2, hx, a2, Fin.ok (P := fun w' _ H' d => ∀ z, Rv K w' z d → Q z H') h hs _ c⟩
theorem me_itemD (hu : X.A.units + 1 < cLine) (ha : PE X o (tM X.K E mo)) (hb : PE X i (tM X.K E mi)) (hs : PlainIx i) : PE X (.Subscript o i pos) (tM X.K E (b2 ixD mo mi)) := me_ix ((ix_dictK hu).or ix_seq) ixD_ok ha hb hs
noncomputable def rSetK : TSet := fun o i v H Q => ∃ a kvs k, o = .ref a ∧ i = kV k ∧ H a = some (.dK kvs) ∧ kvs.length < sizeLine ∧ Q (upd H a (.dK (putK kvs k v)))
theorem set_dictK (hu : X.A.units + 1 < cLine) : PSet X rSetK := fun pins s σ H o i v ov iv u Q I ro ri ru ⟨a, kvs, k, e1, e2, h, hl, q⟩ => by
  subst e1 e2
  obtain rfl : ov = Value.ref a := ro
  exact d_setItem hu I (DPut.k h hl) ri ru fun s4 I4 => ⟨_, I4, q⟩
theorem PSet.or {t t' : TSet} (h : PSet X t) (h' : PSet X t') : PSet X (fun o i v H Q => t o i v H Q ∨ t' o i v H Q) := fun pins s σ H o i v ov iv u Q I ro ri ru q => by
  rcases q with q | q
  · exact h pins s σ H o i v ov iv u Q I ro ri ru q
  · exact h' pins s σ H o i v ov iv u Q I ro ri ru q
noncomputable def putDM (o : D) (i : D) (v : D) (ρ : Env) : M Env := fun S => match o with
  | .ref n => match S[n]? with
    | some (.dct kvs) => match keyOf i with
      | some k => if kvs.length < 100000 then some (.ok ρ, S.set n (.dct (putD kvs k v))) else none
      | none => none
    | _ => putM o i v ρ S
  | _ => none
noncomputable def gPutD (mo mi : Env → M D) : D → Env → M Env := fun v ρ => M.bind (mo ρ) fun o => M.bind (mi ρ) fun i => putDM o i v ρ
theorem mg_subD (hu : X.A.units + 1 < cLine) (ho : PE X o (tM X.K E mo)) (hi : PE X i (tM X.K E mi))
    (ha : ∀ v, assign (.Subscript o i pos) X.env v = (do
      let ov ← holding [v] (eval o X.env)
      let iv ← holding [v, ov] (eval i X.env)
      standAt pos
      holding [v, ov, iv] (setItem ov iv v)
      release [v, ov, iv] []) := by intro _; rfl) : PG X (.Subscript o i pos) (gM X.K E (gPutD mo mi)) :=
  pg_imp (pg_sub ho hi (Mi.PSet.or (set_dictK hu) set_list) ha) fun v σ H Q ⟨w, S, ρ, d, hs, hn, rv, h⟩ => ⟨w, S, ρ, hs, hn, h.bind.imp fun w1 S1 H1 x l1 s1 q ov ro => ⟨w1, S1, ρ, s1, hn.mono l1, q.bind.imp fun w2 S2 H2 y l2 s2 q iv ri => by
    have ro2 := ro.mono l2
    cases x with
    | ref n =>
      cases ro2 with
      | ref hA =>
        rename_i a
        rcases hc : S2[n]? with _ | (⟨ds⟩ | ⟨ds⟩ | ⟨C, ds⟩ | ⟨ds⟩)
        · have q : Fin X.K E w2 (putM (.ref n) y d ρ S2) (fun w' _ H' ρ' => ∀ σ', Rn X.K w' σ' ρ' → Q σ' H') := by simpa only [putDM, hc] using q
          have : putM (.ref n) y d ρ S2 = none := by cases y <;> simp [putM, hc]
          rw [this] at q
          exact q.elim
        · have q : Fin X.K E w2 (putM (.ref n) y d ρ S2) (fun w' _ H' ρ' => ∀ σ', Rn X.K w' σ' ρ' → Q σ' H') := by simpa only [putDM, hc] using q
          cases y with
          | int k =>
            cases ri
            rcases hj : ixN ds.length k with _ | j
            · simp only [putM, hc, hj] at q; exact q.elim
            · simp only [putM, hc, hj] at q
              obtain ⟨xs, h1, h2⟩ := s2.cell n _ _ hA hc
              refine .inr ⟨_, xs, k, j, rfl, rfl, h1, by rw [h2.length]; exact hj, ?_⟩
              exact q w2 _ (Le.refl w2) (s2.put hA h1 (by intro _ _ z; cases z) ⟨_, upd_same, h2.set (rv.mono (l1.trans l2)) j⟩) σ (hn.mono (l1.trans l2))
          | _ => exact q.elim
        · rcases hk : keyOf y with _ | k
          · simp only [putDM, hc, hk] at q; exact q.elim
          · by_cases hl : ds.length < 100000
            · simp only [putDM, hc, hk, hl, if_true] at q
              obtain ⟨xs, h1, h2⟩ := s2.cell n _ _ hA hc
              refine .inl ⟨a, xs, k, rfl, keyOf_go ri hk, h1, sz_lt (by rw [h2.length]; exact hl), ?_⟩
              exact q w2 _ (Le.refl w2) (s2.put hA h1 (by intro _ _ z; cases z) ⟨_, upd_same, h2.put (rv.mono (l1.trans l2))⟩) σ (hn.mono (l1.trans l2))
            · simp only [putDM, hc, hk, hl, if_false] at q; exact q.elim
        · have q : Fin X.K E w2 (putM (.ref n) y d ρ S2) (fun w' _ H' ρ' => ∀ σ', Rn X.K w' σ' ρ' → Q σ' H') := by simpa only [putDM, hc] using q
          have : putM (.ref n) y d ρ S2 = none := by cases y <;> simp [putM, hc]
          rw [this] at q
          exact q.elim
        · have q : Fin X.K E w2 (putM (.ref n) y d ρ S2) (fun w' _ H' ρ' => ∀ σ', Rn X.K w' σ' ρ' → Q σ' H') := by simpa only [putDM, hc] using q
          have : putM (.ref n) y d ρ S2 = none := by cases y <;> simp [putM, hc]
          rw [this] at q
          exact q.elim
    | _ => exact q.elim⟩⟩
noncomputable def newD : M D := fun S => some (.ok (.ref S.length), S ++ [.dct []])
noncomputable def lenD (d : D) : M D := fun S => match dctAt S d with
  | some kvs => some (.ok (.int (kvs.length : Int)), S)
  | none => lenM d S
theorem lenD_ok {K : PySem.W.Frag} : CaM K (fun xs H Q => (∃ a kvs, xs = [V.ref a] ∧ H a = some (.dK kvs) ∧ Q (.int kvs.length) H) ∨ ∃ x n, xs = [x] ∧ LenV K x H n ∧ Q (.int (n : Nat)) H) (on1 lenD) := on1_ok fun E w S H v x Q hs rv h => by
  rcases h1 : dctAt S x with _ | kvs
  · simp only [lenD, h1] at h
    exact .inr (lenM_ok E w S H [v] [x] Q hs (.one rv) h)
  · simp only [lenD, h1] at h
    obtain ⟨n, a, xs, rfl, rfl, hA, hx, rx⟩ := dctAt_go hs rv h1
    exact .inl ⟨a, xs, rfl, hx, Fin.ok (P := fun w' _ H' d => ∀ z, Rv K w' z d → Q z H') h hs _ (by rw [rx.length]; exact .int _)⟩
theorem call_lenDU : CallR X (.builtin "len") (fun xs H Q => (∃ a kvs, xs = [V.ref a] ∧ H a = some (.dK kvs) ∧ Q (.int kvs.length) H) ∨ ∃ x n, xs = [x] ∧ LenV X.K x H n ∧ Q (.int (n : Nat)) H) := CallR.or call_lenD call_len
end
end Mi
namespace Mi
open PySem PySem.Spec PyProof.Rows L2
variable [LamTabs]
theorem ClN.inj {K : PySem.W.Frag} {c : Str} {C C' : Addr} (h : ClN K c C) (h' : ClN K c C') : C = C' := by
  have e := h.symm.trans h'
  injection e with e
  injection e with e
  injection e
noncomputable def insAt (S : Sto) : D → Option (Str × List (Str × D))
  | .ref n => match S[n]? with
    | some (.ins c fs) => some (c, fs)
    | _ => none
  | _ => none
theorem RvP.look {K : PySem.W.Frag} {w : Wd} (f : Str) : ∀ {vs : List (Str × V)} {ds : List (Str × D)}, RvP K w vs ds → (vs.lookup f = none ∧ ds.lookup f = none) ∨ ∃ v d, vs.lookup f = some v ∧ ds.lookup f = some d ∧ Rv K w v d
  | _, _, .nil => .inl ⟨rfl, rfl⟩
  | (x, v) :: vs, (_, d) :: ds, .cons h r => by
    rw [List.lookup_cons, List.lookup_cons]
    cases f == x with
    | true => exact .inr ⟨v, d, rfl, rfl, h⟩
    | false => exact RvP.look f r
end Mi
namespace Mi
open PySem PySem.Spec PyProof.Rows L2
variable [LamTabs]
noncomputable def metM (c m : Str) (n : Nat) (f : List D → M D) (mo : Env → M D) (ma : Env → M (List D)) : Env → M D := fun ρ => M.bind (mo ρ) fun x => fun S => match insAt S x with
  | some (c', fs) => if c' = c ∧ (fs.lookup m).isNone then (M.bind (ma ρ) fun xs => if xs.length + 1 = n then f (x :: xs) else bad) S else none
  | none => none
/-- a class of the text, and its __init__ with what it promises -/
structure InitAt (P : Program) (w : World) (K : PySem.W.Frag) (mg : Str → Option Value) (base : Heap) (k : Nat) (c qual : Str) (st : Stmt) (ps : List Str) (f : List D → M D) : Prop where
  ex : ∃ (C fa : Addr) (fd : FuncData), ClN K c C ∧ mg c = some (.ref C) ∧ Mk K C fa ∧ Fun K "__init__" qual st fa fd ∧ Binds K fd ps [] ∧ FnOk P w K mg base CX0 k fa fd ps (spM K ps.length f)
structure IniAt (K : PySem.W.Frag) (mg : Str → Option Value) (c qual : Str) (st : Stmt) (ps : List Str) : Prop where
  ex : ∃ (C fa : Addr) (fd : FuncData), ClN K c C ∧ mg c = some (.ref C) ∧ Mk K C fa ∧ Fun K "__init__" qual st fa fd ∧ Binds K fd ps []
/-- a method of a class -/
structure OkMt (P : Program) (w : World) (K : PySem.W.Frag) (mg : Str → Option Value) (base : Heap) (k : Nat) (c m qual : Str) (st : Stmt) (ps : List Str) (f : List D → M D) : Prop where
  ex : ∃ (C fa : Addr) (fd : FuncData), ClN K c C ∧ Cls K C ∧ Meth K C m fa ∧ Fun K m qual st fa fd ∧ Binds K fd ps [] ∧ FnOk P w K mg base CX0 k fa fd ps (spM K ps.length f)
structure MtAt (K : PySem.W.Frag) (c m qual : Str) (st : Stmt) (ps : List Str) : Prop where
  ex : ∃ (C fa : Addr) (fd : FuncData), ClN K c C ∧ Cls K C ∧ Meth K C m fa ∧ Fun K m qual st fa fd ∧ Binds K fd ps []
section
variable {P : Program} {w : World} {K : PySem.W.Frag} {mg : Str → Option Value} {base : Heap} {c m qual : Str} {st : Stmt} {ps N : List Str} {k : Nat} {ms : Env → M (Fl × Env)}
theorem InitAt.of {n : Nat} (hn : N.length = n) (D : IniAt K mg c qual st ps) (sc : FnScope N ps (defScope st)) (hb : ∀ (fa : Addr) (cdv : Value) (A : Around) (outer : List PySem.Env) (s : Shared) (H : Hp) (E : XK), Room k (A.deeper (envOfC qual (defScope st) s.heap.objs.size fa cdv)) →
    PSs (cxOf CX0 P w K mg base N qual (defScope st) fa cdv A outer s H E).nox (defBody st) (tMs K EK0 ms)) : InitAt P w K mg base (k + 1) c qual st ps (runM n ms) := by
  subst hn
  obtain ⟨C, fa, fd, h1, h2, h3, F, b⟩ := D.ex
  exact ⟨C, fa, fd, h1, h2, h3, F, b, F.ok sc (spM_len rfl) fun cdv A outer s H vs Q E hr h => ⟨_, hb fa cdv A outer s H E hr, body_go h⟩⟩
theorem OkMt.of {n : Nat} (hn : N.length = n) (D : MtAt K c m qual st ps) (sc : FnScope N ps (defScope st)) (hb : ∀ (fa : Addr) (cdv : Value) (A : Around) (outer : List PySem.Env) (s : Shared) (H : Hp) (E : XK), Room k (A.deeper (envOfC qual (defScope st) s.heap.objs.size fa cdv)) →
    PSs (cxOf CX0 P w K mg base N qual (defScope st) fa cdv A outer s H E).nox (defBody st) (tMs K EK0 ms)) : OkMt P w K mg base (k + 1) c m qual st ps (runM n ms) := by
  subst hn
  obtain ⟨C, fa, fd, h1, h2, h3, F, b⟩ := D.ex
  exact ⟨C, fa, fd, h1, h2, h3, F, b, F.ok sc (spM_len rfl) fun cdv A outer s H vs Q E hr h => ⟨_, hb fa cdv A outer s H E hr, body_go h⟩⟩
end
section
variable {X : Cx} {a o : Expr} {es : List Expr} {mas : Env → M (List D)} {mo : Env → M D} {c m qual : Str} {p pos apos : Pos} {k : Nat} {st : Stmt} {ps : List Str} {f : List D → M D}
structure OkPr (P : Program) (w : World) (K : PySem.W.Frag) (mg : Str → Option Value) (base : Heap) (k : Nat) (c m qual : Str) (st : Stmt) (f : List D → M D) : Prop where
  ex : ∃ (C p fa : Addr) (fd : FuncData), ClN K c C ∧ Cls K C ∧ PropOf K C m p fa ∧ Fun K m qual st fa fd ∧ Binds K fd ["self"] [] ∧ FnOk P w K mg base CX0 k fa fd ["self"] (spM K 1 f)
structure PrAt (K : PySem.W.Frag) (c m qual : Str) (st : Stmt) : Prop where
  ex : ∃ (C p fa : Addr) (fd : FuncData), ClN K c C ∧ Cls K C ∧ PropOf K C m p fa ∧ Fun K m qual st fa fd ∧ Binds K fd ["self"] []
theorem OkPr.of {P : Program} {w : World} {K : PySem.W.Frag} {mg : Str → Option Value} {base : Heap} {N : List Str} {ms : Env → M (Fl × Env)} {n : Nat} (hn : N.length = n) (D : PrAt K c m qual st) (sc : FnScope N ["self"] (defScope st)) (hb : ∀ (fa : Addr) (cdv : Value) (A : Around) (outer : List PySem.Env) (s : Shared) (H : Hp) (E : XK), Room k (A.deeper (envOfC qual (defScope st) s.heap.objs.size fa cdv)) →
    PSs (cxOf CX0 P w K mg base N qual (defScope st) fa cdv A outer s H E).nox (defBody st) (tMs K EK0 ms)) : OkPr P w K mg base (k + 1) c m qual st (runM n ms) := by
  subst hn
  obtain ⟨C, p, fa, fd, h1, h2, h3, F, b⟩ := D.ex
  exact ⟨C, p, fa, fd, h1, h2, h3, F, b, F.ok sc (spM_len rfl) fun cdv A outer s H vs Q E hr h => ⟨_, hb fa cdv A outer s H E hr, body_go h⟩⟩
end
end Mi
namespace Mi
open PySem PySem.Spec PyProof.Rows L2
variable [LamTabs]
noncomputable def spR (K : PySem.W.Frag) (f : List D → M D) : Sp := fun vs H Q _ => ∃ w S ds, Rs K w S H ∧ RvL K w vs ds ∧ Fin K EK0 w (f ds S) fun w' _ H' d => ∀ v, Rv K w' v d → Q v H'
noncomputable def fixM (n : Nat) (f : List D → M D) : List D → M D := fun ds => if ds.length = n then f ds else bad
theorem fix_go {K : PySem.W.Frag} {n : Nat} {f : List D → M D} (vs : List V) (H : Hp) (Q : VK) (E : XK) (h : spR K (fixM n f) vs H Q E) : spM K n f (vs ++ []) H Q E := by
  obtain ⟨w, S, ds, hs, rv, h⟩ := h
  by_cases hl : ds.length = n
  · simp only [fixM, hl, if_true] at h
    rw [List.append_nil]
    exact ⟨rv.length.trans hl, w, S, ds, hs, rv, h⟩
  · simp only [fixM, hl, if_false] at h
    exact h.elim
/-- a class that may be made, by what its __init__ promises of positional values -/
structure InitR (P : Program) (w : World) (K : PySem.W.Frag) (mg : Str → Option Value) (base : Heap) (k : Nat) (c : Str) (f : List D → M D) : Prop where
  ex : ∃ (C fa : Addr), ClN K c C ∧ mg c = some (.ref C) ∧ Mk K C fa ∧ FnR P w K mg base CX0 k fa (spR K f)
theorem InitAt.r {P : Program} {w : World} {K : PySem.W.Frag} {mg : Str → Option Value} {base : Heap} {k n : Nat} {c qual : Str} {st : Stmt} {ps : List Str} {f : List D → M D} (O : InitAt P w K mg base k c qual st ps f) (hn : ps.length = n) : InitR P w K mg base k c (fixM n f) := by
  subst hn
  obtain ⟨C, fa, fd, h1, h2, h3, F, b, ok⟩ := O.ex
  exact ⟨C, fa, h1, h2, h3, (ok.raw b .nil).imp fix_go⟩
end Mi
namespace Mi
open PySem PySem.Spec PyProof.Rows L2
variable [LamTabs]
structure OkMd (P : Program) (w : World) (K : PySem.W.Frag) (mg : Str → Option Value) (base : Heap) (k : Nat) (c m : Str) (n : Nat) (ks : List Str) (dd : List D) (f : List D → M D) : Prop where
  ex : ∃ (C fa : Addr) (fd : FuncData) (ps : List Str) (dvs : List V) (ds : List Value), ClN K c C ∧ Cls K C ∧ Meth K C m fa ∧ Binds K fd ps ds ∧ Vals dvs ds ∧ (∀ w, RvL K w dvs dd) ∧ KBn K fd ps n ks (fun us ws => us ++ ws) (fun vs zs => vs ++ zs) ∧
    ps.length = n + ks.length ∧ dd.length = ks.length ∧ FnOk P w K mg base CX0 k fa fd ps (spM K ps.length f)
structure MdAt (K : PySem.W.Frag) (c m qual : Str) (st : Stmt) (ps : List Str) (n : Nat) (ks : List Str) (dd : List D) : Prop where
  ex : ∃ (C fa : Addr) (fd : FuncData) (dvs : List V) (ds : List Value) (kws : List (Str × V)), ClN K c C ∧ Cls K C ∧ Meth K C m fa ∧ Binds K fd ps ds ∧ Vals dvs ds ∧ (∀ w, RvL K w dvs dd) ∧ KBn K fd ps n ks (fun us ws => us ++ ws) (fun vs zs => vs ++ zs) ∧
    ps.length = n + ks.length ∧ dd.length = ks.length ∧ FunD K m qual (defArgs st) (defBody st) (defScope st) [] kws fa fd ∧ kws ≠ []
theorem OkMd.of {P : Program} {w : World} {K : PySem.W.Frag} {mg : Str → Option Value} {base : Heap} {c m qual : Str} {st : Stmt} {ps N ks : List Str} {dd : List D} {k n j : Nat} {ms : Env → M (Fl × Env)} (hn : N.length = j) (D : MdAt K c m qual st ps n ks dd) (sc : FnScope N ps (defScope st))
    (hb : ∀ (fa : Addr) (cdv : Value) (A : Around) (outer : List PySem.Env) (s : Shared) (H : Hp) (E : XK), Room k (A.deeper (envOfC qual (defScope st) s.heap.objs.size fa cdv)) →
      PSs (cxOf CX0 P w K mg base N qual (defScope st) fa cdv A outer s H E).nox (defBody st) (tMs K EK0 ms)) : OkMd P w K mg base (k + 1) c m n ks dd (runM j ms) := by
  subst hn
  obtain ⟨C, fa, fd, dvs, ds, kws, h1, h2, h3, b, hv, hd, kb, l1, l2, F, _⟩ := D.ex
  exact ⟨C, fa, fd, ps, dvs, ds, h1, h2, h3, b, hv, hd, kb, l1, l2, F.ok sc (spM_len rfl) fun cdv A outer s H vs Q E hr h => ⟨_, (hb fa cdv A outer s H E hr).nox, body_go h⟩⟩
/-- o.m(.., k = v, ..) -/
noncomputable def metK (c m : Str) (n j : Nat) (f : List D → M D) (mo : Env → M D) (ma mk : Env → M (List D)) : Env → M D := fun ρ => M.bind (mo ρ) fun x => fun S => match insAt S x with
  | some (c', fs) => if c' = c ∧ (fs.lookup m).isNone then (M.bind (ma ρ) fun xs => M.bind (mk ρ) fun zs => if xs.length + 1 = n ∧ zs.length = j then f (x :: xs ++ zs) else bad) S else none
  | none => none
end Mi
namespace Mi
open PySem PySem.Spec PyProof.Rows L2
variable [LamTabs]
noncomputable def maxM : List D → M D
  | [.int i, .int j] => M.pure (.int (if j > i then j else i))
  | _ => bad
theorem maxM_ok {K : PySem.W.Frag} : CaM K (fun xs H Q => ∃ i j, xs = [.int i, .int j] ∧ Q (.int (if j > i then j else i)) H) maxM := fun E w S H vs xs Q hs rv h => by
  unfold maxM at h
  split at h
  · rename_i i j
    cases rv with
    | cons r1 r =>
      cases r with
      | cons r2 r =>
        cases r
        cases r1
        cases r2
        exact ⟨i, j, rfl, Fin.ok (P := fun w' _ H' d => ∀ z, Rv K w' z d → Q z H') h hs _ (.int _)⟩
  · exact h.elim
end Mi
namespace Mi
open PySem PySem.Spec PyProof.Rows L2
variable [LamTabs]
theorem PS.or {X : Cx} {st : Stmt} {t t' : TS} (h : PS X st t) (h' : PS X st t') : PS X st (fun D σ H => t D σ H ∨ t' D σ H) := ⟨fun pins s σ H D I q => by
  rcases q with q | q
  · exact h.run pins s σ H D I q
  · exact h'.run pins s σ H D I q⟩
end Mi
namespace Mi
open PySem PySem.Spec PyProof.Rows L2
variable [LamTabs]
structure OkDk (P : Program) (w : World) (K : PySem.W.Frag) (mg : Str → Option Value) (base : Heap) (k : Nat) (x : Str) (n : Nat) (ks : List Str) (dd : List D) (f : List D → M D) : Prop where
  ex : ∃ (fa : Addr) (fd : FuncData) (ps : List Str) (dvs : List V) (ds : List Value), PySem.W.keepIn K (.ref fa) = true ∧ mg x = some (.ref fa) ∧ Binds K fd ps ds ∧ Vals dvs ds ∧ (∀ w, RvL K w dvs dd) ∧ KBn K fd ps n ks (fun us ws => us ++ ws) (fun vs zs => vs ++ zs) ∧
    ps.length = n + ks.length ∧ dd.length = ks.length ∧ FnOk P w K mg base CX0 k fa fd ps (spM K ps.length f)
structure DkAt (K : PySem.W.Frag) (mg : Str → Option Value) (x : Str) (st : Stmt) (ps : List Str) (n : Nat) (ks : List Str) (dd : List D) : Prop where
  ex : ∃ (fa : Addr) (fd : FuncData) (dvs : List V) (ds : List Value) (kws : List (Str × V)), mg x = some (.ref fa) ∧ Binds K fd ps ds ∧ Vals dvs ds ∧ (∀ w, RvL K w dvs dd) ∧ KBn K fd ps n ks (fun us ws => us ++ ws) (fun vs zs => vs ++ zs) ∧
    ps.length = n + ks.length ∧ dd.length = ks.length ∧ FunD K x x (defArgs st) (defBody st) (defScope st) [] kws fa fd
theorem OkDk.of {P : Program} {w : World} {K : PySem.W.Frag} {mg : Str → Option Value} {base : Heap} {x : Str} {st : Stmt} {ps N ks : List Str} {dd : List D} {k n j : Nat} {ms : Env → M (Fl × Env)} (hn : N.length = j) (D : DkAt K mg x st ps n ks dd) (sc : FnScope N ps (defScope st))
    (hb : ∀ (fa : Addr) (cdv : Value) (A : Around) (outer : List PySem.Env) (s : Shared) (H : Hp) (E : XK), Room k (A.deeper (envOfC x (defScope st) s.heap.objs.size fa cdv)) →
      PSs (cxOf CX0 P w K mg base N x (defScope st) fa cdv A outer s H E).nox (defBody st) (tMs K EK0 ms)) : OkDk P w K mg base (k + 1) x n ks dd (runM j ms) := by
  subst hn
  obtain ⟨fa, fd, dvs, ds, kws, h2, b, hv, hd, kb, l1, l2, F⟩ := D.ex
  exact ⟨fa, fd, ps, dvs, ds, F.kp, h2, b, hv, hd, kb, l1, l2, F.ok sc (spM_len rfl) fun cdv A outer s H vs Q E hr h => ⟨_, (hb fa cdv A outer s H E hr).nox, body_go h⟩⟩
end Mi
namespace Mi
open PySem PySem.Spec PyProof.Rows L2
variable [LamTabs]
noncomputable def setAll : List Nat → List D → Env → Env
  | i :: is, x :: xs, ρ => setAll is xs (ρ.set i (some x))
  | _, _, ρ => ρ
noncomputable def gMany (is : List Nat) : D → Env → M Env := fun d ρ => match d with
  | .tup ds => if ds.length = is.length then M.pure (setAll is ds ρ) else bad
  | _ => bad
noncomputable def namesG : List Nat → TGs
  | [] => gNil
  | i :: is => gCons (gName i) (namesG is)
noncomputable def setAllV : List Nat → List V → L2.St → L2.St
  | i :: is, x :: xs, σ => setAllV is xs (σ.set i (some x))
  | _, _, σ => σ
theorem names_go {H : Hp} {Q : L2.St → Hp → Prop} : ∀ (is : List Nat) (vs : List V) (σ : L2.St), vs.length = is.length → Q (setAllV is vs σ) H → namesG is vs σ H Q
  | [], [], σ, _, q => ⟨rfl, q⟩
  | i :: is, v :: vs, σ, hl, q => ⟨v, vs, rfl, names_go is vs _ (by simpa using hl) q⟩
theorem setAll_rn {K : PySem.W.Frag} {w : Wd} : ∀ (is : List Nat) {vs : List V} {ds : List D} {σ : L2.St} {ρ : Env}, RvL K w vs ds → Rn K w σ ρ → Rn K w (setAllV is vs σ) (setAll is ds ρ)
  | [], _, _, _, _, _, hn => by
    rename_i vs ds _ _ _
    cases vs <;> cases ds <;> exact hn
  | i :: is, _, _, _, _, .nil, hn => hn
  | i :: is, _, _, _, _, .cons r rr, hn => setAll_rn is rr (hn.set r)
theorem gMany_go {K : PySem.W.Frag} {w : Wd} {S : Sto} {H : Hp} {v : V} {d : D} {σ : L2.St} {ρ : Env} {E : EK} {is : List Nat} {n : Nat} {P : Wd → Sto → Hp → Env → Prop} {Q : L2.St → Hp → Prop} (hs : Rs K w S H) (hl : is.length = n) (rv : Rv K w v d)
    (h : Fin K E w (gMany is d ρ S) P) (k : ∀ vs ds, RvL K w vs ds → P w S H (setAll is ds ρ) → Q (setAllV is vs σ) H) : gTup K n (namesG is) v σ H Q := by
  cases d with
  | tup ds =>
    unfold gMany at h
    by_cases hd : ds.length = is.length
    · simp only [if_pos hd] at h
      obtain ⟨a, xs, rfl, hq, rx⟩ := tup_go hs rv
      exact ⟨a, xs, rfl, hq, by rw [rx.length, hd, hl], names_go is xs σ (by rw [rx.length, hd]) (k xs ds rx (Fin.ok h hs))⟩
    · simp only [if_neg hd] at h
      exact h.elim
  | _ => exact h.elim
theorem mg_many {X : Cx} {E : EK} {es : List Expr} {kk : Nat} {tpos : Pos} {is : List Nat} {n : Nat} (hl : is.length = n) (h : PG X (.Tuple es kk tpos) (gTup X.K n (namesG is))) : PG X (.Tuple es kk tpos) (gM X.K E (gMany is)) :=
  ⟨fun pins s σ H v u Q I ru ⟨w, S, ρ, d, hs, hn, rv, q⟩ => h.run pins s σ H v u Q I ru (gMany_go hs hl rv q fun vs ds r p => p _ (setAll_rn is r hn))⟩
end Mi
namespace Mi
open PySem PySem.Spec PyProof.Rows L2
variable [LamTabs]
section
variable {κ : Type} [DecidableEq κ]
noncomputable def dropD (kvs : List (κ × D)) (k : κ) : List (κ × D) := kvs.filter fun kv => decide (kv.1 ≠ k)
theorem RvP.drop {K : PySem.W.Frag} {w : Wd} {k : κ} : ∀ {vs : List (κ × V)} {ds : List (κ × D)}, RvP K w vs ds → RvP K w (dropK vs k) (dropD ds k)
  | _, _, .nil => .nil
  | _, _, .cons (x := k') (vs := vs) (ds := ds) r rr => by
    have ih := RvP.drop (k := k) rr
    by_cases h : k' = k
    · have e1 : ∀ {α : Type} (x : α) (l : List (κ × α)), ((k', x) :: l).filter (fun kv => decide (kv.1 ≠ k)) = l.filter fun kv => decide (kv.1 ≠ k) := fun x l => by simp [h]
      unfold dropK dropD
      rw [e1, e1]
      exact ih
    · have e1 : ∀ {α : Type} (x : α) (l : List (κ × α)), ((k', x) :: l).filter (fun kv => decide (kv.1 ≠ k)) = (k', x) :: l.filter fun kv => decide (kv.1 ≠ k) := fun x l => by simp [h]
      unfold dropK dropD
      rw [e1, e1]
      exact .cons r ih
end
end Mi
namespace Mi
open PySem PySem.Spec PyProof.Rows L2
variable [LamTabs]
structure OkDp (P : Program) (w : World) (K : PySem.W.Frag) (mg : Str → Option Value) (base : Heap) (k : Nat) (x : Str) (n : Nat) (dd : List D) (f : List D → M D) : Prop where
  ex : ∃ (fa : Addr) (fd : FuncData) (ps : List Str) (dvs : List V) (ds ds' : List Value), PySem.W.keepIn K (.ref fa) = true ∧ mg x = some (.ref fa) ∧ Binds K fd ps ds ∧ Vals dvs ds ∧ (∀ w, RvL K w dvs dd) ∧ Binds K fd ps ds' ∧ Vals [] ds' ∧
    ps.length = n + 1 ∧ dd.length = 1 ∧ FnOk P w K mg base CX0 k fa fd ps (spM K ps.length f)
structure DpAt (K : PySem.W.Frag) (mg : Str → Option Value) (x : Str) (st : Stmt) (ps : List Str) (n : Nat) (dd : List D) : Prop where
  ex : ∃ (fa : Addr) (fd : FuncData) (dvs dvs0 : List V) (ds ds' : List Value), mg x = some (.ref fa) ∧ Binds K fd ps ds ∧ Vals dvs ds ∧ (∀ w, RvL K w dvs dd) ∧ Binds K fd ps ds' ∧ Vals [] ds' ∧
    ps.length = n + 1 ∧ dd.length = 1 ∧ FunD K x x (defArgs st) (defBody st) (defScope st) dvs0 [] fa fd
theorem OkDp.of {P : Program} {w : World} {K : PySem.W.Frag} {mg : Str → Option Value} {base : Heap} {x : Str} {st : Stmt} {ps N : List Str} {dd : List D} {k n j : Nat} {ms : Env → M (Fl × Env)} (hn : N.length = j) (D : DpAt K mg x st ps n dd) (sc : FnScope N ps (defScope st))
    (hb : ∀ (fa : Addr) (cdv : Value) (A : Around) (outer : List PySem.Env) (s : Shared) (H : Hp) (E : XK), Room k (A.deeper (envOfC x (defScope st) s.heap.objs.size fa cdv)) →
      PSs (cxOf CX0 P w K mg base N x (defScope st) fa cdv A outer s H E).nox (defBody st) (tMs K EK0 ms)) : OkDp P w K mg base (k + 1) x n dd (runM j ms) := by
  subst hn
  obtain ⟨fa, fd, dvs, dvs0, ds, ds', h2, b, hv, hd, b', hv', l1, l2, F⟩ := D.ex
  exact ⟨fa, fd, ps, dvs, ds, ds', F.kp, h2, b, hv, hd, b', hv', l1, l2, F.ok sc (spM_len rfl) fun cdv A outer s H vs Q E hr h => ⟨_, (hb fa cdv A outer s H E hr).nox, body_go h⟩⟩
end Mi
namespace Mi
open PySem PySem.Spec PyProof.Rows L2
variable [LamTabs]
noncomputable def allE : List (Str × (Env → M D)) → Env → M (List D)
  | [] => fun _ => M.pure []
  | (_, m) :: r => aCons m (allE r)
noncomputable def zipK (ks : List (Str × (Env → M D))) (vs : List D) : List (Key × D) := (ks.map fun k => (.inr k.1 : Key)).zip vs
noncomputable def mergeD (kvs : List (Key × D)) : List (Key × D) := kvs.foldl (fun acc kv => putD acc kv.1 kv.2) []
noncomputable def dispD (ks : List (Str × (Env → M D))) : Env → M D := fun ρ => M.bind newD fun r => M.bind (allE ks ρ) fun vs => fun S => match r with
  | .ref n => match S[n]? with
    | some (.dct []) => some (.ok (.ref n), S.set n (.dct (mergeD (zipK ks vs))))
    | _ => none
  | _ => none
inductive PDs (X : Cx) (E : EK) : List (TE × TE) → List (Str × (Env → M D)) → Prop
  | nil : PDs X E [] []
  | cons {k : Str} {m : Env → M D} {trs : List (TE × TE)} {ks : List (Str × (Env → M D))} (r : PDs X E trs ks) : PDs X E ((tM X.K E fun _ => M.pure (.str k), tM X.K E m) :: trs) ((k, m) :: ks)
section
variable {X : Cx} {E : EK} {pos : Pos} {keys : List (Option Expr)} {values : List Expr} {trs : List (TE × TE)} {ks : List (Str × (Env → M D))}
theorem pairs_go : ∀ {trs : List (TE × TE)} {ks : List (Str × (Env → M D))}, PDs X E trs ks → ∀ {σ : L2.St} {H : Hp} {w : Wd} {S : Sto} {ρ : Env} {Q : List (V × V) → Hp → Prop}, Rs X.K w S H → Rn X.K w σ ρ →
    Fin X.K E w (allE ks ρ S) (fun w' S' H' vs => ∀ xs, RvL X.K w' xs vs → Q (((ks.map fun k => (.inr k.1 : Key)).zip xs).map fun kv => (kV kv.1, kv.2)) H') → tPairs trs σ H Q
  | _, _, .nil, σ, H, w, S, ρ, Q, hs, hn, h => Fin.ok h hs [] .nil
  | _, _, .cons (k := k) (m := m) (ks := ks) r, σ, H, w, S, ρ, Q, hs, hn, h => by
    refine ⟨w, S, ρ, hs, hn, fun w1 H1 l1 s1 v rv => ?_⟩
    cases rv
    exact ⟨w1, S, ρ, s1, hn.mono l1, (Fin.bind (Fin.mono h l1)).imp fun w2 S2 H2 d l2 s2 q y ry => pairs_go r s2 (hn.mono (l1.trans l2)) ((Fin.bind q).imp fun w3 S3 H3 vs l3 s3 q3 xs rxs => Fin.ok q3 s3 (y :: xs) (.cons (ry.mono l3) rxs))⟩
theorem merge_rel {K : PySem.W.Frag} {w : Wd} : ∀ {qs : List Key} {xs : List V} {vs : List D} {a : List (Key × V)} {b : List (Key × D)}, RvL K w xs vs → RvP K w a b →
    RvP K w ((qs.zip xs).foldl (fun acc kv => putK acc kv.1 kv.2) a) ((qs.zip vs).foldl (fun acc kv => putD acc kv.1 kv.2) b)
  | [], _, _, _, _, _, r => by simpa using r
  | q :: qs, _, _, _, _, .nil, r => by simpa using r
  | q :: qs, _, _, _, _, .cons rx rr, r => by
    simp only [List.zip_cons_cons, List.foldl_cons]
    exact merge_rel rr (r.put rx)
theorem me_disp (hp : PPs X pos keys values trs) (pd : PDs X E trs ks) (hk : ks.length ≤ 15) (hall : keys.all (·.isSome) = true := by rfl) (hl : keys.length = values.length := by rfl) (h0 : keys ≠ [] := by simp) (h15 : keys.length ≤ 15 := by decide) :
    PE X (.Dict keys values pos) (tM X.K E (dispD ks)) := pe_imp (pe_disp hp hall hl h0 h15) fun σ H Q ⟨w, S, ρ, hs, hn, h⟩ p hp' => by
  have r := hs.add (p := p) (o := .dK []) (c := .dct []) hp' ⟨[], upd_same, .nil⟩
  have rv : Rv X.K (w.add p) (.ref p) (.ref S.length) := .ref (by show (w.A ++ [p])[S.length]? = some p; rw [← hs.len]; simp)
  have q := (Fin.bind h) (w.add p) _ le_add r
  refine pairs_go pd r (hn.mono le_add) ((Fin.bind q).imp fun w2 S2 H2 vs l2 s2 q xs rxs => ?_)
  have rv2 := rv.mono l2
  cases rv2 with
  | ref hA =>
    have q : Fin X.K E w2 (match S2[S.length]? with
      | some (.dct []) => some (.ok (.ref S.length), S2.set S.length (.dct (mergeD (zipK ks vs))))
      | _ => none) (fun w' _ H' d => ∀ v, Rv X.K w' v d → Q v H') := q
    split at q
    · rename_i hc
      obtain ⟨ys, h1, h2⟩ := s2.cell _ _ _ hA hc
      cases h2
      refine ⟨h1, _, rfl, by simp only [List.length_zip, List.length_map]; omega, ?_⟩
      exact q w2 _ (Le.refl w2) (s2.put hA h1 (by intro _ _ z; cases z) ⟨_, upd_same, merge_rel rxs .nil⟩) _ (.ref hA)
    · exact q.elim
end
end Mi
namespace Mi
open PySem PySem.Spec PyProof.Rows L2
variable [LamTabs]
structure XCl (K : PySem.W.Frag) (C : Addr) : Prop where
  base : ∃ (B nw ini : String) (tl : List Value), ExcBaseFacts B nw ini tl ∧ StoreFacts B tl "object.__setattr__" "object" ∧ PySem.W.excInitIn K C tl nw = true ∧ PySem.W.excOver K C tl = true
  hd : PySem.W.hasDictIn K C = true
  sa : PySem.W.findIn K (.ref C) "__setattr__" = some (some (.builtin "object.__setattr__"))
  ex : PySem.W.subIn K (.ref C) (.type "BaseException") = some true
  ty : PySem.W.typeIn K (.ref C) = some (.type "type")
  kp : PySem.W.keepIn K (.ref C) = true
  ga : PySem.W.findIn K (.ref C) "__getattribute__" = some (some (.builtin "BaseException.__getattribute__"))
  gg : PySem.W.findIn K (.ref C) "__getattr__" = some none
  cl : PySem.W.findIn K (.ref C) "__class__" = some (some (.builtin "object.__class__"))
  mo : PySem.W.mroIn K C (.type "object") = some true
  sg : PySem.W.specialIn K (.builtin "object.__class__") "__get__" = some (some (.builtin "getset_descriptor.__get__"))
  tg : PySem.W.takesIn K (.builtin "object.__class__") = some true
noncomputable def xkB (K : PySem.W.Frag) (C : Addr) (tl : List Value) (nw : String) : Bool :=
  PySem.W.excInitIn K C tl nw && (PySem.W.excOver K C tl && (PySem.W.hasDictIn K C && (PySem.W.findIn K (.ref C) "__setattr__" == some (some (.builtin "object.__setattr__")) && (PySem.W.subIn K (.ref C) (.type "BaseException") == some true &&
  (PySem.W.typeIn K (.ref C) == some (.type "type") && (PySem.W.keepIn K (.ref C) && (PySem.W.findIn K (.ref C) "__getattribute__" == some (some (.builtin "BaseException.__getattribute__")) && (PySem.W.findIn K (.ref C) "__getattr__" == some none &&
  (PySem.W.findIn K (.ref C) "__class__" == some (some (.builtin "object.__class__")) && (PySem.W.mroIn K C (.type "object") == some true && (PySem.W.specialIn K (.builtin "object.__class__") "__get__" == some (some (.builtin "getset_descriptor.__get__")) &&
  PySem.W.takesIn K (.builtin "object.__class__") == some true)))))))))))
theorem xk_of {K : PySem.W.Frag} {C : Addr} {B nw ini : String} {tl : List Value} (F : ExcBaseFacts B nw ini tl) (SF : StoreFacts B tl "object.__setattr__" "object") (h : xkB K C tl nw = true) : XCl K C := by
  unfold xkB at h
  simp only [Bool.and_eq_true, beq_iff_eq] at h
  obtain ⟨h1, h2, h3, h4, h5, h6, h7, h8, h9, h10, h11, h12, h13⟩ := h
  exact ⟨⟨B, nw, ini, tl, F, SF, h1, h2⟩, h3, h4, h5, h6, h7, h8, h9, h10, h11, h12, h13⟩
section
variable {X : Cx} {pins : List (Addr × Obj)} {σ : L2.St} {H : Hp} {s : Shared} {a C dx : Addr} {f : Str} {y : V} {u : Value} {fs : List (Str × V)} {Q : Unit → Shared → Prop} {E : Value → Shared → Prop} {A : Around}
theorem xst_new (T : XCl X.K C) (I : Inv X pins σ H s) (e : H a = some (exo a C none)) (ht : PySem.W.takerIn X.K C f = some none) (ry : RelV y u)
    (h : ∀ dx s', H dx = none → dx ≠ a → Inv X pins σ (upd (upd H dx (exd dx [(f, y)])) a (exo a C (some dx))) s' → Q () s') :
    wpAny (model X.prog X.w) A (setAttr (.ref a) f u) Q E s := by
  obtain ⟨B, nw, ini, tl, F, SF, _, ov⟩ := T.base
  obtain ⟨t1, ho⟩ := exo_at I.hok e
  obtain ⟨hp, g, d, t, os⟩ := s
  refine PySem.W.set_plain I.kIn (ox := HandSPX.excO C t1) (od := none) ⟨ho, rfl, rfl, trivial⟩ T.sa ?_
  refine xput0 SF I.kIn ho ov ht T.hd fun h' tk' dx k dn dne hx hn => ?_
  have nx : H dx = none := I.hok.fresh dn
  have below : ∀ {b : Addr} {o : Obj}, hp.get? b = some o → b ≠ dx := fun {b o} q => Nat.ne_of_lt (Nat.lt_of_lt_of_le (Heap.lt_size q) dn)
  have notA : ∀ {b : Addr}, H b = none → b ≠ a := by
    rintro b n rfl
    rw [e] at n
    cases n
  have U : Un X.fs [] H (upd (upd H dx (exd dx [(f, y)])) a (exo a C (some dx))) hp h' := by
    refine ⟨fun b o q n _ _ => k b o (notA n) q, fun b o q n _ _ => ⟨o.slots, k b o (notA n) q⟩, fun b o q n _ => ?_, fun b o q _ => ?_, fun b xs q => ?_, fun b o v q => ?_, fun b ps q => ⟨#[], ?_⟩⟩
    · rw [upd_ne (notA n), upd_ne (below q)]
      exact n
    · by_cases hb : b = a
      · subst hb
        exact ⟨_, hx⟩
      · exact ⟨o, k b o hb q⟩
    · rw [upd_ne (at_ne e q exo_tup), upd_ne (ne_of_none q nx)]
      exact q
    · rw [upd_ne (at_ne e q exo_frz), upd_ne (ne_of_none q nx)]
      exact q
    · rw [upd_ne (at_ne e q exo_tbl), upd_ne (ne_of_none q nx), q]
      simp
  refine h dx _ nx dne (I.un (t' := tk') U fun b o q => ?_)
  by_cases hb : b = a
  · subst hb
    rw [upd_same] at q
    cases q
    exact exo_ok hx
  rw [upd_ne hb] at q
  by_cases hd : b = dx
  · subst hd
    rw [upd_same] at q
    cases q
    exact exd_ok hn (relO_put (fs := []) ry fun _ => trivial)
  rw [upd_ne hd] at q
  refine (I.hok b o q).stay (fun c v hc z => k c v ?_ z) (fun c hc => ?_) fun c xs hc => ?_
  · rcases hc with rfl | hc
    · exact hb
    · exact at_ne e hc exo_own
  · rw [upd_ne (at_ne e hc exo_own), upd_ne (ne_of_none hc nx)]
    exact hc
  · rw [upd_ne (at_ne e hc exo_tup), upd_ne (ne_of_none hc nx)]
    exact hc
theorem xst_old (T : XCl X.K C) (I : Inv X pins σ H s) (e : H a = some (exo a C (some dx))) (ed : H dx = some (exd dx fs)) (hl : fs.length ≤ 900) (ht : PySem.W.takerIn X.K C f = some none) (ry : RelV y u)
    (h : ∀ s', Inv X pins σ (upd H dx (exd dx ((f, y) :: fs))) s' → Q () s') : wpAny (model X.prog X.w) A (setAttr (.ref a) f u) Q E s := by
  obtain ⟨B, nw, ini, tl, F, SF, _, ov⟩ := T.base
  obtain ⟨t1, ho⟩ := exo_at I.hok e
  obtain ⟨mA, ns, rel⟩ := exd_at I.hok ed
  have wi := within_of rel
  obtain ⟨hp, g, d, t, os⟩ := s
  obtain ⟨oD, _, _, hoD, _, _⟩ := ns.count wi
  refine PySem.W.set_plain I.kIn (ox := { cls := .ref C, dict := some dx, data := .fields #[.ref t1, .none, .none, .none, .bool false, .none] }) (od := some oD) ⟨ho, rfl, rfl, hoD⟩ T.sa ?_
  refine xput1 SF I.kIn ho ns wi (by rw [List.length_map]; omega) ov ht T.hd fun h' tk' k hn => ?_
  have there : ∃ o, h'.get? dx = some o := by
    obtain ⟨o, _, _, e', _⟩ := hn
    exact ⟨o, e'⟩
  exact h _ (I.write (t' := tk') (x := dx) (e := dx) (o := exd dx ((f, y) :: fs)) (by rw [ed]; trivial) (.inl rfl) k there (exd_ok hn (relO_put ry rel)))
end
noncomputable def tXst (K : PySem.W.Frag) (f : Str) (to te : TE) : TS := fun D σ H => te σ H fun y H1 => to σ H1 fun x H2 => ∃ a C : Addr, x = .ref a ∧ XCl K C ∧ PySem.W.takerIn K C f = some none ∧
  ((H2 a = some (exo a C none) ∧ ∀ dx, H2 dx = none → dx ≠ a → D.nx σ (upd (upd H2 dx (exd dx [(f, y)])) a (exo a C (some dx)))) ∨
    ∃ (dx : Addr) (fs : List (Str × V)), H2 a = some (exo a C (some dx)) ∧ H2 dx = some (exd dx fs) ∧ fs.length ≤ 900 ∧ D.nx σ (upd H2 dx (exd dx ((f, y) :: fs))))
theorem ps_xst {X : Cx} {o e : Expr} {to te : TE} {f : Str} {p' pos : Pos} (ho : PE X o to) (he : PE X e te) (hs : swapsWith e (some (.Attribute o f p')) pos.line X.env = pure false := by rfl) :
    PS X (.Assign [.Attribute o f p'] e pos) (tXst X.K f to te) := by
  refine ⟨fun pins s σ H D I h => ?_⟩
  refine plainObj_wpAny_Assign_Attribute (thn (he.run pins s σ H _ I h) fun v s1 ⟨y, H1, I1, r1, q1⟩ => thn (ho.run pins s1 σ H1 _ I1 q1) fun u s2 ⟨x, H2, I2, r2, a, C, ex, T, ht, q⟩ => ?_) hs
  subst ex
  obtain rfl : u = Value.ref a := r2
  rcases q with ⟨ea, q⟩ | ⟨dx, fs, ea, ed, hl, q⟩
  · exact xst_new T I2 ea ht r1 fun dx s' n ne J => ⟨σ, _, J, q dx n ne⟩
  · exact xst_old T I2 ea ed hl ht r1 fun s' J => ⟨σ, _, J, q⟩
/-- what stands in the dict at last: the last one first -/
noncomputable def xfs (fs : List Str) {α : Type} (xs : List α) : List (Str × α) := (fs.zip xs).reverse
noncomputable def spX (K : PySem.W.Frag) (fs : List Str) : Sp := fun vs H Q _ => ∃ (a C : Addr) (xs : List V), vs = .ref a :: xs ∧ xs.length = fs.length ∧ XCl K C ∧ (∀ f, f ∈ fs → PySem.W.takerIn K C f = some none) ∧ H a = some (exo a C none) ∧
  ∀ d H', H d = none → d ≠ a → H' a = some (exo a C (some d)) → H' d = some (exd d (xfs fs xs)) → (∀ b, b ≠ a → b ≠ d → H' b = H b) → Q .non H'
theorem spX_len {K : PySem.W.Frag} {fs ps : List Str} (e : ps.length = fs.length + 1) : ∀ vs H Q E, spX K fs vs H Q E → vs.length = ps.length := by
  rintro vs H Q E ⟨a, C, xs, rfl, hl, _⟩
  rw [e, List.length_cons, hl]
theorem spX_go2 {K : PySem.W.Frag} {f f2 : Str} {vs : List V} {H : Hp} {Q : VK} {E : XK} {N : List Str} (h : spX K [f, f2] vs H Q E) (hN : N.length = 3) :
    tSeq (tXst K f (tVar 0) (tVar 1)) (tXst K f2 (tVar 0) (tVar 2)) { nx := fun _ H' => Q .non H', rt := Q } (start N vs) H := by
  obtain ⟨a, C, xs, rfl, hl, T, ht, ea, q⟩ := h
  match xs, hl with
  | [y, z], _ =>
    obtain ⟨n1, n2, n3, rfl⟩ : ∃ n1 n2 n3, N = [n1, n2, n3] := by
      match N, hN with
      | [n1, n2, n3], _ => exact ⟨n1, n2, n3, rfl⟩
    refine ⟨y, rfl, .ref a, rfl, a, C, rfl, T, ht f (by simp), .inl ⟨ea, fun dx n ne => ?_⟩⟩
    refine ⟨z, rfl, .ref a, rfl, a, C, rfl, T, ht f2 (by simp), .inr ⟨dx, [(f, y)], by rw [upd_same], by rw [upd_ne ne, upd_same], by simp, ?_⟩⟩
    refine q dx _ n ne (by rw [upd_ne (Ne.symm ne), upd_same]) (by rw [upd_same]; rfl) fun b h1 h2 => by rw [upd_ne h2, upd_ne h1, upd_ne h2]
structure XMkAt (K : PySem.W.Frag) (mg : Str → Option Value) (c qual : Str) (st : Stmt) (ps fs : List Str) : Prop where
  ex : ∃ (C fa : Addr) (fd : FuncData), ClN K c C ∧ mg c = some (.ref C) ∧ XCl K C ∧ (∀ f, f ∈ fs → PySem.W.takerIn K C f = some none) ∧ PySem.W.findIn K (.ref C) "__init__" = some (some (.ref fa)) ∧ PySem.W.typeIn K (.ref fa) = some (.type "function") ∧
    Fun K "__init__" qual st fa fd ∧ Binds K fd ps [] ∧ ps.length = fs.length + 1
structure XMk (P : Program) (w : World) (K : PySem.W.Frag) (mg : Str → Option Value) (base : Heap) (k : Nat) (c qual : Str) (st : Stmt) (ps fs : List Str) : Prop where
  ex : ∃ (C fa : Addr) (fd : FuncData), ClN K c C ∧ mg c = some (.ref C) ∧ XCl K C ∧ (∀ f, f ∈ fs → PySem.W.takerIn K C f = some none) ∧ PySem.W.findIn K (.ref C) "__init__" = some (some (.ref fa)) ∧ PySem.W.typeIn K (.ref fa) = some (.type "function") ∧
    Fun K "__init__" qual st fa fd ∧ Binds K fd ps [] ∧ ps.length = fs.length + 1 ∧ FnOk P w K mg base CX0 k fa fd ps (spX K fs)
section
variable {P : Program} {w : World} {K : PySem.W.Frag} {mg : Str → Option Value} {base : Heap} {c qual : Str} {st : Stmt} {ps N : List Str} {k : Nat} {f f2 : Str}
theorem XMk.of2 (D : XMkAt K mg c qual st ps [f, f2]) (sc : FnScope N ps (defScope st)) (hN : N.length = 3) (hb : ∀ (fa : Addr) (cdv : Value) (A : Around) (outer : List PySem.Env) (s : Shared) (H : Hp) (E : XK),
    PSs (cxOf CX0 P w K mg base N qual (defScope st) fa cdv A outer s H E).nox (defBody st) (tSeq (tXst K f (tVar 0) (tVar 1)) (tXst K f2 (tVar 0) (tVar 2)))) : XMk P w K mg base (k + 1) c qual st ps [f, f2] := by
  obtain ⟨C, fa, fd, h1, h2, h3, h4, h5, h6, F, b, l⟩ := D.ex
  exact ⟨C, fa, fd, h1, h2, h3, h4, h5, h6, F, b, l, F.ok sc (spX_len l) fun cdv A outer s H vs Q E hr h => ⟨_, hb fa cdv A outer s H E, spX_go2 h hN⟩⟩
end
end Mi
namespace Mi
open PySem PySem.Spec PyProof.Rows L2
variable [LamTabs]
theorem exq_ok {P : Program} {w : World} {H : Hp} {h : Heap} {a C : Addr} {d : Option Addr} {oe : Obj} {vs : Array Value} (e : h.get? a = some oe) (c : oe.cls = .ref C) (hd : oe.dict = d) (hv : oe.data = .fields vs) : ObjOk P w H h a (exq a C d) :=
  ⟨⟨oe, vs, e, c, hd, hv⟩, ⟨oe, e⟩, fun _ _ ⟨o, v, q, r⟩ k => ⟨o, v, k o q, r⟩⟩
theorem RvX.snoc {K : PySem.W.Frag} {w : Wd} {x : Str} {v : V} {d : D} (h : Rv K w v d) : ∀ {vs : List (Str × V)} {ds : List (Str × D)}, RvX K w vs ds → RvX K w (vs ++ [(x, v)]) (ds ++ [(x, d)])
  | _, _, .nil => .cons h .nil
  | _, _, .cons g r => .cons g (RvX.snoc h r)
theorem xfs_rel {K : PySem.W.Frag} {w : Wd} : ∀ (fs : List Str) {vs : List V} {ds : List D}, RvL K w vs ds → RvX K w (xfs fs vs) (xfs fs ds)
  | [], _, _, _ => .nil
  | f :: fs, _, _, .nil => .nil
  | f :: fs, _, _, .cons h r => by
    show RvX K w ((_ :: fs.zip _).reverse) ((_ :: fs.zip _).reverse)
    rw [List.reverse_cons, List.reverse_cons]
    exact RvX.snoc h (xfs_rel fs r)
end Mi
namespace Mi
open PySem PySem.Spec PyProof.Rows L2
variable [LamTabs]
structure XFld (K : PySem.W.Frag) (cs : List Str) (f : Str) : Prop where
  ex : ∀ c, c ∈ cs → ∀ C, ClN K c C → XCl K C ∧ PySem.W.findIn K (.ref C) f = some none
noncomputable def xfM (cs : List Str) (f : Str) : D → M D
  | .exc c fs => if c ∈ cs then (match fs.lookup f with
    | some d => M.pure d
    | none => bad) else bad
  | _ => bad
theorem RvX.look {K : PySem.W.Frag} {w : Wd} (f : Str) : ∀ {vs : List (Str × V)} {ds : List (Str × D)}, RvX K w vs ds → (vs.lookup f = none ∧ ds.lookup f = none) ∨ ∃ v d, vs.lookup f = some v ∧ ds.lookup f = some d ∧ Rv K w v d
  | _, _, .nil => .inl ⟨rfl, rfl⟩
  | (x, v) :: vs, (_, d) :: ds, .cons h r => by
    rw [List.lookup_cons, List.lookup_cons]
    cases f == x with
    | true => exact .inr ⟨v, d, rfl, rfl, h⟩
    | false => exact RvX.look f r
theorem exq_at {P : Program} {w : World} {H : Hp} {h : Heap} {a C : Addr} {d : Option Addr} (hok : HOk P w H h) (he : H a = some (exq a C d)) : ∃ (oe : Obj) (vs : Array Value), h.get? a = some oe ∧ oe.cls = .ref C ∧ oe.dict = d ∧ oe.data = .fields vs := by
  have x : ObjOk P w H h a (exq a C d) := hok a _ he
  unfold exq at x
  exact x.1
theorem me_xf {X : Cx} {e : Expr} {m : Env → M D} {cs : List Str} {f : Str} {pos : Pos} {E : EK} (T : XFld X.K cs f) (he : PE X e (tM X.K E m)) (hb : attributeBase e f X.env (eval e X.env) = eval e X.env := by rfl) : PE X (.Attribute e f pos) (tM X.K E (b1 (xfM cs f) m)) := by
  refine ⟨fun pins s σ H Q I ⟨w, S, ρ, hs, hn, h⟩ => ?_⟩
  refine attr_of hb (thn (he.run pins s σ H _ I ⟨w, S, ρ, hs, hn, h.bind.imp fun w1 S1 H1 x l1 s1 q v rv => (show ∃ w S x, Rs X.K w S H1 ∧ Rv X.K w v x ∧ Fin X.K E w (xfM cs f x S) (fun w' _ H' d => ∀ v, Rv X.K w' v d → Q v H') from ⟨w1, S1, x, s1, rv, q⟩)⟩) fun u s1 ⟨v, H1, I1, ru, w1, S1, x, hs1, rv, q⟩ => ?_)
  cases rv with
  | exn hC hG =>
    simp only [xfM] at q
    split at q
    · exact q.elim
    · exact q.elim
  | exc hC hG hd r =>
    rename_i a C dx c xs fs
    by_cases hc : c ∈ cs
    · rcases r.look f with ⟨_, l⟩ | ⟨v2, d2, l1, l2, rv2⟩
      · simp only [xfM, if_pos hc, l] at q
        exact q.elim
      · simp only [xfM, if_pos hc, l2] at q
        obtain ⟨T1, T2⟩ := T.ex c hc C hC
        cases (show u = Value.ref a from ru)
        obtain ⟨oe, fv, h1, h2, h3, h4⟩ := exq_at I1.hok (hs1.g _ _ hG)
        have hx : ObjOk X.prog X.w H1 s1.heap dx (.xd xs) := I1.hok dx _ (hs1.g _ _ hd)
        obtain ⟨mA, hns, hr⟩ := hx
        obtain ⟨od, ho, hl⟩ := lookIn_ns hns
        obtain ⟨u2, hu, ru2⟩ := RelO.some_of (v := v2) (o := mA f) (by rw [← l1]; exact hr f)
        have J : PySem.W.InstAt s1.heap a oe C (some od) := ⟨h1, h2, by unfold PySem.W.notCls; rw [h4] <;> rfl, by rw [h3]; exact ho⟩
        exact HandSPX.exc_get I1.kIn J T1.ga T1.gg T1.ex (PySem.W.findObj_own T1.hd T2 rfl (by rw [hl, hu])) (handed_of ru2) ⟨v2, H1, I1.tok _, ru2, Fin.ok (P := fun w' _ H' d => ∀ v, Rv X.K w' v d → Q v H') q hs1 _ rv2⟩
    · simp only [xfM, if_neg hc] at q
      exact q.elim
  | _ => exact q.elim
/-- for each class of the text: what is above it, itself among them; own: classes of the text that are asked, bl: built-in ones -/
structure XIs (K : PySem.W.Frag) (mg : Str → Option Value) (tb : List (Str × List Nat)) (own bl : List (Nat × String)) : Prop where
  cl : ∀ c l, tb.lookup c = some l → ∀ C, ClN K c C → XCl K C
  ow : ∀ c l, tb.lookup c = some l → ∀ C, ClN K c C → ∀ n T, (n, T) ∈ own → ∀ D, mg (Str.ofString T) = some (.ref D) → PySem.W.kitOne K (.ref C) (.ref D) = some (l.contains n)
  bi : ∀ c l, tb.lookup c = some l → ∀ C, ClN K c C → ∀ n T, (n, T) ∈ bl → PySem.W.kitOne K (.ref C) (.type T) = some (l.contains n)
noncomputable def isxM (tb : List (Str × List Nat)) (n : Nat) : D → M D
  | .exc c _ => match tb.lookup c with
    | some l => M.pure (.bl (l.contains n))
    | none => bad
  | _ => bad
section
variable {X : Cx} {tb : List (Str × List Nat)} {own bl : List (Nat × String)}
noncomputable def rIsX (K : PySem.W.Frag) (w0 : Value) : List V → Hp → VK → Prop := fun xs H Q => ∃ (a C : Addr) (d : Option Addr) (c : V) (b : Bool), xs = [.ref a, c] ∧ ClsV c w0 ∧ XCl K C ∧ H a = some (exq a C d) ∧ (∀ dx, d = some dx → ∃ fs, H dx = some (.xd fs)) ∧ PySem.W.kitOne K (.ref C) w0 = some b ∧ Q (.bl b) H
theorem call_isX {w0 : Value} : CallR X (.builtin "isinstance") (rIsX X.K w0) := by
  intro pins s σ H xs us Q I r h
  obtain ⟨a, C, d, c, b, rfl, k, T, ea, hd, e, q⟩ := h
  obtain ⟨u1, u2, rfl, r1, r2⟩ := vals2 r
  have e2 := k.eq r2
  subst e2
  cases (show u1 = Value.ref a from r1)
  obtain ⟨oe, fv, h1, h2, h3, h4⟩ := exq_at I.hok ea
  have hcl : (PySem.W.clsIn X.K C).isSome = true := by
    obtain ⟨cd, hc, _⟩ := PySem.W.any_some T.hd
    rw [hc]
    rfl
  have nc : PySem.W.notCls oe = true := by
    unfold PySem.W.notCls
    rw [h4]
  cases d with
  | none =>
    have J : PySem.W.InstAt s.heap a oe C none := ⟨h1, h2, nc, by rw [h3]; trivial⟩
    exact PySem.W.kia_one (PySem.W.kitx_exc (ox := oe) (od := none) hcl T.ga T.gg T.ex T.cl T.sg T.tg T.mo) I.kIn J e (fun z => nomatch z) fun tk => ⟨.bl b, H, I.tok tk, rfl, q⟩
  | some dx =>
    obtain ⟨fs, ed⟩ := hd dx rfl
    have hx : ObjOk X.prog X.w H s.heap dx (.xd fs) := I.hok dx _ ed
    obtain ⟨mA, hns, hr⟩ := hx
    obtain ⟨od, ho, hl⟩ := lookIn_ns hns
    have J : PySem.W.InstAt s.heap a oe C (some od) := ⟨h1, h2, nc, by rw [h3]; exact ho⟩
    exact PySem.W.kia_one (PySem.W.kitx_exc (ox := oe) (od := some od) hcl T.ga T.gg T.ex T.cl T.sg T.tg T.mo) I.kIn J e (fun z => nomatch z) fun tk => ⟨.bl b, H, I.tok tk, rfl, q⟩
theorem isx_go {K : PySem.W.Frag} {w : Wd} {S : Sto} {H : Hp} {v : V} {x : D} {n : Nat} {b : D} (hs : Rs K w S H) (rv : Rv K w v x) {o : Option (Except Exn D × Sto)} (q : o = isxM tb n x S) (ho : o ≠ none) :
    ∃ a C d c l, v = .ref a ∧ ClN K c C ∧ H a = some (exq a C d) ∧ (∀ dx, d = some dx → ∃ fs, H dx = some (.xd fs)) ∧ tb.lookup c = some l ∧ o = some (.ok (.bl (l.contains n)), S) := by
  cases rv with
  | exn hC hG =>
    rename_i a C c
    cases hl : tb.lookup c with
    | none =>
      simp only [isxM, hl] at q
      exact absurd q ho
    | some l =>
      simp only [isxM, hl] at q
      exact ⟨a, C, none, c, l, rfl, hC, hs.g _ _ hG, fun _ z => (nomatch z), hl, q⟩
  | exc hC hG hd r =>
    rename_i a C dx c xs fs
    cases hl : tb.lookup c with
    | none =>
      simp only [isxM, hl] at q
      exact absurd q ho
    | some l =>
      simp only [isxM, hl] at q
      exact ⟨a, C, some dx, c, l, rfl, hC, hs.g _ _ hG, fun _ z => by cases z; exact ⟨xs, hs.g _ _ hd⟩, hl, q⟩
  | _ => exact absurd q ho
end
section
variable {X : Cx} {tb : List (Str × List Nat)} {own bl : List (Nat × String)} {a e : Expr} {m : Env → M D} {T : String} {n : Nat} {p q pos : Pos} {E : EK}
theorem me_isxO (G : XIs X.K X.mg tb own bl) (hT : (n, T) ∈ own) (hg : Gl X "isinstance") (hm : X.mg "isinstance" = none) (hv : bootBuiltins "isinstance" = some (.builtin "isinstance")) {D : Addr} (hD : X.mg (Str.ofString T) = some (.ref D)) (ha : PE X a (tM X.K E m)) (ht : PE X e (tC (.ref D)))
    (he : starEach [a, e] X.env = (false, eval a X.env) :: starEach [e] X.env := by rfl) (he2 : starEach [e] X.env = (false, eval e X.env) :: starEach [] X.env := by rfl) (hpl : (backTo pos (starEach [e] X.env)).any (·.1) = false := by rfl) :
    PE X (.Call (.Name "isinstance" p) [a, e] [] pos) (tM X.K E (b1 (isxM tb n) m)) :=
  pe_imp (pe_callB (call_isX (w0 := .ref D)) hg hm hv (pa_cons ha (pa_cons ht pa_nil he2) he) (by decide) (by decide) he hpl) fun σ H Q ⟨w, S, ρ, hs, hn, h⟩ => ⟨w, S, ρ, hs, hn, h.bind.imp fun w1 S1 H1 x l1 s1 q v rv => by
    obtain ⟨a, C, d, c, l, rfl, hC, ea, hd, hl, ho⟩ := isx_go (b := x) s1 rv rfl (fun z => by rw [z] at q; exact q)
    rw [ho] at q
    exact ⟨a, C, d, .ref D, _, rfl, .own D, G.cl c l hl C hC, ea, hd, G.ow c l hl C hC n T hT D hD, Fin.ok (P := fun w' _ H' d => ∀ v, Rv X.K w' v d → Q v H') q s1 _ (.bl _)⟩⟩
end
end Mi
namespace Mi
open PySem PySem.Spec PyProof.Rows L2
variable [LamTabs]
section
variable {X : Cx} {tb : List (Str × List Nat)} {own bl : List (Nat × String)} {a : Expr} {m : Env → M D} {T : String} {n : Nat} {p p2 q pos : Pos} {E : EK}
theorem me_isxN (G : XIs X.K X.mg tb own bl) (hT : (n, T) ∈ own) (hg : Gl X "isinstance") (hm : X.mg "isinstance" = none) (hv : bootBuiltins "isinstance" = some (.builtin "isinstance")) (hD : ∃ D, X.mg (Str.ofString T) = some (.ref D)) (hg2 : Gl X (Str.ofString T)) (ha : PE X a (tM X.K E m))
    (hd : (Str.ofString T == ("__debug__" : Str)) = false := by decide)
    (he : starEach [a, .Name (Str.ofString T) p2] X.env = (false, eval a X.env) :: starEach [.Name (Str.ofString T) p2] X.env := by rfl) (he2 : starEach [.Name (Str.ofString T) p2] X.env = (false, eval (.Name (Str.ofString T) p2) X.env) :: starEach [] X.env := by rfl)
    (hpl : (backTo pos (starEach [.Name (Str.ofString T) p2] X.env)).any (·.1) = false := by rfl) : PE X (.Call (.Name "isinstance" p) [a, .Name (Str.ofString T) p2] [] pos) (tM X.K E (b1 (isxM tb n) m)) := by
  obtain ⟨D, hD⟩ := hD
  exact me_isxO G hT hg hm hv hD ha (pe_glob hg2 hD rfl hd) he he2 hpl
end
noncomputable def xisB (K : PySem.W.Frag) (cs : List (Str × Addr)) (tb : List (Str × List Nat)) (ow : List ((Nat × String) × Addr)) (bl : List (Nat × String)) : Bool := cs.all fun p => match tb.lookup p.1 with
  | none => true
  | some l => ow.all (fun q => PySem.W.kitOne K (.ref p.2) (.ref q.2) == some (l.contains q.1.1)) && bl.all fun T => PySem.W.kitOne K (.ref p.2) (.type T.2) == some (l.contains T.1)
theorem lookup_mem {α β : Type} [BEq α] [LawfulBEq α] {x : α} {y : β} : ∀ {l : List (α × β)}, l.lookup x = some y → (x, y) ∈ l
  | [], h => by cases h
  | (a, b) :: l, h => by
    rw [List.lookup_cons] at h
    cases e : x == a with
    | true =>
      rw [e] at h
      cases h
      rw [eq_of_beq e]
      exact List.mem_cons_self
    | false =>
      rw [e] at h
      exact List.mem_cons_of_mem _ (lookup_mem h)
theorem xis_of {K : PySem.W.Frag} {mg : Str → Option Value} {cs : List (Str × Addr)} {tb : List (Str × List Nat)} {ow : List ((Nat × String) × Addr)} {own bl : List (Nat × String)} (hc : ∀ p, p ∈ cs → ClN K p.1 p.2 ∧ XCl K p.2) (ht : tb.map (·.1) = cs.map (·.1)) (ho : ∀ p, p ∈ ow → mg (Str.ofString p.1.2) = some (.ref p.2))
    (he : ow.map (·.1) = own) (h : xisB K cs tb ow bl = true) : XIs K mg tb own bl := by
  have key : ∀ c l, tb.lookup c = some l → ∀ C, ClN K c C → (c, C) ∈ cs := by
    intro c l hl C hC
    have m1 : c ∈ tb.map (·.1) := List.mem_map.mpr ⟨(c, l), lookup_mem hl, rfl⟩
    rw [ht] at m1
    obtain ⟨⟨c', C'⟩, hm, rfl⟩ := List.mem_map.mp m1
    rw [hC.inj (hc _ hm).1]
    exact hm
  unfold xisB at h
  rw [List.all_eq_true] at h
  refine ⟨fun c l hl C hC => (hc _ (key c l hl C hC)).2, fun c l hl C hC n T hT D hD => ?_, fun c l hl C hC n T hT => ?_⟩
  · have z := h _ (key c l hl C hC)
    simp only [hl, Bool.and_eq_true, List.all_eq_true, beq_iff_eq] at z
    rw [← he] at hT
    obtain ⟨⟨⟨n', T'⟩, D'⟩, hm, q⟩ := List.mem_map.mp hT
    cases q
    have e := (ho _ hm).symm.trans hD
    cases e
    exact z.1 _ hm
  · have z := h _ (key c l hl C hC)
    simp only [hl, Bool.and_eq_true, List.all_eq_true, beq_iff_eq] at z
    exact z.2 _ hT
theorem taker_of {K : PySem.W.Frag} {C : Addr} {f : Str} (h : PySem.W.findIn K (.ref C) f = some none) : PySem.W.takerIn K C f = some none := by
  unfold PySem.W.takerIn
  rw [h]
  rfl
theorem xfld_nil {K : PySem.W.Frag} {f : Str} : XFld K [] f := ⟨fun c h => absurd h (by simp)⟩
theorem xfld_cons {K : PySem.W.Frag} {c : Str} {C : Addr} {cs : List Str} {f : Str} (hC : ClN K c C) (T : XCl K C) (x : PySem.W.findIn K (.ref C) f = some none) (h : XFld K cs f) : XFld K (c :: cs) f := ⟨fun c' hc C' hC' => by
  rcases List.mem_cons.mp hc with rfl | hc
  · rw [hC'.inj hC]
    exact ⟨T, x⟩
  · exact h.ex c' hc C' hC'⟩
end Mi
namespace Mi
open PySem PySem.Spec PyProof.Rows L2
variable [LamTabs]
structure FnOkG (P : Program) (w : World) (K : PySem.W.Frag) (mg : Str → Option Value) (base : Heap) (k : Nat) (f : Addr) (fd : FuncData) (ps : List Str) (sp : Sp) : Prop where
  len : ∀ vs H Q E, sp vs H Q E → vs.length = ps.length
  go : ∀ (A : Around) (outer : List PySem.Env) (s : Shared) (H : Hp) (args : Args) (us : List Value) (vs : List V) (Q : VK) (E : XK), A.guards = some [] → Room k A → Env0 P w K mg base A outer s H → BindsTo s fd args (ps.zip us) → Vals vs us → sp vs H Q E →
    codeAny (model P w) A (.call (.ref f) args) (CR CX0 outer P w H s Q E) s
theorem fn_ofG {P : Program} {w : World} {K : PySem.W.Frag} {mg : Str → Option Value} {base : Heap} {k : Nat} {f : Addr} {x qual : Str} {st : Stmt} {fd : FuncData} {N ps : List Str} {sp : Sp} (F : Fun K x qual st f fd) (sc : FnScope N ps (defScope st)) (len : ∀ vs H Q E, sp vs H Q E → vs.length = ps.length)
    (walk : ∀ (cdv : Value) (A : Around) (outer : List PySem.Env) (s : Shared) (H : Hp) (vs : List V) (Q : VK) (E : XK), A.guards = some [] → Room k (A.deeper (envOfC qual (defScope st) s.heap.objs.size f cdv)) → sp vs H Q E →
      ∃ t, PSs (cxOf CX0 P w K mg base N qual (defScope st) f cdv A outer s H E).nox (defBody st) t ∧ t { nx := fun _ H' => Q .non H', rt := Q } (start N vs) H) : FnOkG P w K mg base (k + 1) f fd ps sp := by
  obtain ⟨oc, od, kV, doc, pm, an, cdv, ct, osl, rfl, lk, hcd⟩ := F.ex
  refine ⟨len, fun A outer s H args us vs Q E hg rm e0 bind rel hsp => ?_⟩
  have lv := len _ _ _ _ hsp
  have kh : K.In s.heap := e0.mod.kin.keeps fun b o e => (e0.bs b o e).1
  have lim : s.heap.NoLimit := e0.mod.nolimit.keeps fun b o e => (e0.bs b o e).1
  have kinds : ∀ y ∈ ps.zip us, (defScope st).names.lookup y.1 = some .local ∨ ((defScope st).names.lookup y.1 = some .cell ∧ ((cellsFrom (s.heap.objs.size + 1) (defScope st).names []).lookup y.1).isSome = true) :=
    fun ⟨n, z⟩ hy => (sc.par n (List.of_mem_zip hy).1).imp id fun q => ⟨q, PySem.W.cellsFrom_some _ _ _ (.inl q)⟩
  refine codeAny_call_function rm.depth (kh _ _ lk) rfl sc.co sc.gen rfl (PySem.W.codeRec_of kh hcd) (bind _ _ _ _ ?_)
  refine wpAny_newFunctionEnv_cells sc.kind kinds fun env he s1 xs => ?_
  subst he
  refine ⟨lim.keeps xs.toInCall.keep, codeAny_func ?_⟩
  obtain ⟨t, ht, hq⟩ := walk cdv A outer s H vs Q E hg (rm.deeper _) hsp
  refine wpAny_mono (ht.nox.run [] s1 (start N vs) H _ (inv_start sc rm.hd e0 lv rel xs) hq) (fun fl s' hs => ?_) fun e s' hs => hs
  cases fl with
  | ret z =>
    obtain ⟨y, σ', H', J, ry, q⟩ := hs
    exact ⟨y, H', J.os, J.bare, J.base, J.hok, ry, q⟩
  | next =>
    obtain ⟨σ', H', J, q⟩ := hs
    exact ⟨.non, H', J.os, J.bare, J.base, J.hok, rfl, q⟩
  | brk =>
    obtain ⟨_, _, _, q⟩ := hs
    exact q.elim
  | cont =>
    obtain ⟨_, _, _, q⟩ := hs
    exact q.elim
theorem run_fnG {X : Cx} {pins : List (Addr × Obj)} {σ : L2.St} {H : Hp} {s : Shared} {Q : VK} {E : XK} {us usA : List Value} {kw : List (Str × Value)} {vs : List V} {k : Nat} {f : Addr} {fd : FuncData} {ps : List Str} {sp : Sp}
    (F : FnOkG X.prog X.w X.K X.mg X.base k f fd ps sp) (hgd : X.A.guards = some []) (hr : Room k X.A) (I : Inv X pins σ H s) (hb : BindsTo s fd ⟨us, kw⟩ (ps.zip usA)) (r : Vals vs usA) (h : sp vs H Q E) : wpAny (model X.prog X.w) X.A (call (.ref f) us kw) (EP X pins σ Q) X.xe s := by
  refine wpAny_call (codeAny_mono (F.go X.A X.stack s H ⟨us, kw⟩ usA vs Q E hgd hr I.env0 hb r h) fun rr s' hq => ?_)
  cases rr with
  | error e => exact False.elim hq
  | ok fl =>
    cases fl with
    | ret u => exact I.after hq
    | next => exact False.elim hq
    | brk => exact False.elim hq
    | cont => exact False.elim hq
structure OkAtG (P : Program) (w : World) (K : PySem.W.Frag) (mg : Str → Option Value) (base : Heap) (k : Nat) (x : Str) (st : Stmt) (ps : List Str) (f : List D → M D) : Prop where
  ex : ∃ (fa : Addr) (fd : FuncData), Fun K x x st fa fd ∧ mg x = some (.ref fa) ∧ Binds K fd ps [] ∧ FnOkG P w K mg base k fa fd ps (spM K ps.length f)
theorem OkAtG.of {P : Program} {w : World} {K : PySem.W.Frag} {mg : Str → Option Value} {base : Heap} {x : Str} {st : Stmt} {ps N : List Str} {k : Nat} {ms : Env → M (Fl × Env)} {n : Nat} (hn : N.length = n) (D : DefAt K mg x st ps) (sc : FnScope N ps (defScope st))
    (hb : ∀ (fa : Addr) (cdv : Value) (A : Around) (outer : List PySem.Env) (s : Shared) (H : Hp) (E : XK), (A.deeper (envOfC x (defScope st) s.heap.objs.size fa cdv)).guards = some [] → Room k (A.deeper (envOfC x (defScope st) s.heap.objs.size fa cdv)) →
      PSs (cxOf CX0 P w K mg base N x (defScope st) fa cdv A outer s H E).nox (defBody st) (tMs K EK0 ms)) : OkAtG P w K mg base (k + 1) x st ps (runM n ms) := by
  subst hn
  obtain ⟨fa, fd, F, hm, b⟩ := D.ex
  exact ⟨fa, fd, F, hm, b, fn_ofG F sc (spM_len rfl) fun cdv A outer s H vs Q E hg hr h => ⟨_, hb fa cdv A outer s H E hg hr, body_go h⟩⟩
section
variable {X : Cx} {a : Expr} {es : List Expr} {mas mk : Env → M (List D)} {x : Str} {p pos : Pos} {k n : Nat} {st : Stmt} {ps ks : List Str} {f : List D → M D} {π : List Nat} {kws : List Keyword}
theorem call_wish {w1 : Wd} {S1 : Sto} {H1 : Hp} {xs : List D} {vs : List V} {Q : VK} {K : PySem.W.Frag} {E : XK} (hs1 : Rs K w1 S1 H1) (rvs : RvL K w1 vs xs) (hl : xs.length = n) (q : Fin K EK0 w1 (f xs S1) (fun w' _ H' d => ∀ v, Rv K w' v d → Q v H')) : spM K n f vs H1 Q E :=
  ⟨rvs.length.trans hl, w1, S1, xs, hs1, rvs, q⟩
theorem me_callG (O : OkAtG X.prog X.w X.K X.mg X.base k x st ps f) (hgd : X.A.guards = some []) (hr : Room k X.A) (hg : Gl X x) (hn : ps.length = n) (ha : PA X (a :: es) (tMa X.K EK0 mas)) (hdb : (x == ("__debug__" : Str)) = false := by decide)
    (he : starEach (a :: es) X.env = (false, eval a X.env) :: starEach es X.env := by rfl) (hpl : (backTo pos (starEach es X.env)).any (·.1) = false := by rfl) : PE X (.Call (.Name x p) (a :: es) [] pos) (tM X.K EK0 (calF n f mas)) := by
  subst hn
  obtain ⟨fa, fd, F, hm, b, ok⟩ := O.ex
  refine ⟨fun pins s σ H Q I ⟨w, S, ρ, hs, hn, h⟩ => ?_⟩
  refine wpAny_Call_Name_kw (ld_glob I hg hm ?_ hdb)
  refine PySem.W.callWith_K (h₀ := X.base) I.ok.mod.kin F.kp (thn (ha.run pos pins s σ H _ I ⟨w, S, ρ, hs, hn, h.bind.imp fun w1 S1 H1 xs l1 s1 q vs rvs => (show ∃ w S xs, Rs X.K w S H1 ∧ RvL X.K w vs xs ∧
    Fin X.K EK0 w ((if xs.length = ps.length then f xs else bad) S) (fun w' _ H' d => ∀ v, Rv X.K w' v d → Q v H') from ⟨w1, S1, xs, s1, rvs, q⟩)⟩) fun us s1 ⟨vs, H1, I1, r1, w1, S1, xs, hs1, rvs, q⟩ => ⟨I1.kIn, ?_⟩) he hpl
  by_cases hl : xs.length = ps.length
  · rw [if_pos hl] at q
    have b1 := b s1 us I1.kIn (by rw [List.append_nil, ← r1.length, rvs.length, hl])
    rw [List.append_nil] at b1
    exact run_fnG (E := E0) ok hgd hr I1 b1 r1 (call_wish hs1 rvs hl q)
  · rw [if_neg hl] at q
    exact q.elim
end
end Mi
namespace Mi
open PySem PySem.Spec PyProof.Rows L2
variable [LamTabs]
inductive OkTab (P : Program) (w : World) (K : PySem.W.Frag) (mg : Str → Option Value) (base : Heap) (k n : Nat) : List (Str × Str) → List (Str × (List D → M D)) → Prop
  | nil : OkTab P w K mg base k n [] []
  | cons {z x : Str} {st : Stmt} {ps : List Str} {f : List D → M D} {k' : Nat} {t : List (Str × Str)} {fs : List (Str × (List D → M D))}
      (O : OkAt P w K mg base k' x st ps f) (hk : k' ≤ k) (hn : ps.length = n) (r : OkTab P w K mg base k n t fs) : OkTab P w K mg base k n ((z, x) :: t) ((z, f) :: fs)
theorem OkTab.at' {P : Program} {w : World} {K : PySem.W.Frag} {mg : Str → Option Value} {base : Heap} {k n : Nat} {z : Str} {f : List D → M D} : ∀ {t : List (Str × Str)} {fs : List (Str × (List D → M D))}, OkTab P w K mg base k n t fs → fs.lookup z = some f →
    ∃ x st ps k', t.lookup z = some x ∧ OkAt P w K mg base k' x st ps f ∧ k' ≤ k ∧ ps.length = n
  | _, _, .nil, h => by cases h
  | _, _, .cons (z := y) (x := x) (st := st) (ps := ps) (k' := k') O hk hn r, h => by
    by_cases hz : z = y
    · subst hz
      obtain rfl : _ = f := by simpa [List.lookup] using h
      exact ⟨x, st, ps, k', by simp [List.lookup], O, hk, hn⟩
    · have h1 : (z == y) = false := beq_eq_false_iff_ne.2 hz
      obtain ⟨x2, st2, ps2, k2, a, b, c, d⟩ := OkTab.at' r (by simpa [List.lookup, h1] using h)
      exact ⟨x2, st2, ps2, k2, by simp [List.lookup, h1, a], b, c, d⟩
section
variable {X : Cx} {k n i : Nat} {a e : Expr} {es : List Expr} {y T : Str} {p1 p2 p3 p4 p5 p6 p7 : Pos} {ta : TA}
theorem Rn.free {K : PySem.W.Frag} {w : Wd} {σ : L2.St} {ρ : Env} (r : Rn K w σ ρ) (i : Nat) (v : V) : Rn K w (σ.set i (some v)) (ρ.set i none) := by
  refine ⟨by simp [r.len], fun j e hj => ?_⟩
  by_cases q : j = i
  · subst q
    have hl := (List.getElem?_eq_some_iff.mp hj).1
    rw [List.getElem?_set_self (by simpa using hl)] at hj
    cases hj
  · rw [List.getElem?_set_ne (Ne.symm q)] at hj ⊢
    exact r.at' j e hj
end
end Mi
namespace Mi
open PySem PySem.Spec PyProof.Rows L2
variable [LamTabs]
noncomputable def vI? : V → Option Int
  | .int i => some i
  | .bl b => some (b2i b)
  | _ => none
noncomputable def dI? : D → Option Int
  | .int i => some i
  | .bl b => some (b2i b)
  | _ => none
noncomputable def rW (g : Int → Int → Bool) : R2 := fun x y H Q => ∃ i j, vI? x = some i ∧ vI? y = some j ∧ Q (.bl (g i j)) H
noncomputable def cmpW (g : Int → Int → Bool) (x y : D) : M D := match dI? x with
  | some i => match dI? y with
    | some j => M.pure (.bl (g i j))
    | none => bad
  | none => bad
noncomputable abbrev leW := cmpW fun i j => decide (i ≤ j)
theorem dI_V {K : PySem.W.Frag} {w : Wd} {v : V} {d : D} {i : Int} (rv : Rv K w v d) (h : dI? d = some i) : vI? v = some i := by
  cases rv <;> first | exact h | cases h
theorem cmpW_ok {K : PySem.W.Frag} {g : Int → Int → Bool} : OpM K (rW g) (cmpW g) := fun E w S H v u x y Q hs rv ru h => by
  unfold cmpW at h
  rcases hx : dI? x with _ | i
  · rw [hx] at h
    exact h.elim
  · rw [hx] at h
    rcases hy : dI? y with _ | j
    · rw [hy] at h
      exact h.elim
    · rw [hy] at h
      exact ⟨i, j, dI_V rv hx, dI_V ru hy, Fin.ok h hs _ (.bl _)⟩
section
variable {X : Cx} {K : PySem.W.Frag}
theorem gbi_le (a : Bool) (b : Int) (u : Tok) : Gives (Builtin.«int.__le__» ⟨[.bool a, .int b u], []⟩)
    (.val (Value.bool (decide ((if a = true then (1 : Int) else 0) ≤ b)))) :=
  .of_eq rfl
theorem gbi_ge (a : Bool) (b : Int) (u : Tok) : Gives (Builtin.«int.__ge__» ⟨[.bool a, .int b u], []⟩)
    (.val (Value.bool (decide ((if a = true then (1 : Int) else 0) ≥ b)))) :=
  .of_eq rfl
section
variable {prog : Program} {w : World} {A : Around} {E : Value → Shared → Prop} {s : Shared} {b : Bool} {i : Int} {t : Tok} {Q : Value → Shared → Prop}
theorem lehBI (h : Q (.bool (decide (b2i b ≤ i))) s) : wpAny (model prog w) A (compareOp .LtE (.bool b) (.int i t)) Q E s := by
  rw [show compareOp .LtE (.bool b) (.int i t) = richCompare .LtE (.bool b) (.int i t) by rfl]
  exact SeqAt.rc_left_or (op := .LtE) rfl (typeIs_int s i t) (by decide) F.sub_int_bool F.slot_bool_le
    (call_gives F.slot_bool_le rfl F.entry_int_le (F.args_int_le_2 _ _)
      (gbi_le b i t) ⟨nofun, h⟩) (.inl rfl)
theorem lehIB (h : Q (.bool (decide (i ≤ b2i b))) s) : wpAny (model prog w) A (compareOp .LtE (.int i t) (.bool b)) Q E s := by
  rw [show compareOp .LtE (.int i t) (.bool b) = richCompare .LtE (.int i t) (.bool b) by rfl]
  exact SeqAt.rc_sub_first_or (op := .LtE) (typeIs_int s i t) rfl (by decide) F.sub_bool_int F.slot_bool_ge_refl
    (call_gives F.slot_bool_ge_refl rfl F.entry_int_ge (F.args_int_ge_2 _ _)
      (gbi_ge b i t) ⟨nofun, h⟩) (.inl rfl)
end
theorem op_leW : OpR X (compareOp .LtE) (rW fun i j => decide (i ≤ j)) := fun pins s σ H x y v u Q I rx ry ⟨i, j, e1, e2, q⟩ => by
  cases x with
  | int a =>
    cases e1
    obtain ⟨t, rfl⟩ := rx
    cases y with
    | int b => cases e2; obtain ⟨t2, rfl⟩ := ry; exact PyProof.Rows.le_int ⟨.bl _, H, I, rfl, q⟩
    | bl b => cases e2; cases ry; exact lehIB ⟨.bl _, H, I, rfl, q⟩
    | _ => cases e2
  | bl a =>
    cases e1
    cases rx
    cases y with
    | int b => cases e2; obtain ⟨t2, rfl⟩ := ry; exact lehBI ⟨.bl _, H, I, rfl, q⟩
    | bl b => cases e2; cases ry; exact PyProof.Rows.le_bool ⟨.bl _, H, I, rfl, q⟩
    | _ => cases e2
  | _ => cases e1
end
noncomputable def stripM (o : D) (xs : List D) : M D := match o, xs with
  | .str a, [.str b] => if a.length ≤ 100000 then M.pure (.str (Txt.stripChars a b)) else bad
  | _, _ => bad
theorem stripM_ok {K : PySem.W.Frag} : MeM K (fun x xs H Q => ∃ a b, x = .str a ∧ xs = [.str b] ∧ a.length ≤ sizeLine ∧ Q (.str (Txt.stripChars a b)) H) stripM := fun E w S H v vs x xs Q hs rv rvs h => by
  cases x with
  | str a =>
    rcases xs with _ | ⟨d, _ | ⟨d2, r⟩⟩
    · exact h.elim
    · cases d with
      | str b =>
        obtain ⟨u, rfl, ru⟩ := args1 rvs
        cases rv
        cases ru
        have h : Fin K E w ((if a.length ≤ 100000 then M.pure (D.str (Txt.stripChars a b)) else bad) S) _ := h
        by_cases hl : a.length ≤ 100000
        · rw [if_pos hl] at h
          exact ⟨a, b, rfl, rfl, sz_of (by omega), Fin.ok h hs _ (.str _)⟩
        · rw [if_neg hl] at h
          exact h.elim
      | _ => exact h.elim
    · cases d <;> exact h.elim
  | _ => exact h.elim
end Mi
namespace Mi
open PySem PySem.Spec PyProof.Rows L2
variable [LamTabs]
noncomputable def OB : Int := 10 ^ 59
theorem pow59 : ((10 : Int) ^ (59 : Int).toNat) = OB := by decide +kernel
section
variable {cells : List Int} {T : Sto} {a r x : Int} {Q : D → Sto → Prop}
theorem dpen0 : Wp (ixD (.ref 0) (.int 0)) (penS cells a r T) Q ↔ Q (.lst (cells.map D.int)) (penS cells a r T) := wp_of rfl
theorem dpen1 : Wp (ixD (.ref 0) (.int 1)) (penS cells a r T) Q ↔ Q (.int a) (penS cells a r T) := wp_of rfl
theorem dpen2 : Wp (ixD (.ref 0) (.int 2)) (penS cells a r T) Q ↔ Q (.int r) (penS cells a r T) := wp_of rfl
theorem dput1 {ρ : Env} {Q : Env → Sto → Prop} : Wp (putDM (.ref 0) (.int 1) (.int x) ρ) (penS cells a r T) Q ↔ Q ρ (penS cells x r T) := wp_of rfl
theorem dput2 {ρ : Env} {Q : Env → Sto → Prop} : Wp (putDM (.ref 0) (.int 2) (.int x) ρ) (penS cells a r T) Q ↔ Q ρ (penS cells a x T) := wp_of rfl
end
section
variable {S : Sto} {Q : D → Sto → Prop}
theorem wp_ixLs {ds : List D} {y : D} : Wp (ixD (.lst ds) y) S Q ↔ Wp (ixM (.lst ds) y) S Q := Iff.rfl
theorem wp_lenDT {ds : List D} : Wp (lenD (.tup ds)) S Q ↔ Q (.int (ds.length : Int)) S := wp_of rfl
theorem wp_lenDS {x : Str} (h : x.length ≤ 100000) : Wp (lenD (.str x)) S Q ↔ Q (.int (x.length : Int)) S := wp_lenS h
theorem wp_lenDL {ds : List D} : Wp (lenD (.lst ds)) S Q ↔ Q (.int (ds.length : Int)) S := wp_of rfl
end
noncomputable def eqs (n : Nat) (d : D) : Prop := ∃ p, toPy d = some p ∧ p.canLay0 = true ∧ p.depth ≤ n ∧ PyData.eqv p p = true
theorem eqs.mono {n m : Nat} {d : D} (h : eqs n d) (l : n ≤ m) : eqs m d := let ⟨p, a, b, c, e⟩ := h; ⟨p, a, b, Nat.le_trans c l, e⟩
theorem eqs_int (i : Int) : eqs 1 (.int i) := ⟨.int i, rfl, rfl, by simp [PyData.depth], by simp [PyData.eqv]⟩
theorem eqs_str {x : Str} (h : PyData.strOk x = true) : eqs 1 (.str x) := ⟨.str x, rfl, by simpa [PyData.canLay0] using h, by simp [PyData.depth], by simp [PyData.eqv]⟩
theorem eqs_all {n : Nat} : ∀ {ds : List D}, (∀ d, d ∈ ds → eqs n d) → ∃ ps, toPyL ds = some ps ∧ PyData.canLayAll0 ps = true ∧ PyData.depthAll ps ≤ n ∧ PyData.eqvAll ps ps = true
  | [], _ => ⟨[], rfl, rfl, by simp [PyData.depthAll], rfl⟩
  | d :: ds, h => by
    obtain ⟨p, a, b, c, e⟩ := h d (by simp)
    obtain ⟨ps, a', b', c', e'⟩ := eqs_all (ds := ds) fun x hx => h x (by simp [hx])
    refine ⟨p :: ps, by simp [toPyL, a, a'], by simp [PyData.canLayAll0, b, b'], ?_, by simp [PyData.eqvAll, e, e']⟩
    simp only [PyData.depthAll]
    omega
theorem eqs_lst {n : Nat} {ds : List D} (h : ∀ d, d ∈ ds → eqs n d) : eqs (n + 1) (.lst ds) := by
  obtain ⟨ps, a, b, c, e⟩ := eqs_all h
  exact ⟨.list ps, by simp [toPy, a], by simpa [PyData.canLay0] using b, by simp only [PyData.depth]; omega, by simpa [PyData.eqv] using e⟩
theorem eqs_tup {n : Nat} {ds : List D} (h : ∀ d, d ∈ ds → eqs n d) : eqs (n + 1) (.tup ds) := by
  obtain ⟨ps, a, b, c, e⟩ := eqs_all h
  exact ⟨.tuple ps, by simp [toPy, a], by simpa [PyData.canLay0] using b, by simp only [PyData.depth]; omega, by simpa [PyData.eqv] using e⟩
theorem deS_eqs {n : Nat} {d : D} (h : eqs n d) (S : Sto) : deS S d = d := by
  cases d with
  | ref n => obtain ⟨p, a, _⟩ := h; simp [toPy] at a
  | _ => rfl
theorem lenDiff_self (S : Sto) (d : D) : lenDiff S d d = false := by
  unfold lenDiff
  split <;> simp_all
section
variable {S : Sto} {Q : D → Sto → Prop} {d : D}
theorem ne_self (h : eqs 64 d) : Wp (neM d d) S Q ↔ Q (.bl false) S := wp_of (by
  have hd := deS_eqs h S
  obtain ⟨p, a, b, c, e⟩ := h
  have sh : SeqAt.shaped p = true := by unfold SeqAt.shaped; simp [b, c]
  simp [neM, eqB, lenDiff_self, hd, a, sh, e])
end
end Mi
namespace Mi
open PySem PySem.Spec PyProof.Rows L2
variable [LamTabs]
/-- the dict of an exception, and what the mirror has of it -/
noncomputable def XRep (K : PySem.W.Frag) (w : Wd) (d : Option Addr) (fs : List (Str × D)) : Prop := (d = none ∧ fs = []) ∨ ∃ (dx : Addr) (xs : List (Str × V)), d = some dx ∧ w.G dx = some (.xd xs) ∧ RvX K w xs fs
theorem XRep.mono {K : PySem.W.Frag} {w w' : Wd} {d : Option Addr} {fs : List (Str × D)} (h : XRep K w d fs) (l : Lv w w') : XRep K w' d fs := by
  rcases h with h | ⟨dx, xs, e, g, r⟩
  · exact .inl h
  · exact .inr ⟨dx, xs, e, l.g _ _ g, r.monoV l⟩
/-- a wish about an exception in the air, out of the mirror's wish -/
noncomputable def WMX (K : PySem.W.Frag) (E : EK) : XK := fun cls d H => ∃ (x : Exn) (w : Wd) (S : Sto) (C : Addr), cls = .ref C ∧ ClN K x.cls C ∧ XRep K w d x.fs ∧ Rs K w S H ∧ E x w S H
/-- the mirror's wish, out of a def's wish -/
noncomputable def EX (K : PySem.W.Frag) (E : XK) : EK := fun x w S H => ∀ C d, ClN K x.cls C → XRep K w d x.fs → Rs K w S H → E (.ref C) d H
theorem wmx_ex {K : PySem.W.Frag} {E : XK} {cls : Value} {d : Option Addr} {H : Hp} (h : WMX K (EX K E) cls d H) : E cls d H := by
  obtain ⟨x, w, S, C, rfl, hC, hd, hs, h⟩ := h
  exact h C d hC hd hs
theorem ex_wmx {K : PySem.W.Frag} {E : EK} {x : Exn} {w : Wd} {S : Sto} {H : Hp} (h : E x w S H) : EX K (WMX K E) x w S H := fun C d hC hd hs => ⟨x, w, S, C, rfl, hC, hd, hs, h⟩
theorem Fin.impE {α : Type} {K : PySem.W.Frag} {E E' : EK} {w : Wd} {o : Option (Except Exn α × Sto)} {P : Wd → Sto → Hp → α → Prop} (h : Fin K E w o P) (k : ∀ x w S H, Rs K w S H → E x w S H → E' x w S H) : Fin K E' w o P := by
  rcases o with _ | ⟨_ | _, S'⟩
  · exact h
  · exact fun w2 H' l r => k _ _ _ _ r (h w2 H' l r)
  · exact h
noncomputable def spMX (K : PySem.W.Frag) (n : Nat) (f : List D → M D) : Sp := fun vs H Q E => vs.length = n ∧ ∃ w S ds, Rs K w S H ∧ RvL K w vs ds ∧ Fin K (EX K E) w (f ds S) fun w' _ H' d => ∀ v, Rv K w' v d → Q v H'
theorem spMX_len {K : PySem.W.Frag} {n : Nat} {f : List D → M D} {ps : List Str} (e : ps.length = n) : ∀ vs H Q E, spMX K n f vs H Q E → vs.length = ps.length := fun vs H Q E h => h.1.trans e.symm
noncomputable abbrev TkM (X : Cx) (E : EK) : Prop := Takes X (fun cls d _ H => WMX X.K E cls d H)
theorem tk_def {X : Cx} {E : XK} (t : Takes X (fun cls d _ H => E cls d H)) : TkM X (EX X.K E) := t.imp fun _ _ _ _ h => wmx_ex h
theorem passM {X : Cx} {E : EK} (t : TkM X E) : Passes (L2.CX X.prog X.w) X (WMX X.K E) := passes_call t fun _ _ _ _ h => h
noncomputable def noE {α : Type} (m : Env → M α) : Env → M α := fun ρ => noErr (m ρ)
section
variable {X : Cx} {E : EK} {e : Expr} {es : List Expr} {m : Env → M D} {mt : Env → M Bool} {ma : Env → M (List D)} {tg : Expr}
theorem mt_noE (h : PT X e (tMt X.K EK0 mt)) : PT X e (tMt X.K E (noE mt)) := pt_imp h fun σ H Q ⟨w, S, ρ, hs, hn, q⟩ => ⟨w, S, ρ, hs, hn, Fin.noErr q⟩
theorem ma_noE (h : PA X es (tMa X.K EK0 ma)) : PA X es (tMa X.K E (noE ma)) := pa_imp h fun σ H Q ⟨w, S, ρ, hs, hn, q⟩ => ⟨w, S, ρ, hs, hn, Fin.noErr q⟩
theorem mi_noE (h : PI X tg e (tMi X.K EK0 ma)) : PI X tg e (tMi X.K E (noE ma)) := pi_imp h fun σ H R ⟨w, S, ρ, hs, hn, q⟩ => ⟨w, S, ρ, hs, hn, Fin.noErr q⟩
end
theorem body_goX {K : PySem.W.Frag} {N : List Str} {n : Nat} {ms : Env → M (Fl × Env)} {vs : List V} {H : Hp} {Q : VK} {E : XK} (h : spMX K n (runM N.length ms) vs H Q E) : tMs K (EX K E) ms { nx := fun _ H' => Q .non H', rt := Q } (start N vs) H := by
  obtain ⟨_, w, S, ds, hs, rv, h⟩ := h
  refine ⟨w, S, _, hs, Rn.start rv N, h.bind.imp fun w1 S1 H1 r l1 s1 q => ?_⟩
  obtain ⟨fl, ρ'⟩ := r
  cases fl with
  | nx => exact fun σ' _ => Fin.ok q s1 _ .non
  | rt d => exact fun v rv => Fin.ok q s1 v rv
  | bk => exact q.elim
  | ct => exact q.elim
section
variable {P : Program} {w : World} {K : PySem.W.Frag} {mg : Str → Option Value} {base : Heap} {c m x qual : Str} {st : Stmt} {ps N ks : List Str} {dd : List D} {k n j : Nat} {ms : Env → M (Fl × Env)}
noncomputable abbrev cxX (P : Program) (w : World) (K : PySem.W.Frag) (mg : Str → Option Value) (base : Heap) (N : List Str) (qual : Str) (st : Stmt) (fa : Addr) (cdv : Value) (A : Around) (outer : List PySem.Env) (s : Shared) (H : Hp) (E : XK) : Cx :=
  cxOf (L2.CX P w) P w K mg base N qual (defScope st) fa cdv A outer s H E
theorem tk_cx {fa : Addr} {cdv : Value} {A : Around} {outer : List PySem.Env} {s : Shared} {H : Hp} {E : XK} : TkM (cxX P w K mg base N qual st fa cdv A outer s H E) (EX K E) :=
  tk_def (takes_of rfl rfl rfl rfl)
theorem fnX {f : Addr} {fd : FuncData} (F : Fun K x qual st f fd) (sc : FnScope N ps (defScope st)) (hn : N.length = n) (hb : ∀ (fa : Addr) (cdv : Value) (A : Around) (outer : List PySem.Env) (s : Shared) (H : Hp) (E : XK), Room k (A.deeper (envOfC qual (defScope st) s.heap.objs.size fa cdv)) →
    TkM (cxX P w K mg base N qual st fa cdv A outer s H E) (EX K E) → PSs (cxX P w K mg base N qual st fa cdv A outer s H E) (defBody st) (tMs K (EX K E) ms)) : FnOk P w K mg base (L2.CX P w) (k + 1) f fd ps (spMX K ps.length (runM n ms)) := by
  subst hn
  obtain ⟨oc, od, kV, doc, pm, an, cdv, ct, osl, rfl, lk, hcd⟩ := F.ex
  exact fn_of lk hcd sc (spMX_len rfl) fun A outer s H vs Q E hr h => ⟨_, hb f cdv A outer s H E hr tk_cx, body_goX h⟩
/-- a method -/
structure OkMX (P : Program) (w : World) (K : PySem.W.Frag) (mg : Str → Option Value) (base : Heap) (k : Nat) (c m qual : Str) (st : Stmt) (ps : List Str) (f : List D → M D) : Prop where
  ex : ∃ (C fa : Addr) (fd : FuncData), ClN K c C ∧ Cls K C ∧ Meth K C m fa ∧ Binds K fd ps [] ∧ FnOk P w K mg base (L2.CX P w) k fa fd ps (spMX K ps.length f) ∧ Fun K m qual st fa fd
theorem OkMX.of (hn : N.length = n) (D : MtAt K c m qual st ps) (sc : FnScope N ps (defScope st)) (hb : ∀ (fa : Addr) (cdv : Value) (A : Around) (outer : List PySem.Env) (s : Shared) (H : Hp) (E : XK), Room k (A.deeper (envOfC qual (defScope st) s.heap.objs.size fa cdv)) →
    TkM (cxX P w K mg base N qual st fa cdv A outer s H E) (EX K E) → PSs (cxX P w K mg base N qual st fa cdv A outer s H E) (defBody st) (tMs K (EX K E) ms)) : OkMX P w K mg base (k + 1) c m qual st ps (runM n ms) := by
  obtain ⟨C, fa, fd, h1, h2, h3, F, b⟩ := D.ex
  exact ⟨C, fa, fd, h1, h2, h3, b, fnX F sc hn hb, F⟩
/-- a method with keyword-only parameters -/
structure OkMdX (P : Program) (w : World) (K : PySem.W.Frag) (mg : Str → Option Value) (base : Heap) (k : Nat) (c m qual : Str) (st : Stmt) (ps : List Str) (n : Nat) (ks : List Str) (dd : List D) (f : List D → M D) : Prop where
  ex : ∃ (C fa : Addr) (fd : FuncData) (dvs : List V) (ds : List Value) (kws : List (Str × V)), ClN K c C ∧ Cls K C ∧ Meth K C m fa ∧ Binds K fd ps ds ∧ Vals dvs ds ∧ (∀ w, RvL K w dvs dd) ∧ KBn K fd ps n ks (fun us ws => us ++ ws) (fun vs zs => vs ++ zs) ∧
    ps.length = n + ks.length ∧ dd.length = ks.length ∧ FnOk P w K mg base (L2.CX P w) k fa fd ps (spMX K ps.length f) ∧ FunD K m qual (defArgs st) (defBody st) (defScope st) [] kws fa fd ∧ kws ≠ []
theorem OkMdX.of (hn : N.length = j) (D : MdAt K c m qual st ps n ks dd) (sc : FnScope N ps (defScope st)) (hb : ∀ (fa : Addr) (cdv : Value) (A : Around) (outer : List PySem.Env) (s : Shared) (H : Hp) (E : XK), Room k (A.deeper (envOfC qual (defScope st) s.heap.objs.size fa cdv)) →
    TkM (cxX P w K mg base N qual st fa cdv A outer s H E) (EX K E) → PSs (cxX P w K mg base N qual st fa cdv A outer s H E) (defBody st) (tMs K (EX K E) ms)) : OkMdX P w K mg base (k + 1) c m qual st ps n ks dd (runM j ms) := by
  subst hn
  obtain ⟨C, fa, fd, dvs, ds, kws, h1, h2, h3, b, hv, hd, kb, l1, l2, F, hz⟩ := D.ex
  refine ⟨C, fa, fd, dvs, ds, kws, h1, h2, h3, b, hv, hd, kb, l1, l2, ?_, F, hz⟩
  obtain ⟨oc, od, dV, kV, doc, pm, an, cdv, ct, osl, rfl, lk, hcd, hD, hK⟩ := F.ex
  exact fn_of lk hcd sc (spMX_len rfl) fun A outer s H vs Q E hr h => ⟨_, hb fa cdv A outer s H E hr tk_cx, body_goX h⟩
/-- a plain def -/
structure OkAX (P : Program) (w : World) (K : PySem.W.Frag) (mg : Str → Option Value) (base : Heap) (k : Nat) (x : Str) (st : Stmt) (ps : List Str) (f : List D → M D) : Prop where
  ex : ∃ (fa : Addr) (fd : FuncData), Fun K x x st fa fd ∧ mg x = some (.ref fa) ∧ Binds K fd ps [] ∧ FnOk P w K mg base (L2.CX P w) k fa fd ps (spMX K ps.length f)
theorem OkAX.of (hn : N.length = n) (D : DefAt K mg x st ps) (sc : FnScope N ps (defScope st)) (hb : ∀ (fa : Addr) (cdv : Value) (A : Around) (outer : List PySem.Env) (s : Shared) (H : Hp) (E : XK), Room k (A.deeper (envOfC x (defScope st) s.heap.objs.size fa cdv)) →
    TkM (cxX P w K mg base N x st fa cdv A outer s H E) (EX K E) → PSs (cxX P w K mg base N x st fa cdv A outer s H E) (defBody st) (tMs K (EX K E) ms)) : OkAX P w K mg base (k + 1) x st ps (runM n ms) := by
  obtain ⟨fa, fd, F, hm, b⟩ := D.ex
  exact ⟨fa, fd, F, hm, b, fnX F sc hn hb⟩
end
end Mi
namespace Mi
open PySem PySem.Spec PyProof.Rows L2
variable [LamTabs]
theorem Fin.ex {α : Type} {K : PySem.W.Frag} {E : EK} {w : Wd} {o : Option (Except Exn α × Sto)} {P : Wd → Sto → Hp → α → Prop} (h : Fin K E w o P) : Fin K (EX K (WMX K E)) w o P := h.impE fun _ _ _ _ _ q => ex_wmx q
section
variable {X : Cx} {E : EK} {a o : Expr} {es : List Expr} {kws : List Keyword} {mas mk : Env → M (List D)} {mo : Env → M D} {c m x qual : Str} {p pos apos : Pos} {k n : Nat} {ps ks : List Str} {dd : List D} {st : Stmt} {f : List D → M D} {π : List Nat}
theorem me_callX (O : OkAX X.prog X.w X.K X.mg X.base k x st ps f) (tk : TkM X E) (hr : Room k X.A) (hg : Gl X x) (hn : ps.length = n) (ha : PA X (a :: es) (tMa X.K E mas)) (hdb : (x == ("__debug__" : Str)) = false := by decide)
    (he : starEach (a :: es) X.env = (false, eval a X.env) :: starEach es X.env := by rfl) (hpl : (backTo pos (starEach es X.env)).any (·.1) = false := by rfl) : PE X (.Call (.Name x p) (a :: es) [] pos) (tM X.K E (calF n f mas)) := by
  subst hn
  obtain ⟨fa, fd, F, hm, b, ok⟩ := O.ex
  exact pe_imp (pe_call ok hr hg hm F.kp b .nil (passM tk) ha hdb he hpl) fun σ H Q ⟨w, S, ρ, hs, hn, h⟩ => ⟨w, S, ρ, hs, hn, h.bind.imp fun w1 S1 H1 xs l1 s1 h1 vs rvs => by
    by_cases hl : xs.length = ps.length
    · rw [if_pos hl] at h1
      exact ⟨by rw [List.append_nil, rvs.length, hl], w1, S1, xs, s1, by rw [List.append_nil]; exact rvs, Fin.ex h1⟩
    · rw [if_neg hl] at h1
      exact h1.elim⟩
theorem me_callKX (O : OkAX X.prog X.w X.K X.mg X.base k x st ps f) (tk : TkM X E) (hr : Room k X.A) (hg : Gl X x) (hn : ps.length = n) (h0 : ps ≠ []) (hkb : ∀ (kV doc pm : Value) (an : Option Addr) (cdv ct : Value) (ws : List Value), ws.length = π.length →
      bindArgs (PySem.W.fnOf x x (defArgs st) (defBody st) (defScope st) .none kV doc pm an cdv ct) ⟨[], ks.zip ws⟩ = pure (ps.zip (permL π ws)))
    (hkw : PK X kws (tMa X.K E mk)) (hall : (backToKw pos (keywordEach kws X.env)).all (·.1.isSome) = true := by rfl) (hks : (backToKw pos (keywordEach kws X.env)).filterMap (·.1) = ks := by rfl) (hdb : (x == ("__debug__" : Str)) = false := by decide)
    (hpl : ((backTo pos (starEach [] X.env)).any (·.1) || (backToKw pos (keywordEach kws X.env)).any (·.1.isNone)) = false := by rfl) : PE X (.Call (.Name x p) [] kws pos) (tM X.K E (calK n π f mk)) := by
  subst hn
  obtain ⟨fa, fd, F, hm, b, ok⟩ := O.ex
  obtain ⟨oc, od, kV, doc, pm, an, cdv, ct, osl, rfl, lk, hcd⟩ := F.ex
  exact pe_imp (pe_callK0 ok hr hg hm F.kp (kb_of h0 (hkb kV doc pm an cdv ct)) (passM tk) hkw hall hks hdb hpl) fun σ H Q ⟨w, S, ρ, hs, hn, h⟩ => ⟨w, S, ρ, hs, hn, h.bind.imp fun w1 S1 H1 xs l1 s1 h1 vs rvs => by
    by_cases hl : (permL π xs).length = ps.length
    · rw [if_pos hl] at h1
      exact ⟨by rw [(show RvL X.K w1 (gPos π [] vs) (permL π xs) from perm_rel π rvs).length, hl], w1, S1, permL π xs, s1, perm_rel π rvs, Fin.ex h1⟩
    · rw [if_neg hl] at h1
      exact h1.elim⟩
end
end Mi
namespace Mi
open PySem PySem.Spec PyProof.Rows L2
variable [LamTabs]
section
variable {X : Cx} {pins : List (Addr × Obj)} {σ : L2.St} {H : Hp} {s : Shared} {C fa : Addr} {fd : FuncData} {ps fs : List Str} {k : Nat} {us usA : List Value} {kw : List (Str × Value)} {vs : List V} {Q : XK}
theorem run_xr (T : XCl X.K C) (tk : ∀ f, f ∈ fs → PySem.W.takerIn X.K C f = some none) (iC : PySem.W.findIn X.K (.ref C) "__init__" = some (some (.ref fa))) (tI : PySem.W.typeIn X.K (.ref fa) = some (.type "function"))
    (F : FnOk X.prog X.w X.K X.mg X.base CX0 k fa fd ps (spX X.K fs)) (hr : Room (k + 1) X.A) (I : Inv X pins σ H s) (hb : ∀ (a : Addr) (s' : Shared), X.K.In s'.heap → BindsTo s' fd ⟨.ref a :: us, kw⟩ (ps.zip (.ref a :: usA))) (r : Vals vs usA)
    (hl : vs.length = fs.length) (hz : us.length ≤ sizeLine) (q : ∀ d, H d = none → Q (.ref C) (some d) (upd H d (.xd (xfs fs vs)))) :
    wpAny (model X.prog X.w) X.A (call (.ref C) us kw) (MkP X pins σ Q) X.xe s := by
  obtain ⟨B, nw, ini, tl, F0, SF, ii, ov⟩ := T.base
  obtain ⟨nm, N', qn, bs, bm, hdct, sn, sub, ab, col, dd, k0, k1, k2, k3, k5, hC, hT⟩ := PySem.W.excInit_of I.kIn ii
  obtain ⟨hp, g, dr, tk', os⟩ := s
  have hn : H (hp.objs.size + 1) = none := I.hok.fresh (Nat.le_succ _)
  have kk : ∀ b o, hp.get? b = some o → ((hp.push (PySem.W.kdv_tup us)).push (HandSPX.excO C hp.objs.size)).get? b = some o :=
    fun b o e => Heap.get?_push_of_some _ (Heap.get?_push_of_some _ e)
  have gx : ((hp.push (PySem.W.kdv_tup us)).push (HandSPX.excO C hp.objs.size)).get? (hp.objs.size + 1) = some (HandSPX.excO C hp.objs.size) := by
    heap_get
  have I2 : Inv X pins σ (upd H (hp.objs.size + 1) (exo (hp.objs.size + 1) C none)) ⟨(hp.push (PySem.W.kdv_tup us)).push (HandSPX.excO C hp.objs.size), g, dr, tk', os⟩ :=
    I.laid (t' := tk') (o := exo (hp.objs.size + 1) C none) kk (Nat.le_succ _) (exo_ok gx)
  have sp : spX X.K fs (.ref (hp.objs.size + 1) :: vs) (upd H (hp.objs.size + 1) (exo (hp.objs.size + 1) C none)) (fun v H2 => v = .non ∧ ∃ d, H d = none ∧ d ≠ hp.objs.size + 1 ∧ H2 (hp.objs.size + 1) = some (exo (hp.objs.size + 1) C (some d)) ∧
      H2 d = some (exd d (xfs fs vs)) ∧ ∀ b, b ≠ hp.objs.size + 1 → b ≠ d → H2 b = H b) (fun _ _ _ => False) :=
    ⟨_, C, vs, rfl, hl, T, tk, upd_same, fun d H' n ne e1 e2 e3 => ⟨rfl, d, by rwa [upd_ne ne] at n, ne, e1, e2, fun b h1 h2 => (e3 b h1 h2).trans (upd_ne h1)⟩⟩
  refine wpAny_call (xcall F0 hT hC (PySem.W.looks_findIn I.kIn iC) (fun self => PySem.W.bind_fn I.kIn self tI) hz (codeAny_mono (F.run _ X.stack _ _ ⟨.ref (hp.objs.size + 1) :: us, kw⟩ (.ref (hp.objs.size + 1) :: usA) _ _ (fun _ _ _ => False)
    (hr.make C us kw) (I2.env0.make C us kw) (hb _ _ I2.kIn) (show Vals (V.ref (hp.objs.size + 1) :: vs) (Value.ref (hp.objs.size + 1) :: usA) from .cons rfl r) sp) fun rr s' hq => ?_))
  cases rr with
  | error e => exact False.elim hq
  | ok fl =>
    cases fl with
    | ret u =>
      obtain ⟨v, H2, os2, bare2, un2, hok2, rv, ev, d, n, ne, ea, ed, eo⟩ := hq
      subst ev
      obtain ⟨h2, g2, d2, t2, os'⟩ := s'
      refine ⟨rv, mk_end (raises_own T.ex T.ty) I (Nat.le_succ _) kk un2 hok2 os2 bare2 ea ed n ?_⟩
      have e : upd (del H2 (hp.objs.size + 1)) d (.xd (xfs fs vs)) = upd H d (.xd (xfs fs vs)) := by
        funext b
        by_cases h1 : b = d
        · rw [h1, upd_same, upd_same]
        rw [upd_ne h1, upd_ne h1]
        by_cases h2 : b = hp.objs.size + 1
        · rw [h2, del_same, hn]
        rw [del_ne h2, eo b h2 h1]
      rw [e]
      exact q d n
    | next => exact False.elim hq
    | brk => exact False.elim hq
    | cont => exact False.elim hq
end
noncomputable def sRaise (c : Str) (fs : List Str) (m : Env → M (List D)) : Env → M (Fl × Env) := fun ρ => M.bind (m ρ) fun xs => if xs.length = fs.length then (fun S => some (.error ⟨c, xfs fs xs⟩, S)) else bad
section
variable {X : Cx} {E : EK} {c qual : Str} {st : Stmt} {ps fs : List Str} {k : Nat} {e : Expr} {es : List Expr} {mas : Env → M (List D)} {p pos pos2 : Pos}
theorem ms_raise (O : XMk X.prog X.w X.K X.mg X.base k c qual st ps fs) (tk : TkM X E) (hc : X.calm = true) (hr : Room (k + 1) X.A) (hg : Gl X c) (hf : fs.length ≤ 1000) (ha : PA X (e :: es) (tMa X.K E mas)) (hdb : (c == ("__debug__" : Str)) = false := by decide)
    (he : starEach (e :: es) X.env = (false, eval e X.env) :: starEach es X.env := by rfl) (hpl : (backTo pos (starEach es X.env)).any (·.1) = false := by rfl) : PS X (.Raise (some (.Call (.Name c p) (e :: es) [] pos)) none pos2) (tMs X.K E (sRaise c fs mas)) := by
  obtain ⟨C, fa, fd, hC, hm, T, tkr, iC, tI, Fn, b, l, F⟩ := O.ex
  have mk : PMk X (.Call (.Name c p) (e :: es) [] pos) (fun σ H Q => tMa X.K E mas σ H fun vs H1 => vs.length = fs.length ∧ ∀ d, H1 d = none → Q (.ref C) (some d) (upd H1 d (.xd (xfs fs vs)))) := by
    intro pins s σ H Q I h
    refine wpAny_Call_Name_kw (ld_glob I hg hm ?_ hdb)
    refine PySem.W.callWith_K (h₀ := X.base) I.ok.mod.kin T.kp (thn (ha.run pos pins s σ H _ I h) fun us s1 ⟨vs, H1, I1, r1, lv, q⟩ => ⟨I1.kIn, ?_⟩) he hpl
    refine run_xr T tkr iC tI F hr I1 (us := us) (usA := us) (fun a s' kin => ?_) r1 lv (by rw [← r1.length, sizeLine_eq]; omega) q
    have := b s' (.ref a :: us) kin (by rw [List.append_nil, List.length_cons, ← r1.length, lv, l])
    rwa [List.append_nil] at this
  refine ps_imp (ps_raise hc tk mk) fun D σ H ⟨w, S, ρ, hs, hn, h⟩ => ⟨w, S, ρ, hs, hn, h.bind.imp fun w1 S1 H1 xs l1 s1 q vs rvs => ?_⟩
  by_cases hl : xs.length = fs.length
  · rw [if_pos hl] at q
    refine ⟨rvs.length.trans hl, fun d nd => ?_⟩
    have l2 := s1.le_lay (o := .xd (xfs fs vs)) nd
    have s2 := s1.lay (o := .xd (xfs fs vs)) nd
    exact ⟨⟨c, xfs fs xs⟩, _, S1, C, rfl, hC, .inr ⟨d, xfs fs vs, rfl, by show upd _ d _ d = _; rw [upd_same], xfs_rel fs (rvs.mono l2)⟩, s2, q _ _ l2 s2⟩
  · rw [if_neg hl] at q
    exact q.elim
end
end Mi
namespace Mi
open PySem PySem.Spec L2
open PySem.W in
theorem exm4 {M : Model} {K : Frag} {c1 c2 c3 c4 cls : Value} {tp e : Addr} {o : Obj} {n : Nat} {b : Bool} {h : Heap} (X : K.In h) (LT : Looks M h (typeOf (.ref e)) cls) (hp : h.get? tp = some o) (hc : o.cls = .type "tuple") (hd : o.data = .seq [c1, c2, c3, c4].toArray n) (hx : exmAny K cls [c1, c2, c3, c4] = some b) :
    Looks M h (excMatches (.ref e) (.ref tp)) b := by
  intro A Q E s k0 q
  obtain ⟨hh, g, d, tk, os⟩ := s
  have k : ∀ b o, h.get? b = some o → hh.get? b = some o := k0
  obtain ⟨oc, od, oda, osl⟩ := o
  dsimp only at hc hd
  subst hc hd
  have isT : Looks M h (isInstance (.ref tp) (.type "tuple")) true := by
    refine Looks.andThen ?_ (Looks.of_pure isSubtype_tuple_tuple)
    exact (Looks.ld hp).andThen .now
  obtain ⟨b1, d1, x1, y1, z1⟩ := exmAny_cons hx
  obtain ⟨b2, d2, x2, y2, z2⟩ := exmAny_cons y1
  obtain ⟨b3, d3, x3, y3, z3⟩ := exmAny_cons y2
  obtain ⟨b4, d4, x4, y4, z4⟩ := exmAny_cons y3
  cases (show some false = some d4 from y4)
  obtain ⟨e1, S1⟩ := exm_cls (M := M) X x1
  obtain ⟨e2, S2⟩ := exm_cls (M := M) X x2
  obtain ⟨e3, S3⟩ := exm_cls (M := M) X x3
  obtain ⟨e4, S4⟩ := exm_cls (M := M) X x4
  replace e1 := e1.keeps k
  replace S1 := S1.keeps k
  replace e2 := e2.keeps k
  replace S2 := S2.keeps k
  replace e3 := e3.keeps k
  replace S3 := S3.keeps k
  replace e4 := e4.keeps k
  replace S4 := S4.keeps k
  replace LT := LT.keeps k
  replace isT := isT.keeps k
  replace hp := k _ _ hp
  subst z1 z2 z3 z4
  unfold excMatches
  refine wpAny_bind (isT.at ?_)
  dsimp only
  rw [if_pos rfl]
  first
    | refine wpAny_bind (wpAny_seqItems hp rfl ?_)
    | refine wpAny_bind (wpAny_bind (wpAny_seqItems hp rfl (wpAny_pure ?_)))
  dsimp only [Option.getD_some, Option.getD]
  cases b1 <;> cases b2 <;> cases b3 <;> cases b4 <;>
    ((repeat (first
      | simp only [Bool.false_eq_true, Bool.not_true, List.forIn_nil, List.forIn_cons, if_true, if_false]
      | lk)); exact q)
end Mi
namespace Mi
open PySem PySem.Spec PyProof.Rows L2
variable [LamTabs]
theorem Inv.adopt {X : Cx} {pins : List (Addr × Obj)} {σ : L2.St} {H : Hp} {s : Shared} {a C : Addr} {d : Option Addr} {oe : Obj} {vs : Array Value} (I : Inv X pins σ H s) (na : H a = none) (e : s.heap.get? a = some oe) (c : oe.cls = .ref C) (hd : oe.dict = d) (hv : oe.data = .fields vs)
    (n0 : X.s_0.heap.get? a = none) (np : ∀ p ∈ X.pn ++ pins, p.1 ≠ a) (nL : a ≠ X.env.locals) : Inv X pins σ (upd H a (exq a C d)) s := by
  have nb : ∀ b o, X.s_0.heap.get? b = some o → b ≠ a := by
    rintro b o q rfl
    rw [n0] at q
    cases q
  have nh : ∀ b o, H b = some o → b ≠ a := by
    rintro b o q rfl
    rw [na] at q
    cases q
  refine ⟨I.ok, I.os, I.bare, ⟨I.base.keep, I.base.slot, fun b o q n hx => ?_, I.base.there, fun b xs q => ?_, fun b o u q => ?_, fun b ps q => ?_⟩, I.loc, I.cell, ?_, fun y k q => ?_, fun p hp => ?_, fun b o q => ?_, I.len⟩
  · rw [upd_ne (nb b o q)]
    exact I.base.free b o q n hx
  · have z := I.base.tups b xs q
    rw [upd_ne (nh b _ z)]
    exact z
  · have z := I.base.frzs b o u q
    rw [upd_ne (nh b _ z)]
    exact z
  · obtain ⟨more, z⟩ := I.base.tbls b ps q
    exact ⟨more, by rw [upd_ne (nh b _ z)]; exact z⟩
  · rw [upd_ne (Ne.symm nL)]
    exact I.free
  · have nk : k ≠ a := by
      rintro rfl
      obtain ⟨v, o, ho, z⟩ := I.cell y k q
      rw [e] at ho
      cases ho
      rw [hv] at z
      cases z
    rw [upd_ne nk]
    exact I.freeC y k q
  · obtain ⟨q1, q2, q3⟩ := I.pin p hp
    exact ⟨q1, by rw [upd_ne (np p hp)]; exact q2, q3⟩
  · by_cases hb : b = a
    · subst hb
      rw [upd_same] at q
      cases q
      exact exq_ok e c hd hv
    · rw [upd_ne hb] at q
      refine (I.hok b o q).stay (fun _ _ _ z => z) (fun k hk => ?_) fun k xs hk => ?_
      · rw [upd_ne (nh k _ hk)]
        exact hk
      · rw [upd_ne (nh k _ hk)]
        exact hk
/-- what is wished of an exception of the body: i is the slot of c, j that of n -/
noncomputable def wKeep (K : PySem.W.Frag) (cs : List Value) (m i j : Nat) (D : Ends) : WX := fun cls d σ H => PySem.W.exmAny K cls cs = some true ∧ ∃ C, cls = .ref C ∧
  ∀ a, σ.length = m → H a = none → D.nx (((σ.set j (some (.ref a))).set i (some (.ref a))).set j none) (upd H a (exq a C d))
theorem FlyingZ.push {B h : Heap} {l : List PySem.Env} {a : Addr} {Z : Obj → Prop} (f : HandSPX.FlyingZ B l a Z h) (o : Obj) : HandSPX.FlyingZ B l a Z (h.push o) := by
  obtain ⟨k1, k2, k3, oe, vs, T, oT, ts, he, hz, hd, h1, hnT, hTe, hT, hdT, h3⟩ := f
  have k : ∀ b u, h.get? b = some u → (h.push o).get? b = some u := fun b u e => Heap.get?_push_of_some _ e
  exact ⟨fun b u e => k b u (k1 b u e), k2, k3.of_keeps fun b u e _ => ⟨u, k b u e, rfl⟩, oe, vs, T, oT, ts, k _ _ he, hz, hd, h1, hnT, hTe, k _ _ hT, hdT, h3⟩
section
variable {X : Cx} {n c x1 x2 x3 x4 : Str} {c1 c2 c3 c4 : Value} {i j : Nat} {body : List Stmt} {tk : Nat} {p1 p2 p3 p4 : Pos} {tpos cpos npos apos pos pos' : Pos} {tb : WX → TS}
theorem ps_try_keep (hs : X.stack = X.env :: X.outer) (hf : X.env.frame = some X.env.locals) (hex : X.ex = []) (hN : X.N.Nodup) (hi : X.N[i]? = some c) (hlc : X.env.kindOf c = some .local) (hj : X.N[j]? = some n) (hln : X.env.kindOf n = some .local) (hij : i ≠ j)
    (hnd : (n == ("__debug__" : Str)) = false) (hncd : (n == ("__classdict__" : Str)) = false)
    (n1 : Names X x1 c1) (n2 : Names X x2 c2) (n3 : Names X x3 c3) (n4 : Names X x4 c4)
    (hb : ∀ (W : WX) (pn : List (Addr × Obj)) (xe : Value → Shared → Prop), Takes (X.tr pn xe) W → PassesOwn (model X.prog X.w) X.A X.env xe → PSs (X.tr pn xe) body (tb W)) :
    PS X (.Try body [.ExceptHandler (some (.Tuple [.Name x1 p1, .Name x2 p2, .Name x3 p3, .Name x4 p4] tk tpos)) (some n) [.Assign [.Name c cpos] (.Name n npos) apos] pos'] [] [] pos) (fun D σ H => tb (wKeep X.K [c1, c2, c3, c4] X.N.length i j D) D σ H) := by
  refine ⟨fun pins s σ H D I h => ?_⟩
  have ok := I.ok
  have hfr : X.A.frames = some (X.env :: X.outer) := by rw [ok.frames, hs]
  have lN : Loc X.env.scope n := .inl hln
  have lC : Loc X.env.scope c := .inl hlc
  refine wpAny_Try_except ?_
  refine wpAny_mono ((hb (wKeep X.K [c1, c2, c3, c4] X.N.length i j D) (X.pn ++ pins) (fun e s1 => wpAny (model X.prog X.w) X.A (noteFrame e X.env) (fun _ s2 => wpAny (model X.prog X.w) X.A (setFlight e none) (fun _ s3 =>
    wpAny (model X.prog X.w) X.A (handleBy e X.env [.ExceptHandler (some (.Tuple [.Name x1 p1, .Name x2 p2, .Name x3 p3, .Name x4 p4] tk tpos)) (some n) [.Assign [.Name c cpos] (.Name n npos) apos] pos']) (SP X pins D) X.xe s3) X.xe s2) X.xe s1) (fun u s' xx => ?_) PassesOwn.looking).run [] s σ H D (I.toTry _) h) (fun f s1 hsp => ?_) (fun e s1 he => he)
  · obtain ⟨a, B, sI, pins', σ', H', cls, d, rfl, J', nb, up, sky, na, os, ag, hx, C, rfl, hyes⟩ := xx
    have J : Inv X pins σ' H' sI := J'.ofTry ok
    have sky' : Sky B (X.env :: X.outer) a (Zc (.ref C) d) X.env.locals s'.heap := by rw [← hs]; exact sky
    show wpAny (model X.prog X.w) X.A (noteFrame (.ref a) X.env) _ _ _
    refine Sky.land Zc.steady hfr hf sky' fun h3 fl3 up3 => ?_
    have J3 : Inv X pins σ' H' { s' with heap := h3 } := J.landed nb fl3.1 (up.trans up3) os ag
    obtain ⟨oe3, vs3, he3, hz3, hd3⟩ := fl3.there
    have nfr : a ∉ frs (X.env :: X.outer) := fun hm => by
      obtain ⟨_, o', e', hnf⟩ := fl3.2.2.1.mem hm
      rw [he3] at e'
      cases e'
      exact hnf _ hd3
    have nL : a ≠ X.env.locals := fun z => nfr (List.mem_filterMap.mpr ⟨X.env, List.mem_cons_self, by rw [hf, z]⟩)
    have nF : a ∉ X.fs := fun hm => by
      obtain ⟨e, he, q⟩ := List.mem_filterMap.mp hm
      exact nfr (List.mem_filterMap.mpr ⟨e, List.mem_cons_of_mem _ he, q⟩)
    have nI : sI.heap.get? a = none := by
      cases q : sI.heap.get? a with
      | none => rfl
      | some o =>
        have z := nb a o q (by rw [hs]; exact nfr)
        rw [fl3.2.1] at z
        cases z
    have n0 : X.s_0.heap.get? a = none := by
      cases q : X.s_0.heap.get? a with
      | none => rfl
      | some o =>
        obtain ⟨o', z⟩ := J.base.there a o q (by rw [hex]; simp)
        rw [nI] at z
        cases z
    have npin : ∀ p ∈ X.pn ++ pins, p.1 ≠ a := fun p hp z => by
      have q := (J.pin p hp).1
      rw [z, nI] at q
      cases q
    have S3 := J3.suite he3 hd3 na nL nF
    refine wpAny_handleBy_cons (codeAny_handlers_test ?_) (by intro q; cases q)
    have test : ∀ {x : Str} {c : Value} {p : Pos} {Q : Value → Shared → Prop} {E : Value → Shared → Prop}, Names X x c → Q c { s' with heap := h3 } → wpAny (model X.prog X.w) (X.A.mark (some (.ref a))) (eval (.Name x p) X.env) Q E { s' with heap := h3 } := fun {x c p Q E} hc q => by
      obtain ⟨hg, hdbg, hm | ⟨hm, hv, hnn⟩⟩ := hc
      · exact ld_glob (X := X.suite a ((a, oe3) :: (X.pn ++ pins))) S3 hg hm q hdbg
      · exact ld_blt (X := X.suite a ((a, oe3) :: (X.pn ++ pins))) S3 hg hm hv q hnn hdbg
    refine wpAny_Tuple_spliced ?_
    show wpAny _ _ (spliced ((false, eval (.Name x1 p1) X.env) :: (false, eval (.Name x2 p2) X.env) :: (false, eval (.Name x3 p3) X.env) :: (false, eval (.Name x4 p4) X.env) :: [])) _ _ _
    refine Calls.spliced_cons (test n1 (Calls.spliced_cons (test n2 (Calls.spliced_cons (test n3 (Calls.spliced_cons (test n4 (Calls.spliced_nil ⟨?_, ?_⟩))))))))
    · show 4 ≤ sizeLine
      rw [sizeLine_eq]
      omega
    have fl5 := FlyingZ.push fl3 { cls := .type "tuple", data := .seq [c1, c2, c3, c4].toArray }
    have up5 : h3.UpToSlots (h3.push { cls := .type "tuple", data := .seq [c1, c2, c3, c4].toArray }) := fun b o e _ => ⟨o.slots, Heap.get?_push_of_some _ e⟩
    have J5 : Inv X pins σ' H' { s' with heap := h3.push { cls := .type "tuple", data := .seq [c1, c2, c3, c4].toArray } } := J.landed nb fl5.1 ((up.trans up3).trans up5) os ag
    have he5 : (h3.push { cls := .type "tuple", data := .seq [c1, c2, c3, c4].toArray }).get? a = some oe3 := Heap.get?_push_of_some _ he3
    have LT : PySem.W.Looks (model X.prog X.w) (h3.push { cls := .type "tuple", data := .seq [c1, c2, c3, c4].toArray }) (typeOf (.ref a)) (.ref C) := fun A Q E s k q => wpAny_typeOf_ref (k _ _ he5) (by rw [hz3.1]; exact q)
    have LM := exm4 (M := model X.prog X.w) J5.kIn LT (Heap.get?_push_size _ rfl) rfl rfl hx
    refine LM.here ?_
    refine codeAny_handlers_suite_as ?_
    refine HandSPX.lands_againZ fl5 fun h4 fl4 up4 => ?_
    have J4 : Inv X pins σ' H' { s' with heap := h4 } := J.landed nb fl4.1 (((up.trans up3).trans up5).trans up4) os ag
    obtain ⟨oe4, vs4, he4, hz4, hd4⟩ := fl4.there
    have S4 := J4.suite he4 hd4 na nL nF
    have hjσ : j < σ'.length := by rw [J4.len]; exact (List.getElem?_eq_some_iff.mp hj).1
    refine store_ok (X := X.suite a ((a, oe4) :: (X.pn ++ pins))) (v := .ref a) S4 hN hj lN rfl (fun s5 S5 => ?_) (.inr hln)
    have st : PS (X.suite a ((a, oe4) :: (X.pn ++ pins))) (.Assign [.Name c cpos] (.Name n npos) apos) _ := ps_set (i := i) hN hi lC (pe_var (X := X.suite a ((a, oe4) :: (X.pn ++ pins))) (i := j) hj (.inl hln) hnd hncd) rfl (.inr hlc)
    refine wpAny_mono ((pss_one st).run [] s5 _ H' ({ nx := fun σ6 H6 => σ6 = (σ'.set j (some (.ref a))).set i (some (.ref a)) ∧ H6 = H', rt := fun _ _ => False, bk := fun _ _ => False, ct := fun _ _ => False }) S5 ?_) (fun f s6 hsp => ?_) (fun _ _ z => False.elim z)
    · refine ⟨.ref a, List.getElem?_set_self hjσ, ?_⟩
      exact ⟨rfl, rfl⟩
    cases f with
    | next =>
      obtain ⟨σ6, H6, S6, rfl, rfl⟩ := hsp
      have J6 := S6.unsuite ok
      have he6 : s6.heap.get? a = some oe4 := (S6.pin (a, oe4) List.mem_cons_self).1
      refine gone_ok (Inv.adopt J6 na he6 hz4.1 hz4.2 hd4 n0 npin nL) hN hj hln fun s7 J7 => ?_
      exact ⟨_, _, J7, hyes a J4.len na⟩
    | brk =>
      obtain ⟨σ6, H6, S6, q6⟩ := hsp
      exact q6.elim
    | cont =>
      obtain ⟨σ6, H6, S6, q6⟩ := hsp
      exact q6.elim
    | ret u =>
      obtain ⟨v6, σ6, H6, S6, r6, q6⟩ := hsp
      exact q6.elim
  · cases f with
    | next =>
      obtain ⟨σ', H', J', q⟩ := hsp
      exact wpAny_execs_nil ⟨σ', H', J'.ofTry ok, q⟩
    | brk =>
      obtain ⟨σ', H', J', q⟩ := hsp
      exact ⟨σ', H', J'.ofTry ok, q⟩
    | cont =>
      obtain ⟨σ', H', J', q⟩ := hsp
      exact ⟨σ', H', J'.ofTry ok, q⟩
    | ret u =>
      obtain ⟨v, σ', H', J', r, q⟩ := hsp
      exact ⟨v, σ', H', J'.ofTry ok, r, q⟩
end
end Mi
namespace Mi
open PySem PySem.Spec PyProof.Rows L2 LamX
variable [LamTabs]
theorem Rs.extN {K : PySem.W.Frag} {w : Wd} {S : Sto} {H H1 : Hp} (r : Rs K w S H) (e : ExtN H H1) (t : LamX.Tabs (LamTabs.T K) H1) : Rs K w S H1 :=
  ⟨fun a o h => e a o (r.g a o h) fun ps z => r.nt a ps (by rw [h, z]), fun a o h => e a o (r.f a o h) fun ps z => r.nf a ps (by rw [h, z]), r.gf, r.len, r.nd, r.ag,
    fun n a c h1 h2 => (r.cell n a c h1 h2).mono (Le.refl w) fun o ho => e a o ho ((r.cell n a c h1 h2).soft o ho).1, r.sy, t, r.nt, r.nf⟩
/-- what is behind the try, from the slots on -/
noncomputable def fromM (ms : Env → M (Fl × Env)) (ρ : Env) : M D := M.bind (ms ρ) fun r => match r with
  | (.nx, _) => M.pure .non
  | (.rt d, _) => M.pure d
  | _ => bad
noncomputable def catchM (known : List Str) (m i : Nat) (mrest : Env → M (Fl × Env)) (x : Exn) : M D :=
  if x.cls ∈ known then fromM mrest ((List.replicate m none).set i (some (.exc x.cls x.fs))) else bad
noncomputable def heardM (known : List Str) (m i : Nat) (mrest : Env → M (Fl × Env)) (mc : M D) : M D := fun S => match mc S with
  | some (.ok d, S1) => M.pure (.lst [d]) S1
  | some (.error x, S1) => catchM known m i mrest x S1
  | none => none
noncomputable def TTk (K : PySem.W.Frag) (hm : M D → M D) : (XK → Hp → VK → Prop) → Hp → VK → Prop := fun tl H Q => ∃ (w : Wd) (S : Sto) (mc : M D), Rs K w S H ∧
  (∀ (E : XK) (Q' : VK), Fin K (EX K E) w (mc S) (fun w' _ H' d => ∀ v, Rv K w' v d → Q' v H') → tl E H Q') ∧ Fin K EK0 w (hm mc S) fun w' _ H' d => ∀ v, Rv K w' v d → Q v H'
section
variable {X : Cx} {Ng : List Str} {x a c n x1 x2 x3 x4 q : Str} {sg : Scope} {g c1 c2 c3 c4 : Addr} {cdg : Value} {i j ct tk lk : Nat} {tpos cpos npos apos pos pos' p0 p1 p2 p3 p5 p6 p7 p8 p9 p10 p11 p12 : Pos} {known : List Str} {rest : List Stmt} {mrest : Env → M (Fl × Env)}
theorem heard_gives (hN : Ng.Nodup) (hi : Ng[i]? = some c) (hj : Ng[j]? = some n) (hij : i ≠ j) (h0i : 0 ≠ i) (hlc : sg.names.lookup c = some .local) (hln : sg.names.lookup n = some .local)
    (hnd : (n == ("__debug__" : Str)) = false) (hncd : (n == ("__classdict__" : Str)) = false)
    (n1 : sg.names.lookup x1 = some .globalImplicit ∧ (x1 == ("__debug__" : Str)) = false ∧ X.mg x1 = some (.ref c1)) (n2 : sg.names.lookup x2 = some .globalImplicit ∧ (x2 == ("__debug__" : Str)) = false ∧ X.mg x2 = some (.ref c2))
    (n3 : sg.names.lookup x3 = some .globalImplicit ∧ (x3 == ("__debug__" : Str)) = false ∧ X.mg x3 = some (.ref c3)) (n4 : sg.names.lookup x4 = some .globalImplicit ∧ (x4 == ("__debug__" : Str)) = false ∧ X.mg x4 = some (.ref c4))
    (h0 : ∀ f : Addr, (L2.start Ng [V.ref f])[0]? = some (some (V.ref f)))
    (hk : ∀ y ∈ known, ∀ C, ClN X.K y C → PySem.W.exmAny X.K (.ref C) [.ref c1, .ref c2, .ref c3, .ref c4] = some true)
    (hrest : ∀ s H, PSs (cxOf C8.CX0 X.prog X.w X.K X.mg X.base Ng x sg g cdg X.A X.stack s H C8.E0).nox rest (tMs X.K EK0 mrest)) :
    GivesTo X Ng x sg g cdg (.Assign [.Name c p0] (.Constant .none ct p9) p10 :: .Try [.Return (some (.List [.Call (.Name a p1) [] [] p2] p3)) p12] [.ExceptHandler (some (.Tuple [.Name x1 p5, .Name x2 p6, .Name x3 p7, .Name x4 p8] tk tpos)) (some n) [.Assign [.Name c cpos] (.Name n npos) apos] pos'] [] [] pos :: rest)
      a q (TTk X.K (heardM known Ng.length i mrest)) := by
  intro f c' s H Q tl act hc h
  obtain ⟨w, S, mc, hs, ht, hf⟩ := h
  have gl : ∀ {y : Str}, sg.names.lookup y = some .globalImplicit → Gl (cxOf C8.CX0 X.prog X.w X.K X.mg X.base Ng x sg g cdg X.A X.stack s H C8.E0).nox y := fun h => h
  have T := ps_try_keep (X := (cxOf C8.CX0 X.prog X.w X.K X.mg X.base Ng x sg g cdg X.A X.stack s H C8.E0).nox) (i := i) (j := j) (c1 := .ref c1) (c2 := .ref c2) (c3 := .ref c3) (c4 := .ref c4) (tk := tk) (tpos := tpos) (cpos := cpos) (npos := npos) (apos := apos) (pos' := pos') (pos := pos) (p1 := p5) (p2 := p6) (p3 := p7) (p4 := p8)
    (body := [.Return (some (.List [.Call (.Name a p1) [] [] p2] p3)) p12])
    (tb := fun W D σ H' => ∃ Ech : XK, (∀ cls d σ' H', Ech cls d H' → W cls d σ' H') ∧ σ[0]? = some (some (.ref f)) ∧ H' = H ∧ tl Ech H fun v H1 => [v].length ≤ sizeLine ∧ ∀ p, H1 p = none → D.rt (.ref p) (upd H1 p (.lst [v])))
    rfl rfl rfl hN hi hlc hj hln hij hnd hncd ⟨gl n1.1, n1.2.1, .inl n1.2.2⟩ ⟨gl n2.1, n2.2.1, .inl n2.2.2⟩ ⟨gl n3.1, n3.2.1, .inl n3.2.2⟩ ⟨gl n4.1, n4.2.1, .inl n4.2.2⟩ fun W pn xe tk' _ => ?_
  · refine ⟨_, pss_cons (ps_set (X := (cxOf C8.CX0 X.prog X.w X.K X.mg X.base Ng x sg g cdg X.A X.stack s H C8.E0).nox) (i := i) hN hi (.inl hlc) pe_non rfl (.inr hlc)) (pss_cons T (hrest s H)), ?_⟩
    refine ⟨WMX X.K (fun y w S H' => Fin X.K EK0 w (catchM known Ng.length i mrest y S) fun w' _ H' d => ∀ v, Rv X.K w' v d → Q v H'), fun cls d σ' H' hx => ?_, ?_, rfl, ?_⟩
    · obtain ⟨y, w1, S1, C, rfl, hC, hd, s1, fin⟩ := hx
      by_cases hy : y.cls ∈ known
      · refine ⟨hk _ hy C hC, C, rfl, fun a hl na => ?_⟩
        have l2 := s1.le_lay (o := exq a C d) na
        have s2 := s1.lay (o := exq a C d) na
        have rx : Rv X.K (w1.lay a (exq a C d)) (.ref a) (.exc y.cls y.fs) := by
          have ga : (w1.lay a (exq a C d)).G a = some (exq a C d) := by show upd w1.G a _ a = _; rw [upd_same]
          rcases (hd.mono l2.v) with ⟨rfl, e⟩ | ⟨dx, xs, rfl, gd, r⟩
          · rw [e]
            exact .exn hC ga
          · exact .exc hC ga gd r
        unfold catchM at fin
        rw [if_pos hy] at fin
        unfold fromM at fin
        refine ⟨_, S1, (List.replicate Ng.length none).set i (some (.exc y.cls y.fs)), s2, ⟨?_, fun k dk hk => ?_⟩, (fin.mono l2).bind.imp fun w3 S3 H3 r l3 s3 q => ?_⟩
        · have hl' : σ'.length = Ng.length := hl
          simp [hl']
        · by_cases hki : k = i
          · subst hki
            have hlt : k < σ'.length := by
              rw [show σ'.length = Ng.length from hl]
              exact (List.getElem?_eq_some_iff.mp hi).1
            rw [List.getElem?_set_self (by rw [List.length_replicate]; exact (List.getElem?_eq_some_iff.mp hi).1)] at hk
            cases hk
            exact ⟨.ref a, by rw [List.getElem?_set_ne (Ne.symm hij), List.getElem?_set_self (by simpa using hlt)], rx⟩
          · rw [List.getElem?_set_ne (Ne.symm hki)] at hk
            rw [List.getElem?_replicate] at hk
            split at hk <;> cases hk
        · obtain ⟨fl, ρ'⟩ := r
          cases fl with
          | nx => exact fun σ' _ => Fin.ok q s3 _ .non
          | rt d => exact fun v rv => Fin.ok q s3 v rv
          | bk => exact q.elim
          | ct => exact q.elim
      · unfold catchM at fin
        rw [if_neg hy] at fin
        exact (show False from fin).elim
    · rw [List.getElem?_set_ne (Ne.symm h0i)]
      exact h0 f
    · refine ht _ _ ?_
      unfold heardM at hf
      rcases hm : mc S with _ | ⟨y | d, S1⟩
      · rw [hm] at hf
        exact hf.elim
      · rw [hm] at hf
        exact fun w1 H1 l1 s1 => ex_wmx (Fin.mono hf l1)
      · rw [hm] at hf
        intro w1 H1 l1 s1 v rv
        refine ⟨by show 1 ≤ sizeLine; rw [sizeLine_eq]; omega, fun p hp => ?_⟩
        have l2 := s1.le_lay (o := .lst [v]) hp
        exact hf _ _ (l1.trans l2) (s1.lay hp) (.ref p) (.lst (by show upd w1.G p _ p = _; rw [upd_same]) (.one (rv.mono l2)))
  · refine ⟨fun pins s' σ H' D I h' => ?_⟩
    obtain ⟨Ech, hW, h1, rfl, h3⟩ := h'
    have hp := act W pn xe Ech p1 p2 tk' hW
    exact (pss_one (ps_ret (pos := p12) (pe_lst (pos := p3) (pa_cons hp pa_nil)))).run pins s' σ H' D I ⟨h1, hc, h3⟩
end
end Mi
namespace Mi
open PySem PySem.Spec PyProof.Rows L2 LamX
variable [LamTabs]
structure LamAt (K : PySem.W.Frag) (base : Heap) (mg : Str → Option Value) (c P : Addr) (q : Str) : Prop where
  tb : TabB base mg c P
  m : (P, q) ∈ LamTabs.T K
  u : ∀ p ∈ LamTabs.T K, p.1 = P → p.2 = q
/-- a def, its code object named -/
structure DefC (K : PySem.W.Frag) (mg : Str → Option Value) (x : Str) (st : Stmt) (ps : List Str) (c : Addr) : Prop where
  ex : ∃ (fa : Addr) (oc : Value) (od : Option Addr) (kV doc pm : Value) (an : Option Addr) (ct : Value) (osl : Array (Option Value)),
    K.lookup fa = some ⟨oc, od, .func (PySem.W.fnOf x x (defArgs st) (defBody st) (defScope st) .none kV doc pm an (.ref c) ct), osl⟩ ∧ PySem.W.codeIn K (.ref c) x = true ∧ PySem.W.keepIn K (.ref fa) = true ∧ mg x = some (.ref fa) ∧
      Binds K (PySem.W.fnOf x x (defArgs st) (defBody st) (defScope st) .none kV doc pm an (.ref c) ct) ps []
structure OkHd (P : Program) (w : World) (K : PySem.W.Frag) (mg : Str → Option Value) (base : Heap) (x : Str) (hm : M D → M D) : Prop where
  ex : ∃ (g : Addr) (a : Str) (Ng : List Str) (pg : Arguments) (bg : List Stmt) (sg : Scope) (dV kV doc pm cdv ct oc : Value) (an od : Option Addr) (osl : Array (Option Value)), mg x = some (.ref g) ∧ PySem.W.keepIn K (.ref g) = true ∧
    K.lookup g = some ⟨oc, od, .func (PySem.W.fnOf x x pg bg sg dV kV doc pm an cdv ct), osl⟩ ∧ PySem.W.codeIn K cdv x = true ∧ L2.Binds K (PySem.W.fnOf x x pg bg sg dV kV doc pm an cdv ct) [a] [] ∧ FnScope Ng [a] sg ∧ Ng[0]? = some a ∧ Vis sg a ∧
      (a == ("__debug__" : Str)) = false ∧ (a == ("__classdict__" : Str)) = false ∧ ∀ (X : Cx) (q : Str), X.prog = P → X.w = w → X.K = K → X.mg = mg → X.base = base → GivesTo X Ng x sg g cdv bg a q (TTk X.K hm)
theorem OkHd.of {P : Program} {w : World} {K : PySem.W.Frag} {mg : Str → Option Value} {base : Heap} {x a : Str} {st : Stmt} {hm : M D → M D} {Ng : List Str} (D : DefAt K mg x st [a]) (sc : FnScope Ng [a] (defScope st)) (h0 : Ng[0]? = some a) (hv : Vis (defScope st) a)
    (hd : (a == ("__debug__" : Str)) = false) (hcd : (a == ("__classdict__" : Str)) = false)
    (hG : ∀ (X : Cx) (q : Str) (g : Addr) (cdv : Value), X.prog = P → X.w = w → X.K = K → X.mg = mg → X.base = base → GivesTo X Ng x (defScope st) g cdv (defBody st) a q (TTk X.K hm)) : OkHd P w K mg base x hm := by
  obtain ⟨fa, fd, F, hmg, b⟩ := D.ex
  obtain ⟨oc, od, kV, doc, pm, an, cdv, ct, osl, rfl, lk, hcc⟩ := F.ex
  exact ⟨fa, a, Ng, _, _, _, _, _, _, _, _, _, _, _, _, _, hmg, F.kp, lk, hcc, b, sc, h0, hv, hd, hcd, fun X q e1 e2 e3 e4 e5 => hG X q fa cdv e1 e2 e3 e4 e5⟩
theorem tk_lam {X : Cx} {A : Around} {outer : List PySem.Env} {s : Shared} {H : Hp} {E : XK} {scope : Scope} {f c' : Addr} : TkM (lamCx X A outer s H E scope f c') (EX X.K E) := tk_def (takes_of rfl rfl rfl rfl)
section
variable {X : Cx} {E : EK} {x : Str} {c P : Addr} {k : Nat} {hm : M D → M D} {params : Arguments} {body : Expr} {scope : Scope} {mb : Env → M D} {p lpos pos : Pos}
theorem me_lam (O : OkHd X.prog X.w X.K X.mg X.base x hm) (LA : LamAt X.K X.base X.mg c P (X.env.qual ++ "<lambda>")) (hcode : X.env.code = .ref c) (hr : Room (k + 2) X.A) (hg : Gl X x) (L : LamS X.env.scope scope) (hdef : defaultsOf params X.env = ([], []))
    (hbind : ∀ (q : Str) (cl : List (Str × Addr)) (pm cv ctv : Value), bindArgs (PySem.W.kla_fn "<lambda>" q params body scope cl pm cv ctv) ⟨[], []⟩ = pure [])
    (hbody : ∀ (A : Around) (outer : List PySem.Env) (s : Shared) (H : Hp) (E : XK) (f c' : Addr), Room k (A.deeper (lamEnv X scope s.heap.objs.size f c')) → TkM (lamCx X A outer s H E scope f c') (EX X.K E) →
      PE (lamCx X A outer s H E scope f c') body (tM X.K (EX X.K E) mb)) (hdb : (x == ("__debug__" : Str)) = false := by decide) :
    PE X (.Call (.Name x p) [.Lambda params body scope lpos] [] pos) (tM X.K E fun ρ => noErr (hm (mb ρ))) := by
  obtain ⟨g, a, Ng, pg, bg, sg, dV, kV, doc, pm, cdv, ct, oc, an, od, osl, hmg, hk, lk, hcg, hb, Sg, h0, hva, hd, hcd, hG⟩ := O.ex
  have z := pe_lamcall (T := LamTabs.T X.K) (t := fun E => tM X.K (EX X.K E) mb) (p := p) (lpos := lpos) (pos := pos) hg hmg hk lk hcg hb Sg h0 hva (hG X _ rfl rfl rfl rfl rfl) LA.tb hcode LA.m LA.u hr L hdef hbind (fun A outer s H E f c' h => hbody A outer s H E f c' h tk_lam) hdb hd hcd
  exact pe_imp z fun σ H Q ⟨w, S, ρ, hs, hn, h⟩ => ⟨hs.tb, fun H1 e t => ⟨w, S, mb ρ, hs.extN e t, fun E' Q' hf => ⟨w, S, ρ, hs.extN e t, hn, hf⟩, Fin.noErr h⟩⟩
end
end Mi
namespace Mi
open PySem PySem.Spec PyProof.Rows L2
variable [LamTabs]
section
variable {X : Cx} {E : EK} {st : Stmt} {ss : List Stmt} {ms : Env → M (Fl × Env)}
theorem ms_noE (h : PS X st (tMs X.K EK0 ms)) : PS X st (tMs X.K E (noE ms)) := ps_imp h fun D σ H ⟨w, S, ρ, hs, hn, q⟩ => ⟨w, S, ρ, hs, hn, Fin.noErr q⟩
end
/-- four classes that an except clause names, and the classes that are known to be theirs -/
structure Cat4 (K : PySem.W.Frag) (mg : Str → Option Value) (x1 x2 x3 x4 : Str) (known : List Str) : Prop where
  ex : ∃ c1 c2 c3 c4 : Addr, mg x1 = some (.ref c1) ∧ mg x2 = some (.ref c2) ∧ mg x3 = some (.ref c3) ∧ mg x4 = some (.ref c4) ∧ ∀ y ∈ known, ∀ C, ClN K y C → PySem.W.exmAny K (.ref C) [.ref c1, .ref c2, .ref c3, .ref c4] = some true
section
variable {P : Program} {w : World} {K : PySem.W.Frag} {mg : Str → Option Value} {base : Heap} {x : Str} {st : Stmt} {ps N : List Str} {k n : Nat} {c : Addr} {ms : Env → M (Fl × Env)}
theorem fn_ofGC {f : Addr} {qual : Str} {oc kV doc pm ct : Value} {od an : Option Addr} {osl : Array (Option Value)} {sp : Sp} (lk : K.lookup f = some ⟨oc, od, .func (PySem.W.fnOf x qual (defArgs st) (defBody st) (defScope st) .none kV doc pm an (.ref c) ct), osl⟩) (hcd : PySem.W.codeIn K (.ref c) qual = true)
    (sc : FnScope N ps (defScope st)) (len : ∀ vs H Q E, sp vs H Q E → vs.length = ps.length)
    (walk : ∀ (A : Around) (outer : List PySem.Env) (s : Shared) (H : Hp) (vs : List V) (Q : VK) (E : XK), A.guards = some [] → Room k (A.deeper (envOfC qual (defScope st) s.heap.objs.size f (.ref c))) → sp vs H Q E →
      ∃ t, PSs (cxOf CX0 P w K mg base N qual (defScope st) f (.ref c) A outer s H E).nox (defBody st) t ∧ t { nx := fun _ H' => Q .non H', rt := Q } (start N vs) H) : FnOkG P w K mg base (k + 1) f (PySem.W.fnOf x qual (defArgs st) (defBody st) (defScope st) .none kV doc pm an (.ref c) ct) ps sp := by
  refine ⟨len, fun A outer s H args us vs Q E hg rm e0 bind rel hsp => ?_⟩
  have lv := len _ _ _ _ hsp
  have kh : K.In s.heap := e0.mod.kin.keeps fun b o e => (e0.bs b o e).1
  have lim : s.heap.NoLimit := e0.mod.nolimit.keeps fun b o e => (e0.bs b o e).1
  have kinds : ∀ y ∈ ps.zip us, (defScope st).names.lookup y.1 = some .local ∨ ((defScope st).names.lookup y.1 = some .cell ∧ ((cellsFrom (s.heap.objs.size + 1) (defScope st).names []).lookup y.1).isSome = true) :=
    fun ⟨n, z⟩ hy => (sc.par n (List.of_mem_zip hy).1).imp id fun q => ⟨q, PySem.W.cellsFrom_some _ _ _ (.inl q)⟩
  refine codeAny_call_function rm.depth (kh _ _ lk) rfl sc.co sc.gen rfl (PySem.W.codeRec_of kh hcd) (bind _ _ _ _ ?_)
  refine wpAny_newFunctionEnv_cells sc.kind kinds fun env he s1 xs => ?_
  subst he
  refine ⟨lim.keeps xs.toInCall.keep, codeAny_func ?_⟩
  obtain ⟨t, ht, hq⟩ := walk A outer s H vs Q E hg (rm.deeper _) hsp
  refine wpAny_mono (ht.nox.run [] s1 (start N vs) H _ (inv_start sc rm.hd e0 lv rel xs) hq) (fun fl s' hs => ?_) fun e s' hs => hs
  cases fl with
  | ret z =>
    obtain ⟨y, σ', H', J, ry, q⟩ := hs
    exact ⟨y, H', J.os, J.bare, J.base, J.hok, ry, q⟩
  | next =>
    obtain ⟨σ', H', J, q⟩ := hs
    exact ⟨.non, H', J.os, J.bare, J.base, J.hok, rfl, q⟩
  | brk =>
    obtain ⟨_, _, _, q⟩ := hs
    exact q.elim
  | cont =>
    obtain ⟨_, _, _, q⟩ := hs
    exact q.elim
theorem OkAtG.ofC (hn : N.length = n) (D : DefC K mg x st ps c) (sc : FnScope N ps (defScope st)) (hb : ∀ (fa : Addr) (A : Around) (outer : List PySem.Env) (s : Shared) (H : Hp) (E : XK), (A.deeper (envOfC x (defScope st) s.heap.objs.size fa (.ref c))).guards = some [] → Room k (A.deeper (envOfC x (defScope st) s.heap.objs.size fa (.ref c))) →
    PSs (cxOf CX0 P w K mg base N x (defScope st) fa (.ref c) A outer s H E).nox (defBody st) (tMs K EK0 ms)) : OkAtG P w K mg base (k + 1) x st ps (runM n ms) := by
  subst hn
  obtain ⟨fa, oc, od, kV, doc, pm, an, ct, osl, lk, hcd, kp, hm, b⟩ := D.ex
  exact ⟨fa, _, fun_mk lk hcd kp, hm, b, fn_ofGC lk hcd sc (spM_len rfl) fun A outer s H vs Q E hg hr h => ⟨_, hb fa A outer s H E hg hr, body_go h⟩⟩
end
theorem lamS_of {X : Cx} {st : Stmt} {scope : Scope} (e : X.env.scope = defScope st) (h : LamX.lamSB (defScope st) scope = true) : LamX.LamS X.env.scope scope := by
  rw [e]
  exact LamX.lamS_by h
end Mi
namespace PySem.SeqAt
open MeetsSeq
end PySem.SeqAt
namespace Mi
open PySem PySem.Spec PyProof.Rows L2
variable [LamTabs]
noncomputable def intT : D → M D
  | .int i => M.pure (.int i)
  | .bl b => M.pure (.int (if b then 1 else 0))
  | .str x => match PySem.intText? x with
    | some n => if x.length ≤ 640 then M.pure (.int n) else bad
    | none => bad
  | _ => bad
noncomputable def rIntT : List V → Hp → VK → Prop := fun xs H Q => ((∃ i, xs = [.int i] ∧ Q (.int i) H) ∨ ∃ k, xs = [.bl k] ∧ Q (.int (if k then 1 else 0)) H) ∨ ∃ a n, xs = [.str a] ∧ PySem.intText? a = some n ∧ a.length ≤ 640 ∧ Q (.int n) H
theorem call_intT {X : Cx} : CallR X (.type "int") rIntT := by
  intro pins s σ H xs us Q I r h
  rcases h with h | h
  · exact call_int1 pins s σ H xs us Q I r h
  · exact call_int_str pins s σ H xs us Q I r h
theorem intT_ok {K : PySem.W.Frag} : CaM K rIntT (on1 intT) := on1_ok fun E w S H v x Q hs rv h => by
  cases x with
  | int i => cases rv; exact .inl (.inl ⟨i, rfl, Fin.ok h hs _ (.int _)⟩)
  | bl i => cases rv; exact .inl (.inr ⟨i, rfl, Fin.ok h hs _ (.int _)⟩)
  | str a =>
    cases rv
    unfold intT at h
    rcases hn : PySem.intText? a with _ | n
    · simp only [hn] at h
      exact h.elim
    · by_cases hl : a.length ≤ 640
      · simp only [hn, hl, if_true] at h
        exact .inr ⟨a, n, rfl, hn, hl, Fin.ok h hs _ (.int _)⟩
      · simp only [hn, hl, if_false] at h
        exact h.elim
  | _ => exact h.elim
theorem mulOk_of {a : Str} {n : Int} (h : 0 ≤ n ∧ n ≤ 100 ∧ a.length ≤ 100) : MulOk a n := by
  obtain ⟨h0, h1, h2⟩ := h
  refine ⟨?_, ?_, ?_⟩
  · rw [decide_eq_false (by omega), decide_eq_false (by omega)]; rfl
  · intro h3 _ h4
    have h5 : (2 ^ 63 - 1 : Int) / 100 ≤ (2 ^ 63 - 1) / n := by
      apply Int.le_ediv_of_mul_le (by omega)
      have : (2 ^ 63 - 1 : Int) / 100 * n ≤ (2 ^ 63 - 1 : Int) / 100 * 100 := Int.mul_le_mul_of_nonneg_left h1 (by decide)
      have : (2 ^ 63 - 1 : Int) / 100 * 100 ≤ 2 ^ 63 - 1 := by decide
      omega
    have : (2 ^ 63 - 1 : Int) / 100 = 92233720368547758 := by decide
    omega
  · intro _ _
    have : a.length * n.toNat ≤ 100 * 100 := Nat.mul_le_mul h2 (by omega)
    show decide (_ > _) = false
    exact decide_eq_false (by have : sizeLine = 16777216 := rfl; omega)
theorem op_mulStr {X : Cx} : OpR X (binaryOp .Mult) (fun x y H Q => ∃ a n, x = .str a ∧ y = .int n ∧ MulOk a n ∧ Q (.str (Txt.mul a n)) H) := by
  intro pins s σ H x y v u Q I rx ry h
  obtain ⟨i, j, rfl, rfl, hz, q⟩ := h
  obtain ⟨t, rfl⟩ := rx
  obtain ⟨t', rfl⟩ := ry
  exact PySem.SB.mul hz (fun t' tk => ⟨.str _, H, I.tok _, ⟨_, rfl⟩, q⟩)
noncomputable def mulT (x y : D) : M D := match x, y with
  | .str a, .int n => if 0 ≤ n ∧ n ≤ 100 ∧ a.length ≤ 100 then M.pure (.str (Txt.mul a n)) else bad
  | _, _ => bad
theorem mulT_ok {K : PySem.W.Frag} : OpM K (fun x y H Q => ∃ a n, x = .str a ∧ y = .int n ∧ MulOk a n ∧ Q (.str (Txt.mul a n)) H) mulT := by
  intro E w S H v u x y Q hs rv ru h
  cases x with
  | str i =>
    cases rv
    cases y with
    | int j =>
      cases ru
      have h : Fin K E w ((if 0 ≤ j ∧ j ≤ 100 ∧ i.length ≤ 100 then M.pure (D.str (Txt.mul i j)) else bad) S) _ := h
      by_cases hc : 0 ≤ j ∧ j ≤ 100 ∧ i.length ≤ 100
      · rw [if_pos hc] at h
        exact ⟨i, j, rfl, rfl, mulOk_of hc, Fin.ok h hs _ (.str _)⟩
      · rw [if_neg hc] at h
        exact h.elim
    | _ => exact h.elim
  | _ => exact h.elim
section
variable {X : Cx} {E : EK} {a b : Expr} {ma mb : Env → M D} {pos : Pos}
theorem me_mulT (ha : PE X a (tM X.K E ma)) (hb : PE X b (tM X.K E mb)) : PE X (.BinOp a .Mult b pos) (tM X.K E (b2 mulT ma mb)) := me_op op_mulStr mulT_ok ha hb
end
end Mi
namespace Mi
open PySem PySem.Spec PyProof.Rows L2
variable [LamTabs]
/-- what an iterator at it over l tells: where it stands (At), what it goes over (Src) -/
structure Feed (P : Program) (w : World) (it l : Addr) (At : Heap → Nat → Prop) (Src : Heap → Array Value → Prop) : Prop where
  up {h h' : Heap} {k : Nat} : At h k → (∀ o, h.get? it = some o → h'.get? it = some o) → At h' k
  upS {h h' : Heap} {xs : Array Value} : Src h xs → (∀ o, h.get? l = some o → h'.get? l = some o) → Src h' xs
  lt {h : Heap} {k : Nat} : At h k → it < h.objs.size
  item {A : Around} {E : Value → Shared → Prop} {s : Shared} {k : Nat} {xs : Array Value} {x : Value} {Q : Value → Shared → Prop} : At s.heap k → Src s.heap xs → xs[k]? = some x →
    (∀ h', At h' (k + 1) → Heap.SameBut it s.heap h' → Q x { s with heap := h' }) → wpAny (model P w) A (Builtin.SmallTypes.nextOf (.ref it)) Q E s
  last {A : Around} {E : Value → Shared → Prop} {s : Shared} {k : Nat} {xs : Array Value} {Q : Value → Shared → Prop} : A.handled = none → At s.heap k → Src s.heap xs → xs[k]? = none →
    (∀ h' e, Heap.ExtBut it s.heap h' → (∃ o, h'.get? e = some o ∧ o.cls = .type "StopIteration") → E (.ref e) { s with heap := h' }) → wpAny (model P w) A (Builtin.SmallTypes.nextOf (.ref it)) Q E s
theorem feedL {P : Program} {w : World} {it l : Addr} : Feed P w it l (fun h k => h.IsListIter it l k) (fun h xs => h.IsList l xs) :=
  ⟨fun a b => a.at b, fun a b => a.at b, fun ⟨_, e, _⟩ => Heap.lt_size e, fun a b c d => wpAny_nextOf_list_item a b c d, fun a b c d e => wpAny_nextOf_list_end a b c d e⟩
theorem feedT {P : Program} {w : World} {it l : Addr} : Feed P w it l (fun h k => h.IsTupleIter it l k) (fun h xs => h.IsTuple l xs) :=
  ⟨fun a b => a.at b, fun a b => a.at b, fun ⟨_, e, _⟩ => Heap.lt_size e, fun a b c d => RZ.nextOf_tuple_item a b c d, fun a b c d e => RZ.nextOf_tuple_end a b c d e⟩
/-- all but the zip's own four objects stay -/
noncomputable def Stay (z TO i1 i2 : Addr) (h h' : Heap) : Prop := ∀ c o, c ≠ z → c ≠ TO → c ≠ i1 → c ≠ i2 → h.get? c = some o → h'.get? c = some o
section
variable {P : Program} {w : World} {A : Around} {E : Value → Shared → Prop} {s : Shared} {z TI TO i1 i2 l1 l2 : Addr} {k1 k2 : Nat} {xs ys : Array Value} {a b : Value} {At1 At2 : Heap → Nat → Prop} {Src1 Src2 : Heap → Array Value → Prop}
theorem zip_step {Q : Value → Shared → Prop} (F1 : Feed P w i1 l1 At1 Src1) (F2 : Feed P w i2 l2 At2 Src2) (hh : A.handled = none) (D : ZipApart z TI TO i1 i2 l1 l2)
    (hz : IsZip s.heap z TI TO .none) (hTI : IsPair s.heap TI (.ref i1) (.ref i2)) (hTO : IsPair s.heap TO a b)
    (h1 : At1 s.heap k1) (h2 : At2 s.heap k2) (q1 : Src1 s.heap xs) (q2 : Src2 s.heap ys)
    (hQ : ∀ x y, xs[k1]? = some x → ys[k2]? = some y → ∀ h', IsZip h' z TI TO (rawInt s.heap.objs.size) → IsPair h' TO x y → At1 h' (k1 + 1) → At2 h' (k2 + 1) → IsPair h' s.heap.objs.size x y → h'.objs.size = s.heap.objs.size + 1 →
      Stay z TO i1 i2 s.heap h' → Q (.ref s.heap.objs.size) { s with heap := h' })
    (hE : (xs[k1]? = none ∨ ys[k2]? = none) → ∀ h' e, Stay z TO i1 i2 s.heap h' → (∃ o, h'.get? e = some o ∧ o.cls = .type "StopIteration") → E (.ref e) { s with heap := h' }) :
    wpAny (model P w) A (Builtin.«zip.__next__» ⟨[.ref z], []⟩) (fun fin s' => ∃ v, fin = .done (.ret v) ∧ Q v s') E s := by
  show wpAny _ _ (field (.ref z) 2 >>= _) _ _ _
  refine wpAny_bind (wpAny_field hz rfl (x := .bool false) rfl ?_)
  show wpAny _ _ (field (.ref z) 3 >>= _) _ _ _
  refine wpAny_bind (wpAny_field hz rfl (x := .ref TI) rfl (wpAny_bind (wpAny_seqItems hTI rfl ?_)))
  show wpAny _ _ (Builtin.SmallTypes.ownedTupleIsFree (.ref z) >>= _) _ _ _
  refine wpAny_bind ?_
  unfold Builtin.SmallTypes.ownedTupleIsFree
  refine wpAny_bind (wpAny_field hz rfl (x := .none) rfl (wpAny_pure ?_))
  simp only [if_true]
  refine wpAny_bind (wpAny_rule (wpAny_bind (wpAny_field hz rfl (x := .ref TO) rfl (wpAny_bind (wpAny_setField_rec hz (by simp) fun g1 z1 s1 => ?_)))))
  replace z1 : IsZip g1 z TI TO .ellipsis := z1
  have u1 : ∀ c o, c ≠ z → s.heap.get? c = some o → g1.get? c = some o := fun c o n e => s1.extBut c o n e
  refine wpAny_bind ?_
  simp only [List.zipIdx_cons, List.zipIdx_nil, List.forIn_cons, List.forIn_nil]
  refine wpAny_bind (wpAny_bind (wpAny_onRaise ?_))
  show wpAny _ _ (Builtin.SmallTypes.nextOf (.ref i1) >>= _) _ _ _
  have a1 : At1 g1 k1 := F1.up h1 fun o e => u1 _ o D.i1z e
  have b1 : Src1 g1 xs := F1.upS q1 fun o e => u1 _ o D.l1z e
  cases hx : xs[k1]? with
  | none =>
    refine wpAny_bind (F1.last hh a1 b1 hx fun g2 e s2 he => ?_)
    obtain ⟨oe, hoe, hce⟩ := he
    have z2 : IsZip g2 z TI TO .ellipsis := s2 _ _ D.i1z.symm z1
    have ne : e ≠ z := fun q => by subst q; rw [z2] at hoe; cases hoe; simp at hce
    exact wpAny_setField_rec z2 (by simp) fun g3 _ s3 => hE (.inl hx) g3 e (fun c o n1 _ n3 _ q => s3.extBut _ _ n1 (s2 _ _ n3 (u1 c o n1 q))) ⟨oe, s3.extBut _ _ ne hoe, hce⟩
  | some x =>
    refine wpAny_bind (F1.item a1 b1 hx fun g2 a2 s2 => wpAny_pure ?_)
    have t2 : IsPair g2 TO a b := s2.extBut _ _ D.TOi1 (u1 _ _ D.TOz hTO)
    refine wpAny_bind (wpAny_seqItems t2 rfl (wpAny_bind (wpAny_updateSeq_pair t2 fun g3 t3 s3 => ?_)))
    replace t3 : IsPair g3 TO x b := t3
    have u3 : ∀ c o, c ≠ z → c ≠ TO → c ≠ i1 → s.heap.get? c = some o → g3.get? c = some o := fun c o n1 n2 n3 e => s3.extBut _ _ n2 (s2.extBut _ _ n3 (u1 c o n1 e))
    have z3 : IsZip g3 z TI TO .ellipsis := s3.extBut _ _ D.TOz.symm (s2.extBut _ _ D.i1z.symm z1)
    have c3 : At2 g3 k2 := F2.up h2 fun o e => u3 _ o D.i2z D.TOi2.symm D.i12.symm e
    have d3 : Src2 g3 ys := F2.upS q2 fun o e => u3 _ o D.l2z D.l2TO D.l2i1 e
    have a3 : At1 g3 (k1 + 1) := F1.up a2 fun o e => s3.extBut _ _ D.TOi1.symm e
    refine wpAny_bind (wpAny_letGo (wpAny_pure ?_))
    refine wpAny_bind (wpAny_bind (wpAny_onRaise ?_))
    show wpAny _ _ (Builtin.SmallTypes.nextOf (.ref i2) >>= _) _ _ _
    cases hy : ys[k2]? with
    | none =>
      refine wpAny_bind (F2.last hh c3 d3 hy fun g4 e s4 he => ?_)
      obtain ⟨oe, hoe, hce⟩ := he
      have z4 : IsZip g4 z TI TO .ellipsis := s4 _ _ D.i2z.symm z3
      have ne : e ≠ z := fun q => by subst q; rw [z4] at hoe; cases hoe; simp at hce
      exact wpAny_setField_rec z4 (by simp) fun g5 _ s5 => hE (.inr hy) g5 e (fun c o n1 n2 n3 n4 q => s5.extBut _ _ n1 (s4 _ _ n4 (u3 c o n1 n2 n3 q))) ⟨oe, s5.extBut _ _ ne hoe, hce⟩
    | some y =>
      refine wpAny_bind (F2.item c3 d3 hy fun g4 c4 s4 => wpAny_pure ?_)
      have t4 : IsPair g4 TO x b := s4.extBut _ _ D.TOi2 t3
      refine wpAny_bind (wpAny_seqItems t4 rfl (wpAny_bind (wpAny_updateSeq_pair t4 fun g5 t5 s5 => ?_)))
      replace t5 : IsPair g5 TO x y := t5
      refine wpAny_bind (wpAny_letGo (wpAny_pure (wpAny_pure (wpAny_bind (wpAny_seqItems t5 rfl (wpAny_bind (wpAny_newTuple ?_)))))))
      have hsz : g5.objs.size = s.heap.objs.size := by rw [s5.1, s4.1, s3.1, s2.1, s1.1]
      have z5 : IsZip g5 z TI TO .ellipsis := s5.extBut _ _ D.TOz.symm (s4.extBut _ _ D.i2z.symm z3)
      have a5 : At1 g5 (k1 + 1) := F1.up a3 fun o e => s5.extBut _ _ D.TOi1.symm (s4.extBut _ _ D.i12 e)
      have c5 : At2 g5 (k2 + 1) := F2.up c4 fun o e => s5.extBut _ _ D.TOi2.symm e
      have zl : z < g5.objs.size := Heap.lt_size z5
      show wpAny _ _ (Builtin.SmallTypes.ownedTupleHandOut (.ref z) (.ref g5.objs.size) >>= _) _ _ _
      refine wpAny_bind ?_
      unfold Builtin.SmallTypes.ownedTupleHandOut
      have z6 : IsZip (g5.push { cls := .type "tuple", data := .seq #[x, y] }) z TI TO .ellipsis := Heap.get?_push_of_some _ z5
      refine wpAny_bind (wpAny_setField_rec z6 (by simp) fun g7 z7 s7 => ?_)
      replace z7 : IsZip g7 z TI TO (rawInt g5.objs.size) := z7
      refine wpAny_setField_rec z7 (by simp) fun g8 z8 s8 => ?_
      replace z8 : IsZip g8 z TI TO (rawInt g5.objs.size) := z8
      have u8 : ∀ c o, c ≠ z → g5.get? c = some o → g8.get? c = some o := fun c o n e => s8.extBut _ _ n (s7.extBut _ _ n (Heap.get?_push_of_some _ e))
      have p8 : IsPair g8 g5.objs.size x y := s8.extBut _ _ (Nat.ne_of_gt zl) (s7.extBut _ _ (Nat.ne_of_gt zl) (Heap.get?_push_size _ rfl))
      have n8 : g8.objs.size = g5.objs.size + 1 := by rw [s8.1, s7.1, Heap.size_push]
      rw [hsz] at z8 p8 n8
      refine wpAny_pure ⟨_, rfl, ?_⟩
      show Q (.ref g5.objs.size) _
      rw [hsz]
      exact hQ x y hx hy g8 z8 (u8 _ _ D.TOz t5) (F1.up a5 fun o e => u8 _ o D.i1z e) (F2.up c5 fun o e => u8 _ o D.i2z e) p8 n8 fun c o n1 n2 n3 n4 e => u8 c o n1 (s5.extBut _ _ n2 (s4.extBut _ _ n4 (u3 c o n1 n2 n3 e)))
theorem zip_pyNext {Q : Option Value → Shared → Prop} (F1 : Feed P w i1 l1 At1 Src1) (F2 : Feed P w i2 l2 At2 Src2) (hh : A.handled = none) (D : ZipApart z TI TO i1 i2 l1 l2)
    (hz : IsZip s.heap z TI TO .none) (hTI : IsPair s.heap TI (.ref i1) (.ref i2)) (hTO : IsPair s.heap TO a b)
    (h1 : At1 s.heap k1) (h2 : At2 s.heap k2) (q1 : Src1 s.heap xs) (q2 : Src2 s.heap ys)
    (hQ : ∀ x y, xs[k1]? = some x → ys[k2]? = some y → ∀ h', IsZip h' z TI TO (rawInt s.heap.objs.size) → IsPair h' TO x y → At1 h' (k1 + 1) → At2 h' (k2 + 1) → IsPair h' s.heap.objs.size x y → h'.objs.size = s.heap.objs.size + 1 →
      Stay z TO i1 i2 s.heap h' → Q (some (.ref s.heap.objs.size)) { s with heap := h' })
    (hN : (xs[k1]? = none ∨ ys[k2]? = none) → ∀ h', Stay z TO i1 i2 s.heap h' → Q none { s with heap := h' }) : wpAny (model P w) A (pyNext (.ref z)) Q E s := by
  have hT : s.TypeIs (.ref z) "zip" := ⟨_, hz, rfl⟩
  unfold pyNext
  refine wpAny_bind (wpAny_attempt (wpAny_callSpecial?_slot (name := Str.ofString "__next__") hT F.slot_zip_next
    (wpAny_call_entry F.slot_zip_next hT F.entry_zip_next (zip_step F1 F2 hh D hz hTI hTO h1 h2 q1 q2 (fun x y hx hy h' b1 b2 b3 b4 b5 b6 b7 => wpAny_pure (hQ x y hx hy h' b1 b2 b3 b4 b5 b6 b7)) fun hend h' e hk he => ?_) (F.args_zip_next_1 _))))
  obtain ⟨o, ho, hc⟩ := he
  exact wpAny_bind (wpAny_isInstance (T := "StopIteration") (b := true) ⟨o, ho, hc⟩ isSubtype_stop (wpAny_pure (hN hend _ hk)))
end
end Mi
namespace Mi
open PySem PySem.Spec PyProof.Rows L2
variable [LamTabs]
/-- the five objects that zip(t, l) lays -/
noncomputable def tlLay (h : Heap) (t l : Addr) : Heap :=
  ((((h.push { cls := .type "tuple_iterator", data := .fields #[.ref t, .int 0 0] }).push { cls := .type "list_iterator", data := .fields #[.ref l, .int 0 0] }).push
    { cls := .type "tuple", data := .seq #[.ref h.objs.size, .ref (h.objs.size + 1)] }).push { cls := .type "tuple", data := .seq #[.none, .none] }).push
    { cls := .type "zip", data := .fields #[.none, .bool false, .bool false, .ref (h.objs.size + 2), .ref (h.objs.size + 3)] }
theorem tl_new (t l : Addr) (xs ys : Array Value) : Meets (Builtin.«zip.__new__» ⟨[.type "zip", .ref t, .ref l], []⟩) (fun _ R s => s.heap.IsTuple t xs ∧ s.heap.IsList l ys ∧ R (.ok (.ret (.ref (s.heap.objs.size + 4)))) { s with heap := tlLay s.heap t l }) :=
  .of_wp fun prog w A R s h => by
    obtain ⟨hp, g, d, tk, os⟩ := s
    obtain ⟨ht, hl, h⟩ := h
    have hsub := sub_zip
    have e1 : ∀ o, (hp.push o).objs.size = hp.objs.size + 1 := fun o => Heap.size_push ..
    have e2 : ∀ o p, ((hp.push o).push p).objs.size = hp.objs.size + 2 := fun o p => by rw [Heap.size_push, e1]
    have e3 : ∀ o p q, (((hp.push o).push p).push q).objs.size = hp.objs.size + 3 := fun o p q => by rw [Heap.size_push, e2]
    have e4 : ∀ o p q r, ((((hp.push o).push p).push q).push r).objs.size = hp.objs.size + 4 := fun o p q r => by rw [Heap.size_push, e3]
    have hT : Heap.IsTuple (Shared.heap ⟨hp, g, d, tk, os⟩) t xs := ht
    have hL : Heap.IsList (Shared.heap ⟨hp.push { cls := .type "tuple_iterator", data := .fields #[.ref t, .int 0 0] }, g, d, tk, os⟩) l ys := Heap.IsList.push hl _
    wp_walk using wpAny_pyIter_tuple hT, wpAny_pyIter_list hL
    simp only [e1, e2, e3, e4]
    exact ⟨_, rfl, h⟩
section
variable {P : Program} {w : World} {A : Around} {E : Value → Shared → Prop} {s : Shared}
theorem call_zipM {t l : Addr} {xs ys : Array Value} {Q : Value → Shared → Prop} (ht : s.heap.IsTuple t xs) (hl : s.heap.IsList l ys)
    (h : ∀ h', IsZip h' (s.heap.objs.size + 4) (s.heap.objs.size + 2) (s.heap.objs.size + 3) .none → IsPair h' (s.heap.objs.size + 2) (.ref s.heap.objs.size) (.ref (s.heap.objs.size + 1)) →
      IsPair h' (s.heap.objs.size + 3) .none .none → h'.IsTupleIter s.heap.objs.size t 0 → h'.IsListIter (s.heap.objs.size + 1) l 0 →
      (∀ c o, s.heap.get? c = some o → h'.get? c = some o) → Q (.ref (s.heap.objs.size + 4)) { s with heap := h' }) :
    wpAny (model P w) A (call (.type "zip") [.ref t, .ref l]) Q E s := by
  refine callType_new F.called_zip (by decide) (F.typeCall_zip_2 _ _) (F.newCall_zip_2 _ _) (fun obj => F.args_object_init_3 obj _ _) F.entry_zip_new (tl_new t l xs ys) ⟨ht, hl, ?_⟩
  have keep : ∀ (h : Heap) (o : Obj) {c : Addr} {x : Obj}, h.get? c = some x → (h.push o).get? c = some x := fun h o c x e => Heap.get?_push_of_some _ e
  have top : ∀ (h : Heap) (o : Obj) {n : Nat}, h.objs.size = n → o.isFreed = false → (h.push o).get? n = some o := fun h o n e f => by subst e; exact Heap.get?_push_size _ f
  have g0 : (tlLay s.heap t l).get? s.heap.objs.size = some _ := keep _ _ (keep _ _ (keep _ _ (keep _ _ (top s.heap _ rfl rfl))))
  have g1 : (tlLay s.heap t l).get? (s.heap.objs.size + 1) = some _ := keep _ _ (keep _ _ (keep _ _ (top _ _ (by rw [Heap.size_push]) rfl)))
  have g2 : (tlLay s.heap t l).get? (s.heap.objs.size + 2) = some _ := keep _ _ (keep _ _ (top _ _ (by rw [Heap.size_push, Heap.size_push]) rfl))
  have g3 : (tlLay s.heap t l).get? (s.heap.objs.size + 3) = some _ := keep _ _ (top _ _ (by rw [Heap.size_push, Heap.size_push, Heap.size_push]) rfl)
  have g4 : (tlLay s.heap t l).get? (s.heap.objs.size + 4) = some _ := top _ _ (by rw [Heap.size_push, Heap.size_push, Heap.size_push, Heap.size_push]) rfl
  exact ⟨⟨_, g4, rfl⟩, h _ g4 g2 g3 ⟨_, g0, rfl, rfl⟩ ⟨_, g1, rfl, rfl⟩ fun c o e => keep _ _ (keep _ _ (keep _ _ (keep _ _ (keep _ _ e))))⟩
end
/-- the tuple at a, the list at b, as they stand at each turn -/
noncomputable def ItzM (K : PySem.W.Frag) (a b : Addr) : It :=
  ⟨fun i H => ∃ (xs ys : List V) (x y : V), SqT K H a xs ∧ SqL K H b ys ∧ xs[i]? = some x ∧ ys[i]? = some y,
    fun i H v H' => ∃ T x y, v = .ref T ∧ H T = none ∧ H' = upd H T (.tup [x, y]) ∧ (∀ xs, SqT K H a xs → xs[i]? = some x) ∧ ∀ ys, SqL K H b ys → ys[i]? = some y,
    fun i H => ∃ xs ys : List V, SqT K H a xs ∧ SqL K H b ys ∧ (xs.length ≤ i ∨ ys.length ≤ i)⟩
theorem five {c z TI TO i1 i2 : Addr} (h : c ∈ [z, TI, TO, i1, i2]) : c = z ∨ c = TI ∨ c = TO ∨ c = i1 ∨ c = i2 := by simpa using h
theorem turn_zipM {P : Program} {w : World} {K : PySem.W.Frag} {elts : List Expr} {kk : Nat} {tpos : Pos} {a b z TI TO i1 i2 : Addr} (D : ZipApart z TI TO i1 i2 a b) :
    Turn P w K (.Tuple elts kk tpos) (ItzM K a b) [z, TI, TO, i1, i2] z (fun i h => IsZip h z TI TO .none ∧ IsPair h TI (.ref i1) (.ref i2) ∧ (∃ x y, IsPair h TO x y) ∧ h.IsTupleIter i1 a i ∧ h.IsListIter i2 b i) where
  mem := by simp
  obj := fun i h st c hc => by
    obtain ⟨hz, hTI, ⟨x, y, hTO⟩, ⟨o1, e1, _, d1⟩, ⟨o2, e2, _, d2⟩⟩ := st
    rcases five hc with rfl | rfl | rfl | rfl | rfl
    · exact ⟨_, hz, fun v q => nomatch q⟩
    · exact ⟨_, hTI, fun v q => nomatch q⟩
    · exact ⟨_, hTO, fun v q => nomatch q⟩
    · exact ⟨o1, e1, fun v q => by rw [d1] at q; cases q⟩
    · exact ⟨o2, e2, fun v q => by rw [d2] at q; cases q⟩
  keep := fun i h h' st k => by
    obtain ⟨hz, hTI, ⟨x, y, hTO⟩, h1, h2⟩ := st
    exact ⟨k z (by simp) _ hz, k TI (by simp) _ hTI, ⟨x, y, k TO (by simp) _ hTO⟩, h1.at fun o q => k i1 (by simp) o q, h2.at fun o q => k i2 (by simp) o q⟩
  item := by
    intro X hP hw hK hc i pins s σ H E I hf st hg
    subst hP hw hK
    obtain ⟨hz, hTI, ⟨x0, y0, hTO⟩, h1, h2⟩ := st
    obtain ⟨xs, ys, x, y, hqx, hqy, hx, hy⟩ := hg
    obtain ⟨its, rv, p, _⟩ := I.tuple hqx
    obtain ⟨its2, rv2, p2, _⟩ := I.list hqy
    obtain ⟨u, hu, ru⟩ := rv.get hx
    obtain ⟨u2, hu2, ru2⟩ := rv2.get hy
    have hzl : z < s.heap.objs.size := Heap.lt_size hz
    have eu : its.toArray[i]? = some u := by simpa using hu
    have eu2 : its2.toArray[i]? = some u2 := by simpa using hu2
    refine zip_pyNext feedT feedL (I.ok.hd hc) D hz hTI hTO h1 h2 p p2.isList (fun v v2 hv hv2 h' z' TO' h1' h2' hT hsz hk => ?_) (fun hend => by rcases hend with q | q <;> simp_all)
    rw [eu] at hv; cases hv
    rw [eu2] at hv2; cases hv2
    refine ⟨_, rfl, wpAny_letOwnedTupleGo_zip (s := { s with heap := h' }) z' fun h'' z'' sb => ?_⟩
    have hT2 : h''.get? s.heap.objs.size = some { cls := .type "tuple", data := .seq #[u, u2] } := (sb.2 _ (Nat.ne_of_gt hzl)).trans hT
    have new : ObjOk X.prog X.w (upd H s.heap.objs.size (.tup [x, y])) h'' s.heap.objs.size (.tup [x, y]) :=
      ⟨by show 2 ≤ sizeLine; decide, [u, u2], .cons ru (.cons ru2 .nil), ⟨_, hT2, rfl, _, rfl⟩⟩
    have I1 : Inv X pins σ (upd H s.heap.objs.size (.tup [x, y])) { s with heap := h'' } :=
      I.turnedNew (t' := s.toks) (ch := [z, TI, TO, i1, i2]) (fun c o hb q => (sb.2 c (fun q' => hb (by simp [q']))).trans (hk c o (fun q' => hb (by simp [q'])) (fun q' => hb (by simp [q'])) (fun q' => hb (by simp [q'])) (fun q' => hb (by simp [q'])) q)) hf (Nat.le_refl _) new
    refine ⟨.ref s.heap.objs.size, _, I1, rfl, ⟨_, x, y, rfl, I.hok.fresh (Nat.le_refl _), rfl, fun l hl => by rw [I.tuple_inj hl hqx]; exact hx, fun l hl => by rw [I.list_inj hl hqy]; exact hy⟩, ⟨z'', ?_, ⟨u, u2, ?_⟩, ?_, ?_⟩, fun c hcm => ?_⟩
    · exact (sb.2 _ D.TIz).trans (hk _ _ D.TIz D.TITO D.TIi1 D.TIi2 hTI)
    · exact (sb.2 _ D.TOz).trans TO'
    · exact h1'.at fun o q => (sb.2 _ D.i1z).trans q
    · exact h2'.at fun o q => (sb.2 _ D.i2z).trans q
    · have hlt : c < s.heap.objs.size := by
        rcases five hcm with q | q | q | q | q <;> rw [q]
        · exact hzl
        · exact Heap.lt_size hTI
        · exact Heap.lt_size hTO
        · exact feedT.lt (P := X.prog) (w := X.w) h1
        · exact feedL.lt (P := X.prog) (w := X.w) h2
      rw [upd_ne (Nat.ne_of_lt hlt)]
      exact (hf c hcm).1
  done := by
    intro X hP hw hK hc i pins s σ H E I hf st hg
    subst hP hw hK
    obtain ⟨hz, hTI, ⟨x0, y0, hTO⟩, h1, h2⟩ := st
    obtain ⟨xs, ys, hqx, hqy, hend⟩ := hg
    obtain ⟨its, rv, p, _⟩ := I.tuple hqx
    obtain ⟨its2, rv2, p2, _⟩ := I.list hqy
    have l1 := rv.length
    have l2 := rv2.length
    have he : its.toArray[i]? = none ∨ its2.toArray[i]? = none := by
      rcases hend with q | q
      · exact .inl (by simp; omega)
      · exact .inr (by simp; omega)
    refine zip_pyNext feedT feedL (I.ok.hd hc) D hz hTI hTO h1 h2 p p2.isList (fun v v2 hv hv2 => by rcases he with q | q <;> simp_all) fun _ h' hk => ⟨rfl, I.turnedL (t' := s.toks) (ch := [z, TI, TO, i1, i2]) (fun c o hb q =>
      hk c o (fun q' => hb (by simp [q'])) (fun q' => hb (by simp [q'])) (fun q' => hb (by simp [q'])) (fun q' => hb (by simp [q'])) q) hf⟩
  self := fun A i s Q E st h => wpAny_pyIter_zip st.1 h
noncomputable def iZipMS (K : PySem.W.Frag) (ta : TA) : L2.TI := fun σ H R => ta σ H fun vs H1 => ∃ a b xs ys, vs = [.ref a, .ref b] ∧ SqT K H1 a xs ∧ SqL K H1 b ys ∧ R (ItzM K a b) H1
section
variable {X : Cx} {E : EK} {e e2 : Expr} {ta : TA} {p pos tpos : Pos} {elts : List Expr} {kk : Nat} {ma : Env → M (List D)}
theorem pi_zipM (hg : Gl X "zip") (hm : X.mg "zip" = none) (ha : PA X [e, e2] ta) (hs : starEach [e, e2] X.env = (false, eval e X.env) :: starEach [e2] X.env := by rfl) (hpl : (backTo pos (starEach [e2] X.env)).any (·.1) = false := by rfl) :
    PI X (.Tuple elts kk tpos) (.Call (.Name "zip" p) [e, e2] [] pos) (iZipMS X.K ta) := by
  refine ⟨fun pins s σ H R I h => Call_ (ld_blt I hg hm PyProof.Rows.boot_zip (PyProof.Rows.callWith_type1 (thn (ha.run pos pins s σ H _ I h) fun us s1 ⟨vs, H1, I1, r1, q1⟩ => ?_) hs hpl))⟩
  obtain ⟨a, b, xs, ys, rfl, hqx, hqy, q⟩ := q1
  obtain ⟨u1, u2, rfl, r, r'⟩ := vals2 r1
  cases r
  cases r'
  obtain ⟨its, rv, p1, _⟩ := I1.tuple hqx
  obtain ⟨its2, rv2, p2, _⟩ := I1.list hqy
  have fresh : ∀ c, c ∈ [s1.heap.objs.size + 4, s1.heap.objs.size + 2, s1.heap.objs.size + 3, s1.heap.objs.size, s1.heap.objs.size + 1] → FpOk X pins H1 c := fun c hc => by
    have hle : s1.heap.objs.size ≤ c := by rcases five hc with z | z | z | z | z <;> rw [z] <;> first | exact Nat.le_add_right _ _ | exact Nat.le_refl _
    exact I1.fpOk hle (I1.hok.fresh hle)
  have lt1 : a < s1.heap.objs.size := by obtain ⟨o, ho, _⟩ := id p1; exact Heap.lt_size ho
  refine call_zipM (show s1.heap.IsTuple a its.toArray from p1) p2.isList fun h' hz hTI hTO h1 h2 hk => wpAny_pyIter_zip hz ?_
  exact ⟨s1.heap.objs.size + 4, [s1.heap.objs.size + 4, s1.heap.objs.size + 2, s1.heap.objs.size + 3, s1.heap.objs.size, s1.heap.objs.size + 1], _, _, H1, rfl, I1.kept (t' := s1.toks) hk,
    turn_zipM (PySem.W.ktu_apart s1.heap.objs.size a b lt1 p2.lt), ⟨hz, hTI, ⟨_, _, hTO⟩, h1, h2⟩, fresh, q⟩
theorem walk_zipM {K : PySem.W.Frag} {a b : Addr} {xs ys : List V} {n : Nat} (hn : n = min xs.length ys.length) : Walk (ItzM K a b) n (fun H => SqT K H a xs ∧ SqL K H b ys) (YPair (fun i => xs[i]?) (fun i => ys[i]?)) where
  goes i H hi q := ⟨xs, ys, xs[i]'(by omega), ys[i]'(by omega), q.1, q.2, List.getElem?_eq_getElem _, List.getElem?_eq_getElem _⟩
  stops H q := ⟨xs, ys, q.1, q.2, by omega⟩
  yields i H v H' _ q := fun ⟨T, x, z, e1, e2, e3, ex, ey⟩ => ⟨T, x, z, e1, e2, e3, ex _ q.1, ey _ q.2⟩
noncomputable def zipOfM : List D → M (List D)
  | [.tup a, y] => match frzL y with
    | some b => M.pure (List.zipWith pairD a b)
    | none => bad
  | _ => bad
theorem zipM_go {K : PySem.W.Frag} {w1 : Wd} {S1 : Sto} {H1 : Hp} {vs : List V} {xs : List D} {R : It → Hp → Prop} (s1 : Rs K w1 S1 H1) (rv : RvL K w1 vs xs)
    (q : Fin K E w1 (zipOfM xs S1) fun w' _ H' ds => ∀ J G Y, Walk J ds.length G Y → (∀ w2 S2 H2, Le w' w2 → Rs K w2 S2 H2 → G H2) → YM K w' ds Y → R J H') :
    ∃ a b xs ys, vs = [V.ref a, V.ref b] ∧ SqT K H1 a xs ∧ SqL K H1 b ys ∧ R (ItzM K a b) H1 := by
  rcases xs with _ | ⟨x, _ | ⟨y, _ | ⟨z, t⟩⟩⟩
  · exact q.elim
  · cases x <;> exact q.elim
  · cases rv with
    | cons r1 rr =>
      cases rr with
      | cons r2 rr =>
        cases rr
        cases x with
        | tup a =>
          rcases eb : frzL y with _ | b
          · unfold zipOfM at q; simp only [eb] at q; exact q.elim
          · unfold zipOfM at q
            simp only [eb] at q
            obtain ⟨pa, xs, rfl, rx, gx⟩ := tupG_go r1
            obtain ⟨pb, ys, rfl, ry, gy⟩ := frz_go r2 eb
            have q := Fin.ok (a := List.zipWith pairD a b) q s1
            exact ⟨pa, pb, xs, ys, rfl, gx _ _ _ (Le.refl _) s1, gy _ _ _ (Le.refl _) s1, q _ (fun H => SqT K H pa xs ∧ SqL K H pb ys) (YPair (fun i => xs[i]?) (fun i => ys[i]?)) (by rw [List.length_zipWith, ← rx.length, ← ry.length]; exact walk_zipM rfl) (fun w2 S2 H2 l s => ⟨gx _ _ _ l s, gy _ _ _ l s⟩) (ym_pair rx ry)⟩
        | _ => exact q.elim
  · cases x <;> exact q.elim
noncomputable def iZipM (m : Env → M (List D)) : Env → M (List D) := fun ρ => M.bind (m ρ) zipOfM
theorem mi_zipM (hg : Gl X "zip") (hm : X.mg "zip" = none) (ha : PA X [e, e2] (tMa X.K E ma)) (h1 : starEach [e, e2] X.env = (false, eval e X.env) :: starEach [e2] X.env := by rfl) (h2 : (backTo pos (starEach [e2] X.env)).any (·.1) = false := by rfl) :
    PI X (.Tuple elts kk tpos) (.Call (.Name "zip" p) [e, e2] [] pos) (tMi X.K E (iZipM ma)) :=
  pi_imp (pi_zipM hg hm ha h1 h2) fun σ H R ⟨w, S, ρ, hs, hn, h⟩ => ⟨w, S, ρ, hs, hn, h.bind.imp fun w1 S1 H1 xs l1 s1 q vs rv => zipM_go s1 rv q⟩
end
end Mi
namespace Mi
open PySem PySem.Spec PyProof.Rows L2
variable [LamTabs]
/-- the block's context, its exceptions told -/
noncomputable abbrev blkE (X : Cx) (s : Shared) (H : Hp) (scope : Scope) (cenv : PySem.Env) (fp : List Addr) (xe : Value → Shared → Prop) : Cx :=
  { X with s_0 := s, H_0 := H, env := cenv, outer := X.stack, ex := fp, fn := fun x => scope.names.lookup x == some .cell, pn := [], xe := xe }
section
variable {X : Cx} {pins pins' : List (Addr × Obj)} {σ σ' σ8 : L2.St} {Hb H' : Hp} {sb s' s7 : Shared} {fp : List Addr} {ce : PySem.Env} {scope : Scope} {xe : Value → Shared → Prop}
/-- where a comprehension's block begins, as its def sees it -/
structure Blk (X : Cx) (pins : List (Addr × Obj)) (σ : L2.St) (Hb : Hp) (sb : Shared) (fp : List Addr) (ce : PySem.Env) : Prop where
  inv : Inv X pins σ Hb sb
  it : ∀ b ∈ fp, FpOk X pins Hb b
  loc : ce.locals = sb.heap.objs.size
  frm : ce.frame = X.env.frame
/-- from within, back to the def -/
theorem Blk.out (B : Blk X pins σ Hb sb fp ce) (J : Inv (blkE X sb Hb scope ce fp xe) pins' σ' H' s') : Inv X pins σ H' s' ∧ H' ce.locals = none ∧ (∃ m, s'.heap.Ns ce.locals m) ∧ FpOk X pins H' ce.locals := by
  have back := B.inv.call' (ch := fp) J.os J.base J.hok J.bare fun b hb => by
    obtain ⟨_, a1, _, a3, a4, a5⟩ := B.it b hb
    exact ⟨a3, a1, a4, a5⟩
  have free : H' ce.locals = none := J.free
  obtain ⟨names, hnames, _⟩ := J.loc
  refine ⟨back, free, ⟨names, hnames⟩, ?_⟩
  rw [B.loc] at free ⊢
  exact B.inv.fpOk (Nat.le_refl _) free
end
end Mi
namespace Mi
open PySem PySem.Spec PyProof.Rows L2
variable [LamTabs]
noncomputable def nG (g : D → Env → M Env) : D → Env → M Env := fun d ρ => noErr (g d ρ)
end Mi
namespace Mi
open PySem PySem.Spec PyProof.Rows L2
variable [LamTabs]
noncomputable def wkT : D → M D
  | .stp ds => M.pure (.tup ds)
  | d => M.pure d
noncomputable def wkM (m : Env → M D) : Env → M D := fun ρ => M.bind (m ρ) wkT
section
variable {X : Cx} {E : EK} {e o : Expr} {m mo : Env → M D} {lo hi : Option Expr} {ml mh : Option (Env → M D)} {pos p2 apos cpos : Pos}
theorem me_wk (h : PE X e (tM X.K E m)) : PE X e (tM X.K E (wkM m)) := pe_imp h fun σ H Q ⟨w, S, ρ, hs, hn, q⟩ => ⟨w, S, ρ, hs, hn, q.bind.imp fun w1 S1 H1 d l1 s1 q v rv => by
  cases d with
  | stp ds =>
    cases rv with
    | stp hG r => exact Fin.ok (P := fun w' _ H' d => ∀ v, Rv X.K w' v d → Q v H') q s1 _ (.tup hG.weak r)
  | _ => exact Fin.ok (P := fun w' _ H' d => ∀ v, Rv X.K w' v d → Q v H') q s1 _ rv⟩
/-- a slice of such a tuple -/
noncomputable def rSlS (K : PySem.W.Frag) : V → Option Int → Option Int → Hp → VK → Prop := fun x lo hi H Q => ∃ a xs, x = .ref a ∧ SqT K H a xs ∧ (HT.sIx xs.length 0 lo = 0 ∧ HT.sIx xs.length xs.length hi = xs.length → Q x H) ∧
  (¬ (HT.sIx xs.length 0 lo = 0 ∧ HT.sIx xs.length xs.length hi = xs.length) → ∀ (p : Addr) (ob : Obj), H p = none → ob.cls = .type "tuple" → ob.dict = none → Q (.ref p) (upd H p (.frz ob (.tup (cutV xs lo hi)))))
theorem sl_stp : SlR X (rSlS X.K) := by
  intro pins s σ H x v vl vu lo hi sl Q J rx hsl pl pu wish
  obtain ⟨a, xs, rfl, sq, whole, part⟩ := wish
  cases rx
  obtain ⟨its, vals, isT, few⟩ := J.tuple sq
  have size : its.toArray.size = xs.length := by rw [List.size_toArray, vals.length]
  refine ⟨"tuple", _, PyProof.Rows.slot_tuple_getitem.lookup, isT.typeIs, ?_⟩
  by_cases hw : HT.sIx xs.length 0 lo = 0 ∧ HT.sIx xs.length xs.length hi = xs.length
  · refine getItem_tuple_whole isT hsl pl pu (by rw [size]; exact hw) ?_
    exact ⟨.ref a, H, J, rfl, whole hw⟩
  · refine HT.getItem_tuple_cut isT hsl pl pu (by rw [size]; exact hw) ?_ (by rw [size]; exact few)
    rw [size]
    have cut : Vals (cutV xs lo hi) ((its.toArray.toList.drop (HT.sIx xs.length 0 lo)).take (HT.sIx xs.length xs.length hi - HT.sIx xs.length 0 lo)) := (vals.drop (HT.sIx xs.length 0 lo)).take _
    have short : (cutV xs lo hi).length ≤ sizeLine := Nat.le_trans (cutV_length xs lo hi) few
    refine ⟨.ref s.heap.objs.size, _, J.laid (t' := s.toks) (o := .frz _ (.tup (cutV xs lo hi))) (fun b ob q => Heap.get?_push_of_some _ q) (Nat.le_refl _) ⟨Heap.get?_push_size _ rfl, short, _, cut, IsTup.new _ _⟩, rfl, ?_⟩
    exact part hw _ _ (J.hok.fresh (Nat.le_refl _)) rfl rfl
noncomputable def slsM (lo hi : Option Int) : D → M D
  | .stp ds => M.pure (.stp (cutD ds lo hi))
  | _ => bad
noncomputable def slcS (m : Env → M D) (lo hi : Option (Env → M D)) : Env → M D := fun ρ => M.bind (m ρ) fun x => M.bind (parts lo ρ) fun a => M.bind (parts hi ρ) fun b => slsM a b x
theorem slsM_ok {K : PySem.W.Frag} {w : Wd} {S : Sto} {H : Hp} {v : V} {x : D} {lo hi : Option Int} {Q : VK} (hs : Rs K w S H) (rv : Rv K w v x) (h : Fin K E w (slsM lo hi x S) fun w' _ H' d => ∀ z, Rv K w' z d → Q z H') : rSlS K v lo hi H Q := by
  cases x with
  | stp ds =>
    cases rv with
    | stp hG r =>
      rename_i a xs
      refine ⟨a, xs, rfl, sqT_up hG.weak (Le.refl w) hs, fun ⟨e1, e2⟩ => ?_, fun _ p ob hp hc hd => ?_⟩
      · rw [r.length] at e1 e2
        have e : cutD ds lo hi = ds := by
          unfold cutD
          rw [e1, e2]
          simp
        have h : Fin K E w (some (.ok (D.stp (cutD ds lo hi)), S)) (fun w' _ H' d => ∀ z, Rv K w' z d → Q z H') := h
        rw [e] at h
        exact Fin.ok h hs _ (.stp hG r)
      · have h : Fin K E w (some (.ok (D.stp (cutD ds lo hi)), S)) (fun w' _ H' d => ∀ z, Rv K w' z d → Q z H') := h
        exact h _ _ (hs.le_lay hp) (hs.lay (o := .frz ob (.tup (L2.cutV xs lo hi))) hp) _ (.stp (.inl ⟨ob, by show upd w.G p _ p = _; rw [upd_same], hc, hd⟩) ((cut_rel r).mono (hs.le_lay hp)))
  | _ => exact h.elim
theorem me_sliceS (he : PE X e (tM X.K E m)) (hl : PO X lo (tMo X.K E (parts ml))) (hh : PO X hi (tMo X.K E (parts mh))) : PE X (.Subscript e (.Slice lo hi none p2) pos) (tM X.K E (slcS m ml mh)) :=
  pe_imp (pe_slice sl_stp he hl hh) fun σ H Q ⟨w, S, ρ, hs, hn, h⟩ => ⟨w, S, ρ, hs, hn, h.bind.imp fun w1 S1 H1 x l1 s1 q v rv =>
    ⟨w1, S1, ρ, s1, hn.mono l1, q.bind.imp fun w2 S2 H2 o l2 s2 q => ⟨w2, S2, ρ, s2, hn.mono (l1.trans l2), q.bind.imp fun w3 S3 H3 o2 l3 s3 q => slsM_ok s3 (rv.mono (l2.trans l3)) q⟩⟩⟩
/-- where a text first stands in texts -/
noncomputable def ixOf (z : Str) : List Str → Option Nat
  | [] => none
  | y :: ys => if y = z then some 0 else (ixOf z ys).map (· + 1)
theorem ixOf_at {z : Str} : ∀ {ys : List Str} {j : Nat}, ixOf z ys = some j → ys[j]? = some z ∧ ∀ k, k < j → ys[k]? ≠ some z
  | [], _, h => by cases h
  | y :: ys, j, h => by
    unfold ixOf at h
    by_cases e : y = z
    · rw [if_pos e] at h
      cases h
      exact ⟨by simp [e], fun k hk => by omega⟩
    · rw [if_neg e] at h
      cases hj : ixOf z ys with
      | none => rw [hj] at h; cases h
      | some i =>
        rw [hj] at h
        cases h
        obtain ⟨a, b⟩ := ixOf_at hj
        refine ⟨by simpa using a, fun k hk => ?_⟩
        cases k with
        | zero => simp [e]
        | succ k =>
          have hk : k + 1 < i + 1 := hk
          simpa using b k (by omega)
noncomputable def idxS : D → List D → M D
  | .stp ds, [.str z] => match strsOf ds with
    | some ys => match ixOf z ys with
      | some j => M.pure (.int (j : Int))
      | none => bad
    | none => bad
  | _, _ => bad
noncomputable def chkP : D → M Unit
  | .stp _ => M.pure ()
  | _ => bad
/-- the value is such a tuple -/
noncomputable def TyS (K : PySem.W.Frag) (x : V) (H : Hp) : Prop := ∃ a xs, x = .ref a ∧ StT K H a xs
theorem tyS_is {pins : List (Addr × Obj)} {σ : L2.St} {H : Hp} {s : Shared} {x : V} {v : Value} (J : Inv X pins σ H s) (r : RelV x v) (ty : TyS X.K x H) : s.TypeIs v "tuple" ∧ ∀ a, v = .ref a → ∃ ob, s.heap.get? a = some ob ∧ ob.dict = none := by
  obtain ⟨a, xs, rfl, st⟩ := ty
  cases r
  rcases st with ⟨ob, hH, hc, hd⟩ | ⟨ob, its, n, hk, hc, hd, _⟩
  · have at' := (J.hok a _ hH).1
    exact ⟨⟨ob, at', hc⟩, fun b e => by cases e; exact ⟨ob, at', hd⟩⟩
  · have at' := J.kIn a ob hk
    exact ⟨⟨ob, at', hc⟩, fun b e => by cases e; exact ⟨ob, at', hd⟩⟩
theorem stT_up {K : PySem.W.Frag} {w : Wd} {S : Sto} {H : Hp} {a : Addr} {xs : List V} (h : StT K w.G a xs) (s : Rs K w S H) : StT K H a xs := by
  rcases h with ⟨ob, h, c, d⟩ | h
  · exact .inl ⟨ob, s.g _ _ h, c, d⟩
  · exact .inr h
theorem me_indexS {es : List Expr} {mas : Env → M (List D)} (ho : PE X o (tM X.K E mo)) (ha : PA X (e :: es) (tMa X.K E mas))
    (hbase : attributeBase o "index" X.env (eval o X.env) = eval o X.env := by rfl)
    (hfew : ((backTo cpos (starEach (e :: es) X.env)).all (fun x => !x.1) && (backToKw cpos (keywordEach [] X.env)).all (fun x => x.1.isSome)
      && decide ((e :: es).length + ([] : List Keyword).length + (if ([] : List Keyword).isEmpty then 0 else 1) < 30)) = true := by rfl)
    (hline : (apos.endLine == cpos.line) = true := by rfl) (hs : starEach (e :: es) X.env = (false, eval e X.env) :: starEach es X.env := by rfl) (hplain : (backTo cpos (starEach es X.env)).any (·.1) = false := by rfl) :
    PE X (.Call (.Attribute o "index" apos) (e :: es) [] cpos) (tM X.K E (mth chkP idxS mo mas)) := by
  refine ⟨fun pins s σ H Q J ⟨w, S, ρ, rs, rn, h⟩ => ?_⟩
  refine wpAny_Call_method_late hbase hfew hline rfl (thn (ho.run pins s σ H _ J ⟨w, S, ρ, rs, rn, h.bind.imp fun w1 S1 H1 d l1 s1 q v rv => (show ∃ w1 S1 d, Rs X.K w1 S1 H1 ∧ Rn X.K w1 σ ρ ∧ Rv X.K w1 v d ∧ Fin X.K E w1 ((M.bind (chkP d) fun _ => M.bind (mas ρ) fun xs => idxS d xs) S1) (fun w' _ H' d => ∀ v, Rv X.K w' v d → Q v H') from ⟨w1, S1, d, s1, rn.mono l1, rv, q⟩)⟩) fun v s1 h1 => ?_)
  obtain ⟨x, H1, J1, rx, w1, S1, d, rs1, rn1, rv, q⟩ := h1
  cases d with
  | stp ds =>
    cases rv with
    | stp hG r =>
      rename_i a xs
      have q := Fin.ok q.bind rs1
      obtain ⟨t1, t2⟩ := tyS_is J1 rx ⟨a, xs, rfl, stT_up hG rs1⟩
      refine ⟨"tuple", _, PySem.F.plainAttrs_tuple, PySem.F.slot_tuple_index, PySem.F.type_tuple_index, t1, t2, ?_⟩
      have hA := ha.run cpos pins s1 σ H1 _ J1 ⟨w1, S1, ρ, rs1, rn1, q.bind.imp fun w2 S2 H2 zs l2 s2 q vs rvs => (show ∃ w2 S2 zs, Rs X.K w2 S2 H2 ∧ RvL X.K w2 vs zs ∧ Rv X.K w2 (.ref a) (.stp ds) ∧ Fin X.K E w2 (idxS (.stp ds) zs S2) (fun w' _ H' d => ∀ v, Rv X.K w' v d → Q v H') from ⟨w2, S2, zs, s2, rvs, (Rv.stp hG r).mono l2, q⟩)⟩
      rw [hs] at hA ⊢
      refine Calls.callWith_builtin (by show (false || (backTo cpos (starEach es X.env)).any (·.1)) = false; rw [hplain] <;> rfl) (Calls.evalArgs_plain ?_)
      refine thn hA fun us s2 h2 => ?_
      obtain ⟨vs, H2, J2, r2, w2, S2, zs, rs2, rvs, rv2, q2⟩ := h2
      rcases zs with _ | ⟨z, _ | ⟨z2, zr⟩⟩
      · exact q2.elim
      · cases z with
        | str z =>
          rcases e1 : strsOf ds with _ | ys
          · simp only [idxS, e1] at q2; exact q2.elim
          rcases e2 : ixOf z ys with _ | j
          · simp only [idxS, e1, e2] at q2; exact q2.elim
          simp only [idxS, e1, e2] at q2
          cases rv2 with
          | stp hG2 rr2 =>
            rename_i xs2
            have ex := strs_rel rr2 e1
            obtain ⟨vz, ev, rz⟩ := args1 rvs
            cases rz
            obtain ⟨i1, i2⟩ := ixOf_at e2
            exact mt_tup_index pins s2 σ H2 (.ref a) vs v us Q J2 rx r2 ⟨a, ys, z, j, rfl, ev, by rw [← ex]; exact sqT_up hG2.weak (Le.refl w2) rs2, i1, i2, Fin.ok q2 rs2 _ (.int _)⟩
        | _ => exact q2.elim
      · cases z <;> exact q2.elim
  | _ => exact q.bind.elim
end
noncomputable def chkLd (d : D) : M Unit := fun S => match asR S d with
  | some _ => some (.ok (), S)
  | none => none
noncomputable def idxL (d : D) (xs : List D) : M D := fun S => match asR S d, xs with
  | some ds, [.str z] => match strsOf ds with
    | some ys => match ixOf z ys with
      | some j => some (.ok (.int (j : Int)), S)
      | none => none
    | none => none
  | _, _ => none
theorem chkLd_ok {K : PySem.W.Frag} : ChkM K "list" chkLd := fun E w S H v x P hs rv h => by
  rcases h1 : asR S x with _ | ds
  · simp only [chkLd, h1] at h; exact h.elim
  · simp only [chkLd, h1] at h
    obtain ⟨a, xs, rfl, hq, rx⟩ := asR_go hs rv h1
    exact ⟨.inl ⟨rfl, xs, hq⟩, Fin.ok h hs⟩
theorem flat_strs (ys : List Str) : (ys.map V.str).all flatV = true := by
  rw [List.all_map]
  exact List.all_eq_true.2 fun _ _ => rfl
theorem idxL_ok {K : PySem.W.Frag} : MeM K (rIndex K) idxL := fun E w S H v vs x xs Q hs rv rvs h => by
  rcases h1 : asR S x with _ | ds
  · simp only [idxL, h1] at h; exact h.elim
  rcases xs with _ | ⟨z, _ | ⟨z2, zr⟩⟩
  · simp only [idxL, h1] at h; exact h.elim
  · cases z with
    | str z =>
      rcases e1 : strsOf ds with _ | ys
      · simp only [idxL, h1, e1] at h; exact h.elim
      rcases e2 : ixOf z ys with _ | j
      · simp only [idxL, h1, e1, e2] at h; exact h.elim
      simp only [idxL, h1, e1, e2] at h
      obtain ⟨a, zs, rfl, hq, rx⟩ := asR_go hs rv h1
      obtain ⟨vz, rfl, rz⟩ := args1 rvs
      cases rz
      have ex := strs_rel rx e1
      subst ex
      obtain ⟨i1, i2⟩ := ixOf_at e2
      refine ⟨a, ys.map V.str, .str z, j, .str z, rfl, rfl, hq, rfl, flat_strs ys, by rw [List.getElem?_map, i1]; rfl, ?_, ?_, Fin.ok h hs _ (.int _)⟩
      · simp [eqV]
      · intro m zm hm hz
        rw [List.getElem?_map] at hz
        cases hy : ys[m]? with
        | none => rw [hy] at hz; cases hz
        | some y =>
          rw [hy] at hz
          cases hz
          have := i2 m hm
          rw [hy] at this
          have : ¬ y = z := fun e => this (by rw [e])
          simpa [eqV] using this
    | _ => simp only [idxL, h1] at h; exact h.elim
  · cases z <;> (simp only [idxL, h1] at h; exact h.elim)
end Mi
namespace Mi
open PySem PySem.Spec PyProof.Rows L2
variable [LamTabs]
/-- a module's tuple of texts, without a dict -/
noncomputable def KTup (K : PySem.W.Frag) (mg : Str → Option Value) (x : Str) (ds : List D) : Prop := ∃ c, mg x = some (.ref c) ∧ ∃ vs, (∀ H, StT K H c vs) ∧ ∀ wd, RvL K wd vs ds
theorem ktup_of {K : PySem.W.Frag} {a : Addr} {its : Array Value} {n : Nat} {sl : Array (Option Value)} {ds : List D} {vs : List V} (h : K.lookup a = some ⟨.type "tuple", none, .seq its n, sl⟩) (hl : its.size ≤ 1000)
    (h1 : Vals vs its.toList) (h2 : ∀ wd, RvL K wd vs ds) : ∃ vs, (∀ H, StT K H a vs) ∧ ∀ wd, RvL K wd vs ds :=
  ⟨vs, fun H => .inr ⟨_, _, _, h, rfl, rfl, rfl, Nat.le_trans hl (by decide), h1⟩, h2⟩
section
variable {X : Cx} {E : EK} {x : Str} {p : Pos} {ds : List D}
theorem me_gtup (hg : Gl X x) (hm : KTup X.K X.mg x ds) (hd : (x == ("__debug__" : Str)) = false := by decide) : PE X (.Name x p) (tM X.K E fun _ => M.pure (.stp ds)) := by
  obtain ⟨c, hm, vs, a, b⟩ := hm
  exact me_cst (v := .ref c) (pe_glob (v := .ref c) hg hm rfl hd) fun w => .stp (a _) (b w)
end
theorem le_atA {w w' : Wd} {n : Nat} {p : Addr} (l : Le w w') (h : w.A[n]? = some p) : w'.A[n]? = some p := by
  obtain ⟨m, e⟩ := l.a
  rw [e, List.getElem?_append_left (List.getElem?_eq_some_iff.mp h).1]
  exact h
noncomputable def putN (n : Nat) (y z : D) : M Unit := fun S => match S[n]? with
  | some (.dct kvs) => match keyOf y with
    | some k => if kvs.length < 100000 then some (.ok (), S.set n (.dct (putD kvs k z))) else none
    | none => none
  | _ => none
noncomputable def dcGo (n : Nat) (g : D → Env → M Env) (t : Env → M Bool) (mk mv : Env → M D) (ρ : Env) : List D → M Unit
  | [] => M.pure ()
  | x :: xs => M.bind (g x ρ) fun ρ1 => M.bind (t ρ1) fun k => if k = true then M.bind (mk ρ1) fun y => M.bind (mv ρ1) fun z => M.bind (putN n y z) fun _ => dcGo n g t mk mv ρ xs else dcGo n g t mk mv ρ xs
noncomputable def eDc (mi : Env → M (List D)) (g : D → Env → M Env) (t : Env → M Bool) (mk mv : Env → M D) (vs : List Nat) : Env → M D := fun ρ => M.bind (mi ρ) fun xs => fun S =>
  M.bind (noErr (dcGo S.length g t mk mv (wipeE vs ρ) xs)) (fun _ => M.pure (.ref S.length)) (S ++ [.dct []])
section
variable {J : It} {n : Nat} {G : Hp → Prop} {Y : Nat → Hp → V → Hp → Prop}
theorem dc_it (w : Walk J n G Y) {g : TG} {tt : TT} {tk tv : TE} {vs : List Nat} {σ : L2.St} {H1 : Hp} {D : Addr} {Qd : Hp → Prop} (Pv : Nat → Hp → Prop) (h0 : Pv 0 (upd H1 D (.dK []))) (hG : ∀ i H, i ≤ n → Pv i H → G H)
    (hs : ∀ i x H H', i < n → Pv i H → Y i H x H' → g x (L2.wipe σ vs) H' fun σ2 H2 => L2.wipe σ2 vs = L2.wipe σ vs ∧ tt σ2 H2 fun b H3 =>
      if b = true then tk σ2 H3 fun y H4 => tv σ2 H4 fun z H5 => ∃ kvs k, y = kV k ∧ H5 D = some (.dK kvs) ∧ kvs.length < sizeLine ∧ Pv (i + 1) (upd H5 D (.dK (putK kvs k z))) else Pv (i + 1) H3) (hd : ∀ H, Pv n H → Qd H) :
    ∃ W : Nat → Nat → Hp → Prop, (∃ m, W 0 m (upd H1 D (.dK []))) ∧ ∀ i m H, W i m H →
      (J.stop i H ∧ Qd H) ∨ (J.go i H ∧ ∃ Nx : Hp → Prop, (∀ H', Nx H' → ∃ m', m' < m ∧ W (i + 1) m' H') ∧ ∀ x H', J.yld i H x H' → g x (L2.wipe σ vs) H' fun σ2 H2 => L2.wipe σ2 vs = L2.wipe σ vs ∧ tt σ2 H2 fun b H3 =>
        if b = true then tk σ2 H3 fun y H4 => tv σ2 H4 fun z H5 => ∃ kvs k, y = kV k ∧ H5 D = some (.dK kvs) ∧ kvs.length < sizeLine ∧ Nx (upd H5 D (.dK (putK kvs k z))) else Nx H3) := by
  refine ⟨fun i m H => m = n - i ∧ i ≤ n ∧ Pv i H, ⟨n, by simp, Nat.zero_le _, h0⟩, ?_⟩
  rintro i m H ⟨rfl, hi, p⟩
  have q := hG i H hi p
  by_cases hlt : i < n
  · refine .inr ⟨w.goes i H hlt q, Pv (i + 1), fun H' p' => ⟨n - (i + 1), by omega, rfl, hlt, p'⟩, fun x H' y => hs i x H H' hlt p (w.yields i H x H' hlt q y)⟩
  · have e : i = n := by omega
    subst e
    exact .inl ⟨w.stops H q, hd H p⟩
end
section
variable {X : Cx} {E : EK} {kx vx tg iter : Expr} {ifs : List Expr} {scope : Scope} {own : List (Str × Nat)} {pos : Pos} {raw : TG} {mi : Env → M (List D)} {g : D → Env → M Env} {t : Env → M Bool} {mk mv : Env → M D}
theorem dc_go (hw : GW X.K (own.map (·.2)) g raw) {σ : L2.St} {H : Hp} {Q : VK} (h : tM X.K E (eDc mi g t mk mv (own.map (·.2))) σ H Q) :
    tDc (tMi X.K E mi) raw (tMt X.K EK0 t) (tM X.K EK0 mk) (tM X.K EK0 mv) (own.map (·.2)) σ H Q := by
  generalize own.map (·.2) = vs at *
  obtain ⟨w, S, ρ, hs, hn, h⟩ := h
  refine ⟨w, S, ρ, hs, hn, h.bind.imp fun w1 S1 H1 ds l1 s1 q J G Y W hG hY D hD => ?_⟩
  have r := s1.add (p := D) (o := .dK []) (c := .dct []) hD ⟨[], upd_same, .nil⟩
  have hA0 : (w1.add D).A[S1.length]? = some D := by show (w1.A ++ [D])[S1.length]? = some D; rw [← s1.len]; simp
  have q := Fin.mono q (le_add (w := w1) (p := D))
  have q := Fin.noErr (Fin.bind q)
  have hn1 : Rn X.K (w1.add D) (L2.wipe σ vs) (wipeE vs ρ) := (hn.mono (l1.trans le_add)).wipe vs
  refine dc_it W (fun i H' => ∃ w' S', Le (w1.add D) w' ∧ Rs X.K w' S' H' ∧ i ≤ ds.length ∧
      Fin X.K EK0 w' (dcGo S1.length g t mk mv (wipeE vs ρ) (ds.drop i) S') fun w2 S2 H2 _ => Fin X.K E w2 (M.pure (Mi.D.ref S1.length) S2) fun w3 _ H3 d => ∀ v, Rv X.K w3 v d → Q v H3)
    ⟨w1.add D, _, Le.refl _, r, Nat.zero_le _, q⟩
    (fun i H' _ ⟨w', S', l, s, _⟩ => hG w' S' H' (le_add.trans l) s) (fun i x H2 H3 hi ⟨w', S', l, s, _, q⟩ y => ?_) (fun H' ⟨w', S', l, s, _, q⟩ => ?_)
  · obtain ⟨w3, d, l3, s3, hdi, rx, _⟩ := hY i H2 x H3 w' S' (le_add.trans l) s hi y
    have e : ds.drop i = d :: ds.drop (i + 1) := by
      rw [List.drop_eq_getElem_cons hi]
      rw [List.getElem?_eq_getElem hi] at hdi
      cases hdi
      rfl
    rw [e] at q
    have n3 : Rn X.K w3 (L2.wipe σ vs) (wipeE vs ρ) := hn1.mono (l.trans l3)
    refine hw w3 S' (wipeE vs ρ) H3 x d (L2.wipe σ vs) _ s3 n3 rx ((Fin.bind (Fin.mono q l3)).imp fun w4 S4 H4 ρ1 l4 s4 q4 σ4 n4 hw4 => ?_)
    rw [wipe_wipe] at hw4
    refine ⟨hw4, w4, S4, ρ1, s4, n4, (Fin.bind q4).imp fun w5 S5 H5 b l5 s5 q5 => ?_⟩
    have ll : Le (w1.add D) w5 := l.trans (l3.trans (l4.trans l5))
    cases b with
    | false => exact iteF ⟨w5, S5, ll, s5, hi, q5⟩
    | true =>
      refine iteT ⟨w5, S5, ρ1, s5, n4.mono l5, (Fin.bind q5).imp fun w6 S6 H6 yk l6 s6 q6 v6 r6 => ⟨w6, S6, ρ1, s6, (n4.mono l5).mono l6, (Fin.bind q6).imp fun w7 S7 H7 z l7 s7 q7 v7 r7 => ?_⟩⟩
      have hA : w7.A[S1.length]? = some D := le_atA (ll.trans (l6.trans l7)) hA0
      have q8 := Fin.bind q7
      rcases hc : S7[S1.length]? with _ | (⟨cs⟩ | ⟨cs⟩ | ⟨C, cs⟩ | ⟨cs⟩)
      · simp only [putN, hc] at q8; exact q8.elim
      · simp only [putN, hc] at q8; exact q8.elim
      · rcases hk : keyOf yk with _ | k
        · simp only [putN, hc, hk] at q8; exact q8.elim
        · by_cases hl : cs.length < 100000
          · simp only [putN, hc, hk, hl, if_true] at q8
            obtain ⟨xs, h1, h2⟩ := s7.cell _ _ _ hA hc
            refine ⟨xs, k, keyOf_go r6 hk, h1, sz_lt (by rw [h2.length]; exact hl), ?_⟩
            have s8 := s7.put hA h1 (by intro _ _ z; cases z) (c := .dct (putD cs k z)) (o := .dK (putK xs k v7)) ⟨_, upd_same, h2.put r7⟩
            exact ⟨w7, _, ll.trans (l6.trans l7), s8, hi, q8 w7 _ (Le.refl w7) s8⟩
          · simp only [putN, hc, hk, hl, if_false] at q8; exact q8.elim
      · simp only [putN, hc] at q8; exact q8.elim
      · simp only [putN, hc] at q8; exact q8.elim
  · rw [List.drop_length] at q
    have q := Fin.ok q s
    exact Fin.ok q s _ (.ref (le_atA l hA0))
theorem me_dc (hc : X.calm = true) (hN : X.N.Nodup) (hi : PI X tg iter (tMi X.K E mi)) (ok : BlkOk X.N X.env.scope scope own) (hw : GW X.K (own.map (·.2)) g raw)
    (hg : ∀ (s : Shared) (H : Hp) (C : Addr) (cl : List (Str × Addr)) (fp : List Addr), PG (X.blk s H scope (compEnvC scope cl C X.env) fp) tg raw) (ht : ∀ (s : Shared) (H : Hp) (C : Addr) (cl : List (Str × Addr)) (fp : List Addr), PTs (X.blk s H scope (compEnvC scope cl C X.env) fp) ifs (tMt X.K EK0 t))
    (hk : ∀ (s : Shared) (H : Hp) (C : Addr) (cl : List (Str × Addr)) (fp : List Addr), PE (X.blk s H scope (compEnvC scope cl C X.env) fp) kx (tM X.K EK0 mk))
    (he : ∀ (s : Shared) (H : Hp) (C : Addr) (cl : List (Str × Addr)) (fp : List Addr), PE (X.blk s H scope (compEnvC scope cl C X.env) fp) vx (tM X.K EK0 mv)) (hs : ∀ x, foldedSetIterable iter X.env x = pure x := by intro _; rfl) :
    PE X (.DictComp kx vx [⟨tg, iter, ifs, 0⟩] scope pos) (tM X.K E (eDc mi g t mk mv (own.map (·.2)))) := pe_imp (pe_dc hc hN hi ok hg ht hk he hs) fun _ _ _ h => dc_go hw h
end
end Mi
namespace Fa
noncomputable def up {α : Type} (f : Nat → α) (k : Nat) (v : α) : Nat → α := fun i => if i = k then v else f i
theorem up_same {α : Type} {f : Nat → α} {k : Nat} {v : α} : up f k v k = v := if_pos rfl
theorem up_ne {α : Type} {f : Nat → α} {k i : Nat} {v : α} (h : i ≠ k) : up f k v i = f i := if_neg h
inductive Rw where
  | opn (n : Nat) (a : Option Nat) | cmt (m : Nat) | abt (m : Nat) | prp (m v : Nat) | fal | swp | put (m : Nat) | stk (m : Nat)
structure St where
  n : Nat
  g : Nat
  ar : Nat → Option Nat
  fi : Nat → Nat
  tp : Nat → Nat
  cm : Nat → Option Nat
  ab : Nat → Option Nat
  run : Nat → List Nat
  pre : Nat → Option (Nat × Nat)
  en : Nat → Option Nat
noncomputable def isN (f : St) (i : Nat) : Bool := decide (1 ≤ i) && decide (i ≤ f.g)
noncomputable def nums (f : St) : List Nat := (List.range f.g).map (· + 1)
noncomputable def fam (f : St) (t : Nat) : List Nat := (nums f).filter fun i => f.tp i == t
noncomputable def outs (f : St) : List Nat := (nums f).filter fun i => f.tp i == i
noncomputable def beg (f : St) (n : Nat) (a : Option Nat) : St :=
  let top := match a with
    | none => n
    | some a => f.tp a
  let old := match a with
    | none => []
    | some _ => f.run top
  { f with g := n, ar := up f.ar n a, fi := up f.fi n f.n, tp := up f.tp n top, run := up f.run top (old ++ [n]) }
noncomputable def setC (f : St) (i : Nat) : St := if (f.ab i).isNone then { f with cm := up f.cm i (some f.n) } else f
noncomputable def setA (f : St) (i : Nat) : St := if (f.ab i).isNone then { f with ab := up f.ab i (some f.n) } else f
noncomputable def fin (f : St) (t : Nat) (w : Bool) : St :=
  let f' := (fam f t).foldl (fun f i => if w then setC f i else setA f i) f
  { f' with en := up f'.en t (some f'.n), run := up f'.run t [] }
noncomputable def leave (f : St) (m : Nat) : St := { f with run := up f.run (f.tp m) (f.run (f.tp m)).dropLast }
noncomputable def climb (ar : Nat → Option Nat) (m : Nat) : Nat → Option Nat → Bool
  | _, none => false
  | 0, some i => i == m
  | k + 1, some i => if i = m then true else climb ar m k (ar i)
noncomputable def within (f : St) (i m : Nat) : Bool := climb f.ar m 100 (some i)
noncomputable def act (f : St) : Rw → St
  | .opn n a => beg f n a
  | .cmt m => if (f.ar m).isNone then fin f m true else leave f m
  | .abt m => if (f.ar m).isNone then fin f m false else leave ((fam f (f.tp m)).foldl (fun f' i => if within f' i m then setA f' i else f') f) m
  | .prp m v => { f with pre := up f.pre m (some (f.n, v)), run := up f.run m [] }
  | .fal => (outs f).foldl (fun f' t => if 0 < (f'.run t).length then fin f' t false else f') f
  | .swp => f
  | .put _ => f
  | .stk _ => f
noncomputable def enter (f : St) (r : Rw) : St := { act f r with n := f.n + 1 }
structure W (N : Nat) (f : St) : Prop where
  t1 : ∀ i, isN f i = true → isN f (f.tp i) = true ∧ f.tp (f.tp i) = f.tp i
  a1 : ∀ i, isN f i = true → (f.ar i = none ↔ f.tp i = i)
  a2 : ∀ i a, isN f i = true → f.ar i = some a → isN f a = true ∧ a < i ∧ f.tp a = f.tp i
  r1 : ∀ t m, m ∈ f.run t → isN f m = true ∧ f.tp m = t ∧ f.ab m = none
  r2 : ∀ t, (f.run t).Pairwise (· < ·)
  r3 : ∀ t, f.run t ≠ [] → f.en t = none ∧ f.pre t = none
  r4 : ∀ t, (f.run t).length ≤ 4
  p1 : ∀ t, f.pre t ≠ none → isN f t = true ∧ f.tp t = t
  e1 : ∀ i, isN f i = true → f.en (f.tp i) = none → f.cm i = none
  e2 : ∀ t c, f.en t = some c → isN f t = true ∧ c < N
  c1 : ∀ i c, f.cm i = some c → isN f i = true ∧ f.ab i = none ∧ c < N
  b1 : ∀ i c, f.ab i = some c → isN f i = true ∧ c < N
  f1 : ∀ i, isN f i = true → f.fi i < N
theorem W.mono {N N' : Nat} {f : St} (h : W N f) (l : N ≤ N') : W N' f :=
  { h with
    e2 := fun t c x => ⟨(h.e2 t c x).1, Nat.lt_of_lt_of_le (h.e2 t c x).2 l⟩
    c1 := fun i c x => ⟨(h.c1 i c x).1, (h.c1 i c x).2.1, Nat.lt_of_lt_of_le (h.c1 i c x).2.2 l⟩
    b1 := fun i c x => ⟨(h.b1 i c x).1, Nat.lt_of_lt_of_le (h.b1 i c x).2 l⟩
    f1 := fun i x => Nat.lt_of_lt_of_le (h.f1 i x) l }
/-- the one is of fewer rows, the other of more -/
structure Grow (f f' : St) : Prop where
  n : f.n ≤ f'.n
  g : f.g ≤ f'.g
  o : ∀ i, isN f i = true → f'.ar i = f.ar i ∧ f'.fi i = f.fi i ∧ f'.tp i = f.tp i
  c1 : ∀ i c, f.cm i = some c → f'.cm i = some c
  c2 : ∀ i c, f'.cm i = some c → f.cm i = some c ∨ f.n ≤ c
  b1 : ∀ i c, f.ab i = some c → f'.ab i = some c
  b2 : ∀ i c, f'.ab i = some c → f.ab i = some c ∨ f.n ≤ c
  e1 : ∀ i c, f.en i = some c → f'.en i = some c
  e2 : ∀ i c, f'.en i = some c → f.en i = some c ∨ f.n ≤ c
theorem isN_mono {f f' : St} (h : f.g ≤ f'.g) {i : Nat} (hi : isN f i = true) : isN f' i = true := by
  simp only [isN, Bool.and_eq_true, decide_eq_true_eq] at hi ⊢
  omega
theorem Grow.trans {f g h : St} (a : Grow f g) (b : Grow g h) : Grow f h where
  n := Nat.le_trans a.n b.n
  g := Nat.le_trans a.g b.g
  o i hi := by
    obtain ⟨x1, x2, x3⟩ := a.o i hi
    obtain ⟨y1, y2, y3⟩ := b.o i (isN_mono a.g hi)
    exact ⟨y1.trans x1, y2.trans x2, y3.trans x3⟩
  c1 i c x := b.c1 i c (a.c1 i c x)
  c2 i c x := by
    rcases b.c2 i c x with y | y
    · exact a.c2 i c y
    · exact .inr (Nat.le_trans a.n y)
  b1 i c x := b.b1 i c (a.b1 i c x)
  b2 i c x := by
    rcases b.b2 i c x with y | y
    · exact a.b2 i c y
    · exact .inr (Nat.le_trans a.n y)
  e1 i c x := b.e1 i c (a.e1 i c x)
  e2 i c x := by
    rcases b.e2 i c x with y | y
    · exact a.e2 i c y
    · exact .inr (Nat.le_trans a.n y)
/-- what is the same behind a settling -/
structure Same (f f' : St) : Prop where
  n : f'.n = f.n
  g : f'.g = f.g
  ar : f'.ar = f.ar
  fi : f'.fi = f.fi
  tp : f'.tp = f.tp
  run : f'.run = f.run
  pre : f'.pre = f.pre
  en : f'.en = f.en
theorem Same.trans {f g h : St} (a : Same f g) (b : Same g h) : Same f h :=
  ⟨b.n.trans a.n, b.g.trans a.g, b.ar.trans a.ar, b.fi.trans a.fi, b.tp.trans a.tp, b.run.trans a.run, b.pre.trans a.pre, b.en.trans a.en⟩
/-- from f on, rows from f.n on (the number of the rows is not looked at) -/
structure Gr (k : Nat) (f f' : St) : Prop where
  g : f.g ≤ f'.g
  o : ∀ i, isN f i = true → f'.ar i = f.ar i ∧ f'.fi i = f.fi i ∧ f'.tp i = f.tp i
  c1 : ∀ i c, f.cm i = some c → f'.cm i = some c
  c2 : ∀ i c, f'.cm i = some c → f.cm i = some c ∨ k ≤ c
  b1 : ∀ i c, f.ab i = some c → f'.ab i = some c
  b2 : ∀ i c, f'.ab i = some c → f.ab i = some c ∨ k ≤ c
  e1 : ∀ i c, f.en i = some c → f'.en i = some c
  e2 : ∀ i c, f'.en i = some c → f.en i = some c ∨ k ≤ c
theorem Gr.trans {k : Nat} {f g h : St} (a : Gr k f g) (b : Gr k g h) : Gr k f h where
  g := Nat.le_trans a.g b.g
  o i hi := by
    obtain ⟨x1, x2, x3⟩ := a.o i hi
    obtain ⟨y1, y2, y3⟩ := b.o i (isN_mono a.g hi)
    exact ⟨y1.trans x1, y2.trans x2, y3.trans x3⟩
  c1 i c x := b.c1 i c (a.c1 i c x)
  c2 i c x := (b.c2 i c x).elim (fun y => a.c2 i c y) .inr
  b1 i c x := b.b1 i c (a.b1 i c x)
  b2 i c x := (b.b2 i c x).elim (fun y => a.b2 i c y) .inr
  e1 i c x := b.e1 i c (a.e1 i c x)
  e2 i c x := (b.e2 i c x).elim (fun y => a.e2 i c y) .inr
end Fa
namespace Fa
theorem W.n {N k : Nat} {f : St} (h : W N f) : W N { f with n := k } :=
  ⟨h.t1, h.a1, h.a2, h.r1, h.r2, h.r3, h.r4, h.p1, h.e1, h.e2, h.c1, h.b1, h.f1⟩
noncomputable def run : St → List Rw → St
  | f, [] => f
  | f, r :: rs => run (enter f r) rs
theorem Gr.mono {k k' : Nat} {f f' : St} (h : Gr k f f') (l : k' ≤ k) : Gr k' f f' :=
  ⟨h.g, h.o, h.c1, fun i c x => (h.c2 i c x).imp id (Nat.le_trans l), h.b1, fun i c x => (h.b2 i c x).imp id (Nat.le_trans l), h.e1, fun i c x => (h.e2 i c x).imp id (Nat.le_trans l)⟩
end Fa
namespace Mi
open PySem PySem.Spec PyProof.Rows L2
variable [LamTabs]
section
variable {κ : Type} [DecidableEq κ]
theorem valD_none {kvs : List (κ × D)} {k : κ} : valD kvs k = none ↔ kvs.any (fun p => decide (p.1 = k)) = false := by
  unfold valD
  rw [Option.map_eq_none_iff, List.find?_eq_none, List.any_eq_false]
theorem valD_app {kvs : List (κ × D)} {k k' : κ} {v : D} (h : valD kvs k = none) : valD (kvs ++ [(k, v)]) k' = if k' = k then some v else valD kvs k' := by
  unfold valD at h ⊢
  rw [List.find?_append]
  by_cases e : k' = k
  · subst e
    rw [if_pos rfl]
    have h2 : kvs.find? (fun p => decide (p.1 = k')) = none := by simpa using h
    rw [h2]
    simp [List.find?]
  · rw [if_neg e]
    have e2 : ¬ k = k' := fun z => e z.symm
    simp [List.find?, e2]
theorem valD_map {k k' : κ} {v : D} : ∀ {kvs : List (κ × D)}, valD (kvs.map fun p => if p.1 = k then (p.1, v) else p) k' = if k' = k ∧ (valD kvs k').isSome then some v else valD kvs k'
  | [] => by simp [valD]
  | (x, d) :: r => by
    have ih := valD_map (k := k) (k' := k') (v := v) (kvs := r)
    unfold valD at ih ⊢
    simp only [List.map_cons]
    by_cases e : x = k
    · subst e
      simp only [if_true, List.find?]
      by_cases e2 : x = k'
      · subst e2; simp
      · simp only [e2, decide_false]; exact ih
    · simp only [e, if_false, List.find?]
      by_cases e2 : x = k'
      · subst e2
        simp [e]
      · simp only [e2, decide_false]; exact ih
theorem valD_put {kvs : List (κ × D)} {k k' : κ} {v : D} : valD (putD kvs k v) k' = if k' = k then some v else valD kvs k' := by
  unfold putD
  split
  · rename_i h
    rw [valD_map]
    by_cases e : k' = k
    · subst e
      have : (valD kvs k').isSome = true := by
        cases hh : valD kvs k' with
        | none => rw [valD_none.1 hh] at h; cases h
        | some _ => rfl
      simp [this]
    · simp [e]
  · rename_i h
    exact valD_app (valD_none.2 (Bool.eq_false_iff.2 h))
theorem keys_put {kvs : List (κ × D)} {k : κ} {v : D} : (putD kvs k v).map (·.1) = if (valD kvs k).isSome then kvs.map (·.1) else kvs.map (·.1) ++ [k] := by
  unfold putD
  cases hh : valD kvs k with
  | none =>
    rw [valD_none.1 hh]
    simp
  | some d =>
    have h : kvs.any (fun p => decide (p.1 = k)) = true := by
      cases h : kvs.any (fun p => decide (p.1 = k)) with
      | true => rfl
      | false => rw [valD_none.2 h] at hh; cases hh
    rw [h]
    simp only [if_true, Option.isSome_some, List.map_map]
    refine List.map_congr_left fun p _ => ?_
    simp only [Function.comp]
    split <;> rfl
theorem valD_mem {kvs : List (κ × D)} {k : κ} (h : k ∈ kvs.map (·.1)) : (valD kvs k).isSome = true := by
  cases hh : valD kvs k with
  | some _ => rfl
  | none =>
    have := valD_none.1 hh
    rw [List.any_eq_false] at this
    obtain ⟨p, hp, e⟩ := List.mem_map.1 h
    exact absurd (by simpa using e) (this p hp)
end
theorem short_nodup : ∀ (g : Nat) (l : List Nat), l.Nodup → (∀ i, i ∈ l → 1 ≤ i ∧ i ≤ g) → l.length ≤ g
  | 0, l, _, h => by
    rcases l with _ | ⟨a, l⟩
    · exact Nat.le_refl _
    · have := h a (by simp); omega
  | g + 1, l, hn, h => by
    by_cases hg : g + 1 ∈ l
    · have h1 := short_nodup g (l.erase (g + 1)) (hn.erase _) fun i hi => by
        have := (List.Nodup.mem_erase_iff hn).1 hi
        have := h i this.2
        omega
      rw [List.length_erase_of_mem hg] at h1
      omega
    · have := short_nodup g l hn fun i hi => by
        have := h i hi
        have : i ≠ g + 1 := fun z => hg (z ▸ hi)
        omega
      omega
/-- a dict whose keys are numbers from 1 to g -/
structure DR (g : Nat) (kvs : List (Key × D)) (h : Nat → Option D) : Prop where
  val : ∀ i : Nat, valD kvs (.inl (i : Int)) = h i
  nd : (kvs.map (·.1)).Nodup
  ks : ∀ k, k ∈ kvs.map (·.1) → ∃ i : Nat, 1 ≤ i ∧ i ≤ g ∧ k = .inl (i : Int)
theorem DR.nil {g : Nat} {h : Nat → Option D} (hh : ∀ i, h i = none) : DR g [] h := ⟨fun i => (hh i).symm, by simp, by simp⟩
theorem DR.mono {g g' : Nat} {kvs : List (Key × D)} {h h' : Nat → Option D} (r : DR g kvs h) (l : g ≤ g') (e : ∀ i, h' i = h i) : DR g' kvs h' :=
  ⟨fun i => (r.val i).trans (e i).symm, r.nd, fun k hk => let ⟨i, a, b, c⟩ := r.ks k hk; ⟨i, a, Nat.le_trans b l, c⟩⟩
theorem DR.put {g : Nat} {kvs : List (Key × D)} {h : Nat → Option D} (r : DR g kvs h) {i : Nat} {v : D} (hi : 1 ≤ i ∧ i ≤ g) : DR g (putD kvs (.inl (i : Int)) v) (Fa.up h i (some v)) := by
  refine ⟨fun j => ?_, ?_, fun k hk => ?_⟩
  · rw [valD_put, r.val j]
    by_cases e : j = i
    · subst e; rw [if_pos rfl, Fa.up_same]
    · rw [if_neg (fun z => e (by injection z with z; omega)), Fa.up_ne e]
  · rw [keys_put]
    split
    · exact r.nd
    · rename_i q
      refine List.nodup_append.2 ⟨r.nd, by simp, fun a ha b hb => ?_⟩
      simp at hb
      rintro rfl
      exact q (by rw [← hb]; exact valD_mem ha)
  · rw [keys_put] at hk
    split at hk
    · exact r.ks k hk
    · rcases List.mem_append.1 hk with hk | hk
      · exact r.ks k hk
      · simp at hk
        exact ⟨i, hi.1, hi.2, hk⟩
theorem DR.len {g : Nat} {kvs : List (Key × D)} {h : Nat → Option D} (r : DR g kvs h) : kvs.length ≤ g := by
  have key : ∀ ks : List Key, ks.Nodup → (∀ k, k ∈ ks → ∃ i : Nat, 1 ≤ i ∧ i ≤ g ∧ k = .inl (i : Int)) → ∃ l : List Nat, l.length = ks.length ∧ l.Nodup ∧ (∀ i, i ∈ l → 1 ≤ i ∧ i ≤ g) ∧ ∀ i, i ∈ l → (.inl (i : Int) : Key) ∈ ks := by
    intro ks
    induction ks with
    | nil => intro _ _; exact ⟨[], rfl, by simp, by simp, by simp⟩
    | cons k ks ih =>
      intro hn hk
      rw [List.nodup_cons] at hn
      obtain ⟨l, h1, h2, h3, h4⟩ := ih hn.2 fun x hx => hk x (by simp [hx])
      obtain ⟨i, a, b, rfl⟩ := hk k (by simp)
      refine ⟨i :: l, by simp [h1], ?_, ?_, ?_⟩
      · rw [List.nodup_cons]
        exact ⟨fun z => hn.1 (h4 i z), h2⟩
      · intro j hj
        rcases List.mem_cons.1 hj with rfl | hj
        · exact ⟨a, b⟩
        · exact h3 j hj
      · intro j hj
        rcases List.mem_cons.1 hj with rfl | hj
        · simp
        · simp [h4 j hj]
  obtain ⟨l, h1, h2, h3, _⟩ := key _ r.nd r.ks
  have := short_nodup g l h2 h3
  rw [h1, List.length_map] at this
  exact this
noncomputable def flds (b : Nat) : List (Str × D) := [("_rows", .ref b), ("_arounds", .ref (b + 1)), ("_firsts", .ref (b + 2)), ("_tops", .ref (b + 3)), ("_commits", .ref (b + 4)), ("_aborts", .ref (b + 5)), ("_families", .ref (b + 6)), ("_running", .ref (b + 7)), ("_prepared", .ref (b + 8)), ("_ends", .ref (b + 9))]
structure Cl (S : Sto) (p b : Nat) (rows : List D) (k : Nat → List (Key × D)) : Prop where
  o : S[p]? = some (.ins "Fates" (flds b))
  r : S[b]? = some (.lst rows)
  s : ∀ j, 1 ≤ j → j ≤ 9 → S[b + j]? = some (.dct (k j))
  pb : p < b
noncomputable def nI (l : List Nat) : List D := l.map fun (i : Nat) => D.int (i : Int)
/-- the store but for the object's own cells -/
structure OutF (b : Nat) (S S' : Sto) : Prop where
  len : S'.length = S.length
  at' : ∀ i, i < b ∨ b + 10 ≤ i → S'[i]? = S[i]?
theorem OutF.trans {b : Nat} {S1 S2 S3 : Sto} (x : OutF b S1 S2) (y : OutF b S2 S3) : OutF b S1 S3 := ⟨y.len.trans x.len, fun i h => (y.at' i h).trans (x.at' i h)⟩
section
variable {S : Sto} {p b : Nat} {rows : List D} {k : Nat → List (Key × D)} {f : Fa.St}
theorem Cl.put (C : Cl S p b rows k) {j : Nat} (h1 : 1 ≤ j) (h9 : j ≤ 9) (v : List (Key × D)) : Cl (S.set (b + j) (.dct v)) p b rows (Fa.up k j v) := by
  have hl : b + j < S.length := (List.getElem?_eq_some_iff.1 (C.s j h1 h9)).1
  have pb := C.pb
  refine ⟨?_, ?_, fun i a c => ?_, pb⟩
  · rw [List.getElem?_set_ne (by omega)]; exact C.o
  · rw [List.getElem?_set_ne (by omega)]; exact C.r
  · by_cases e : i = j
    · subst e; rw [List.getElem?_set_self hl, Fa.up_same]
    · rw [List.getElem?_set_ne (by omega), Fa.up_ne e]; exact C.s i a c
theorem Cl.row (C : Cl S p b rows k) (v : List D) : Cl (S.set b (.lst v)) p b v k := by
  have hl : b < S.length := (List.getElem?_eq_some_iff.1 C.r).1
  have pb := C.pb
  refine ⟨?_, ?_, fun i a c => ?_, pb⟩
  · rw [List.getElem?_set_ne (by omega)]; exact C.o
  · rw [List.getElem?_set_self hl]
  · rw [List.getElem?_set_ne (by omega)]; exact C.s i a c
theorem Cl.out {S' : Sto} {b' : Nat} (C : Cl S p b rows k) (O : OutF b' S S') (h : (p < b' ∨ b' + 10 ≤ p) ∧ (b + 9 < b' ∨ b' + 10 ≤ b)) : Cl S' p b rows k := by
  refine ⟨?_, ?_, fun i a c => ?_, C.pb⟩
  · rw [O.at' p h.1]; exact C.o
  · rw [O.at' b (by omega)]; exact C.r
  · rw [O.at' (b + i) (by omega)]; exact C.s i a c
end
section
variable {S : Sto} {p b r : Nat} {rows : List D} {k : Nat → List (Key × D)} {Q : D → Sto → Prop}
theorem wp_lenC {ds : List D} (h : S[r]? = some (.lst ds)) : Wp (lenD (.ref r)) S Q ↔ Q (.int (ds.length : Int)) S := wp_of (by
  unfold lenD dctAt lenM
  simp only [h, asQ, asR, asC])
theorem wp_app {ds : List D} {x : D} (h : S[r]? = some (.lst ds)) (hl : ds.length < 100000) : Wp (appM (.ref r) [x]) S Q ↔ Q .non (S.set r (.lst (ds ++ [x]))) := wp_of (by
  unfold appM
  simp only [h]
  rw [if_pos hl])
/-- o.m(..) -/
noncomputable def metX (c m : Str) (n : Nat) (f : List D → M D) (g : M (List D)) (x : D) : M D := fun S => match insAt S x with
  | some (c', fs) => if c' = c ∧ (fs.lookup m).isNone then (M.bind g fun xs => if xs.length + 1 = n then f (x :: xs) else bad) S else none
  | none => none
theorem metM_eq {c m : Str} {n : Nat} {f : List D → M D} {mo : Env → M D} {ma : Env → M (List D)} {ρ : Env} : metM c m n f mo ma ρ = M.bind (mo ρ) (metX c m n f (ma ρ)) := rfl
noncomputable def metY (c m : Str) (n j : Nat) (f : List D → M D) (g h : M (List D)) (x : D) : M D := fun S => match insAt S x with
  | some (c', fs) => if c' = c ∧ (fs.lookup m).isNone then (M.bind g fun xs => M.bind h fun zs => if xs.length + 1 = n ∧ zs.length = j then f (x :: xs ++ zs) else bad) S else none
  | none => none
theorem metK_eq {c m : Str} {n j : Nat} {f : List D → M D} {mo : Env → M D} {ma mk : Env → M (List D)} {ρ : Env} : metK c m n j f mo ma mk ρ = M.bind (mo ρ) (metY c m n j f (ma ρ) (mk ρ)) := rfl
end
end Mi
namespace Mi
open PySem PySem.Spec PyProof.Rows L2
variable [LamTabs]
section
variable {α : Type} {m : M α} {f : Env → M α} {ρ : Env} {S : Sto} {Q : α → Sto → Prop}
theorem wp_noErrI : Wp (noErr m) S Q ↔ Wp m S Q := by
  unfold Wp noErr
  rcases m S with _ | ⟨x | v, S'⟩
  · exact Iff.rfl
  · exact ⟨fun ⟨_, _, h, _⟩ => (by cases h), fun ⟨_, _, h, _⟩ => (by cases h)⟩
  · exact Iff.rfl
theorem wp_noE : Wp (noE f ρ) S Q ↔ Wp (f ρ) S Q := wp_noErrI
end
end Mi
namespace Mi
open PySem PySem.Spec PyProof.Rows L2
noncomputable def tabAt (K : PySem.W.Frag) (x : Str) : Addr := match PySem.W.nsIn K mainGlobals x with
  | some (some (.ref f)) => match K.lookup f with
    | some ⟨_, _, .func fd, _⟩ => match fd.code with
      | .ref c => match K.lookup c with
        | some ⟨_, _, .fields vs, _⟩ => match (vs[11]? : Option Value) with
          | some (.ref P) => P
          | _ => 0
        | _ => 0
      | _ => 0
    | _ => 0
  | _ => 0
noncomputable def lamDefs : List Str := ["_law_right", "law"]
noncomputable instance lamTabs : LamTabs := ⟨fun K => lamDefs.map fun x => (tabAt K x, (x ++ ".<locals>.") ++ "<lambda>")⟩
noncomputable def topS (i : Nat) : Stmt := PySem.Challenge.pw_whoheld_k93_texts_of_papers.main.body.getD i (.Pass ⟨0, 0, 0, 0⟩)
noncomputable def metS (i j : Nat) : Stmt := match topS i with
  | .ClassDef (body := b) .. => b.getD j (.Pass ⟨0, 0, 0, 0⟩)
  | _ => .Pass ⟨0, 0, 0, 0⟩
noncomputable def tbl_LINES : List (Str × D) := [("readers", .tup []), ("view", .tup [.str "number", .str "view"]), ("stay", .tup [.str "view", .str "view"]), ("apart", .tup [.str "view"]), ("range", .tup [.str "number", .str "view", .str "view"]), ("word", .tup [.str "view", .str "view"]), ("span", .tup [.str "view", .str "view"])]
noncomputable def xtb : List (Str × List Nat) := [(Str.ofString "HoldError", [0, 100, 105]), (Str.ofString "TurnError", [1, 101, 105]), (Str.ofString "AbsentError", [2, 102, 105]), (Str.ofString "SizeError", [3, 103, 104, 105]), (Str.ofString "InvalidRow", [4, 0, 100, 105]), (Str.ofString "InvalidText", [5, 0, 100, 105])]
noncomputable def xown : List (Nat × String) := [(5, "InvalidText"), (4, "InvalidRow")]
noncomputable def xbl : List (Nat × String) := []
structure Txt (w : World) (K : PySem.W.Frag) (mg : Str → Option Value) : Prop where
  n_abs : mg "abs" = none
  n_all : mg "all" = none
  n_any : mg "any" = none
  n_bool : mg "bool" = none
  n_enumerate : mg "enumerate" = none
  n_int : mg "int" = none
  n_isinstance : mg "isinstance" = none
  n_len : mg "len" = none
  n_list : mg "list" = none
  n_max : mg "max" = none
  n_range : mg "range" = none
  n_repr : mg "repr" = none
  n_str : mg "str" = none
  n_tuple : mg "tuple" = none
  n_zip : mg "zip" = none
  c_CHARACTERS : ∃ t, mg "CHARACTERS" = some (.str "abcdefghijklmnopqrstuvwxyz0123456789" t)
  c_DIGITS : ∃ t, mg "DIGITS" = some (.str "0123456789" t)
  c_LETTERS : ∃ t, mg "LETTERS" = some (.str "abcdefghijklmnopqrstuvwxyz" t)
  c_MOST_CHARACTERS : ∃ t, mg "MOST_CHARACTERS" = some (.int 8 t)
  c_MOST_DIGITS : ∃ t, mg "MOST_DIGITS" = some (.int 6 t)
  c_MOST_NUMBER : ∃ t, mg "MOST_NUMBER" = some (.int 999999 t)
  c_MOST_PLACES : ∃ t, mg "MOST_PLACES" = some (.int 8 t)
  xf_line : XFld K ["InvalidText"] "line"
  xf_word : XFld K ["InvalidText"] "word"
  xc__law_heard : Cat4 K mg "HoldError" "TurnError" "AbsentError" "SizeError" ["InvalidText"]
  xg_InvalidText : ∃ D, mg "InvalidText" = some (.ref D)
  xg_InvalidRow : ∃ D, mg "InvalidRow" = some (.ref D)
  x_is : XIs K mg xtb xown xbl
  d_LINES : ∃ c, mg "LINES" = some (.ref c) ∧ KTab K w c tbl_LINES
  t_BARS : KTup K mg "BARS" [.str "range", .str "word", .str "span"]
  t_ENTRIES : KTup K mg "ENTRIES" [.str "view", .str "stay", .str "apart"]
section
variable {P : Program} {w : World} {K : PySem.W.Frag} {mg : Str → Option Value} {base : Heap}
noncomputable abbrev s_InvalidText___init__ : Stmt := metS 6 0
noncomputable abbrev ps_InvalidText___init__ : List Str := ["self", "line", "word"]
noncomputable abbrev N_InvalidText___init__ : List Str := ["self", "line", "word"]
theorem sc_InvalidText___init__ : FnScope N_InvalidText___init__ ps_InvalidText___init__ (defScope s_InvalidText___init__) := ⟨rfl, rfl, rfl, by decide +kernel, rfl, by decide +kernel, by decide +kernel⟩
theorem ok_InvalidText___init__ (T : Txt w K mg) (D : XMkAt K mg "InvalidText" "InvalidText.__init__" s_InvalidText___init__ ps_InvalidText___init__ ["line", "word"]) : XMk P w K mg base 1 "InvalidText" "InvalidText.__init__" s_InvalidText___init__ ps_InvalidText___init__ ["line", "word"] :=
  XMk.of2 (N := N_InvalidText___init__) (k := 0) D sc_InvalidText___init__ rfl fun fa cdv A outer s H E => pss_cons (ps_xst (pv 0) (pv 1)) (pss_one (ps_xst (pv 0) (pv 2)))
noncomputable abbrev s_is_key : Stmt := topS 14
noncomputable abbrev ps_is_key : List Str := ["value"]
noncomputable abbrev N_is_key : List Str := ["value"]
theorem sc_is_key : FnScope N_is_key ps_is_key (defScope s_is_key) := ⟨rfl, rfl, rfl, by decide +kernel, rfl, by decide +kernel, by decide +kernel⟩
noncomputable def b_is_key : Env → M (Fl × Env) := (sSeq (sRet (andV (b1 (isiM "str") (vget 0)) (andV (chn leM leM (fun _ => M.pure (.int 1)) (cal (on1 lenD) (aCons (vget 0) (fun _ => M.pure []))) (fun _ => M.pure (.int 8))) (b2 eqM (mth chkS stripM (vget 0) (aCons (fun _ => M.pure (.str "abcdefghijklmnopqrstuvwxyz")) (fun _ => M.pure []))) (fun _ => M.pure (.str ""))))))
    sNil)
noncomputable def m_is_key : List D → M D := runM 1 b_is_key
theorem ok_is_key (T : Txt w K mg) (D : DefAt K mg "is_key" s_is_key ps_is_key)  : OkAt P w K mg base 1 "is_key" s_is_key ps_is_key m_is_key :=
  OkAt.of (ms := b_is_key) (N := N_is_key) (n := 1) (k := 0) rfl D sc_is_key fun fa cdv A outer s H E hr =>
    (mss_cons (ms_ret (me_and (me_isi rfl T.n_isinstance (by decide +kernel) (me_of (pv 0)) (pe_bltn rfl T.n_str (by decide +kernel) rfl)) (me_and (me_chain op_le leM_ok op_le leM_ok me_int (me_callB call_lenDU lenD_ok rfl T.n_len (by decide +kernel) (ma_cons (me_of (pv 0)) ma_nil)) (me_gint rfl T.c_MOST_CHARACTERS) (nomark _)) (me_one (me_cmp (op_eqU hr.units) eqM_ok (pe_imp (pe_bm PySem.F.plainAttrs_str PySem.F.slot_str_strip PySem.F.type_str_strip mt_stripChars (me_of (pv 0)) (ma_cons (me_gstr rfl T.c_LETTERS) ma_nil)) (fun _ _ _ h => mth_go chkS_ok stripM_ok h)) me_str (nomark _))))))
    mss_nil)
noncomputable abbrev s_is_value : Stmt := topS 15
noncomputable abbrev ps_is_value : List Str := ["value"]
noncomputable abbrev N_is_value : List Str := ["value"]
theorem sc_is_value : FnScope N_is_value ps_is_value (defScope s_is_value) := ⟨rfl, rfl, rfl, by decide +kernel, rfl, by decide +kernel, by decide +kernel⟩
noncomputable def b_is_value : Env → M (Fl × Env) := (sSeq (sRet (andV (b1 (isiM "str") (vget 0)) (andV (chn leM leM (fun _ => M.pure (.int 1)) (cal (on1 lenD) (aCons (vget 0) (fun _ => M.pure []))) (fun _ => M.pure (.int 8))) (b2 eqM (mth chkS stripM (vget 0) (aCons (fun _ => M.pure (.str "abcdefghijklmnopqrstuvwxyz0123456789")) (fun _ => M.pure []))) (fun _ => M.pure (.str ""))))))
    sNil)
noncomputable def m_is_value : List D → M D := runM 1 b_is_value
theorem ok_is_value (T : Txt w K mg) (D : DefAt K mg "is_value" s_is_value ps_is_value)  : OkAt P w K mg base 1 "is_value" s_is_value ps_is_value m_is_value :=
  OkAt.of (ms := b_is_value) (N := N_is_value) (n := 1) (k := 0) rfl D sc_is_value fun fa cdv A outer s H E hr =>
    (mss_cons (ms_ret (me_and (me_isi rfl T.n_isinstance (by decide +kernel) (me_of (pv 0)) (pe_bltn rfl T.n_str (by decide +kernel) rfl)) (me_and (me_chain op_le leM_ok op_le leM_ok me_int (me_callB call_lenDU lenD_ok rfl T.n_len (by decide +kernel) (ma_cons (me_of (pv 0)) ma_nil)) (me_gint rfl T.c_MOST_CHARACTERS) (nomark _)) (me_one (me_cmp (op_eqU hr.units) eqM_ok (pe_imp (pe_bm PySem.F.plainAttrs_str PySem.F.slot_str_strip PySem.F.type_str_strip mt_stripChars (me_of (pv 0)) (ma_cons (me_gstr rfl T.c_CHARACTERS) ma_nil)) (fun _ _ _ h => mth_go chkS_ok stripM_ok h)) me_str (nomark _))))))
    mss_nil)
noncomputable abbrev s_is_number : Stmt := topS 16
noncomputable abbrev ps_is_number : List Str := ["value"]
noncomputable abbrev N_is_number : List Str := ["value"]
theorem sc_is_number : FnScope N_is_number ps_is_number (defScope s_is_number) := ⟨rfl, rfl, rfl, by decide +kernel, rfl, by decide +kernel, by decide +kernel⟩
noncomputable def b_is_number : Env → M (Fl × Env) := (sSeq (sRet (andV (b1 (isiM "int") (vget 0)) (andV (chn leW leW (fun _ => M.pure (.int 1)) (vget 0) (fun _ => M.pure (.int 999999))) (notV (b1 (isiM "bool") (vget 0))))))
    sNil)
noncomputable def m_is_number : List D → M D := runM 1 b_is_number
theorem ok_is_number (T : Txt w K mg) (D : DefAt K mg "is_number" s_is_number ps_is_number)  : OkAt P w K mg base 1 "is_number" s_is_number ps_is_number m_is_number :=
  OkAt.of (ms := b_is_number) (N := N_is_number) (n := 1) (k := 0) rfl D sc_is_number fun fa cdv A outer s H E hr =>
    (mss_cons (ms_ret (me_and (me_isi rfl T.n_isinstance (by decide +kernel) (me_of (pv 0)) (pe_bltn rfl T.n_int (by decide +kernel) rfl)) (me_and (me_chain op_leW cmpW_ok op_leW cmpW_ok me_int (me_of (pv 0)) (me_gint rfl T.c_MOST_NUMBER) (nomark _)) (me_one (me_not (me_isi rfl T.n_isinstance (by decide +kernel) (me_of (pv 0)) (pe_bltn rfl T.n_bool (by decide +kernel) rfl)))))))
    mss_nil)
noncomputable abbrev s_is_view : Stmt := topS 17
noncomputable abbrev ps_is_view : List Str := ["value"]
noncomputable abbrev N_is_view : List Str := ["value"]
theorem sc_is_view : FnScope N_is_view ps_is_view (defScope s_is_view) := ⟨rfl, rfl, rfl, by decide +kernel, rfl, by decide +kernel, by decide +kernel⟩
noncomputable def b_is_view : Env → M (Fl × Env) := (sSeq (sRet (andV (b1 (isiM "int") (vget 0)) (andV (chn leW leW (fun _ => M.pure (.int 0)) (vget 0) (fun _ => M.pure (.int 999999))) (notV (b1 (isiM "bool") (vget 0))))))
    sNil)
noncomputable def m_is_view : List D → M D := runM 1 b_is_view
theorem ok_is_view (T : Txt w K mg) (D : DefAt K mg "is_view" s_is_view ps_is_view)  : OkAt P w K mg base 1 "is_view" s_is_view ps_is_view m_is_view :=
  OkAt.of (ms := b_is_view) (N := N_is_view) (n := 1) (k := 0) rfl D sc_is_view fun fa cdv A outer s H E hr =>
    (mss_cons (ms_ret (me_and (me_isi rfl T.n_isinstance (by decide +kernel) (me_of (pv 0)) (pe_bltn rfl T.n_int (by decide +kernel) rfl)) (me_and (me_chain op_leW cmpW_ok op_leW cmpW_ok me_int (me_of (pv 0)) (me_gint rfl T.c_MOST_NUMBER) (nomark _)) (me_one (me_not (me_isi rfl T.n_isinstance (by decide +kernel) (me_of (pv 0)) (pe_bltn rfl T.n_bool (by decide +kernel) rfl)))))))
    mss_nil)
noncomputable abbrev s_is_place : Stmt := topS 18
noncomputable abbrev ps_is_place : List Str := ["value"]
noncomputable abbrev N_is_place : List Str := ["value"]
theorem sc_is_place : FnScope N_is_place ps_is_place (defScope s_is_place) := ⟨rfl, rfl, rfl, by decide +kernel, rfl, by decide +kernel, by decide +kernel⟩
noncomputable def b_is_place : Env → M (Fl × Env) := (sSeq (sRet (andV (b1 (isiM "int") (vget 0)) (andV (chn leM ltM (fun _ => M.pure (.int 0)) (vget 0) (fun _ => M.pure (.int 8))) (notV (b1 (isiM "bool") (vget 0))))))
    sNil)
noncomputable def m_is_place : List D → M D := runM 1 b_is_place
theorem ok_is_place (T : Txt w K mg) (D : DefAt K mg "is_place" s_is_place ps_is_place)  : OkAt P w K mg base 1 "is_place" s_is_place ps_is_place m_is_place :=
  OkAt.of (ms := b_is_place) (N := N_is_place) (n := 1) (k := 0) rfl D sc_is_place fun fa cdv A outer s H E hr =>
    (mss_cons (ms_ret (me_and (me_isi rfl T.n_isinstance (by decide +kernel) (me_of (pv 0)) (pe_bltn rfl T.n_int (by decide +kernel) rfl)) (me_and (me_chain op_le leM_ok op_lt ltM_ok me_int (me_of (pv 0)) (me_gint rfl T.c_MOST_PLACES) (nomark _)) (me_one (me_not (me_isi rfl T.n_isinstance (by decide +kernel) (me_of (pv 0)) (pe_bltn rfl T.n_bool (by decide +kernel) rfl)))))))
    mss_nil)
noncomputable abbrev s_is_ascending : Stmt := topS 19
noncomputable abbrev ps_is_ascending : List Str := ["integers"]
noncomputable abbrev N_is_ascending : List Str := ["integers", "low", "high"]
theorem sc_is_ascending : FnScope N_is_ascending ps_is_ascending (defScope s_is_ascending) := ⟨rfl, rfl, rfl, by decide +kernel, rfl, by decide +kernel, by decide +kernel⟩
noncomputable def b_is_ascending : Env → M (Fl × Env) := (sSeq (sRet (orV (b2 ltM (cal (on1 lenD) (aCons (vget 0) (fun _ => M.pure []))) (fun _ => M.pure (.int 2))) (cal (on1 allM) (aCons (eLc (iZip (aCons (vget 0) (aCons (slc (vget 0) (some (fun _ => M.pure (.int 1))) none) (fun _ => M.pure [])))) (gTwo 1 2) (fun _ => M.pure true) (b2 ltM (vget 1) (vget 2)) [1, 2]) (fun _ => M.pure [])))))
    sNil)
noncomputable def m_is_ascending : List D → M D := runM 3 b_is_ascending
theorem ok_is_ascending (T : Txt w K mg) (D : DefAt K mg "is_ascending" s_is_ascending ps_is_ascending)  : OkAt P w K mg base 1 "is_ascending" s_is_ascending ps_is_ascending m_is_ascending :=
  OkAt.of (ms := b_is_ascending) (N := N_is_ascending) (n := 3) (k := 0) rfl D sc_is_ascending fun fa cdv A outer s H E hr =>
    (mss_cons (ms_ret (me_or (me_cmp op_lt ltM_ok (me_callB call_lenDU lenD_ok rfl T.n_len (by decide +kernel) (ma_cons (me_of (pv 0)) ma_nil)) me_int (nomark _)) (me_one (me_callB (cr_all rfl) allM_ok rfl T.n_all (by decide +kernel) (ma_cons (me_lc (own := [("low", 1), ("high", 2)]) rfl sc_is_ascending.nd (mi_zip rfl T.n_zip (ma_cons (me_of (pv 0)) (ma_cons (me_slice (me_of (pv 0)) (mo_some me_int) mo_none) ma_nil))) (blkOk_by (N := N_is_ascending) (sc := defScope s_is_ascending) (by decide +kernel)) (gw_two (i := 1) (j := 2) (by simp) (by simp)) (fun _ _ _ _ _ => pg_tup rfl (pgs_cons (pg_name (i := 1) sc_is_ascending.nd rfl (Or.inl rfl)) (pgs_cons (pg_name (i := 2) sc_is_ascending.nd rfl (Or.inl rfl)) pgs_nil))) (fun _ _ _ _ _ => mts_nil) (fun _ _ _ _ _ => (me_cmp op_lt ltM_ok (me_of (pv 1)) (me_of (pv 2)) (nomark _)))) ma_nil)))))
    mss_nil)
noncomputable abbrev s__are_slots : Stmt := topS 21
noncomputable abbrev ps__are_slots : List Str := ["value"]
noncomputable abbrev N__are_slots : List Str := ["value", "slot"]
theorem sc__are_slots : FnScope N__are_slots ps__are_slots (defScope s__are_slots) := ⟨rfl, rfl, rfl, by decide +kernel, rfl, by decide +kernel, by decide +kernel⟩
noncomputable def b__are_slots : Env → M (Fl × Env) := (sSeq (sIf (notT (tst (b1 (isiM "tuple") (vget 0)))) (sSeq (sRet (fun _ => M.pure (.bl false)))
    sNil) sNil)
    (sSeq (sFor (iSeq (vget 0)) (gSet 1) (sSeq (sIf (notT (tst (calF 1 m_is_place (aCons (vget 1) (fun _ => M.pure []))))) (sSeq (sRet (fun _ => M.pure (.bl false)))
    sNil) sNil)
    sNil))
    (sSeq (sRet (calF 1 m_is_ascending (aCons (vget 0) (fun _ => M.pure []))))
    sNil)))
noncomputable def m__are_slots : List D → M D := runM 2 b__are_slots
theorem ok__are_slots (T : Txt w K mg) (D : DefAt K mg "_are_slots" s__are_slots ps__are_slots) (O_is_ascending : OkAt P w K mg base 1 "is_ascending" s_is_ascending ps_is_ascending m_is_ascending) (O_is_place : OkAt P w K mg base 1 "is_place" s_is_place ps_is_place m_is_place) : OkAt P w K mg base 2 "_are_slots" s__are_slots ps__are_slots m__are_slots :=
  OkAt.of (ms := b__are_slots) (N := N__are_slots) (n := 2) (k := 1) rfl D sc__are_slots fun fa cdv A outer s H E hr =>
    (mss_cons (ms_if (mt_not (mt_val (me_isi rfl T.n_isinstance (by decide +kernel) (me_of (pv 0)) (pe_bltn rfl T.n_tuple (by decide +kernel) rfl)))) (mss_cons (ms_ret me_bl)
    mss_nil) mss_nil)
    (mss_cons (ms_for PassesOwn.never rfl (mi_seq (me_of (pv 0))) (mg_name (i := 1) sc__are_slots.nd rfl (Or.inl rfl)) (mss_cons (ms_if (mt_not (mt_val (me_callO O_is_place (hr.mono (by decide)) rfl rfl (ma_cons (me_of (pv 1)) ma_nil)))) (mss_cons (ms_ret me_bl)
    mss_nil) mss_nil)
    mss_nil))
    (mss_cons (ms_ret (me_callO O_is_ascending (hr.mono (by decide)) rfl rfl (ma_cons (me_of (pv 0)) ma_nil)))
    mss_nil)))
noncomputable abbrev s_part_fits : Stmt := topS 22
noncomputable abbrev ps_part_fits : List Str := ["kind", "part", "before"]
noncomputable abbrev N_part_fits : List Str := ["kind", "part", "before", "slot"]
theorem sc_part_fits : FnScope N_part_fits ps_part_fits (defScope s_part_fits) := ⟨rfl, rfl, rfl, by decide +kernel, rfl, by decide +kernel, by decide +kernel⟩
noncomputable def b_part_fits : Env → M (Fl × Env) := (sSeq (sIf (tst (b2 eqM (vget 0) (fun _ => M.pure (.str "number")))) (sSeq (sRet (calF 1 m_is_number (aCons (vget 1) (fun _ => M.pure []))))
    sNil) sNil)
    (sSeq (sIf (tst (b2 (inD false) (vget 0) (mkT (aCons (fun _ => M.pure (.str "page")) (aCons (fun _ => M.pure (.str "slot")) (fun _ => M.pure [])))))) (sSeq (sRet (calF 1 m_is_place (aCons (vget 1) (fun _ => M.pure []))))
    sNil) sNil)
    (sSeq (sIf (tst (b2 eqM (vget 0) (fun _ => M.pure (.str "key")))) (sSeq (sRet (calF 1 m_is_key (aCons (vget 1) (fun _ => M.pure []))))
    sNil) sNil)
    (sSeq (sIf (tst (b2 eqM (vget 0) (fun _ => M.pure (.str "value")))) (sSeq (sRet (calF 1 m_is_value (aCons (vget 1) (fun _ => M.pure []))))
    sNil) sNil)
    (sSeq (sIf (tst (b2 eqM (vget 0) (fun _ => M.pure (.str "outer")))) (sSeq (sRet (orV (b2 isN (vget 1) (fun _ => M.pure .non)) (andV (calF 1 m_is_number (aCons (vget 1) (fun _ => M.pure []))) (b2 ltM (vget 1) (vget 2)))))
    sNil) sNil)
    (sSeq (sIf (tst (b2 eqM (vget 0) (fun _ => M.pure (.str "view")))) (sSeq (sRet (calF 1 m_is_view (aCons (vget 1) (fun _ => M.pure []))))
    sNil) sNil)
    (sSeq (sIf (tst (b2 eqM (vget 0) (fun _ => M.pure (.str "told")))) (sSeq (sRet (orV (b2 isN (vget 1) (fun _ => M.pure .non)) (calF 1 m_is_view (aCons (vget 1) (fun _ => M.pure [])))))
    sNil) sNil)
    (sSeq (sIf (orT (notT (tst (calF 1 m__are_slots (aCons (vget 1) (fun _ => M.pure []))))) (andT (tst (b2 eqM (vget 0) (fun _ => M.pure (.str "tidied")))) (tst (b2 eqM (vget 1) (mkT (fun _ => M.pure [])))))) (sSeq (sRet (fun _ => M.pure (.bl false)))
    sNil) sNil)
    (sSeq (sRet (orV (b2 neM (vget 0) (fun _ => M.pure (.str "marked"))) (notV (cal (on1 anyM) (aCons (eLc (iSeq (vget 1)) (gSet 3) (fun _ => M.pure true) (b2 (inD false) (vget 3) (vget 2)) [3]) (fun _ => M.pure []))))))
    sNil)))))))))
noncomputable def m_part_fits : List D → M D := runM 4 b_part_fits
theorem ok_part_fits (T : Txt w K mg) (D : DefAt K mg "part_fits" s_part_fits ps_part_fits) (O__are_slots : OkAt P w K mg base 2 "_are_slots" s__are_slots ps__are_slots m__are_slots) (O_is_view : OkAt P w K mg base 1 "is_view" s_is_view ps_is_view m_is_view) (O_is_number : OkAt P w K mg base 1 "is_number" s_is_number ps_is_number m_is_number) (O_is_value : OkAt P w K mg base 1 "is_value" s_is_value ps_is_value m_is_value) (O_is_key : OkAt P w K mg base 1 "is_key" s_is_key ps_is_key m_is_key) (O_is_place : OkAt P w K mg base 1 "is_place" s_is_place ps_is_place m_is_place) : OkAt P w K mg base 3 "part_fits" s_part_fits ps_part_fits m_part_fits :=
  OkAt.of (ms := b_part_fits) (N := N_part_fits) (n := 4) (k := 2) rfl D sc_part_fits fun fa cdv A outer s H E hr =>
    (mss_cons (ms_if (mt_cmp (op_eqU hr.units) eqM_ok (me_of (pv 0)) me_str (nomark _)) (mss_cons (ms_ret (me_callO O_is_number (hr.mono (by decide)) rfl rfl (ma_cons (me_of (pv 1)) ma_nil)))
    mss_nil) mss_nil)
    (mss_cons (ms_if (mt_cmp (op_inDU (hu_of hr)) inD_ok (me_of (pv 0)) (me_tup (ma_cons me_str (ma_cons me_str ma_nil))) (by rfl)) (mss_cons (ms_ret (me_callO O_is_place (hr.mono (by decide)) rfl rfl (ma_cons (me_of (pv 1)) ma_nil)))
    mss_nil) mss_nil)
    (mss_cons (ms_if (mt_cmp (op_eqU hr.units) eqM_ok (me_of (pv 0)) me_str (nomark _)) (mss_cons (ms_ret (me_callO O_is_key (hr.mono (by decide)) rfl rfl (ma_cons (me_of (pv 1)) ma_nil)))
    mss_nil) mss_nil)
    (mss_cons (ms_if (mt_cmp (op_eqU hr.units) eqM_ok (me_of (pv 0)) me_str (nomark _)) (mss_cons (ms_ret (me_callO O_is_value (hr.mono (by decide)) rfl rfl (ma_cons (me_of (pv 1)) ma_nil)))
    mss_nil) mss_nil)
    (mss_cons (ms_if (mt_cmp (op_eqU hr.units) eqM_ok (me_of (pv 0)) me_str (nomark _)) (mss_cons (ms_ret (me_or (me_cmp op_isN isN_ok (me_of (pv 1)) me_non (nomark _)) (me_one (me_and (me_callO O_is_number (hr.mono (by decide)) rfl rfl (ma_cons (me_of (pv 1)) ma_nil)) (me_one (me_cmp op_lt ltM_ok (me_of (pv 1)) (me_of (pv 2)) (nomark _)))))))
    mss_nil) mss_nil)
    (mss_cons (ms_if (mt_cmp (op_eqU hr.units) eqM_ok (me_of (pv 0)) me_str (nomark _)) (mss_cons (ms_ret (me_callO O_is_view (hr.mono (by decide)) rfl rfl (ma_cons (me_of (pv 1)) ma_nil)))
    mss_nil) mss_nil)
    (mss_cons (ms_if (mt_cmp (op_eqU hr.units) eqM_ok (me_of (pv 0)) me_str (nomark _)) (mss_cons (ms_ret (me_or (me_cmp op_isN isN_ok (me_of (pv 1)) me_non (nomark _)) (me_one (me_callO O_is_view (hr.mono (by decide)) rfl rfl (ma_cons (me_of (pv 1)) ma_nil)))))
    mss_nil) mss_nil)
    (mss_cons (ms_if (PW.pt (mw_or (mt_not (mt_val (me_callO O__are_slots (hr.mono (by decide)) rfl rfl (ma_cons (me_of (pv 1)) ma_nil)))) (mw_or1 (PW.pt (mw_and (mt_cmp (op_eqU hr.units) eqM_ok (me_of (pv 0)) me_str (nomark _)) (mw_and1 (mt_cmp (op_eqU hr.units) eqM_ok (me_of (pv 1)) (me_tup ma_nil) (nomark _)))))))) (mss_cons (ms_ret me_bl)
    mss_nil) mss_nil)
    (mss_cons (ms_ret (me_or (me_cmp (op_neU hr.units) neM_ok (me_of (pv 0)) me_str (nomark _)) (me_one (me_not (me_callB (cr_any rfl) anyM_ok rfl T.n_any (by decide +kernel) (ma_cons (me_lc (own := [("slot", 3)]) rfl sc_part_fits.nd (mi_seq (me_of (pv 1))) (blkOk_by (N := N_part_fits) (sc := defScope s_part_fits) (by decide +kernel)) (gw_name (i := 3) (by simp)) (fun _ _ _ _ _ => pg_name (i := 3) sc_part_fits.nd rfl (Or.inl rfl)) (fun _ _ _ _ _ => mts_nil) (fun _ _ _ _ _ => (me_cmp (op_inDU (hu_of hr)) inD_ok (me_of (pv 3)) (me_of (pv 2)) (by rfl)))) ma_nil))))))
    mss_nil)))))))))
noncomputable abbrev s_read_integer : Stmt := topS 25
noncomputable abbrev ps_read_integer : List Str := ["word"]
noncomputable abbrev N_read_integer : List Str := ["word", "character"]
theorem sc_read_integer : FnScope N_read_integer ps_read_integer (defScope s_read_integer) := ⟨rfl, rfl, rfl, by decide +kernel, rfl, by decide +kernel, by decide +kernel⟩
noncomputable def b_read_integer : Env → M (Fl × Env) := (sSeq (sIf (orT (notT (tst (chn leM leM (fun _ => M.pure (.int 1)) (cal (on1 lenD) (aCons (vget 0) (fun _ => M.pure []))) (fun _ => M.pure (.int 6))))) (tst (cal (on1 anyM) (aCons (eLc (iSeq (vget 0)) (gSet 1) (fun _ => M.pure true) (b2 (inD true) (vget 1) (fun _ => M.pure (.str "0123456789"))) [1]) (fun _ => M.pure []))))) (sSeq (sRet (vget 0))
    sNil) sNil)
    (sSeq (sIf (andT (tst (b2 eqM (b2 ixD (vget 0) (fun _ => M.pure (.int 0))) (fun _ => M.pure (.str "0")))) (tst (b2 neM (vget 0) (fun _ => M.pure (.str "0"))))) (sSeq (sRet (vget 0))
    sNil) sNil)
    (sSeq (sRet (cal (on1 intT) (aCons (vget 0) (fun _ => M.pure []))))
    sNil)))
noncomputable def m_read_integer : List D → M D := runM 2 b_read_integer
theorem ok_read_integer (T : Txt w K mg) (D : DefAt K mg "read_integer" s_read_integer ps_read_integer)  : OkAt P w K mg base 1 "read_integer" s_read_integer ps_read_integer m_read_integer :=
  OkAt.of (ms := b_read_integer) (N := N_read_integer) (n := 2) (k := 0) rfl D sc_read_integer fun fa cdv A outer s H E hr =>
    (mss_cons (ms_if (PW.pt (mw_or (mt_not (mt_chain op_le leM_ok op_le leM_ok me_int (me_callB call_lenDU lenD_ok rfl T.n_len (by decide +kernel) (ma_cons (me_of (pv 0)) ma_nil)) (me_gint rfl T.c_MOST_DIGITS) (nomark _))) (mw_or1 (mt_val (me_callB (cr_any rfl) anyM_ok rfl T.n_any (by decide +kernel) (ma_cons (me_lc (own := [("character", 1)]) rfl sc_read_integer.nd (mi_seq (me_of (pv 0))) (blkOk_by (N := N_read_integer) (sc := defScope s_read_integer) (by decide +kernel)) (gw_name (i := 1) (by simp)) (fun _ _ _ _ _ => pg_name (i := 1) sc_read_integer.nd rfl (Or.inl rfl)) (fun _ _ _ _ _ => mts_nil) (fun _ _ _ _ _ => (me_cmp (op_ninDU (hu_of hr)) inD_ok (me_of (pv 1)) (me_gstr rfl T.c_DIGITS) (by rfl)))) ma_nil)))))) (mss_cons (ms_ret (me_of (pv 0)))
    mss_nil) mss_nil)
    (mss_cons (ms_if (PW.pt (mw_and (mt_cmp (op_eqU hr.units) eqM_ok (me_itemD (hu_of hr) (me_of (pv 0)) me_int (fun _ _ => rfl)) me_str (nomark _)) (mw_and1 (mt_cmp (op_neU hr.units) neM_ok (me_of (pv 0)) me_str (nomark _))))) (mss_cons (ms_ret (me_of (pv 0)))
    mss_nil) mss_nil)
    (mss_cons (ms_ret (me_callTy call_intT intT_ok rfl T.n_int (by decide +kernel) (ma_cons (me_of (pv 0)) ma_nil)))
    mss_nil)))
noncomputable abbrev s__read_line : Stmt := topS 33
noncomputable abbrev ps__read_line : List Str := ["text", "at", "allowed"]
noncomputable abbrev N__read_line : List Str := ["text", "at", "allowed", "words", "kinds", "parts", "kind", "word", "part"]
theorem sc__read_line : FnScope N__read_line ps__read_line (defScope s__read_line) := ⟨rfl, rfl, rfl, by decide +kernel, rfl, by decide +kernel, by decide +kernel⟩
noncomputable def b__read_line : Env → M (Fl × Env) := (sSeq (noE (sAsg (mth chkS splitM (vget 0) (aCons (fun _ => M.pure (.str " ")) (fun _ => M.pure []))) (gSet 3)))
    (sSeq (sIf (noE (tst (b2 (inD true) (b2 ixD (vget 3) (fun _ => M.pure (.int 0))) (vget 2)))) (sSeq (sRaise "InvalidText" ["line", "word"] (noE (aCons (vget 1) (aCons (fun _ => M.pure (.int 0)) (fun _ => M.pure [])))))
    sNil) sNil)
    (sSeq (noE (sAsg (b1 (kdIx tbl_LINES) (b2 ixD (vget 3) (fun _ => M.pure (.int 0)))) (gSet 4)))
    (sSeq (noE (sAsg (mkC (aCons (b2 ixD (vget 3) (fun _ => M.pure (.int 0))) (fun _ => M.pure []))) (gSet 5)))
    (sSeq (sFor (noE (iZipM (aCons (vget 4) (aCons (slc (vget 3) (some (fun _ => M.pure (.int 1))) none) (fun _ => M.pure []))))) (gTwo 6 7) (sSeq (noE (sAsg (calF 1 m_read_integer (aCons (vget 7) (fun _ => M.pure []))) (gSet 8)))
    (sSeq (sIf (noE (notT (tst (calF 3 m_part_fits (aCons (vget 6) (aCons (vget 8) (aCons (fun _ => M.pure .non) (fun _ => M.pure [])))))))) (sSeq (sRaise "InvalidText" ["line", "word"] (noE (aCons (vget 1) (aCons (cal (on1 lenD) (aCons (vget 5) (fun _ => M.pure []))) (fun _ => M.pure [])))))
    sNil) sNil)
    (sSeq (noE (sDrop (mth chkL appM (vget 5) (aCons (vget 8) (fun _ => M.pure [])))))
    sNil))))
    (sSeq (sIf (noE (orT (tst (b2 neM (cal (on1 lenD) (aCons (vget 5) (fun _ => M.pure []))) (cal (on1 lenD) (aCons (vget 3) (fun _ => M.pure []))))) (tst (b2 neM (cal (on1 lenD) (aCons (vget 5) (fun _ => M.pure []))) (b2 addM (cal (on1 lenD) (aCons (vget 4) (fun _ => M.pure []))) (fun _ => M.pure (.int 1))))))) (sSeq (sRaise "InvalidText" ["line", "word"] (noE (aCons (vget 1) (aCons (cal (on1 lenD) (aCons (vget 5) (fun _ => M.pure []))) (fun _ => M.pure [])))))
    sNil) sNil)
    (sSeq (noE (sRet (cal (on1 tupleM) (aCons (vget 5) (fun _ => M.pure [])))))
    sNil)))))))
noncomputable def m__read_line : List D → M D := runM 9 b__read_line
theorem ok__read_line (T : Txt w K mg) (D : DefAt K mg "_read_line" s__read_line ps__read_line) (O_InvalidText___init__ : XMk P w K mg base 1 "InvalidText" "InvalidText.__init__" s_InvalidText___init__ ps_InvalidText___init__ ["line", "word"]) (O_part_fits : OkAt P w K mg base 3 "part_fits" s_part_fits ps_part_fits m_part_fits) (O_read_integer : OkAt P w K mg base 1 "read_integer" s_read_integer ps_read_integer m_read_integer) : OkAX P w K mg base 4 "_read_line" s__read_line ps__read_line m__read_line :=
  OkAX.of (ms := b__read_line) (N := N__read_line) (n := 9) (k := 3) rfl D sc__read_line fun fa cdv A outer s H E hr tk =>
    (mss_cons (ms_noE (ms_set (i := 3) sc__read_line.nd rfl (Or.inl rfl) (pe_imp (pe_bm PySem.F.plainAttrs_str PySem.F.slot_str_split PySem.F.type_str_split mt_split (me_of (pv 0)) (ma_cons me_str ma_nil)) (fun _ _ _ h => mth_go chkS_ok splitM_ok h))))
    (mss_cons (ms_if (mt_noE (mt_cmp (op_ninDU (hu_of hr)) inD_ok (me_itemD (hu_of hr) (me_of (pv 3)) me_int (fun _ _ => rfl)) (me_of (pv 2)) (by rfl))) (mss_cons (ms_raise O_InvalidText___init__ tk rfl (hr.mono (by decide)) rfl (by decide) (ma_noE (ma_cons (me_of (pv 1)) (ma_cons me_int ma_nil))))
    mss_nil) mss_nil)
    (mss_cons (ms_noE (ms_set (i := 4) sc__read_line.nd rfl (Or.inl rfl) (me_ixKd rfl (T.d_LINES) (me_itemD (hu_of hr) (me_of (pv 3)) me_int (fun _ _ => rfl)) (fun _ _ => rfl))))
    (mss_cons (ms_noE (ms_set (i := 5) sc__read_line.nd rfl (Or.inl rfl) (me_new (ma_cons (me_itemD (hu_of hr) (me_of (pv 3)) me_int (fun _ _ => rfl)) ma_nil))))
    (mss_cons (ms_for (passes_of rfl) rfl (mi_noE (mi_zipM rfl T.n_zip (ma_cons (me_of (pv 4)) (ma_cons (me_slice (me_of (pv 3)) (mo_some me_int) mo_none) ma_nil)))) (mg_two (pg_tup rfl (pgs_cons (pg_name (i := 6) sc__read_line.nd rfl (Or.inl rfl)) (pgs_cons (pg_name (i := 7) sc__read_line.nd rfl (Or.inl rfl)) pgs_nil)))) (mss_cons (ms_noE (ms_set (i := 8) sc__read_line.nd rfl (Or.inl rfl) (me_callO O_read_integer (hr.mono (by decide)) rfl rfl (ma_cons (me_of (pv 7)) ma_nil))))
    (mss_cons (ms_if (mt_noE (mt_not (mt_val (me_callO O_part_fits (hr.mono (by decide)) rfl rfl (ma_cons (me_of (pv 6)) (ma_cons (me_of (pv 8)) (ma_cons me_non ma_nil))))))) (mss_cons (ms_raise O_InvalidText___init__ tk rfl (hr.mono (by decide)) rfl (by decide) (ma_noE (ma_cons (me_of (pv 1)) (ma_cons (me_callB call_lenDU lenD_ok rfl T.n_len (by decide +kernel) (ma_cons (me_of (pv 5)) ma_nil)) ma_nil))))
    mss_nil) mss_nil)
    (mss_cons (ms_noE (ms_expr (pe_imp (pe_bm PySem.F.plainAttrs_list PySem.F.slot_list_append PySem.F.type_list_append mt_append (me_of (pv 5)) (ma_cons (me_of (pv 8)) ma_nil)) (fun _ _ _ h => mth_go chkL_ok appM_ok h))))
    mss_nil))))
    (mss_cons (ms_if (mt_noE (PW.pt (mw_or (mt_cmp (op_neU hr.units) neM_ok (me_callB call_lenDU lenD_ok rfl T.n_len (by decide +kernel) (ma_cons (me_of (pv 5)) ma_nil)) (me_callB call_lenDU lenD_ok rfl T.n_len (by decide +kernel) (ma_cons (me_of (pv 3)) ma_nil)) (nomark _)) (mw_or1 (mt_cmp (op_neU hr.units) neM_ok (me_callB call_lenDU lenD_ok rfl T.n_len (by decide +kernel) (ma_cons (me_of (pv 5)) ma_nil)) (me_add (me_callB call_lenDU lenD_ok rfl T.n_len (by decide +kernel) (ma_cons (me_of (pv 4)) ma_nil)) me_int) (nomark _)))))) (mss_cons (ms_raise O_InvalidText___init__ tk rfl (hr.mono (by decide)) rfl (by decide) (ma_noE (ma_cons (me_of (pv 1)) (ma_cons (me_callB call_lenDU lenD_ok rfl T.n_len (by decide +kernel) (ma_cons (me_of (pv 5)) ma_nil)) ma_nil))))
    mss_nil) mss_nil)
    (mss_cons (ms_noE (ms_ret (me_callTy call_tuple_of tupleM_ok rfl T.n_tuple (by decide +kernel) (ma_cons (me_of (pv 5)) ma_nil))))
    mss_nil)))))))
noncomputable abbrev s__write_line : Stmt := topS 34
noncomputable abbrev ps__write_line : List Str := ["parts"]
noncomputable abbrev N__write_line : List Str := ["parts", "part"]
theorem sc__write_line : FnScope N__write_line ps__write_line (defScope s__write_line) := ⟨rfl, rfl, rfl, by decide +kernel, rfl, by decide +kernel, by decide +kernel⟩
noncomputable def b__write_line : Env → M (Fl × Env) := (sSeq (sRet (mth chkS joinM (fun _ => M.pure (.str " ")) (aCons (eLc (iSeq (vget 0)) (gSet 1) (fun _ => M.pure true) (cal (on1 strM) (aCons (vget 1) (fun _ => M.pure []))) [1]) (fun _ => M.pure []))))
    sNil)
noncomputable def m__write_line : List D → M D := runM 2 b__write_line
theorem ok__write_line (T : Txt w K mg) (D : DefAt K mg "_write_line" s__write_line ps__write_line)  : OkAt P w K mg base 1 "_write_line" s__write_line ps__write_line m__write_line :=
  OkAt.of (ms := b__write_line) (N := N__write_line) (n := 2) (k := 0) rfl D sc__write_line fun fa cdv A outer s H E hr =>
    (mss_cons (ms_ret (pe_imp (pe_bm PySem.F.plainAttrs_str PySem.F.slot_str_join PySem.F.type_str_join mt_join me_str (ma_cons (me_lc (own := [("part", 1)]) rfl sc__write_line.nd (mi_seq (me_of (pv 0))) (blkOk_by (N := N__write_line) (sc := defScope s__write_line) (by decide +kernel)) (gw_name (i := 1) (by simp)) (fun _ _ _ _ _ => pg_name (i := 1) sc__write_line.nd rfl (Or.inl rfl)) (fun _ _ _ _ _ => mts_nil) (fun _ _ _ _ _ => (me_callTy call_strU strM_ok rfl T.n_str (by decide +kernel) (ma_cons (me_of (pv 1)) ma_nil)))) ma_nil)) (fun _ _ _ h => mth_go chkS_ok joinM_ok h)))
    mss_nil)
noncomputable abbrev s__law_pen : Stmt := topS 36
noncomputable abbrev ps__law_pen : List Str := ["_law_script"]
noncomputable abbrev N__law_pen : List Str := ["_law_script"]
theorem sc__law_pen : FnScope N__law_pen ps__law_pen (defScope s__law_pen) := ⟨rfl, rfl, rfl, by decide +kernel, rfl, by decide +kernel, by decide +kernel⟩
noncomputable def b__law_pen : Env → M (Fl × Env) := (sSeq (sRet (mkC (aCons (cal (on1 listM) (aCons (slc (vget 0) none (some (fun _ => M.pure (.int 63)))) (fun _ => M.pure []))) (aCons (fun _ => M.pure (.int 0)) (aCons (fun _ => M.pure (.int 0)) (fun _ => M.pure []))))))
    sNil)
noncomputable def m__law_pen : List D → M D := runM 1 b__law_pen
theorem ok__law_pen (T : Txt w K mg) (D : DefAt K mg "_law_pen" s__law_pen ps__law_pen)  : OkAt P w K mg base 1 "_law_pen" s__law_pen ps__law_pen m__law_pen :=
  OkAt.of (ms := b__law_pen) (N := N__law_pen) (n := 1) (k := 0) rfl D sc__law_pen fun fa cdv A outer s H E hr =>
    (mss_cons (ms_ret (me_new (ma_cons (me_callTy (call_listU rfl) listM_ok rfl T.n_list (by decide +kernel) (ma_cons (me_slice (me_of (pv 0)) mo_none (mo_some me_int)) ma_nil)) (ma_cons me_int (ma_cons me_int ma_nil)))))
    mss_nil)
noncomputable abbrev s__law_draw : Stmt := topS 37
noncomputable abbrev ps__law_draw : List Str := ["_law_pen_here", "_law_bound"]
noncomputable abbrev N__law_draw : List Str := ["_law_pen_here", "_law_bound", "_law_digit", "_law_at", "_law_cell", "_law_great", "_law_mixed"]
theorem sc__law_draw : FnScope N__law_draw ps__law_draw (defScope s__law_draw) := ⟨rfl, rfl, rfl, by decide +kernel, rfl, by decide +kernel, by decide +kernel⟩
noncomputable def b__law_draw : Env → M (Fl × Env) := (sSeq (sIf (tst (b2 gtM (b2 ixD (vget 0) (fun _ => M.pure (.int 2))) (fun _ => M.pure (.int 0)))) (sSeq (sAsg (b2 modM (cal (on1 intM) (aCons (b2 ixD (vget 0) (fun _ => M.pure (.int 2))) (fun _ => M.pure []))) (vget 1)) (gSet 2))
    (sSeq (sAsg (b2 fdivM (cal (on1 intM) (aCons (b2 ixD (vget 0) (fun _ => M.pure (.int 2))) (fun _ => M.pure []))) (vget 1)) (gPutD (vget 0) (fun _ => M.pure (.int 2))))
    (sSeq (sRet (vget 2))
    sNil))) sNil)
    (sSeq (sAsg (cal (on1 intM) (aCons (b2 ixD (vget 0) (fun _ => M.pure (.int 1))) (fun _ => M.pure []))) (gSet 3))
    (sSeq (sAsg (b2 addM (vget 3) (fun _ => M.pure (.int 1))) (gPutD (vget 0) (fun _ => M.pure (.int 1))))
    (sSeq (sAsg (b2 addM (b2 mulM (fun _ => M.pure (.int 50581)) (vget 3)) (fun _ => M.pure (.int 719))) (gSet 4))
    (sSeq (sIf (tst (b2 neM (b2 ixD (vget 0) (fun _ => M.pure (.int 0))) (mkL (fun _ => M.pure [])))) (sSeq (sAsg (cal (on1 intM) (aCons (b2 ixD (b2 ixD (vget 0) (fun _ => M.pure (.int 0))) (b2 modM (cal (on1 intM) (aCons (vget 3) (fun _ => M.pure []))) (cal (on1 lenD) (aCons (b2 ixD (vget 0) (fun _ => M.pure (.int 0))) (fun _ => M.pure []))))) (fun _ => M.pure []))) (gSet 4))
    sNil) sNil)
    (sSeq (sIf (andT (tst (b2 ltM (vget 3) (cal (on1 lenD) (aCons (b2 ixD (vget 0) (fun _ => M.pure (.int 0))) (fun _ => M.pure []))))) (tst (b2 geM (cal (on1 absM) (aCons (vget 4) (fun _ => M.pure []))) (b2 powM (fun _ => M.pure (.int 10)) (fun _ => M.pure (.int 18)))))) (sSeq (sAsg (b2 addM (b2 mulM (fun _ => M.pure (.int 2)) (b2 subM (cal (on1 absM) (aCons (vget 4) (fun _ => M.pure []))) (b2 powM (fun _ => M.pure (.int 10)) (fun _ => M.pure (.int 18))))) (cal (on1 intM) (aCons (b2 ltM (vget 4) (fun _ => M.pure (.int 0))) (fun _ => M.pure [])))) (gSet 5))
    (sSeq (sAsg (b2 fdivM (vget 5) (vget 1)) (gPutD (vget 0) (fun _ => M.pure (.int 2))))
    (sSeq (sRet (b2 modM (cal (on1 intM) (aCons (vget 5) (fun _ => M.pure []))) (vget 1)))
    sNil))) sNil)
    (sSeq (sAsg (b2 modM (cal (on1 intM) (aCons (b2 powM (b2 addM (b2 addM (b2 modM (cal (on1 intM) (aCons (vget 4) (fun _ => M.pure []))) (fun _ => M.pure (.int 2147483579))) (b2 mulM (fun _ => M.pure (.int 20117)) (vget 3))) (fun _ => M.pure (.int 83))) (fun _ => M.pure (.int 5))) (fun _ => M.pure []))) (fun _ => M.pure (.int 2147483563))) (gSet 6))
    (sSeq (sAsg (b2 modM (cal (on1 intM) (aCons (b2 powM (b2 addM (b2 addM (b2 mulM (vget 6) (b2 addM (b2 mulM (fun _ => M.pure (.int 2)) (vget 3)) (fun _ => M.pure (.int 37)))) (b2 mulM (b2 mulM (fun _ => M.pure (.int 31013)) (vget 3)) (vget 3))) (fun _ => M.pure (.int 3))) (fun _ => M.pure (.int 3))) (fun _ => M.pure []))) (fun _ => M.pure (.int 2147483647))) (gSet 6))
    (sSeq (sRet (b2 modM (cal (on1 intM) (aCons (b2 fdivM (vget 6) (fun _ => M.pure (.int 32))) (fun _ => M.pure []))) (vget 1)))
    sNil)))))))))
noncomputable def m__law_draw : List D → M D := runM 7 b__law_draw
theorem ok__law_draw (T : Txt w K mg) (D : DefAt K mg "_law_draw" s__law_draw ps__law_draw)  : OkAt P w K mg base 1 "_law_draw" s__law_draw ps__law_draw m__law_draw :=
  OkAt.of (ms := b__law_draw) (N := N__law_draw) (n := 7) (k := 0) rfl D sc__law_draw fun fa cdv A outer s H E hr =>
    (mss_cons (ms_if (mt_cmp op_gt gtM_ok (me_itemD (hu_of hr) (me_of (pv 0)) me_int (fun _ _ => rfl)) me_int (nomark _)) (mss_cons (ms_set (i := 2) sc__law_draw.nd rfl (Or.inl rfl) (me_mod (me_callTy call_int1 intM_ok rfl T.n_int (by decide +kernel) (ma_cons (me_itemD (hu_of hr) (me_of (pv 0)) me_int (fun _ _ => rfl)) ma_nil)) (me_of (pv 1))))
    (mss_cons (ms_asg (me_fdiv (me_callTy call_int1 intM_ok rfl T.n_int (by decide +kernel) (ma_cons (me_itemD (hu_of hr) (me_of (pv 0)) me_int (fun _ _ => rfl)) ma_nil)) (me_of (pv 1))) (mg_subD (hu_of hr) (me_of (pv 0)) me_int))
    (mss_cons (ms_ret (me_of (pv 2)))
    mss_nil))) mss_nil)
    (mss_cons (ms_set (i := 3) sc__law_draw.nd rfl (Or.inl rfl) (me_callTy call_int1 intM_ok rfl T.n_int (by decide +kernel) (ma_cons (me_itemD (hu_of hr) (me_of (pv 0)) me_int (fun _ _ => rfl)) ma_nil)))
    (mss_cons (ms_asg (me_add (me_of (pv 3)) me_int) (mg_subD (hu_of hr) (me_of (pv 0)) me_int))
    (mss_cons (ms_set (i := 4) sc__law_draw.nd rfl (Or.inl rfl) (me_add (me_mul me_int (me_of (pv 3))) me_int))
    (mss_cons (ms_if (mt_cmp (op_neU hr.units) neM_ok (me_itemD (hu_of hr) (me_of (pv 0)) me_int (fun _ _ => rfl)) (me_lst ma_nil) (nomark _)) (mss_cons (ms_set (i := 4) sc__law_draw.nd rfl (Or.inl rfl) (me_callTy call_int1 intM_ok rfl T.n_int (by decide +kernel) (ma_cons (me_itemD (hu_of hr) (me_itemD (hu_of hr) (me_of (pv 0)) me_int (fun _ _ => rfl)) (me_mod (me_callTy call_int1 intM_ok rfl T.n_int (by decide +kernel) (ma_cons (me_of (pv 3)) ma_nil)) (me_callB call_lenDU lenD_ok rfl T.n_len (by decide +kernel) (ma_cons (me_itemD (hu_of hr) (me_of (pv 0)) me_int (fun _ _ => rfl)) ma_nil))) (fun _ _ => rfl)) ma_nil)))
    mss_nil) mss_nil)
    (mss_cons (ms_if (PW.pt (mw_and (mt_cmp op_lt ltM_ok (me_of (pv 3)) (me_callB call_lenDU lenD_ok rfl T.n_len (by decide +kernel) (ma_cons (me_itemD (hu_of hr) (me_of (pv 0)) me_int (fun _ _ => rfl)) ma_nil)) (nomark _)) (mw_and1 (mt_cmp op_ge geM_ok (me_callB call_abs absM_ok rfl T.n_abs (by decide +kernel) (ma_cons (me_of (pv 4)) ma_nil)) (me_pow me_int me_int) (nomark _))))) (mss_cons (ms_set (i := 5) sc__law_draw.nd rfl (Or.inl rfl) (me_add (me_mul me_int (me_sub (me_callB call_abs absM_ok rfl T.n_abs (by decide +kernel) (ma_cons (me_of (pv 4)) ma_nil)) (me_pow me_int me_int))) (me_callTy call_int1 intM_ok rfl T.n_int (by decide +kernel) (ma_cons (me_cmp op_lt ltM_ok (me_of (pv 4)) me_int (nomark _)) ma_nil))))
    (mss_cons (ms_asg (me_fdiv (me_of (pv 5)) (me_of (pv 1))) (mg_subD (hu_of hr) (me_of (pv 0)) me_int))
    (mss_cons (ms_ret (me_mod (me_callTy call_int1 intM_ok rfl T.n_int (by decide +kernel) (ma_cons (me_of (pv 5)) ma_nil)) (me_of (pv 1))))
    mss_nil))) mss_nil)
    (mss_cons (ms_set (i := 6) sc__law_draw.nd rfl (Or.inl rfl) (me_mod (me_callTy call_int1 intM_ok rfl T.n_int (by decide +kernel) (ma_cons (me_pow (me_add (me_add (me_mod (me_callTy call_int1 intM_ok rfl T.n_int (by decide +kernel) (ma_cons (me_of (pv 4)) ma_nil)) me_int) (me_mul me_int (me_of (pv 3)))) me_int) me_int) ma_nil)) me_int))
    (mss_cons (ms_set (i := 6) sc__law_draw.nd rfl (Or.inl rfl) (me_mod (me_callTy call_int1 intM_ok rfl T.n_int (by decide +kernel) (ma_cons (me_pow (me_add (me_add (me_mul (me_of (pv 6)) (me_add (me_mul me_int (me_of (pv 3))) me_int)) (me_mul (me_mul me_int (me_of (pv 3))) (me_of (pv 3)))) me_int) me_int) ma_nil)) me_int))
    (mss_cons (ms_ret (me_mod (me_callTy call_int1 intM_ok rfl T.n_int (by decide +kernel) (ma_cons (me_fdiv (me_of (pv 6)) me_int) ma_nil)) (me_of (pv 1))))
    mss_nil)))))))))
noncomputable abbrev s__law_pick : Stmt := topS 38
noncomputable abbrev ps__law_pick : List Str := ["_law_pen_here", "_law_some"]
noncomputable abbrev N__law_pick : List Str := ["_law_pen_here", "_law_some"]
theorem sc__law_pick : FnScope N__law_pick ps__law_pick (defScope s__law_pick) := ⟨rfl, rfl, rfl, by decide +kernel, rfl, by decide +kernel, by decide +kernel⟩
noncomputable def b__law_pick : Env → M (Fl × Env) := (sSeq (sRet (b2 ixD (vget 1) (calF 2 m__law_draw (aCons (vget 0) (aCons (cal (on1 lenD) (aCons (vget 1) (fun _ => M.pure []))) (fun _ => M.pure []))))))
    sNil)
noncomputable def m__law_pick : List D → M D := runM 2 b__law_pick
theorem ok__law_pick (T : Txt w K mg) (D : DefAt K mg "_law_pick" s__law_pick ps__law_pick) (O__law_draw : OkAt P w K mg base 1 "_law_draw" s__law_draw ps__law_draw m__law_draw) : OkAt P w K mg base 2 "_law_pick" s__law_pick ps__law_pick m__law_pick :=
  OkAt.of (ms := b__law_pick) (N := N__law_pick) (n := 2) (k := 1) rfl D sc__law_pick fun fa cdv A outer s H E hr =>
    (mss_cons (ms_ret (me_itemD (hu_of hr) (me_of (pv 1)) (me_callO O__law_draw (hr.mono (by decide)) rfl rfl (ma_cons (me_of (pv 0)) (ma_cons (me_callB call_lenDU lenD_ok rfl T.n_len (by decide +kernel) (ma_cons (me_of (pv 1)) ma_nil)) ma_nil))) (fun _ _ => rfl)))
    mss_nil)
noncomputable abbrev s__law_odd : Stmt := topS 39
noncomputable abbrev ps__law_odd : List Str := ["_law_pen_here"]
noncomputable abbrev N__law_odd : List Str := ["_law_pen_here", "_law_some"]
theorem sc__law_odd : FnScope N__law_odd ps__law_odd (defScope s__law_odd) := ⟨rfl, rfl, rfl, by decide +kernel, rfl, by decide +kernel, by decide +kernel⟩
noncomputable def b__law_odd : Env → M (Fl × Env) := (sSeq (sAsg (mkL (aCons (fun _ => M.pure .non) (aCons (fun _ => M.pure (.bl true)) (aCons (fun _ => M.pure (.bl false)) (aCons (fun _ => M.pure (.int 0)) (aCons (fun _ => M.pure (.int 1)) (aCons (b1 negM (fun _ => M.pure (.int 1))) (aCons (fun _ => M.pure (.int 7)) (aCons (fun _ => M.pure (.int 8)) (aCons (fun _ => M.pure (.int 999999)) (aCons (fun _ => M.pure (.int 1000000)) (aCons (b2 powM (fun _ => M.pure (.int 10)) (fun _ => M.pure (.int 59))) (aCons (b2 subM (fun _ => M.pure (.int 0)) (b2 powM (fun _ => M.pure (.int 10)) (fun _ => M.pure (.int 59)))) (aCons (fun _ => M.pure (.str "")) (aCons (fun _ => M.pure (.str "a")) (aCons (fun _ => M.pure (.str "abcdefgh")) (fun _ => M.pure []))))))))))))))))) (gSet 1))
    (sSeq (sAsg (b2 addM (vget 1) (mkL (aCons (fun _ => M.pure (.str "abcdefghi")) (aCons (fun _ => M.pure (.str "A")) (aCons (fun _ => M.pure (.str "a1")) (aCons (fun _ => M.pure (.str "1")) (aCons (fun _ => M.pure (.str "a b")) (aCons (fun _ => M.pure (.str "b\n")) (aCons (fun _ => M.pure (.str "-")) (aCons (mkT (fun _ => M.pure [])) (aCons (mkT (aCons (fun _ => M.pure (.int 0)) (aCons (fun _ => M.pure (.int 0)) (fun _ => M.pure [])))) (aCons (mkT (aCons (fun _ => M.pure (.int 7)) (aCons (fun _ => M.pure (.int 7)) (fun _ => M.pure [])))) (aCons (mkT (aCons (fun _ => M.pure (.int 0)) (aCons (fun _ => M.pure (.int 8)) (fun _ => M.pure [])))) (aCons (mkT (aCons (b1 negM (fun _ => M.pure (.int 1))) (aCons (fun _ => M.pure (.int 0)) (fun _ => M.pure [])))) (aCons (mkL (aCons (fun _ => M.pure (.int 0)) (aCons (fun _ => M.pure (.int 0)) (fun _ => M.pure [])))) (fun _ => M.pure [])))))))))))))))) (gSet 1))
    (sSeq (sAsg (b2 addM (vget 1) (mkL (aCons (mkT (aCons (fun _ => M.pure (.bl true)) (aCons (fun _ => M.pure (.int 0)) (fun _ => M.pure [])))) (aCons (mkT (aCons (fun _ => M.pure (.int 0)) (aCons (fun _ => M.pure (.int 0)) (aCons (fun _ => M.pure (.int 0)) (fun _ => M.pure []))))) (aCons (mkL (fun _ => M.pure [])) (aCons (fun _ => M.pure (.dct [])) (aCons (mkT (aCons (fun _ => M.pure (.str "0")) (aCons (fun _ => M.pure (.int 0)) (fun _ => M.pure [])))) (aCons (mkT (aCons (fun _ => M.pure (.int 0)) (fun _ => M.pure []))) (aCons (mkL (aCons (fun _ => M.pure .non) (fun _ => M.pure []))) (aCons (fun _ => M.pure (.dct [(.str "a", .int 1)])) (aCons (mkT (aCons (fun _ => M.pure (.str "fall")) (fun _ => M.pure []))) (aCons (fun _ => M.pure (.str "fall")) (aCons (mkL (aCons (mkT (aCons (fun _ => M.pure (.str "fall")) (fun _ => M.pure []))) (fun _ => M.pure []))) (fun _ => M.pure [])))))))))))))) (gSet 1))
    (sSeq (sRet (calF 2 m__law_pick (aCons (vget 0) (aCons (b2 addM (vget 1) (mkL (aCons (mkT (aCons (fun _ => M.pure (.str "sweep")) (aCons (fun _ => M.pure .non) (fun _ => M.pure [])))) (fun _ => M.pure [])))) (fun _ => M.pure [])))))
    sNil))))
noncomputable def m__law_odd : List D → M D := runM 2 b__law_odd
theorem ok__law_odd (T : Txt w K mg) (D : DefAt K mg "_law_odd" s__law_odd ps__law_odd) (O__law_pick : OkAt P w K mg base 2 "_law_pick" s__law_pick ps__law_pick m__law_pick) : OkAt P w K mg base 3 "_law_odd" s__law_odd ps__law_odd m__law_odd :=
  OkAt.of (ms := b__law_odd) (N := N__law_odd) (n := 2) (k := 2) rfl D sc__law_odd fun fa cdv A outer s H E hr =>
    (mss_cons (ms_set (i := 1) sc__law_odd.nd rfl (Or.inl rfl) (me_lst (ma_cons me_non (ma_cons me_bl (ma_cons me_bl (ma_cons me_int (ma_cons me_int (ma_cons (me_neg me_int) (ma_cons me_int (ma_cons me_int (ma_cons me_int (ma_cons me_int (ma_cons (me_pow me_int me_int) (ma_cons (me_sub me_int (me_pow me_int me_int)) (ma_cons me_str (ma_cons me_str (ma_cons me_str ma_nil)))))))))))))))))
    (mss_cons (ms_set (i := 1) sc__law_odd.nd rfl (Or.inl rfl) (me_add (me_of (pv 1)) (me_lst (ma_cons me_str (ma_cons me_str (ma_cons me_str (ma_cons me_str (ma_cons me_str (ma_cons me_str (ma_cons me_str (ma_cons (me_tup ma_nil) (ma_cons (me_tup (ma_cons me_int (ma_cons me_int ma_nil))) (ma_cons (me_tup (ma_cons me_int (ma_cons me_int ma_nil))) (ma_cons (me_tup (ma_cons me_int (ma_cons me_int ma_nil))) (ma_cons (me_tup (ma_cons (me_neg me_int) (ma_cons me_int ma_nil))) (ma_cons (me_lst (ma_cons me_int (ma_cons me_int ma_nil))) ma_nil))))))))))))))))
    (mss_cons (ms_set (i := 1) sc__law_odd.nd rfl (Or.inl rfl) (me_add (me_of (pv 1)) (me_lst (ma_cons (me_tup (ma_cons me_bl (ma_cons me_int ma_nil))) (ma_cons (me_tup (ma_cons me_int (ma_cons me_int (ma_cons me_int ma_nil)))) (ma_cons (me_lst ma_nil) (ma_cons me_dict0 (ma_cons (me_tup (ma_cons me_str (ma_cons me_int ma_nil))) (ma_cons (me_tup (ma_cons me_int ma_nil)) (ma_cons (me_lst (ma_cons me_non ma_nil)) (ma_cons me_dict1 (ma_cons (me_tup (ma_cons me_str ma_nil)) (ma_cons me_str (ma_cons (me_lst (ma_cons (me_tup (ma_cons me_str ma_nil)) ma_nil)) ma_nil))))))))))))))
    (mss_cons (ms_ret (me_callO O__law_pick (hr.mono (by decide)) rfl rfl (ma_cons (me_of (pv 0)) (ma_cons (me_add (me_of (pv 1)) (me_lst (ma_cons (me_tup (ma_cons me_str (ma_cons me_non ma_nil))) ma_nil))) ma_nil))))
    mss_nil))))
noncomputable abbrev s__law_index : Stmt := topS 40
noncomputable abbrev ps__law_index : List Str := ["_law_pen_here"]
noncomputable abbrev N__law_index : List Str := ["_law_pen_here"]
theorem sc__law_index : FnScope N__law_index ps__law_index (defScope s__law_index) := ⟨rfl, rfl, rfl, by decide +kernel, rfl, by decide +kernel, by decide +kernel⟩
noncomputable def b__law_index : Env → M (Fl × Env) := (sSeq (sRet (calF 2 m__law_pick (aCons (vget 0) (aCons (mkL (aCons (fun _ => M.pure (.int 0)) (aCons (fun _ => M.pure (.int 1)) (aCons (fun _ => M.pure (.int 999999)) (aCons (calF 2 m__law_draw (aCons (vget 0) (aCons (fun _ => M.pure (.int 12)) (fun _ => M.pure [])))) (aCons (calF 2 m__law_draw (aCons (vget 0) (aCons (fun _ => M.pure (.int 1000000)) (fun _ => M.pure [])))) (fun _ => M.pure []))))))) (fun _ => M.pure [])))))
    sNil)
noncomputable def m__law_index : List D → M D := runM 1 b__law_index
theorem ok__law_index (T : Txt w K mg) (D : DefAt K mg "_law_index" s__law_index ps__law_index) (O__law_pick : OkAt P w K mg base 2 "_law_pick" s__law_pick ps__law_pick m__law_pick) (O__law_draw : OkAt P w K mg base 1 "_law_draw" s__law_draw ps__law_draw m__law_draw) : OkAt P w K mg base 3 "_law_index" s__law_index ps__law_index m__law_index :=
  OkAt.of (ms := b__law_index) (N := N__law_index) (n := 1) (k := 2) rfl D sc__law_index fun fa cdv A outer s H E hr =>
    (mss_cons (ms_ret (me_callO O__law_pick (hr.mono (by decide)) rfl rfl (ma_cons (me_of (pv 0)) (ma_cons (me_lst (ma_cons me_int (ma_cons me_int (ma_cons me_int (ma_cons (me_callO O__law_draw (hr.mono (by decide)) rfl rfl (ma_cons (me_of (pv 0)) (ma_cons me_int ma_nil))) (ma_cons (me_callO O__law_draw (hr.mono (by decide)) rfl rfl (ma_cons (me_of (pv 0)) (ma_cons me_int ma_nil))) ma_nil)))))) ma_nil))))
    mss_nil)
noncomputable abbrev s__law_paper : Stmt := topS 41
noncomputable abbrev ps__law_paper : List Str := ["_law_pen_here"]
noncomputable abbrev N__law_paper : List Str := ["_law_pen_here", "_law_way", "_law_some", "_law_views", "_law_rests", "_law_k"]
theorem sc__law_paper : FnScope N__law_paper ps__law_paper (defScope s__law_paper) := ⟨rfl, rfl, rfl, by decide +kernel, rfl, by decide +kernel, by decide +kernel⟩
noncomputable def b__law_paper : Env → M (Fl × Env) := (sSeq (sAsg (calF 2 m__law_draw (aCons (vget 0) (aCons (fun _ => M.pure (.int 5)) (fun _ => M.pure [])))) (gSet 1))
    (sSeq (sAsg (eLc (len1 rngOf 1 (aCons (fun _ => M.pure (.int 4)) (fun _ => M.pure []))) (gSet 5) (fun _ => M.pure true) (calF 1 m__law_index (aCons (vget 0) (fun _ => M.pure []))) [5]) (gSet 2))
    (sSeq (sIf (tst (b2 eqM (vget 1) (fun _ => M.pure (.int 0)))) (sSeq (sRet (mkT (aCons (fun _ => M.pure (.str "range")) (aCons (cal maxM (aCons (fun _ => M.pure (.int 1)) (aCons (b2 ixD (vget 2) (fun _ => M.pure (.int 0))) (fun _ => M.pure [])))) (aCons (b2 ixD (vget 2) (fun _ => M.pure (.int 1))) (aCons (b2 ixD (vget 2) (fun _ => M.pure (.int 2))) (fun _ => M.pure [])))))))
    sNil) sNil)
    (sSeq (sIf (tst (b2 eqM (vget 1) (fun _ => M.pure (.int 1)))) (sSeq (sRet (mkT (aCons (calF 2 m__law_pick (aCons (vget 0) (aCons (mkL (aCons (fun _ => M.pure (.str "word")) (aCons (fun _ => M.pure (.str "span")) (fun _ => M.pure [])))) (fun _ => M.pure [])))) (aCons (b2 ixD (vget 2) (fun _ => M.pure (.int 1))) (aCons (b2 ixD (vget 2) (fun _ => M.pure (.int 2))) (fun _ => M.pure []))))))
    sNil) sNil)
    (sSeq (sAsg (cal (on1 tupleM) (aCons (eLc (len1 rngOf 1 (aCons (calF 2 m__law_draw (aCons (vget 0) (aCons (fun _ => M.pure (.int 5)) (fun _ => M.pure [])))) (fun _ => M.pure []))) (gSet 5) (fun _ => M.pure true) (mkT (aCons (cal maxM (aCons (fun _ => M.pure (.int 1)) (aCons (calF 1 m__law_index (aCons (vget 0) (fun _ => M.pure []))) (fun _ => M.pure [])))) (aCons (calF 1 m__law_index (aCons (vget 0) (fun _ => M.pure []))) (fun _ => M.pure [])))) [5]) (fun _ => M.pure []))) (gSet 3))
    (sSeq (sAsg (cal (on1 tupleM) (aCons (eLc (len1 rngOf 1 (aCons (calF 2 m__law_draw (aCons (vget 0) (aCons (fun _ => M.pure (.int 4)) (fun _ => M.pure [])))) (fun _ => M.pure []))) (gSet 5) (fun _ => M.pure true) (mkT (aCons (calF 1 m__law_index (aCons (vget 0) (fun _ => M.pure []))) (aCons (calF 1 m__law_index (aCons (vget 0) (fun _ => M.pure []))) (fun _ => M.pure [])))) [5]) (fun _ => M.pure []))) (gSet 4))
    (sSeq (sRet (mkT (aCons (fun _ => M.pure (.str "readers")) (aCons (vget 3) (aCons (vget 4) (aCons (cal (on1 tupleM) (aCons (eLc (len1 rngOf 1 (aCons (calF 2 m__law_draw (aCons (vget 0) (aCons (fun _ => M.pure (.int 4)) (fun _ => M.pure [])))) (fun _ => M.pure []))) (gSet 5) (fun _ => M.pure true) (calF 1 m__law_index (aCons (vget 0) (fun _ => M.pure []))) [5]) (fun _ => M.pure []))) (fun _ => M.pure [])))))))
    sNil)))))))
noncomputable def m__law_paper : List D → M D := runM 6 b__law_paper
theorem ok__law_paper (T : Txt w K mg) (D : DefAt K mg "_law_paper" s__law_paper ps__law_paper) (O__law_draw : OkAt P w K mg base 1 "_law_draw" s__law_draw ps__law_draw m__law_draw) (O__law_index : OkAt P w K mg base 3 "_law_index" s__law_index ps__law_index m__law_index) (O__law_pick : OkAt P w K mg base 2 "_law_pick" s__law_pick ps__law_pick m__law_pick) : OkAt P w K mg base 4 "_law_paper" s__law_paper ps__law_paper m__law_paper :=
  OkAt.of (ms := b__law_paper) (N := N__law_paper) (n := 6) (k := 3) rfl D sc__law_paper fun fa cdv A outer s H E hr =>
    (mss_cons (ms_set (i := 1) sc__law_paper.nd rfl (Or.inl rfl) (me_callO O__law_draw (hr.mono (by decide)) rfl rfl (ma_cons (me_of (pv 0)) (ma_cons me_int ma_nil))))
    (mss_cons (ms_setLc (i := 2) (own := [("_law_k", 5)]) rfl sc__law_paper.nd rfl rfl (sw_true rfl rfl rfl (by decide +kernel)) (mi_range1 rfl T.n_range (ma_cons me_int ma_nil)) (blkOk_by (N := N__law_paper) (sc := defScope s__law_paper) (by decide +kernel)) (gw_name (i := 5) (by simp)) (fun _ _ _ _ _ => pg_name (i := 5) sc__law_paper.nd rfl (Or.inl rfl)) (fun _ _ _ _ _ => mts_nil) (fun _ _ _ _ _ => (me_callO O__law_index (hr.mono (by decide)) rfl rfl (ma_cons (me_of (pv 0)) ma_nil))))
    (mss_cons (ms_if (mt_cmp (op_eqU hr.units) eqM_ok (me_of (pv 1)) me_int (nomark _)) (mss_cons (ms_ret (me_tup (ma_cons me_str (ma_cons (me_callB (call_max2 rfl) maxM_ok rfl T.n_max (by decide +kernel) (ma_cons me_int (ma_cons (me_itemD (hu_of hr) (me_of (pv 2)) me_int (fun _ _ => rfl)) ma_nil))) (ma_cons (me_itemD (hu_of hr) (me_of (pv 2)) me_int (fun _ _ => rfl)) (ma_cons (me_itemD (hu_of hr) (me_of (pv 2)) me_int (fun _ _ => rfl)) ma_nil))))))
    mss_nil) mss_nil)
    (mss_cons (ms_if (mt_cmp (op_eqU hr.units) eqM_ok (me_of (pv 1)) me_int (nomark _)) (mss_cons (ms_ret (me_tup (ma_cons (me_callO O__law_pick (hr.mono (by decide)) rfl rfl (ma_cons (me_of (pv 0)) (ma_cons (me_lst (ma_cons me_str (ma_cons me_str ma_nil))) ma_nil))) (ma_cons (me_itemD (hu_of hr) (me_of (pv 2)) me_int (fun _ _ => rfl)) (ma_cons (me_itemD (hu_of hr) (me_of (pv 2)) me_int (fun _ _ => rfl)) ma_nil)))))
    mss_nil) mss_nil)
    (mss_cons (ms_set (i := 3) sc__law_paper.nd rfl (Or.inl rfl) (me_callTy call_tuple_of tupleM_ok rfl T.n_tuple (by decide +kernel) (ma_cons (me_lc (own := [("_law_k", 5)]) rfl sc__law_paper.nd (mi_range1 rfl T.n_range (ma_cons (me_callO O__law_draw (hr.mono (by decide)) rfl rfl (ma_cons (me_of (pv 0)) (ma_cons me_int ma_nil))) ma_nil)) (blkOk_by (N := N__law_paper) (sc := defScope s__law_paper) (by decide +kernel)) (gw_name (i := 5) (by simp)) (fun _ _ _ _ _ => pg_name (i := 5) sc__law_paper.nd rfl (Or.inl rfl)) (fun _ _ _ _ _ => mts_nil) (fun _ _ _ _ _ => (me_tup (ma_cons (me_callB (call_max2 rfl) maxM_ok rfl T.n_max (by decide +kernel) (ma_cons me_int (ma_cons (me_callO O__law_index (hr.mono (by decide)) rfl rfl (ma_cons (me_of (pv 0)) ma_nil)) ma_nil))) (ma_cons (me_callO O__law_index (hr.mono (by decide)) rfl rfl (ma_cons (me_of (pv 0)) ma_nil)) ma_nil))))) ma_nil)))
    (mss_cons (ms_set (i := 4) sc__law_paper.nd rfl (Or.inl rfl) (me_callTy call_tuple_of tupleM_ok rfl T.n_tuple (by decide +kernel) (ma_cons (me_lc (own := [("_law_k", 5)]) rfl sc__law_paper.nd (mi_range1 rfl T.n_range (ma_cons (me_callO O__law_draw (hr.mono (by decide)) rfl rfl (ma_cons (me_of (pv 0)) (ma_cons me_int ma_nil))) ma_nil)) (blkOk_by (N := N__law_paper) (sc := defScope s__law_paper) (by decide +kernel)) (gw_name (i := 5) (by simp)) (fun _ _ _ _ _ => pg_name (i := 5) sc__law_paper.nd rfl (Or.inl rfl)) (fun _ _ _ _ _ => mts_nil) (fun _ _ _ _ _ => (me_tup (ma_cons (me_callO O__law_index (hr.mono (by decide)) rfl rfl (ma_cons (me_of (pv 0)) ma_nil)) (ma_cons (me_callO O__law_index (hr.mono (by decide)) rfl rfl (ma_cons (me_of (pv 0)) ma_nil)) ma_nil))))) ma_nil)))
    (mss_cons (ms_ret (me_tup (ma_cons me_str (ma_cons (me_of (pv 3)) (ma_cons (me_of (pv 4)) (ma_cons (me_callTy call_tuple_of tupleM_ok rfl T.n_tuple (by decide +kernel) (ma_cons (me_lc (own := [("_law_k", 5)]) rfl sc__law_paper.nd (mi_range1 rfl T.n_range (ma_cons (me_callO O__law_draw (hr.mono (by decide)) rfl rfl (ma_cons (me_of (pv 0)) (ma_cons me_int ma_nil))) ma_nil)) (blkOk_by (N := N__law_paper) (sc := defScope s__law_paper) (by decide +kernel)) (gw_name (i := 5) (by simp)) (fun _ _ _ _ _ => pg_name (i := 5) sc__law_paper.nd rfl (Or.inl rfl)) (fun _ _ _ _ _ => mts_nil) (fun _ _ _ _ _ => (me_callO O__law_index (hr.mono (by decide)) rfl rfl (ma_cons (me_of (pv 0)) ma_nil)))) ma_nil)) ma_nil))))))
    mss_nil)))))))
noncomputable abbrev s__law_written : Stmt := topS 42
noncomputable abbrev ps__law_written : List Str := ["_law_sheet"]
noncomputable abbrev N__law_written : List Str := ["_law_sheet", "_law_lines", "_law_one", "_law_other", "_law_part"]
theorem sc__law_written : FnScope N__law_written ps__law_written (defScope s__law_written) := ⟨rfl, rfl, rfl, by decide +kernel, rfl, by decide +kernel, by decide +kernel⟩
noncomputable def b__law_written : Env → M (Fl × Env) := (sSeq (sIf (tst (b2 neM (b2 ixD (vget 0) (fun _ => M.pure (.int 0))) (fun _ => M.pure (.str "readers")))) (sSeq (sRet (mth chkS joinM (fun _ => M.pure (.str " ")) (aCons (eLc (iSeq (vget 0)) (gSet 4) (fun _ => M.pure true) (cal (on1 strM) (aCons (vget 4) (fun _ => M.pure []))) [4]) (fun _ => M.pure []))))
    sNil) sNil)
    (sSeq (sAsg (eLc (iSeq (b2 ixD (vget 0) (fun _ => M.pure (.int 1)))) (gTwo 2 3) (fun _ => M.pure true) (b2 addM (b2 addM (b2 addM (fun _ => M.pure (.str "view ")) (cal (on1 strM) (aCons (vget 2) (fun _ => M.pure [])))) (fun _ => M.pure (.str " "))) (cal (on1 strM) (aCons (vget 3) (fun _ => M.pure [])))) [2, 3]) (gSet 1))
    (sSeq (sAsg (b2 addM (vget 1) (eLc (iSeq (b2 ixD (vget 0) (fun _ => M.pure (.int 2)))) (gTwo 2 3) (fun _ => M.pure true) (b2 addM (b2 addM (b2 addM (fun _ => M.pure (.str "stay ")) (cal (on1 strM) (aCons (vget 2) (fun _ => M.pure [])))) (fun _ => M.pure (.str " "))) (cal (on1 strM) (aCons (vget 3) (fun _ => M.pure [])))) [2, 3])) (gSet 1))
    (sSeq (sRet (mth chkS joinM (fun _ => M.pure (.str "\n")) (aCons (b2 addM (b2 addM (mkL (aCons (fun _ => M.pure (.str "readers")) (fun _ => M.pure []))) (vget 1)) (eLc (iSeq (b2 ixD (vget 0) (fun _ => M.pure (.int 3)))) (gSet 2) (fun _ => M.pure true) (b2 addM (fun _ => M.pure (.str "apart ")) (cal (on1 strM) (aCons (vget 2) (fun _ => M.pure [])))) [2])) (fun _ => M.pure []))))
    sNil))))
noncomputable def m__law_written : List D → M D := runM 5 b__law_written
theorem ok__law_written (T : Txt w K mg) (D : DefAt K mg "_law_written" s__law_written ps__law_written)  : OkAt P w K mg base 1 "_law_written" s__law_written ps__law_written m__law_written :=
  OkAt.of (ms := b__law_written) (N := N__law_written) (n := 5) (k := 0) rfl D sc__law_written fun fa cdv A outer s H E hr =>
    (mss_cons (ms_if (mt_cmp (op_neU hr.units) neM_ok (me_itemD (hu_of hr) (me_of (pv 0)) me_int (fun _ _ => rfl)) me_str (nomark _)) (mss_cons (ms_ret (pe_imp (pe_bm PySem.F.plainAttrs_str PySem.F.slot_str_join PySem.F.type_str_join mt_join me_str (ma_cons (me_lc (own := [("_law_part", 4)]) rfl sc__law_written.nd (mi_seq (me_of (pv 0))) (blkOk_by (N := N__law_written) (sc := defScope s__law_written) (by decide +kernel)) (gw_name (i := 4) (by simp)) (fun _ _ _ _ _ => pg_name (i := 4) sc__law_written.nd rfl (Or.inl rfl)) (fun _ _ _ _ _ => mts_nil) (fun _ _ _ _ _ => (me_callTy call_strU strM_ok rfl T.n_str (by decide +kernel) (ma_cons (me_of (pv 4)) ma_nil)))) ma_nil)) (fun _ _ _ h => mth_go chkS_ok joinM_ok h)))
    mss_nil) mss_nil)
    (mss_cons (ms_setLc (i := 1) (own := [("_law_one", 2), ("_law_other", 3)]) rfl sc__law_written.nd rfl rfl (sw_true rfl rfl rfl (by decide +kernel)) (mi_seq (me_itemD (hu_of hr) (me_of (pv 0)) me_int (fun _ _ => rfl))) (blkOk_by (N := N__law_written) (sc := defScope s__law_written) (by decide +kernel)) (gw_two (i := 2) (j := 3) (by simp) (by simp)) (fun _ _ _ _ _ => pg_tup rfl (pgs_cons (pg_name (i := 2) sc__law_written.nd rfl (Or.inl rfl)) (pgs_cons (pg_name (i := 3) sc__law_written.nd rfl (Or.inl rfl)) pgs_nil))) (fun _ _ _ _ _ => mts_nil) (fun _ _ _ _ _ => (me_add (me_add (me_add me_str (me_callTy call_strU strM_ok rfl T.n_str (by decide +kernel) (ma_cons (me_of (pv 2)) ma_nil))) me_str) (me_callTy call_strU strM_ok rfl T.n_str (by decide +kernel) (ma_cons (me_of (pv 3)) ma_nil)))))
    (mss_cons (ms_set (i := 1) sc__law_written.nd rfl (Or.inl rfl) (me_add (me_of (pv 1)) (me_lc (own := [("_law_one", 2), ("_law_other", 3)]) rfl sc__law_written.nd (mi_seq (me_itemD (hu_of hr) (me_of (pv 0)) me_int (fun _ _ => rfl))) (blkOk_by (N := N__law_written) (sc := defScope s__law_written) (by decide +kernel)) (gw_two (i := 2) (j := 3) (by simp) (by simp)) (fun _ _ _ _ _ => pg_tup rfl (pgs_cons (pg_name (i := 2) sc__law_written.nd rfl (Or.inl rfl)) (pgs_cons (pg_name (i := 3) sc__law_written.nd rfl (Or.inl rfl)) pgs_nil))) (fun _ _ _ _ _ => mts_nil) (fun _ _ _ _ _ => (me_add (me_add (me_add me_str (me_callTy call_strU strM_ok rfl T.n_str (by decide +kernel) (ma_cons (me_of (pv 2)) ma_nil))) me_str) (me_callTy call_strU strM_ok rfl T.n_str (by decide +kernel) (ma_cons (me_of (pv 3)) ma_nil)))))))
    (mss_cons (ms_ret (pe_imp (pe_bm PySem.F.plainAttrs_str PySem.F.slot_str_join PySem.F.type_str_join mt_join me_str (ma_cons (me_add (me_add (me_lst (ma_cons me_str ma_nil)) (me_of (pv 1))) (me_lc (own := [("_law_one", 2)]) rfl sc__law_written.nd (mi_seq (me_itemD (hu_of hr) (me_of (pv 0)) me_int (fun _ _ => rfl))) (blkOk_by (N := N__law_written) (sc := defScope s__law_written) (by decide +kernel)) (gw_name (i := 2) (by simp)) (fun _ _ _ _ _ => pg_name (i := 2) sc__law_written.nd rfl (Or.inl rfl)) (fun _ _ _ _ _ => mts_nil) (fun _ _ _ _ _ => (me_add me_str (me_callTy call_strU strM_ok rfl T.n_str (by decide +kernel) (ma_cons (me_of (pv 2)) ma_nil)))))) ma_nil)) (fun _ _ _ h => mth_go chkS_ok joinM_ok h)))
    mss_nil))))
noncomputable abbrev s__law_integer : Stmt := topS 43
noncomputable abbrev ps__law_integer : List Str := ["_law_word"]
noncomputable abbrev N__law_integer : List Str := ["_law_word", "_law_odd_here", "_law_sign"]
theorem sc__law_integer : FnScope N__law_integer ps__law_integer (defScope s__law_integer) := ⟨rfl, rfl, rfl, by decide +kernel, rfl, by decide +kernel, by decide +kernel⟩
noncomputable def b__law_integer : Env → M (Fl × Env) := (sSeq (sAsg (eLc (iSeq (vget 0)) (gSet 2) (tst (b2 (inD true) (vget 2) (fun _ => M.pure (.str "0123456789")))) (vget 2) [2]) (gSet 1))
    (sSeq (sIf (orT (notT (tst (chn ltM ltM (fun _ => M.pure (.int 0)) (cal (on1 lenD) (aCons (vget 0) (fun _ => M.pure []))) (fun _ => M.pure (.int 7))))) (tst (b2 neM (vget 1) (mkL (fun _ => M.pure []))))) (sSeq (sRet (b1 negM (fun _ => M.pure (.int 1))))
    sNil) sNil)
    (sSeq (sRet (ifV (andT (tst (b2 gtM (cal (on1 lenD) (aCons (vget 0) (fun _ => M.pure []))) (fun _ => M.pure (.int 1)))) (tst (b2 eqM (b2 ixD (vget 0) (fun _ => M.pure (.int 0))) (fun _ => M.pure (.str "0"))))) (b1 negM (fun _ => M.pure (.int 1))) (cal (on1 intT) (aCons (vget 0) (fun _ => M.pure [])))))
    sNil)))
noncomputable def m__law_integer : List D → M D := runM 3 b__law_integer
theorem ok__law_integer (T : Txt w K mg) (D : DefAt K mg "_law_integer" s__law_integer ps__law_integer)  : OkAt P w K mg base 1 "_law_integer" s__law_integer ps__law_integer m__law_integer :=
  OkAt.of (ms := b__law_integer) (N := N__law_integer) (n := 3) (k := 0) rfl D sc__law_integer fun fa cdv A outer s H E hr =>
    (mss_cons (ms_setLc (i := 1) (own := [("_law_sign", 2)]) rfl sc__law_integer.nd rfl rfl (sw_true rfl rfl rfl (by decide +kernel)) (mi_seq (me_of (pv 0))) (blkOk_by (N := N__law_integer) (sc := defScope s__law_integer) (by decide +kernel)) (gw_name (i := 2) (by simp)) (fun _ _ _ _ _ => pg_name (i := 2) sc__law_integer.nd rfl (Or.inl rfl)) (fun _ _ _ _ _ => (mts_one (mt_cmp (op_ninDU (hu_of hr)) inD_ok (me_of (pv 2)) me_str (by rfl)))) (fun _ _ _ _ _ => (me_of (pv 2))))
    (mss_cons (ms_if (PW.pt (mw_or (mt_not (mt_chain op_lt ltM_ok op_lt ltM_ok me_int (me_callB call_lenDU lenD_ok rfl T.n_len (by decide +kernel) (ma_cons (me_of (pv 0)) ma_nil)) me_int (nomark _))) (mw_or1 (mt_cmp (op_neU hr.units) neM_ok (me_of (pv 1)) (me_lst ma_nil) (nomark _))))) (mss_cons (ms_ret (me_neg me_int))
    mss_nil) mss_nil)
    (mss_cons (ms_ret (me_ife (PW.pt (mw_and (mt_cmp op_gt gtM_ok (me_callB call_lenDU lenD_ok rfl T.n_len (by decide +kernel) (ma_cons (me_of (pv 0)) ma_nil)) me_int (nomark _)) (mw_and1 (mt_cmp (op_eqU hr.units) eqM_ok (me_itemD (hu_of hr) (me_of (pv 0)) me_int (fun _ _ => rfl)) me_str (nomark _))))) (me_neg me_int) (me_callTy call_intT intT_ok rfl T.n_int (by decide +kernel) (ma_cons (me_of (pv 0)) ma_nil))))
    mss_nil)))
noncomputable abbrev s__law_line : Stmt := topS 44
noncomputable abbrev ps__law_line : List Str := ["_law_said", "_law_names"]
noncomputable abbrev N__law_line : List Str := ["_law_said", "_law_names", "_law_words", "_law_many", "_law_found", "_law_k", "_law_whole"]
theorem sc__law_line : FnScope N__law_line ps__law_line (defScope s__law_line) := ⟨rfl, rfl, rfl, by decide +kernel, rfl, by decide +kernel, by decide +kernel⟩
noncomputable def b__law_line : Env → M (Fl × Env) := (sSeq (sAsg (mth chkS splitM (vget 0) (aCons (fun _ => M.pure (.str " ")) (fun _ => M.pure []))) (gSet 2))
    (sSeq (sIf (tst (b2 (inD true) (b2 ixD (vget 2) (fun _ => M.pure (.int 0))) (vget 1))) (sSeq (sRet (fun _ => M.pure (.int 0)))
    sNil) sNil)
    (sSeq (sAsg (b2 ixD (dispD [("readers", (fun _ => M.pure (.int 0))), ("range", (fun _ => M.pure (.int 3))), ("word", (fun _ => M.pure (.int 2))), ("span", (fun _ => M.pure (.int 2))), ("view", (fun _ => M.pure (.int 2))), ("stay", (fun _ => M.pure (.int 2))), ("apart", (fun _ => M.pure (.int 1)))]) (b2 ixD (vget 2) (fun _ => M.pure (.int 0)))) (gSet 3))
    (sSeq (sAsg (mkC (aCons (b2 ixD (vget 2) (fun _ => M.pure (.int 0))) (fun _ => M.pure []))) (gSet 4))
    (sSeq (sFor (len1 rngOf 2 (aCons (fun _ => M.pure (.int 1)) (aCons (b2 addM (vget 3) (fun _ => M.pure (.int 1))) (fun _ => M.pure [])))) (gSet 5) (sSeq (sAsg (ifV (tst (b2 ltM (vget 5) (cal (on1 lenD) (aCons (vget 2) (fun _ => M.pure []))))) (calF 1 m__law_integer (aCons (b2 ixD (vget 2) (vget 5)) (fun _ => M.pure []))) (b1 negM (fun _ => M.pure (.int 1)))) (gSet 6))
    (sSeq (sIf (tst (b2 ltM (vget 6) (cal (on1 intM) (aCons (andV (b2 eqM (vget 5) (fun _ => M.pure (.int 1))) (b2 (inD false) (b2 ixD (vget 2) (fun _ => M.pure (.int 0))) (mkT (aCons (fun _ => M.pure (.str "range")) (aCons (fun _ => M.pure (.str "view")) (fun _ => M.pure [])))))) (fun _ => M.pure []))))) (sSeq (sRet (vget 5))
    sNil) sNil)
    (sSeq (sDrop (mth chkL appM (vget 4) (aCons (vget 6) (fun _ => M.pure []))))
    sNil))))
    (sSeq (sRet (ifV (tst (b2 eqM (cal (on1 lenD) (aCons (vget 2) (fun _ => M.pure []))) (cal (on1 lenD) (aCons (vget 4) (fun _ => M.pure []))))) (vget 4) (cal (on1 lenD) (aCons (vget 4) (fun _ => M.pure [])))))
    sNil))))))
noncomputable def m__law_line : List D → M D := runM 7 b__law_line
theorem ok__law_line (T : Txt w K mg) (D : DefAt K mg "_law_line" s__law_line ps__law_line) (O__law_integer : OkAt P w K mg base 1 "_law_integer" s__law_integer ps__law_integer m__law_integer) : OkAt P w K mg base 2 "_law_line" s__law_line ps__law_line m__law_line :=
  OkAt.of (ms := b__law_line) (N := N__law_line) (n := 7) (k := 1) rfl D sc__law_line fun fa cdv A outer s H E hr =>
    (mss_cons (ms_set (i := 2) sc__law_line.nd rfl (Or.inl rfl) (pe_imp (pe_bm PySem.F.plainAttrs_str PySem.F.slot_str_split PySem.F.type_str_split mt_split (me_of (pv 0)) (ma_cons me_str ma_nil)) (fun _ _ _ h => mth_go chkS_ok splitM_ok h)))
    (mss_cons (ms_if (mt_cmp (op_ninDU (hu_of hr)) inD_ok (me_itemD (hu_of hr) (me_of (pv 2)) me_int (fun _ _ => rfl)) (me_of (pv 1)) (by rfl)) (mss_cons (ms_ret me_int)
    mss_nil) mss_nil)
    (mss_cons (ms_set (i := 3) sc__law_line.nd rfl (Or.inl rfl) (me_itemD (hu_of hr) (me_disp (pps_cons me_str me_int (pps_cons me_str me_int (pps_cons me_str me_int (pps_cons me_str me_int (pps_cons me_str me_int (pps_cons me_str me_int (pps_cons me_str me_int pps_nil))))))) (.cons (.cons (.cons (.cons (.cons (.cons (.cons .nil))))))) (by simp)) (me_itemD (hu_of hr) (me_of (pv 2)) me_int (fun _ _ => rfl)) (fun _ _ => rfl)))
    (mss_cons (ms_set (i := 4) sc__law_line.nd rfl (Or.inl rfl) (me_new (ma_cons (me_itemD (hu_of hr) (me_of (pv 2)) me_int (fun _ _ => rfl)) ma_nil)))
    (mss_cons (ms_for PassesOwn.never rfl (mi_range2 rfl T.n_range (ma_cons me_int (ma_cons (me_add (me_of (pv 3)) me_int) ma_nil))) (mg_name (i := 5) sc__law_line.nd rfl (Or.inl rfl)) (mss_cons (ms_set (i := 6) sc__law_line.nd rfl (Or.inl rfl) (me_ife (mt_cmp op_lt ltM_ok (me_of (pv 5)) (me_callB call_lenDU lenD_ok rfl T.n_len (by decide +kernel) (ma_cons (me_of (pv 2)) ma_nil)) (nomark _)) (me_callO O__law_integer (hr.mono (by decide)) rfl rfl (ma_cons (me_itemD (hu_of hr) (me_of (pv 2)) (me_of (pv 5)) (fun _ _ => rfl)) ma_nil)) (me_neg me_int)))
    (mss_cons (ms_if (mt_cmp op_lt ltM_ok (me_of (pv 6)) (me_callTy call_int1 intM_ok rfl T.n_int (by decide +kernel) (ma_cons (me_and (me_cmp (op_eqU hr.units) eqM_ok (me_of (pv 5)) me_int (nomark _)) (me_one (me_cmp (op_inDU (hu_of hr)) inD_ok (me_itemD (hu_of hr) (me_of (pv 2)) me_int (fun _ _ => rfl)) (me_tup (ma_cons me_str (ma_cons me_str ma_nil))) (by rfl)))) ma_nil)) (nomark _)) (mss_cons (ms_ret (me_of (pv 5)))
    mss_nil) mss_nil)
    (mss_cons (ms_expr (pe_imp (pe_bm PySem.F.plainAttrs_list PySem.F.slot_list_append PySem.F.type_list_append mt_append (me_of (pv 4)) (ma_cons (me_of (pv 6)) ma_nil)) (fun _ _ _ h => mth_go chkL_ok appM_ok h)))
    mss_nil))))
    (mss_cons (ms_ret (me_ife (mt_cmp (op_eqU hr.units) eqM_ok (me_callB call_lenDU lenD_ok rfl T.n_len (by decide +kernel) (ma_cons (me_of (pv 2)) ma_nil)) (me_callB call_lenDU lenD_ok rfl T.n_len (by decide +kernel) (ma_cons (me_of (pv 4)) ma_nil)) (nomark _)) (me_of (pv 4)) (me_callB call_lenDU lenD_ok rfl T.n_len (by decide +kernel) (ma_cons (me_of (pv 4)) ma_nil))))
    mss_nil))))))
noncomputable abbrev s__law_read : Stmt := topS 45
noncomputable abbrev ps__law_read : List Str := ["_law_said"]
noncomputable abbrev N__law_read : List Str := ["_law_said", "_law_lines", "_law_first", "_law_names", "_law_parts", "_law_k", "_law_told", "_law_one"]
theorem sc__law_read : FnScope N__law_read ps__law_read (defScope s__law_read) := ⟨rfl, rfl, rfl, by decide +kernel, rfl, by decide +kernel, by decide +kernel⟩
noncomputable def b__law_read : Env → M (Fl × Env) := (sSeq (sAsg (mth chkS splitM (vget 0) (aCons (fun _ => M.pure (.str "\n")) (fun _ => M.pure []))) (gSet 1))
    (sSeq (sAsg (calF 2 m__law_line (aCons (b2 ixD (vget 1) (fun _ => M.pure (.int 0))) (aCons (mkL (aCons (fun _ => M.pure (.str "readers")) (aCons (fun _ => M.pure (.str "range")) (aCons (fun _ => M.pure (.str "word")) (aCons (fun _ => M.pure (.str "span")) (fun _ => M.pure [])))))) (fun _ => M.pure [])))) (gSet 2))
    (sSeq (sIf (notT (tst (b1 (isiM "list") (vget 2)))) (sSeq (sRet (mkT (aCons (fun _ => M.pure (.int 0)) (aCons (vget 2) (fun _ => M.pure [])))))
    sNil) sNil)
    (sSeq (sIf (tst (b2 neM (b2 ixD (vget 2) (fun _ => M.pure (.int 0))) (fun _ => M.pure (.str "readers")))) (sSeq (sRet (ifV (tst (b2 eqM (cal (on1 lenD) (aCons (vget 1) (fun _ => M.pure []))) (fun _ => M.pure (.int 1)))) (mkL (aCons (cal (on1 tupleM) (aCons (vget 2) (fun _ => M.pure []))) (fun _ => M.pure []))) (mkT (aCons (fun _ => M.pure (.int 1)) (aCons (fun _ => M.pure (.int 0)) (fun _ => M.pure []))))))
    sNil) sNil)
    (sSeq (sPar 3 4 (mkL (aCons (fun _ => M.pure (.str "view")) (aCons (fun _ => M.pure (.str "stay")) (aCons (fun _ => M.pure (.str "apart")) (fun _ => M.pure []))))) (dispD [("view", (mkT (fun _ => M.pure []))), ("stay", (mkT (fun _ => M.pure []))), ("apart", (mkT (fun _ => M.pure [])))]))
    (sSeq (sFor (len1 rngOf 2 (aCons (fun _ => M.pure (.int 1)) (aCons (cal (on1 lenD) (aCons (vget 1) (fun _ => M.pure []))) (fun _ => M.pure [])))) (gSet 5) (sSeq (sAsg (calF 2 m__law_line (aCons (b2 ixD (vget 1) (vget 5)) (aCons (vget 3) (fun _ => M.pure [])))) (gSet 6))
    (sSeq (sIf (notT (tst (b1 (isiM "list") (vget 6)))) (sSeq (sRet (mkT (aCons (vget 5) (aCons (vget 6) (fun _ => M.pure [])))))
    sNil) sNil)
    (sSeq (sAsg (slc (vget 3) (some (mth chkLd idxL (vget 3) (aCons (b2 ixD (vget 6) (fun _ => M.pure (.int 0))) (fun _ => M.pure [])))) none) (gSet 3))
    (sSeq (sAsg (ifV (tst (b2 eqM (b2 ixD (vget 6) (fun _ => M.pure (.int 0))) (fun _ => M.pure (.str "apart")))) (b2 ixD (vget 6) (fun _ => M.pure (.int 1))) (cal (on1 tupleM) (aCons (slc (vget 6) (some (fun _ => M.pure (.int 1))) none) (fun _ => M.pure [])))) (gSet 7))
    (sSeq (sAsg (b2 addM (b2 ixD (vget 4) (b2 ixD (vget 6) (fun _ => M.pure (.int 0)))) (mkT (aCons (vget 7) (fun _ => M.pure [])))) (gPutD (vget 4) (b2 ixD (vget 6) (fun _ => M.pure (.int 0)))))
    sNil))))))
    (sSeq (sRet (mkL (aCons (mkT (aCons (fun _ => M.pure (.str "readers")) (aCons (b2 ixD (vget 4) (fun _ => M.pure (.str "view"))) (aCons (b2 ixD (vget 4) (fun _ => M.pure (.str "stay"))) (aCons (b2 ixD (vget 4) (fun _ => M.pure (.str "apart"))) (fun _ => M.pure [])))))) (fun _ => M.pure []))))
    sNil)))))))
noncomputable def m__law_read : List D → M D := runM 8 b__law_read
theorem ok__law_read (T : Txt w K mg) (D : DefAt K mg "_law_read" s__law_read ps__law_read) (O__law_line : OkAt P w K mg base 2 "_law_line" s__law_line ps__law_line m__law_line) : OkAt P w K mg base 3 "_law_read" s__law_read ps__law_read m__law_read :=
  OkAt.of (ms := b__law_read) (N := N__law_read) (n := 8) (k := 2) rfl D sc__law_read fun fa cdv A outer s H E hr =>
    (mss_cons (ms_set (i := 1) sc__law_read.nd rfl (Or.inl rfl) (pe_imp (pe_bm PySem.F.plainAttrs_str PySem.F.slot_str_split PySem.F.type_str_split mt_split (me_of (pv 0)) (ma_cons me_str ma_nil)) (fun _ _ _ h => mth_go chkS_ok splitM_ok h)))
    (mss_cons (ms_set (i := 2) sc__law_read.nd rfl (Or.inl rfl) (me_callO O__law_line (hr.mono (by decide)) rfl rfl (ma_cons (me_itemD (hu_of hr) (me_of (pv 1)) me_int (fun _ _ => rfl)) (ma_cons (me_lst (ma_cons me_str (ma_cons me_str (ma_cons me_str (ma_cons me_str ma_nil))))) ma_nil))))
    (mss_cons (ms_if (mt_not (mt_val (me_isi rfl T.n_isinstance (by decide +kernel) (me_of (pv 2)) (pe_bltn rfl T.n_list (by decide +kernel) rfl)))) (mss_cons (ms_ret (me_tup (ma_cons me_int (ma_cons (me_of (pv 2)) ma_nil))))
    mss_nil) mss_nil)
    (mss_cons (ms_if (mt_cmp (op_neU hr.units) neM_ok (me_itemD (hu_of hr) (me_of (pv 2)) me_int (fun _ _ => rfl)) me_str (nomark _)) (mss_cons (ms_ret (me_ife (mt_cmp (op_eqU hr.units) eqM_ok (me_callB call_lenDU lenD_ok rfl T.n_len (by decide +kernel) (ma_cons (me_of (pv 1)) ma_nil)) me_int (nomark _)) (me_lst (ma_cons (me_callTy call_tuple_of tupleM_ok rfl T.n_tuple (by decide +kernel) (ma_cons (me_of (pv 2)) ma_nil)) ma_nil)) (me_tup (ma_cons me_int (ma_cons me_int ma_nil)))))
    mss_nil) mss_nil)
    (mss_cons (ms_par (i := 3) (j := 4) rfl sc__law_read.nd rfl rfl (by decide) rfl rfl (me_lst (ma_cons me_str (ma_cons me_str (ma_cons me_str ma_nil)))) (me_disp (pps_cons me_str (me_tup ma_nil) (pps_cons me_str (me_tup ma_nil) (pps_cons me_str (me_tup ma_nil) pps_nil))) (.cons (.cons (.cons .nil))) (by simp)))
    (mss_cons (ms_for PassesOwn.never rfl (mi_range2 rfl T.n_range (ma_cons me_int (ma_cons (me_callB call_lenDU lenD_ok rfl T.n_len (by decide +kernel) (ma_cons (me_of (pv 1)) ma_nil)) ma_nil))) (mg_name (i := 5) sc__law_read.nd rfl (Or.inl rfl)) (mss_cons (ms_set (i := 6) sc__law_read.nd rfl (Or.inl rfl) (me_callO O__law_line (hr.mono (by decide)) rfl rfl (ma_cons (me_itemD (hu_of hr) (me_of (pv 1)) (me_of (pv 5)) (fun _ _ => rfl)) (ma_cons (me_of (pv 3)) ma_nil))))
    (mss_cons (ms_if (mt_not (mt_val (me_isi rfl T.n_isinstance (by decide +kernel) (me_of (pv 6)) (pe_bltn rfl T.n_list (by decide +kernel) rfl)))) (mss_cons (ms_ret (me_tup (ma_cons (me_of (pv 5)) (ma_cons (me_of (pv 6)) ma_nil))))
    mss_nil) mss_nil)
    (mss_cons (ms_set (i := 3) sc__law_read.nd rfl (Or.inl rfl) (me_slice (me_of (pv 3)) (mo_some (pe_imp (pe_bm PySem.F.plainAttrs_list PySem.F.slot_list_index PySem.F.type_list_index mt_index (me_of (pv 3)) (ma_cons (me_itemD (hu_of hr) (me_of (pv 6)) me_int (fun _ _ => rfl)) ma_nil)) (fun _ _ _ h => mth_go chkLd_ok idxL_ok h))) mo_none))
    (mss_cons (ms_set (i := 7) sc__law_read.nd rfl (Or.inl rfl) (me_ife (mt_cmp (op_eqU hr.units) eqM_ok (me_itemD (hu_of hr) (me_of (pv 6)) me_int (fun _ _ => rfl)) me_str (nomark _)) (me_itemD (hu_of hr) (me_of (pv 6)) me_int (fun _ _ => rfl)) (me_callTy call_tuple_of tupleM_ok rfl T.n_tuple (by decide +kernel) (ma_cons (me_slice (me_of (pv 6)) (mo_some me_int) mo_none) ma_nil))))
    (mss_cons (ms_asg (me_add (me_itemD (hu_of hr) (me_of (pv 4)) (me_itemD (hu_of hr) (me_of (pv 6)) me_int (fun _ _ => rfl)) (fun _ _ => rfl)) (me_tup (ma_cons (me_of (pv 7)) ma_nil))) (mg_subD (hu_of hr) (me_of (pv 4)) (me_itemD (hu_of hr) (me_of (pv 6)) me_int (fun _ _ => rfl))))
    mss_nil))))))
    (mss_cons (ms_ret (me_lst (ma_cons (me_tup (ma_cons me_str (ma_cons (me_itemD (hu_of hr) (me_of (pv 4)) me_str (fun _ _ => rfl)) (ma_cons (me_itemD (hu_of hr) (me_of (pv 4)) me_str (fun _ _ => rfl)) (ma_cons (me_itemD (hu_of hr) (me_of (pv 4)) me_str (fun _ _ => rfl)) ma_nil))))) ma_nil)))
    mss_nil)))))))
noncomputable abbrev s__law_bent : Stmt := topS 46
noncomputable abbrev ps__law_bent : List Str := ["_law_pen_here", "_law_said"]
noncomputable abbrev N__law_bent : List Str := ["_law_pen_here", "_law_said", "_law_spot", "_law_sign", "_law_words", "_law_lines", "_law_at", "_law_line_here", "_law_odd_here", "_law_word", "_law_some", "_law_turned"]
theorem sc__law_bent : FnScope N__law_bent ps__law_bent (defScope s__law_bent) := ⟨rfl, rfl, rfl, by decide +kernel, rfl, by decide +kernel, by decide +kernel⟩
noncomputable def b__law_bent : Env → M (Fl × Env) := (sSeq (sAsg (calF 2 m__law_draw (aCons (vget 0) (aCons (b2 addM (cal (on1 lenD) (aCons (vget 1) (fun _ => M.pure []))) (fun _ => M.pure (.int 1))) (fun _ => M.pure [])))) (gSet 2))
    (sSeq (sAsg (b2 ixD (fun _ => M.pure (.str " -,0123456789ab\nA~")) (calF 2 m__law_draw (aCons (vget 0) (aCons (fun _ => M.pure (.int 18)) (fun _ => M.pure []))))) (gSet 3))
    (sSeq (sPar 4 5 (mth chkS splitM (vget 1) (aCons (fun _ => M.pure (.str " ")) (fun _ => M.pure []))) (mth chkS splitM (vget 1) (aCons (fun _ => M.pure (.str "\n")) (fun _ => M.pure []))))
    (sSeq (sPar 6 7 (calF 2 m__law_draw (aCons (vget 0) (aCons (cal (on1 lenD) (aCons (vget 4) (fun _ => M.pure []))) (fun _ => M.pure [])))) (calF 2 m__law_draw (aCons (vget 0) (aCons (cal (on1 lenD) (aCons (vget 5) (fun _ => M.pure []))) (fun _ => M.pure [])))))
    (sSeq (sAsg (mkL (aCons (fun _ => M.pure (.str "")) (aCons (fun _ => M.pure (.str "-")) (aCons (fun _ => M.pure (.str "0")) (aCons (fun _ => M.pure (.str "00")) (aCons (fun _ => M.pure (.str "01")) (aCons (fun _ => M.pure (.str "7")) (aCons (fun _ => M.pure (.str "999999")) (aCons (fun _ => M.pure (.str "1000000")) (aCons (fun _ => M.pure (.str "view")) (aCons (fun _ => M.pure (.str "stay")) (aCons (fun _ => M.pure (.str "apart")) (aCons (fun _ => M.pure (.str "readers")) (aCons (fun _ => M.pure (.str "range")) (aCons (fun _ => M.pure (.str "word")) (fun _ => M.pure [])))))))))))))))) (gSet 8))
    (sSeq (sAsg (calF 2 m__law_pick (aCons (vget 0) (aCons (b2 addM (vget 8) (mkL (aCons (fun _ => M.pure (.str "span")) (aCons (fun _ => M.pure (.str "bar")) (aCons (fun _ => M.pure (.str "-1")) (aCons (fun _ => M.pure (.str "+1")) (aCons (b2 mulT (fun _ => M.pure (.str "1")) (fun _ => M.pure (.int 30))) (fun _ => M.pure [])))))))) (fun _ => M.pure [])))) (gSet 9))
    (sSeq (sAsg (mkC (aCons (b2 addM (b2 addM (slc (vget 1) none (some (vget 2))) (vget 3)) (slc (vget 1) (some (vget 2)) none)) (aCons (b2 addM (slc (vget 1) none (some (vget 2))) (slc (vget 1) (some (b2 addM (vget 2) (fun _ => M.pure (.int 1)))) none)) (aCons (b2 addM (vget 1) (fun _ => M.pure (.str " "))) (aCons (b2 addM (fun _ => M.pure (.str " ")) (vget 1)) (aCons (b2 addM (vget 1) (fun _ => M.pure (.str "\n"))) (fun _ => M.pure []))))))) (gSet 10))
    (sSeq (sDrop (mth chkL appM (vget 10) (aCons (mth chkS joinM (fun _ => M.pure (.str " ")) (aCons (b2 addM (b2 addM (slc (vget 4) none (some (vget 6))) (mkL (aCons (vget 9) (fun _ => M.pure [])))) (slc (vget 4) (some (vget 6)) none)) (fun _ => M.pure []))) (fun _ => M.pure []))))
    (sSeq (sDrop (mth chkL appM (vget 10) (aCons (mth chkS joinM (fun _ => M.pure (.str " ")) (aCons (b2 addM (b2 addM (slc (vget 4) none (some (vget 6))) (mkL (aCons (vget 9) (fun _ => M.pure [])))) (slc (vget 4) (some (b2 addM (vget 6) (fun _ => M.pure (.int 1)))) none)) (fun _ => M.pure []))) (fun _ => M.pure []))))
    (sSeq (sDrop (mth chkL appM (vget 10) (aCons (mth chkS joinM (fun _ => M.pure (.str " ")) (aCons (b2 addM (slc (vget 4) none (some (vget 6))) (slc (vget 4) (some (b2 addM (vget 6) (fun _ => M.pure (.int 1)))) none)) (fun _ => M.pure []))) (fun _ => M.pure []))))
    (sSeq (sDrop (mth chkL appM (vget 10) (aCons (mth chkS joinM (fun _ => M.pure (.str "\n")) (aCons (b2 addM (slc (vget 5) none (some (vget 7))) (slc (vget 5) (some (b2 addM (vget 7) (fun _ => M.pure (.int 1)))) none)) (fun _ => M.pure []))) (fun _ => M.pure []))))
    (sSeq (sDrop (mth chkL appM (vget 10) (aCons (mth chkS joinM (fun _ => M.pure (.str "\n")) (aCons (b2 addM (slc (vget 5) none (some (b2 addM (vget 7) (fun _ => M.pure (.int 1))))) (slc (vget 5) (some (vget 7)) none)) (fun _ => M.pure []))) (fun _ => M.pure []))))
    (sSeq (sAsg (b1 revU (slc (vget 5) (some (vget 7)) (some (b2 addM (vget 7) (fun _ => M.pure (.int 2)))))) (gSet 11))
    (sSeq (sDrop (mth chkL appM (vget 10) (aCons (mth chkS joinM (fun _ => M.pure (.str "\n")) (aCons (b2 addM (b2 addM (slc (vget 5) none (some (vget 7))) (vget 11)) (slc (vget 5) (some (b2 addM (vget 7) (fun _ => M.pure (.int 2)))) none)) (fun _ => M.pure []))) (fun _ => M.pure []))))
    (sSeq (sRet (calF 2 m__law_pick (aCons (vget 0) (aCons (vget 10) (fun _ => M.pure [])))))
    sNil)))))))))))))))
noncomputable def m__law_bent : List D → M D := runM 12 b__law_bent
theorem ok__law_bent (T : Txt w K mg) (D : DefAt K mg "_law_bent" s__law_bent ps__law_bent) (O__law_pick : OkAt P w K mg base 2 "_law_pick" s__law_pick ps__law_pick m__law_pick) (O__law_draw : OkAt P w K mg base 1 "_law_draw" s__law_draw ps__law_draw m__law_draw) : OkAt P w K mg base 3 "_law_bent" s__law_bent ps__law_bent m__law_bent :=
  OkAt.of (ms := b__law_bent) (N := N__law_bent) (n := 12) (k := 2) rfl D sc__law_bent fun fa cdv A outer s H E hr =>
    (mss_cons (ms_set (i := 2) sc__law_bent.nd rfl (Or.inl rfl) (me_callO O__law_draw (hr.mono (by decide)) rfl rfl (ma_cons (me_of (pv 0)) (ma_cons (me_add (me_callB call_lenDU lenD_ok rfl T.n_len (by decide +kernel) (ma_cons (me_of (pv 1)) ma_nil)) me_int) ma_nil))))
    (mss_cons (ms_set (i := 3) sc__law_bent.nd rfl (Or.inl rfl) (me_itemD (hu_of hr) me_str (me_callO O__law_draw (hr.mono (by decide)) rfl rfl (ma_cons (me_of (pv 0)) (ma_cons me_int ma_nil))) (fun _ _ => rfl)))
    (mss_cons (ms_par (i := 4) (j := 5) rfl sc__law_bent.nd rfl rfl (by decide) rfl rfl (pe_imp (pe_bm PySem.F.plainAttrs_str PySem.F.slot_str_split PySem.F.type_str_split mt_split (me_of (pv 1)) (ma_cons me_str ma_nil)) (fun _ _ _ h => mth_go chkS_ok splitM_ok h)) (pe_imp (pe_bm PySem.F.plainAttrs_str PySem.F.slot_str_split PySem.F.type_str_split mt_split (me_of (pv 1)) (ma_cons me_str ma_nil)) (fun _ _ _ h => mth_go chkS_ok splitM_ok h)))
    (mss_cons (ms_par (i := 6) (j := 7) rfl sc__law_bent.nd rfl rfl (by decide) rfl rfl (me_callO O__law_draw (hr.mono (by decide)) rfl rfl (ma_cons (me_of (pv 0)) (ma_cons (me_callB call_lenDU lenD_ok rfl T.n_len (by decide +kernel) (ma_cons (me_of (pv 4)) ma_nil)) ma_nil))) (me_callO O__law_draw (hr.mono (by decide)) rfl rfl (ma_cons (me_of (pv 0)) (ma_cons (me_callB call_lenDU lenD_ok rfl T.n_len (by decide +kernel) (ma_cons (me_of (pv 5)) ma_nil)) ma_nil))))
    (mss_cons (ms_set (i := 8) sc__law_bent.nd rfl (Or.inl rfl) (me_lst (ma_cons me_str (ma_cons me_str (ma_cons me_str (ma_cons me_str (ma_cons me_str (ma_cons me_str (ma_cons me_str (ma_cons me_str (ma_cons me_str (ma_cons me_str (ma_cons me_str (ma_cons me_str (ma_cons me_str (ma_cons me_str ma_nil))))))))))))))))
    (mss_cons (ms_set (i := 9) sc__law_bent.nd rfl (Or.inl rfl) (me_callO O__law_pick (hr.mono (by decide)) rfl rfl (ma_cons (me_of (pv 0)) (ma_cons (me_add (me_of (pv 8)) (me_lst (ma_cons me_str (ma_cons me_str (ma_cons me_str (ma_cons me_str (ma_cons (me_mulT me_str me_int) ma_nil))))))) ma_nil))))
    (mss_cons (ms_set (i := 10) sc__law_bent.nd rfl (Or.inl rfl) (me_new (ma_cons (me_add (me_add (me_slice (me_of (pv 1)) mo_none (mo_some (me_of (pv 2)))) (me_of (pv 3))) (me_slice (me_of (pv 1)) (mo_some (me_of (pv 2))) mo_none)) (ma_cons (me_add (me_slice (me_of (pv 1)) mo_none (mo_some (me_of (pv 2)))) (me_slice (me_of (pv 1)) (mo_some (me_add (me_of (pv 2)) me_int)) mo_none)) (ma_cons (me_add (me_of (pv 1)) me_str) (ma_cons (me_add me_str (me_of (pv 1))) (ma_cons (me_add (me_of (pv 1)) me_str) ma_nil)))))))
    (mss_cons (ms_expr (pe_imp (pe_bm PySem.F.plainAttrs_list PySem.F.slot_list_append PySem.F.type_list_append mt_append (me_of (pv 10)) (ma_cons (pe_imp (pe_bm PySem.F.plainAttrs_str PySem.F.slot_str_join PySem.F.type_str_join mt_join me_str (ma_cons (me_add (me_add (me_slice (me_of (pv 4)) mo_none (mo_some (me_of (pv 6)))) (me_lst (ma_cons (me_of (pv 9)) ma_nil))) (me_slice (me_of (pv 4)) (mo_some (me_of (pv 6))) mo_none)) ma_nil)) (fun _ _ _ h => mth_go chkS_ok joinM_ok h)) ma_nil)) (fun _ _ _ h => mth_go chkL_ok appM_ok h)))
    (mss_cons (ms_expr (pe_imp (pe_bm PySem.F.plainAttrs_list PySem.F.slot_list_append PySem.F.type_list_append mt_append (me_of (pv 10)) (ma_cons (pe_imp (pe_bm PySem.F.plainAttrs_str PySem.F.slot_str_join PySem.F.type_str_join mt_join me_str (ma_cons (me_add (me_add (me_slice (me_of (pv 4)) mo_none (mo_some (me_of (pv 6)))) (me_lst (ma_cons (me_of (pv 9)) ma_nil))) (me_slice (me_of (pv 4)) (mo_some (me_add (me_of (pv 6)) me_int)) mo_none)) ma_nil)) (fun _ _ _ h => mth_go chkS_ok joinM_ok h)) ma_nil)) (fun _ _ _ h => mth_go chkL_ok appM_ok h)))
    (mss_cons (ms_expr (pe_imp (pe_bm PySem.F.plainAttrs_list PySem.F.slot_list_append PySem.F.type_list_append mt_append (me_of (pv 10)) (ma_cons (pe_imp (pe_bm PySem.F.plainAttrs_str PySem.F.slot_str_join PySem.F.type_str_join mt_join me_str (ma_cons (me_add (me_slice (me_of (pv 4)) mo_none (mo_some (me_of (pv 6)))) (me_slice (me_of (pv 4)) (mo_some (me_add (me_of (pv 6)) me_int)) mo_none)) ma_nil)) (fun _ _ _ h => mth_go chkS_ok joinM_ok h)) ma_nil)) (fun _ _ _ h => mth_go chkL_ok appM_ok h)))
    (mss_cons (ms_expr (pe_imp (pe_bm PySem.F.plainAttrs_list PySem.F.slot_list_append PySem.F.type_list_append mt_append (me_of (pv 10)) (ma_cons (pe_imp (pe_bm PySem.F.plainAttrs_str PySem.F.slot_str_join PySem.F.type_str_join mt_join me_str (ma_cons (me_add (me_slice (me_of (pv 5)) mo_none (mo_some (me_of (pv 7)))) (me_slice (me_of (pv 5)) (mo_some (me_add (me_of (pv 7)) me_int)) mo_none)) ma_nil)) (fun _ _ _ h => mth_go chkS_ok joinM_ok h)) ma_nil)) (fun _ _ _ h => mth_go chkL_ok appM_ok h)))
    (mss_cons (ms_expr (pe_imp (pe_bm PySem.F.plainAttrs_list PySem.F.slot_list_append PySem.F.type_list_append mt_append (me_of (pv 10)) (ma_cons (pe_imp (pe_bm PySem.F.plainAttrs_str PySem.F.slot_str_join PySem.F.type_str_join mt_join me_str (ma_cons (me_add (me_slice (me_of (pv 5)) mo_none (mo_some (me_add (me_of (pv 7)) me_int))) (me_slice (me_of (pv 5)) (mo_some (me_of (pv 7))) mo_none)) ma_nil)) (fun _ _ _ h => mth_go chkS_ok joinM_ok h)) ma_nil)) (fun _ _ _ h => mth_go chkL_ok appM_ok h)))
    (mss_cons (ms_set (i := 11) sc__law_bent.nd rfl (Or.inl rfl) (me_revU (me_slice (me_of (pv 5)) (mo_some (me_of (pv 7))) (mo_some (me_add (me_of (pv 7)) me_int)))))
    (mss_cons (ms_expr (pe_imp (pe_bm PySem.F.plainAttrs_list PySem.F.slot_list_append PySem.F.type_list_append mt_append (me_of (pv 10)) (ma_cons (pe_imp (pe_bm PySem.F.plainAttrs_str PySem.F.slot_str_join PySem.F.type_str_join mt_join me_str (ma_cons (me_add (me_add (me_slice (me_of (pv 5)) mo_none (mo_some (me_of (pv 7)))) (me_of (pv 11))) (me_slice (me_of (pv 5)) (mo_some (me_add (me_of (pv 7)) me_int)) mo_none)) ma_nil)) (fun _ _ _ h => mth_go chkS_ok joinM_ok h)) ma_nil)) (fun _ _ _ h => mth_go chkL_ok appM_ok h)))
    (mss_cons (ms_ret (me_callO O__law_pick (hr.mono (by decide)) rfl rfl (ma_cons (me_of (pv 0)) (ma_cons (me_of (pv 10)) ma_nil))))
    mss_nil)))))))))))))))
noncomputable abbrev s__law_heard : Stmt := topS 47
noncomputable abbrev ps__law_heard : List Str := ["_law_ask"]
noncomputable abbrev N__law_heard : List Str := ["_law_ask", "_law_caught", "error"]
theorem sc__law_heard : FnScope N__law_heard ps__law_heard (defScope s__law_heard) := ⟨rfl, rfl, rfl, by decide +kernel, rfl, by decide +kernel, by decide +kernel⟩
noncomputable def b__law_heard : Env → M (Fl × Env) := (sSeq (sIf (andT (tst (b1 (isxM xtb 5) (vget 1))) (notT (tst (b1 (isxM xtb 4) (vget 1))))) (sSeq (sRet (mkT (aCons (b1 (xfM ["InvalidText"] "line") (vget 1)) (aCons (b1 (xfM ["InvalidText"] "word") (vget 1)) (fun _ => M.pure [])))))
    sNil) sNil)
    (sSeq (sRet (mkT (aCons (fun _ => M.pure (.str "other")) (fun _ => M.pure []))))
    sNil))
noncomputable def h__law_heard : M D → M D := heardM ["InvalidText"] 3 1 b__law_heard
theorem ok__law_heard (T : Txt w K mg) (D : DefAt K mg "_law_heard" s__law_heard ps__law_heard)  : OkHd P w K mg base "_law_heard" h__law_heard := by
  obtain ⟨c1, c2, c3, c4, e1, e2, e3, e4, hk⟩ := T.xc__law_heard.ex
  refine OkHd.of (Ng := N__law_heard) D sc__law_heard rfl (Or.inl rfl) (by decide) (by decide) fun X q g cdv q1 q2 q3 q4 q5 => ?_
  subst q1 q2 q3 q4 q5
  exact heard_gives (i := 1) (j := 2) (x1 := "HoldError") (x2 := "TurnError") (x3 := "AbsentError") (x4 := "SizeError") sc__law_heard.nd rfl rfl (by decide) (by decide) rfl rfl (by decide) (by decide) ⟨rfl, by decide, e1⟩ ⟨rfl, by decide, e2⟩ ⟨rfl, by decide, e3⟩ ⟨rfl, by decide, e4⟩ (fun _ => rfl) hk fun s H => (mss_cons (ms_if (PW.pt (mw_and (mt_val (me_isxN (T := "InvalidText") T.x_is (by decide +kernel) rfl T.n_isinstance (by decide +kernel) T.xg_InvalidText rfl (me_of (pv 1)))) (mw_and1 (mt_not (mt_val (me_isxN (T := "InvalidRow") T.x_is (by decide +kernel) rfl T.n_isinstance (by decide +kernel) T.xg_InvalidRow rfl (me_of (pv 1)))))))) (mss_cons (ms_ret (me_tup (ma_cons (me_xf T.xf_line (me_of (pv 1))) (ma_cons (me_xf T.xf_word (me_of (pv 1))) ma_nil))))
    mss_nil) mss_nil)
    (mss_cons (ms_ret (me_tup (ma_cons me_str ma_nil)))
    mss_nil))
noncomputable abbrev s_write_paper : Stmt := topS 30
noncomputable abbrev ps_write_paper : List Str := ["value"]
noncomputable abbrev N_write_paper : List Str := ["value", "_", "views", "stays", "rows", "lines", "number", "view", "end", "row", "line"]
theorem sc_write_paper : FnScope N_write_paper ps_write_paper (defScope s_write_paper) := ⟨rfl, rfl, rfl, by decide +kernel, rfl, by decide +kernel, by decide +kernel⟩
noncomputable def b_write_paper : Env → M (Fl × Env) := (sSeq (sIf (tst (b2 neM (b2 ixD (vget 0) (fun _ => M.pure (.int 0))) (fun _ => M.pure (.str "readers")))) (sSeq (sRet (calF 1 m__write_line (aCons (vget 0) (fun _ => M.pure []))))
    sNil) sNil)
    (sSeq (sAsg (vget 0) (gMany [1, 2, 3, 4]))
    (sSeq (sAsg (mkL (aCons (mkT (aCons (fun _ => M.pure (.str "readers")) (fun _ => M.pure []))) (fun _ => M.pure []))) (gSet 5))
    (sSeq (sAsg (b2 addM (vget 5) (eLc (iSeq (vget 2)) (gTwo 6 7) (fun _ => M.pure true) (mkT (aCons (fun _ => M.pure (.str "view")) (aCons (vget 6) (aCons (vget 7) (fun _ => M.pure []))))) [6, 7])) (gSet 5))
    (sSeq (sAsg (b2 addM (vget 5) (eLc (iSeq (vget 3)) (gTwo 7 8) (fun _ => M.pure true) (mkT (aCons (fun _ => M.pure (.str "stay")) (aCons (vget 7) (aCons (vget 8) (fun _ => M.pure []))))) [7, 8])) (gSet 5))
    (sSeq (sAsg (b2 addM (vget 5) (eLc (iSeq (vget 4)) (gSet 9) (fun _ => M.pure true) (mkT (aCons (fun _ => M.pure (.str "apart")) (aCons (vget 9) (fun _ => M.pure [])))) [9])) (gSet 5))
    (sSeq (sRet (mth chkS joinM (fun _ => M.pure (.str "\n")) (aCons (eLc (iSeq (vget 5)) (gSet 10) (fun _ => M.pure true) (calF 1 m__write_line (aCons (vget 10) (fun _ => M.pure []))) [10]) (fun _ => M.pure []))))
    sNil)))))))
noncomputable def m_write_paper : List D → M D := runM 11 b_write_paper
theorem ok_write_paper (T : Txt w K mg) (D : DefAt K mg "write_paper" s_write_paper ps_write_paper) (O__write_line : OkAt P w K mg base 1 "_write_line" s__write_line ps__write_line m__write_line) : OkAt P w K mg base 2 "write_paper" s_write_paper ps_write_paper m_write_paper :=
  OkAt.of (ms := b_write_paper) (N := N_write_paper) (n := 11) (k := 1) rfl D sc_write_paper fun fa cdv A outer s H E hr =>
    (mss_cons (ms_if (mt_cmp (op_neU hr.units) neM_ok (me_itemD (hu_of hr) (me_of (pv 0)) me_int (fun _ _ => rfl)) me_str (nomark _)) (mss_cons (ms_ret (me_callO O__write_line (hr.mono (by decide)) rfl rfl (ma_cons (me_of (pv 0)) ma_nil)))
    mss_nil) mss_nil)
    (mss_cons (ms_asg (me_of (pv 0)) (mg_many (is := [1, 2, 3, 4]) (n := 4) rfl (pg_tup rfl (pgs_cons (pg_name (i := 1) sc_write_paper.nd rfl (Or.inl rfl)) (pgs_cons (pg_name (i := 2) sc_write_paper.nd rfl (Or.inl rfl)) (pgs_cons (pg_name (i := 3) sc_write_paper.nd rfl (Or.inl rfl)) (pgs_cons (pg_name (i := 4) sc_write_paper.nd rfl (Or.inl rfl)) pgs_nil)))))))
    (mss_cons (ms_set (i := 5) sc_write_paper.nd rfl (Or.inl rfl) (me_lst (ma_cons (me_tup (ma_cons me_str ma_nil)) ma_nil)))
    (mss_cons (ms_set (i := 5) sc_write_paper.nd rfl (Or.inl rfl) (me_add (me_of (pv 5)) (me_lc (own := [("number", 6), ("view", 7)]) rfl sc_write_paper.nd (mi_seq (me_of (pv 2))) (blkOk_by (N := N_write_paper) (sc := defScope s_write_paper) (by decide +kernel)) (gw_two (i := 6) (j := 7) (by simp) (by simp)) (fun _ _ _ _ _ => pg_tup rfl (pgs_cons (pg_name (i := 6) sc_write_paper.nd rfl (Or.inl rfl)) (pgs_cons (pg_name (i := 7) sc_write_paper.nd rfl (Or.inl rfl)) pgs_nil))) (fun _ _ _ _ _ => mts_nil) (fun _ _ _ _ _ => (me_tup (ma_cons me_str (ma_cons (me_of (pv 6)) (ma_cons (me_of (pv 7)) ma_nil))))))))
    (mss_cons (ms_set (i := 5) sc_write_paper.nd rfl (Or.inl rfl) (me_add (me_of (pv 5)) (me_lc (own := [("view", 7), ("end", 8)]) rfl sc_write_paper.nd (mi_seq (me_of (pv 3))) (blkOk_by (N := N_write_paper) (sc := defScope s_write_paper) (by decide +kernel)) (gw_two (i := 7) (j := 8) (by simp) (by simp)) (fun _ _ _ _ _ => pg_tup rfl (pgs_cons (pg_name (i := 7) sc_write_paper.nd rfl (Or.inl rfl)) (pgs_cons (pg_name (i := 8) sc_write_paper.nd rfl (Or.inl rfl)) pgs_nil))) (fun _ _ _ _ _ => mts_nil) (fun _ _ _ _ _ => (me_tup (ma_cons me_str (ma_cons (me_of (pv 7)) (ma_cons (me_of (pv 8)) ma_nil))))))))
    (mss_cons (ms_set (i := 5) sc_write_paper.nd rfl (Or.inl rfl) (me_add (me_of (pv 5)) (me_lc (own := [("row", 9)]) rfl sc_write_paper.nd (mi_seq (me_of (pv 4))) (blkOk_by (N := N_write_paper) (sc := defScope s_write_paper) (by decide +kernel)) (gw_name (i := 9) (by simp)) (fun _ _ _ _ _ => pg_name (i := 9) sc_write_paper.nd rfl (Or.inl rfl)) (fun _ _ _ _ _ => mts_nil) (fun _ _ _ _ _ => (me_tup (ma_cons me_str (ma_cons (me_of (pv 9)) ma_nil)))))))
    (mss_cons (ms_ret (pe_imp (pe_bm PySem.F.plainAttrs_str PySem.F.slot_str_join PySem.F.type_str_join mt_join me_str (ma_cons (me_lc (own := [("line", 10)]) rfl sc_write_paper.nd (mi_seq (me_of (pv 5))) (blkOk_by (N := N_write_paper) (sc := defScope s_write_paper) (by decide +kernel)) (gw_name (i := 10) (by simp)) (fun _ _ _ _ _ => pg_name (i := 10) sc_write_paper.nd rfl (Or.inl rfl)) (fun _ _ _ _ _ => mts_nil) (fun _ _ _ _ _ => (me_callO O__write_line (hr.mono (by decide)) rfl rfl (ma_cons (me_of (pv 10)) ma_nil)))) ma_nil)) (fun _ _ _ h => mth_go chkS_ok joinM_ok h)))
    mss_nil)))))))
noncomputable abbrev s__read_entries : Stmt := topS 32
noncomputable abbrev ps__read_entries : List Str := ["lines"]
noncomputable abbrev N__read_entries : List Str := ["lines", "found", "words", "at", "line", "entry", "word"]
theorem sc__read_entries : FnScope N__read_entries ps__read_entries (defScope s__read_entries) := ⟨rfl, rfl, rfl, by decide +kernel, rfl, by decide +kernel, by decide +kernel⟩
noncomputable def b__read_entries : Env → M (Fl × Env) := (sSeq (noE (sAsg (eDc (iSeq (wkM (fun _ => M.pure (.stp [.str "view", .str "stay", .str "apart"])))) (gSet 6) (fun _ => M.pure true) (vget 6) (mkC (fun _ => M.pure [])) [6]) (gSet 1)))
    (sSeq (noE (sAsg (fun _ => M.pure (.stp [.str "view", .str "stay", .str "apart"])) (gSet 2)))
    (sSeq (sFor (noE (iEnu (aCons (slc (vget 0) (some (fun _ => M.pure (.int 1))) none) (fun _ => M.pure [])))) (gTwo 3 4) (sSeq (sAsg (calF 3 m__read_line (noE (aCons (vget 4) (aCons (b2 addM (vget 3) (fun _ => M.pure (.int 1))) (aCons (wkM (vget 2)) (fun _ => M.pure [])))))) (gSet 5))
    (sSeq (noE (sAsg (slcS (vget 2) (some (mth chkP idxS (vget 2) (aCons (b2 ixD (vget 5) (fun _ => M.pure (.int 0))) (fun _ => M.pure [])))) none) (gSet 2)))
    (sSeq (noE (sDrop (mth chkL appM (b2 ixD (vget 1) (b2 ixD (vget 5) (fun _ => M.pure (.int 0)))) (aCons (ifV (tst (b2 eqM (b2 ixD (vget 5) (fun _ => M.pure (.int 0))) (fun _ => M.pure (.str "apart")))) (b2 ixD (vget 5) (fun _ => M.pure (.int 1))) (slc (vget 5) (some (fun _ => M.pure (.int 1))) none)) (fun _ => M.pure [])))))
    sNil))))
    (sSeq (noE (sRet (cal (on1 tupleM) (aCons (eLc (iSeq (wkM (fun _ => M.pure (.stp [.str "view", .str "stay", .str "apart"])))) (gSet 6) (fun _ => M.pure true) (cal (on1 tupleM) (aCons (b2 ixD (vget 1) (vget 6)) (fun _ => M.pure []))) [6]) (fun _ => M.pure [])))))
    sNil))))
noncomputable def m__read_entries : List D → M D := runM 7 b__read_entries
theorem ok__read_entries (T : Txt w K mg) (D : DefAt K mg "_read_entries" s__read_entries ps__read_entries) (O__read_line : OkAX P w K mg base 4 "_read_line" s__read_line ps__read_line m__read_line) : OkAX P w K mg base 5 "_read_entries" s__read_entries ps__read_entries m__read_entries :=
  OkAX.of (ms := b__read_entries) (N := N__read_entries) (n := 7) (k := 4) rfl D sc__read_entries fun fa cdv A outer s H E hr tk =>
    (mss_cons (ms_noE (ms_set (i := 1) sc__read_entries.nd rfl (Or.inr rfl) (me_dc (own := [("word", 6)]) rfl sc__read_entries.nd (mi_seq (me_wk (me_gtup rfl T.t_ENTRIES))) (blkOk_by (N := N__read_entries) (sc := defScope s__read_entries) (by decide +kernel)) (gw_name (i := 6) (by simp)) (fun _ _ _ _ _ => pg_name (i := 6) sc__read_entries.nd rfl (Or.inl rfl)) (fun _ _ _ _ _ => mts_nil) (fun _ _ _ _ _ => (me_of (pv 6))) (fun _ _ _ _ _ => (me_new ma_nil)))))
    (mss_cons (ms_noE (ms_set (i := 2) sc__read_entries.nd rfl (Or.inl rfl) (me_gtup rfl T.t_ENTRIES)))
    (mss_cons (ms_for (passes_of rfl) rfl (mi_noE (mi_enum rfl T.n_enumerate (ma_cons (me_slice (me_of (pv 0)) (mo_some me_int) mo_none) ma_nil))) (mg_two (pg_tup rfl (pgs_cons (pg_name (i := 3) sc__read_entries.nd rfl (Or.inl rfl)) (pgs_cons (pg_name (i := 4) sc__read_entries.nd rfl (Or.inl rfl)) pgs_nil)))) (mss_cons (ms_set (i := 5) sc__read_entries.nd rfl (Or.inl rfl) (me_callX O__read_line tk (hr.mono (by decide)) rfl rfl (ma_noE (ma_cons (me_of (pv 4)) (ma_cons (me_add (me_of (pv 3)) me_int) (ma_cons (me_wk (me_of (pv 2))) ma_nil))))))
    (mss_cons (ms_noE (ms_set (i := 2) sc__read_entries.nd rfl (Or.inl rfl) (me_sliceS (me_of (pv 2)) (mo_some (me_indexS (me_of (pv 2)) (ma_cons (me_itemD (hu_of hr) (me_of (pv 5)) me_int (fun _ _ => rfl)) ma_nil))) mo_none)))
    (mss_cons (ms_noE (ms_expr (pe_imp (pe_bm PySem.F.plainAttrs_list PySem.F.slot_list_append PySem.F.type_list_append mt_append (me_itemD (hu_of hr) (me_of (pv 1)) (me_itemD (hu_of hr) (me_of (pv 5)) me_int (fun _ _ => rfl)) (fun _ _ => rfl)) (ma_cons (me_ife (mt_cmp (op_eqU hr.units) eqM_ok (me_itemD (hu_of hr) (me_of (pv 5)) me_int (fun _ _ => rfl)) me_str (nomark _)) (me_itemD (hu_of hr) (me_of (pv 5)) me_int (fun _ _ => rfl)) (me_slice (me_of (pv 5)) (mo_some me_int) mo_none)) ma_nil)) (fun _ _ _ h => mth_go chkL_ok appM_ok h))))
    mss_nil))))
    (mss_cons (ms_noE (ms_ret (me_callTy call_tuple_of tupleM_ok rfl T.n_tuple (by decide +kernel) (ma_cons (me_lc (own := [("word", 6)]) rfl sc__read_entries.nd (mi_seq (me_wk (me_gtup rfl T.t_ENTRIES))) (blkOk_by (N := N__read_entries) (sc := defScope s__read_entries) (by decide +kernel)) (gw_name (i := 6) (by simp)) (fun _ _ _ _ _ => pg_name (i := 6) sc__read_entries.nd rfl (Or.inl rfl)) (fun _ _ _ _ _ => mts_nil) (fun _ _ _ _ _ => (me_callTy call_tuple_of tupleM_ok rfl T.n_tuple (by decide +kernel) (ma_cons (me_itemD (hu_of hr) (me_of (pv 1)) (me_of (pv 6)) (fun _ _ => rfl)) ma_nil)))) ma_nil))))
    mss_nil))))
noncomputable abbrev s_read_paper : Stmt := topS 31
noncomputable abbrev ps_read_paper : List Str := ["text"]
noncomputable abbrev N_read_paper : List Str := ["text", "lines", "first"]
theorem sc_read_paper : FnScope N_read_paper ps_read_paper (defScope s_read_paper) := ⟨rfl, rfl, rfl, by decide +kernel, rfl, by decide +kernel, by decide +kernel⟩
noncomputable def b_read_paper : Env → M (Fl × Env) := (sSeq (sIf (noE (notT (tst (b1 (isiM "str") (vget 0))))) (sSeq (sRaise "InvalidText" ["line", "word"] (noE (aCons (fun _ => M.pure (.int 0)) (aCons (fun _ => M.pure (.int 0)) (fun _ => M.pure [])))))
    sNil) sNil)
    (sSeq (noE (sAsg (mth chkS splitM (vget 0) (aCons (fun _ => M.pure (.str "\n")) (fun _ => M.pure []))) (gSet 1)))
    (sSeq (sAsg (calF 3 m__read_line (noE (aCons (b2 ixD (vget 1) (fun _ => M.pure (.int 0))) (aCons (fun _ => M.pure (.int 0)) (aCons (b2 addM (mkT (aCons (fun _ => M.pure (.str "readers")) (fun _ => M.pure []))) (wkM (fun _ => M.pure (.stp [.str "range", .str "word", .str "span"])))) (fun _ => M.pure [])))))) (gSet 2))
    (sSeq (sIf (noE (tst (b2 eqM (b2 ixD (vget 2) (fun _ => M.pure (.int 0))) (fun _ => M.pure (.str "readers"))))) (sSeq (sRet (b2 addM (vget 2) (calF 1 m__read_entries (noE (aCons (vget 1) (fun _ => M.pure []))))))
    sNil) sNil)
    (sSeq (sIf (noE (tst (b2 gtM (cal (on1 lenD) (aCons (vget 1) (fun _ => M.pure []))) (fun _ => M.pure (.int 1))))) (sSeq (sRaise "InvalidText" ["line", "word"] (noE (aCons (fun _ => M.pure (.int 1)) (aCons (fun _ => M.pure (.int 0)) (fun _ => M.pure [])))))
    sNil) sNil)
    (sSeq (noE (sRet (vget 2)))
    sNil))))))
noncomputable def m_read_paper : List D → M D := runM 3 b_read_paper
theorem ok_read_paper (T : Txt w K mg) (D : DefAt K mg "read_paper" s_read_paper ps_read_paper) (O_InvalidText___init__ : XMk P w K mg base 1 "InvalidText" "InvalidText.__init__" s_InvalidText___init__ ps_InvalidText___init__ ["line", "word"]) (O__read_entries : OkAX P w K mg base 5 "_read_entries" s__read_entries ps__read_entries m__read_entries) (O__read_line : OkAX P w K mg base 4 "_read_line" s__read_line ps__read_line m__read_line) : OkAX P w K mg base 6 "read_paper" s_read_paper ps_read_paper m_read_paper :=
  OkAX.of (ms := b_read_paper) (N := N_read_paper) (n := 3) (k := 5) rfl D sc_read_paper fun fa cdv A outer s H E hr tk =>
    (mss_cons (ms_if (mt_noE (mt_not (mt_val (me_isi rfl T.n_isinstance (by decide +kernel) (me_of (pv 0)) (pe_bltn rfl T.n_str (by decide +kernel) rfl))))) (mss_cons (ms_raise O_InvalidText___init__ tk rfl (hr.mono (by decide)) rfl (by decide) (ma_noE (ma_cons me_int (ma_cons me_int ma_nil))))
    mss_nil) mss_nil)
    (mss_cons (ms_noE (ms_set (i := 1) sc_read_paper.nd rfl (Or.inl rfl) (pe_imp (pe_bm PySem.F.plainAttrs_str PySem.F.slot_str_split PySem.F.type_str_split mt_split (me_of (pv 0)) (ma_cons me_str ma_nil)) (fun _ _ _ h => mth_go chkS_ok splitM_ok h))))
    (mss_cons (ms_set (i := 2) sc_read_paper.nd rfl (Or.inl rfl) (me_callX O__read_line tk (hr.mono (by decide)) rfl rfl (ma_noE (ma_cons (me_itemD (hu_of hr) (me_of (pv 1)) me_int (fun _ _ => rfl)) (ma_cons me_int (ma_cons (me_add (me_tup (ma_cons me_str ma_nil)) (me_wk (me_gtup rfl T.t_BARS))) ma_nil))))))
    (mss_cons (ms_if (mt_noE (mt_cmp (op_eqU hr.units) eqM_ok (me_itemD (hu_of hr) (me_of (pv 2)) me_int (fun _ _ => rfl)) me_str (nomark _))) (mss_cons (ms_ret (me_add (me_of (pv 2)) (me_callX O__read_entries tk (hr.mono (by decide)) rfl rfl (ma_noE (ma_cons (me_of (pv 1)) ma_nil)))))
    mss_nil) mss_nil)
    (mss_cons (ms_if (mt_noE (mt_cmp op_gt gtM_ok (me_callB call_lenDU lenD_ok rfl T.n_len (by decide +kernel) (ma_cons (me_of (pv 1)) ma_nil)) me_int (nomark _))) (mss_cons (ms_raise O_InvalidText___init__ tk rfl (hr.mono (by decide)) rfl (by decide) (ma_noE (ma_cons me_int (ma_cons me_int ma_nil))))
    mss_nil) mss_nil)
    (mss_cons (ms_noE (ms_ret (me_of (pv 2))))
    mss_nil))))))
noncomputable abbrev s__law_right : Stmt := topS 48
noncomputable abbrev ps__law_right : List Str := ["_law_said"]
noncomputable abbrev N__law_right : List Str := ["_law_said", "_law_due", "_law_told"]
theorem sc__law_right : FnScope N__law_right ps__law_right (defScope s__law_right) := ⟨rfl, rfl, rfl, by decide +kernel, rfl, by decide +kernel, by decide +kernel⟩
noncomputable def b__law_right : Env → M (Fl × Env) := (sSeq (sAsg (calF 1 m__law_read (aCons (vget 0) (fun _ => M.pure []))) (gSet 1))
    (sSeq (sAsg (mkC (aCons (fun ρ => noErr (h__law_heard ((calF 1 m_read_paper (noE (aCons (vget 0) (fun _ => M.pure [])))) ρ))) (fun _ => M.pure []))) (gSet 2))
    (sSeq (sDrop (mth chkL appM (vget 2) (aCons (fun ρ => noErr (h__law_heard ((calK 1 [0] m_read_paper (aCons (vget 0) (fun _ => M.pure []))) ρ))) (fun _ => M.pure []))))
    (sSeq (sRet (b2 eqM (cal (on1 reprM) (aCons (vget 2) (fun _ => M.pure []))) (cal (on1 reprM) (aCons (mkL (aCons (vget 1) (aCons (vget 1) (fun _ => M.pure [])))) (fun _ => M.pure [])))))
    sNil))))
noncomputable def m__law_right : List D → M D := runM 3 b__law_right
theorem ok__law_right {c P1 : Addr} (T : Txt w K mg) (D : DefC K mg "_law_right" s__law_right ps__law_right c) (LA : LamAt K base mg c P1 ((("_law_right" : Str) ++ ".<locals>.") ++ "<lambda>")) (O__law_heard : OkHd P w K mg base "_law_heard" h__law_heard) (O_read_paper : OkAX P w K mg base 6 "read_paper" s_read_paper ps_read_paper m_read_paper) (O__law_read : OkAt P w K mg base 3 "_law_read" s__law_read ps__law_read m__law_read) : OkAtG P w K mg base 9 "_law_right" s__law_right ps__law_right m__law_right :=
  OkAtG.ofC (ms := b__law_right) (N := N__law_right) (n := 3) (k := 8) rfl D sc__law_right fun fa A outer s H E hgd hr =>
    (mss_cons (ms_set (i := 1) sc__law_right.nd rfl (Or.inl rfl) (me_callO O__law_read (hr.mono (by decide)) rfl rfl (ma_cons (me_of (pv 0)) ma_nil)))
    (mss_cons (ms_set (i := 2) sc__law_right.nd rfl (Or.inl rfl) (me_new (ma_cons (me_lam (k := 6) O__law_heard LA rfl (hr.mono (by decide)) rfl (lamS_of (st := s__law_right) rfl (by decide +kernel)) rfl (fun _ _ _ _ _ => rfl) (fun A outer s H E f c' hr tk => (me_callX O_read_paper tk (hr.mono (by decide)) rfl rfl (ma_noE (ma_cons (me_of (pv 0)) ma_nil))))) ma_nil)))
    (mss_cons (ms_expr (pe_imp (pe_bm PySem.F.plainAttrs_list PySem.F.slot_list_append PySem.F.type_list_append mt_append (me_of (pv 2)) (ma_cons (me_lam (k := 6) O__law_heard LA rfl (hr.mono (by decide)) rfl (lamS_of (st := s__law_right) rfl (by decide +kernel)) rfl (fun _ _ _ _ _ => rfl) (fun A outer s H E f c' hr tk => (me_callKX (π := [0]) (ks := ["text"]) O_read_paper tk (hr.mono (by decide)) rfl rfl (by simp) (fun _ _ _ _ _ _ ws hw => match ws, hw with | [_], _ => rfl) (mk_cons (me_of (pv 0)) mk_nil)))) ma_nil)) (fun _ _ _ h => mth_go chkL_ok appM_ok h)))
    (mss_cons (ms_ret (me_cmp (op_eqU hr.units) eqM_ok (me_callB (call_reprU hr hgd) reprM_ok rfl T.n_repr (by decide +kernel) (ma_cons (me_of (pv 2)) ma_nil)) (me_callB (call_reprU hr hgd) reprM_ok rfl T.n_repr (by decide +kernel) (ma_cons (me_lst (ma_cons (me_of (pv 1)) (ma_cons (me_of (pv 1)) ma_nil))) ma_nil)) (nomark _)))
    mss_nil))))
noncomputable abbrev s_law : Stmt := topS 49
noncomputable abbrev ps_law : List Str := ["_law_script"]
noncomputable abbrev N_law : List Str := ["_law_script", "_law_pen_here", "_law_turn", "_law_sheet", "_law_said", "_law_bent_here", "_law_one", "_law_texts", "_law_thing"]
theorem sc_law : FnScope N_law ps_law (defScope s_law) := ⟨rfl, rfl, rfl, by decide +kernel, rfl, by decide +kernel, by decide +kernel⟩
noncomputable def b_law : Env → M (Fl × Env) := (sSeq (sAsg (calF 1 m__law_pen (aCons (vget 0) (fun _ => M.pure []))) (gSet 1))
    (sSeq (sFor (len1 rngOf 1 (aCons (fun _ => M.pure (.int 14)) (fun _ => M.pure []))) (gSet 2) (sSeq (sAsg (calF 1 m__law_paper (aCons (vget 1) (fun _ => M.pure []))) (gSet 3))
    (sSeq (sAsg (calF 1 m__law_written (aCons (vget 3) (fun _ => M.pure []))) (gSet 4))
    (sSeq (sIf (tst (b2 neM (mkL (aCons (calF 1 m_write_paper (aCons (vget 3) (fun _ => M.pure []))) (aCons (calK 1 [0] m_write_paper (aCons (vget 3) (fun _ => M.pure []))) (fun _ => M.pure [])))) (mkL (aCons (vget 4) (aCons (vget 4) (fun _ => M.pure [])))))) (sSeq (sRet (fun _ => M.pure (.bl false)))
    sNil) sNil)
    (sSeq (sIf (tst (b2 neM (calF 1 m__law_read (aCons (vget 4) (fun _ => M.pure []))) (mkL (aCons (vget 3) (fun _ => M.pure []))))) (sSeq (sRet (fun _ => M.pure (.bl false)))
    sNil) sNil)
    (sSeq (sAsg (calF 2 m__law_bent (aCons (vget 1) (aCons (vget 4) (fun _ => M.pure [])))) (gSet 5))
    (sSeq (sFor (iSeq (mkL (aCons (vget 4) (aCons (vget 5) (aCons (calF 2 m__law_bent (aCons (vget 1) (aCons (vget 4) (fun _ => M.pure [])))) (aCons (calF 2 m__law_bent (aCons (vget 1) (aCons (vget 5) (fun _ => M.pure [])))) (fun _ => M.pure []))))))) (gSet 6) (sSeq (sIf (notT (tst (calF 1 m__law_right (aCons (vget 6) (fun _ => M.pure []))))) (sSeq (sRet (fun _ => M.pure (.bl false)))
    sNil) sNil)
    sNil))
    (sSeq (sAsg (calF 1 m__law_odd (aCons (vget 1) (fun _ => M.pure []))) (gSet 8))
    (sSeq (sIf (andT (notT (tst (b1 (isiM "str") (vget 8)))) (tst (b2 neM (fun ρ => noErr (h__law_heard ((calF 1 m_read_paper (noE (aCons (vget 8) (fun _ => M.pure [])))) ρ))) (mkT (aCons (fun _ => M.pure (.int 0)) (aCons (fun _ => M.pure (.int 0)) (fun _ => M.pure []))))))) (sSeq (sRet (fun _ => M.pure (.bl false)))
    sNil) sNil)
    sNil)))))))))
    (sSeq (sAsg (mkL (aCons (fun _ => M.pure (.str "")) (aCons (fun _ => M.pure (.str "-")) (aCons (fun _ => M.pure (.str "readers")) (aCons (fun _ => M.pure (.str "readers x")) (aCons (fun _ => M.pure (.str "range 0 1 2")) (aCons (fun _ => M.pure (.str "span 1")) (aCons (fun _ => M.pure (.str "word 1 2 3")) (aCons (fun _ => M.pure (.str "readers\napart 1\nstay 1 2")) (fun _ => M.pure [])))))))))) (gSet 7))
    (sSeq (sRet (b2 eqM (eLc (iSeq (vget 7)) (gSet 6) (notT (tst (calF 1 m__law_right (aCons (vget 6) (fun _ => M.pure []))))) (vget 6) [6]) (mkL (fun _ => M.pure []))))
    sNil))))
noncomputable def m_law : List D → M D := runM 9 b_law
theorem ok_law {c P1 : Addr} {cs : List (Addr × Addr)} (T : Txt w K mg) (D : DefC K mg "law" s_law ps_law c) (HO : ∀ base : Heap, K.In base → base.Ns mainGlobals mg → (∀ p ∈ cs, LamX.TabB base mg p.1 p.2) → LamAt K base mg c P1 ((("law" : Str) ++ ".<locals>.") ++ "<lambda>") ∧ OkAtG P w K mg base 9 "_law_right" s__law_right ps__law_right m__law_right ∧ OkHd P w K mg base "_law_heard" h__law_heard ∧ OkAX P w K mg base 6 "read_paper" s_read_paper ps_read_paper m_read_paper ∧ OkAt P w K mg base 3 "_law_odd" s__law_odd ps__law_odd m__law_odd ∧ OkAt P w K mg base 3 "_law_bent" s__law_bent ps__law_bent m__law_bent ∧ OkAt P w K mg base 3 "_law_read" s__law_read ps__law_read m__law_read ∧ OkAt P w K mg base 2 "write_paper" s_write_paper ps_write_paper m_write_paper ∧ OkAt P w K mg base 1 "_law_written" s__law_written ps__law_written m__law_written ∧ OkAt P w K mg base 4 "_law_paper" s__law_paper ps__law_paper m__law_paper ∧ OkAt P w K mg base 1 "_law_pen" s__law_pen ps__law_pen m__law_pen) : ∀ fa, mg "law" = some (.ref fa) → TopOk P w K mg cs fa "_law_script" (spM K 1 m_law) := by
  intro fa hfa
  obtain ⟨fa', oc, od, kV, doc, pm, an, ct, osl, lk, hcd, kp, hm, b⟩ := D.ex
  rw [hfa] at hm
  cases hm
  refine top_of (k := 9) ⟨rfl, by decide, by decide⟩ lk hcd sc_law (fun s v => .of_eq rfl) fun base s H v Q E hr kb gb tb h => ?_
  obtain ⟨LA, O__law_right, O__law_heard, O_read_paper, O__law_odd, O__law_bent, O__law_read, O_write_paper, O__law_written, O__law_paper, O__law_pen⟩ := HO base kb gb tb
  exact ⟨tMs K EK0 b_law, (mss_cons (ms_set (i := 1) sc_law.nd rfl (Or.inl rfl) (me_callO O__law_pen (hr.mono (by decide)) rfl rfl (ma_cons (me_of (pv 0)) ma_nil)))
    (mss_cons (ms_for PassesOwn.never rfl (mi_range1 rfl T.n_range (ma_cons me_int ma_nil)) (mg_name (i := 2) sc_law.nd rfl (Or.inl rfl)) (mss_cons (ms_set (i := 3) sc_law.nd rfl (Or.inl rfl) (me_callO O__law_paper (hr.mono (by decide)) rfl rfl (ma_cons (me_of (pv 1)) ma_nil)))
    (mss_cons (ms_set (i := 4) sc_law.nd rfl (Or.inl rfl) (me_callO O__law_written (hr.mono (by decide)) rfl rfl (ma_cons (me_of (pv 3)) ma_nil)))
    (mss_cons (ms_if (mt_cmp (op_neU hr.units) neM_ok (me_lst (ma_cons (me_callO O_write_paper (hr.mono (by decide)) rfl rfl (ma_cons (me_of (pv 3)) ma_nil)) (ma_cons (me_callKO (π := [0]) (ks := ["value"]) O_write_paper (hr.mono (by decide)) rfl rfl (by simp) (fun _ _ _ _ _ _ ws hw => match ws, hw with | [_], _ => rfl) (mk_cons (me_of (pv 3)) mk_nil)) ma_nil))) (me_lst (ma_cons (me_of (pv 4)) (ma_cons (me_of (pv 4)) ma_nil))) (nomark _)) (mss_cons (ms_ret me_bl)
    mss_nil) mss_nil)
    (mss_cons (ms_if (mt_cmp (op_neU hr.units) neM_ok (me_callO O__law_read (hr.mono (by decide)) rfl rfl (ma_cons (me_of (pv 4)) ma_nil)) (me_lst (ma_cons (me_of (pv 3)) ma_nil)) (nomark _)) (mss_cons (ms_ret me_bl)
    mss_nil) mss_nil)
    (mss_cons (ms_set (i := 5) sc_law.nd rfl (Or.inl rfl) (me_callO O__law_bent (hr.mono (by decide)) rfl rfl (ma_cons (me_of (pv 1)) (ma_cons (me_of (pv 4)) ma_nil))))
    (mss_cons (ms_for PassesOwn.never rfl (mi_seq (me_lst (ma_cons (me_of (pv 4)) (ma_cons (me_of (pv 5)) (ma_cons (me_callO O__law_bent (hr.mono (by decide)) rfl rfl (ma_cons (me_of (pv 1)) (ma_cons (me_of (pv 4)) ma_nil))) (ma_cons (me_callO O__law_bent (hr.mono (by decide)) rfl rfl (ma_cons (me_of (pv 1)) (ma_cons (me_of (pv 5)) ma_nil))) ma_nil)))))) (mg_name (i := 6) sc_law.nd rfl (Or.inl rfl)) (mss_cons (ms_if (mt_not (mt_val (me_callG O__law_right rfl (hr.mono (by decide)) rfl rfl (ma_cons (me_of (pv 6)) ma_nil)))) (mss_cons (ms_ret me_bl)
    mss_nil) mss_nil)
    mss_nil))
    (mss_cons (ms_set (i := 8) sc_law.nd rfl (Or.inr rfl) (me_callO O__law_odd (hr.mono (by decide)) rfl rfl (ma_cons (me_of (pv 1)) ma_nil)))
    (mss_cons (ms_if (PW.pt (mw_and (mt_not (mt_val (me_isi rfl T.n_isinstance (by decide +kernel) (me_of (pv 8)) (pe_bltn rfl T.n_str (by decide +kernel) rfl)))) (mw_and1 (mt_cmp (op_neU hr.units) neM_ok (me_lam (k := 6) O__law_heard LA rfl (hr.mono (by decide)) rfl (lamS_of (st := s_law) rfl (by decide +kernel)) rfl (fun _ _ _ _ _ => rfl) (fun A outer s H E f c' hr tk => (me_callX O_read_paper tk (hr.mono (by decide)) rfl rfl (ma_noE (ma_cons (me_of (pv 8)) ma_nil))))) (me_tup (ma_cons me_int (ma_cons me_int ma_nil))) (nomark _))))) (mss_cons (ms_ret me_bl)
    mss_nil) mss_nil)
    mss_nil)))))))))
    (mss_cons (ms_set (i := 7) sc_law.nd rfl (Or.inl rfl) (me_lst (ma_cons me_str (ma_cons me_str (ma_cons me_str (ma_cons me_str (ma_cons me_str (ma_cons me_str (ma_cons me_str (ma_cons me_str ma_nil))))))))))
    (mss_cons (ms_ret (me_cmp (op_eqU hr.units) eqM_ok (me_lc (own := [("_law_one", 6)]) rfl sc_law.nd (mi_seq (me_of (pv 7))) (blkOk_by (N := N_law) (sc := defScope s_law) (by decide +kernel)) (gw_name (i := 6) (by simp)) (fun _ _ _ _ _ => pg_name (i := 6) sc_law.nd rfl (Or.inl rfl)) (fun _ _ _ _ _ => (mts_one (mt_not (mt_val (me_callG O__law_right rfl (hr.mono (by decide)) rfl rfl (ma_cons (me_of (pv 6)) ma_nil)))))) (fun _ _ _ _ _ => (me_of (pv 6)))) (me_lst ma_nil) (nomark _)))
    mss_nil)))), body_go (N := N_law) (n := 1) h⟩
end
end Mi
namespace Mi
open PySem PySem.Spec PyProof.Rows L2
section
variable {cells : List Int} {T : Sto} {a r b cell : Int}
noncomputable def tailS : Env → M (Fl × Env) := (sSeq (sAsg (b2 modM (cal (on1 intM) (aCons (b2 powM (b2 addM (b2 addM (b2 modM (cal (on1 intM) (aCons (vget 4) (fun _ => M.pure []))) (fun _ => M.pure (.int 2147483579))) (b2 mulM (fun _ => M.pure (.int 20117)) (vget 3))) (fun _ => M.pure (.int 83))) (fun _ => M.pure (.int 5))) (fun _ => M.pure []))) (fun _ => M.pure (.int 2147483563))) (gSet 6))
    (sSeq (sAsg (b2 modM (cal (on1 intM) (aCons (b2 powM (b2 addM (b2 addM (b2 mulM (vget 6) (b2 addM (b2 mulM (fun _ => M.pure (.int 2)) (vget 3)) (fun _ => M.pure (.int 37)))) (b2 mulM (b2 mulM (fun _ => M.pure (.int 31013)) (vget 3)) (vget 3))) (fun _ => M.pure (.int 3))) (fun _ => M.pure (.int 3))) (fun _ => M.pure []))) (fun _ => M.pure (.int 2147483647))) (gSet 6))
    (sSeq (sRet (b2 modM (cal (on1 intM) (aCons (b2 fdivM (vget 6) (fun _ => M.pure (.int 32))) (fun _ => M.pure []))) (vget 1)))
    sNil)))
theorem tail_ok {S : Sto} {o2 o5 o6 : Option D} (ha : 0 ≤ a) (hA : a ≤ 100000) (h1 : 0 < b) (h2 : b < 1073741824) :
    Wp (tailS [some (.ref 0), some (.int b), o2, some (.int a), some (.int cell), o5, o6]) S fun r S' => S' = S ∧ ∃ z, r.1 = .rt (.int z) ∧ 0 ≤ z ∧ z < b := by
  have m1 : 0 ≤ cell % 2147483579 ∧ cell % 2147483579 < 2147483579 := ⟨Int.emod_nonneg _ (by decide), Int.emod_lt_of_pos _ (by decide)⟩
  have c1 : CMul 20117 a := cmul1 (by decide) (by decide)
  have c2 : CPow (cell % 2147483579 + 20117 * a + 83) 5 := cpow _ (by omega) (by omega) _ (by decide)
  have c4 : CMul 31013 a := cmul1 (by decide) (by decide)
  have c5 : CMul (31013 * a) a := cmul1 (by omega) (by omega)
  have m2 : ∀ k : Int, 0 ≤ k % 2147483563 ∧ k % 2147483563 < 2147483563 := fun k => ⟨Int.emod_nonneg _ (by decide), Int.emod_lt_of_pos _ (by decide)⟩
  have aa : 0 ≤ 31013 * a * a ∧ 31013 * a * a ≤ 310130000000000 := by
    have e1 : 0 ≤ 31013 * a := by omega
    have e2 : 31013 * a ≤ 3101300000 := by omega
    exact ⟨Int.mul_nonneg e1 ha, Int.le_trans (Int.mul_le_mul e2 hA ha (by decide)) (by decide)⟩
  have ma : ∀ k : Int, 0 ≤ k % 2147483563 * (2 * a + 37) ∧ k % 2147483563 * (2 * a + 37) ≤ 429576169291794 := fun k => by
    have := m2 k
    exact ⟨Int.mul_nonneg this.1 (by omega), Int.le_trans (Int.mul_le_mul (show k % 2147483563 ≤ 2147483562 by omega) (show 2 * a + 37 ≤ 200037 by omega) (by omega) (by decide)) (by decide)⟩
  have c6 : ∀ k : Int, CMul (k % 2147483563) (2 * a + 37) := fun k => cmul1 (by have := m2 k; omega) (by have := m2 k; omega)
  have c7 : ∀ k : Int, CPow (k % 2147483563 * (2 * a + 37) + 31013 * a * a + 3) 3 := fun k => cpow _ (by have := ma k; omega) (by have := ma k; omega) _ (by decide)
  have c8 : ∀ k : Int, CDiv k 32 := fun k => ⟨by decide, by decide⟩
  have c9 : CMul 2 a := cmul1 (by decide) (by decide)
  have d1 : (0 : Int) < 2147483579 := by decide
  have d2 : (0 : Int) < 2147483563 := by decide
  have d3 : (0 : Int) < 2147483647 := by decide
  unfold tailS
  simp only [orV, sDrop, ifV, metM_eq, metK_eq, wp_noE, gPutD, wp_lenDT, sSeq, sIf, sAsg, sRet, sNil, gSet, gPut, tst, b2, b1, cal, on1, aCons, vget, mkL, mkT, calF, andT, orT, notT, andV, notV, wp_bind, wp_pure, wp_if, List.map, List.length, List.replicate, List.append, List.cons_append, List.nil_append, Nat.reduceSub, Nat.reduceAdd, Nat.reduceLeDiff, List.getElem?_cons_zero, List.getElem?_cons_succ, List.set_cons_zero, List.set_cons_succ, wp_int, wp_intb, wp_int20, wp_toB, wp_add, wp_abs, wp_neg, wp_lenL, pen0, pen1, pen2, put1, put2, decide_true, decide_false, if_true, if_false, Bool.false_eq_true, Nat.zero_le, exists_eq_left, and_true, true_and, Bool.not_true, Bool.not_false, reduceCtorEq, reduceIte, dpen0, dpen1, dpen2, dput1, dput2, wp_lenDL, wp_ixLs, wp_mod d1, wp_mod d2, wp_mod d3, wp_mod h1, wp_int2 c1, wp_int2 c2, wp_int2 c4, wp_int2 c5, wp_int2 (c6 _), wp_int2 (c7 _), wp_int2 (c8 _), wp_int2 c9]
  exact ⟨_, rfl, Int.emod_nonneg _ (by omega), Int.emod_lt_of_pos _ h1⟩
theorem draw_eq : b__law_draw = (sSeq (sIf (tst (b2 gtM (b2 ixD (vget 0) (fun _ => M.pure (.int 2))) (fun _ => M.pure (.int 0)))) (sSeq (sAsg (b2 modM (cal (on1 intM) (aCons (b2 ixD (vget 0) (fun _ => M.pure (.int 2))) (fun _ => M.pure []))) (vget 1)) (gSet 2))
    (sSeq (sAsg (b2 fdivM (cal (on1 intM) (aCons (b2 ixD (vget 0) (fun _ => M.pure (.int 2))) (fun _ => M.pure []))) (vget 1)) (gPutD (vget 0) (fun _ => M.pure (.int 2))))
    (sSeq (sRet (vget 2))
    sNil))) sNil)
    (sSeq (sAsg (cal (on1 intM) (aCons (b2 ixD (vget 0) (fun _ => M.pure (.int 1))) (fun _ => M.pure []))) (gSet 3))
    (sSeq (sAsg (b2 addM (vget 3) (fun _ => M.pure (.int 1))) (gPutD (vget 0) (fun _ => M.pure (.int 1))))
    (sSeq (sAsg (b2 addM (b2 mulM (fun _ => M.pure (.int 50581)) (vget 3)) (fun _ => M.pure (.int 719))) (gSet 4))
    (sSeq (sIf (tst (b2 neM (b2 ixD (vget 0) (fun _ => M.pure (.int 0))) (mkL (fun _ => M.pure [])))) (sSeq (sAsg (cal (on1 intM) (aCons (b2 ixD (b2 ixD (vget 0) (fun _ => M.pure (.int 0))) (b2 modM (cal (on1 intM) (aCons (vget 3) (fun _ => M.pure []))) (cal (on1 lenD) (aCons (b2 ixD (vget 0) (fun _ => M.pure (.int 0))) (fun _ => M.pure []))))) (fun _ => M.pure []))) (gSet 4))
    sNil) sNil)
    (sSeq (sIf (andT (tst (b2 ltM (vget 3) (cal (on1 lenD) (aCons (b2 ixD (vget 0) (fun _ => M.pure (.int 0))) (fun _ => M.pure []))))) (tst (b2 geM (cal (on1 absM) (aCons (vget 4) (fun _ => M.pure []))) (b2 powM (fun _ => M.pure (.int 10)) (fun _ => M.pure (.int 18)))))) (sSeq (sAsg (b2 addM (b2 mulM (fun _ => M.pure (.int 2)) (b2 subM (cal (on1 absM) (aCons (vget 4) (fun _ => M.pure []))) (b2 powM (fun _ => M.pure (.int 10)) (fun _ => M.pure (.int 18))))) (cal (on1 intM) (aCons (b2 ltM (vget 4) (fun _ => M.pure (.int 0))) (fun _ => M.pure [])))) (gSet 5))
    (sSeq (sAsg (b2 fdivM (vget 5) (vget 1)) (gPutD (vget 0) (fun _ => M.pure (.int 2))))
    (sSeq (sRet (b2 modM (cal (on1 intM) (aCons (vget 5) (fun _ => M.pure []))) (vget 1)))
    sNil))) sNil)
    tailS)))))) := rfl
theorem draw_ok {A : Int} {S : Sto} (hc : cells.length ≤ 63) (hA : A ≤ 100000) (hp : Pen cells T A S) (h1 : 0 < b) (h2 : b < 1073741824) :
    Wp (m__law_draw [.ref 0, .int b]) S fun v S' => ∃ z : Int, v = .int z ∧ 0 ≤ z ∧ z < b ∧ Pen cells T (A + 1) S' := by
  obtain ⟨a, r, ha, haA, rfl⟩ := hp
  unfold m__law_draw
  rw [draw_eq]
  refine wp_run ?_
  have d1 : ∀ k : Int, CDiv k b := fun k => ⟨h1, h2⟩
  have fin : ∀ (r' : Int) (S' : Sto), S' = penS cells a r' T ∨ S' = penS cells (a + 1) r' T → Pen cells T (A + 1) S' := fun r' S' h => by
    rcases h with rfl | rfl
    · exact ⟨a, r', ha, by omega, rfl⟩
    · exact ⟨a + 1, r', by omega, by omega, rfl⟩
  have TL : ∀ {cell : Int} {o2 o5 o6 : Option D}, Wp (tailS [some (.ref 0), some (.int b), o2, some (.int a), some (.int cell), o5, o6]) (penS cells (a + 1) r T) (fun r S' => ∃ d, r.1 = .rt d ∧ ∃ z : Int, d = .int z ∧ 0 ≤ z ∧ z < b ∧ Pen cells T (A + 1) S') := by
    intro cell o2 o5 o6
    refine (tail_ok ha (by omega) h1 h2).mono ?_
    rintro ⟨f, ρ⟩ S' ⟨rfl, z, e, h3, h4⟩
    exact ⟨_, e, z, rfl, h3, h4, fin _ _ (.inr rfl)⟩
  by_cases hr : 0 < r
  · simp only [orV, sDrop, ifV, metM_eq, metK_eq, wp_noE, gPutD, wp_lenDT, sSeq, sIf, sAsg, sRet, sNil, gSet, gPut, tst, b2, b1, cal, on1, aCons, vget, mkL, mkT, calF, andT, orT, notT, andV, notV, wp_bind, wp_pure, wp_if, List.map, List.length, List.replicate, List.append, List.cons_append, List.nil_append, Nat.reduceSub, Nat.reduceAdd, Nat.reduceLeDiff, List.getElem?_cons_zero, List.getElem?_cons_succ, List.set_cons_zero, List.set_cons_succ, wp_int, wp_intb, wp_int20, wp_toB, wp_add, wp_abs, wp_neg, wp_lenL, pen0, pen1, pen2, put1, put2, decide_true, decide_false, if_true, if_false, Bool.false_eq_true, Nat.zero_le, exists_eq_left, and_true, true_and, Bool.not_true, Bool.not_false, reduceCtorEq, reduceIte, dpen0, dpen1, dpen2, dput1, dput2, wp_lenDL, wp_ixLs, wp_mod h1, wp_int2 (d1 _), hr]
    exact ⟨_, rfl, _, rfl, Int.emod_nonneg _ (by omega), Int.emod_lt_of_pos _ h1, fin _ _ (.inl rfl)⟩
  simp only [orV, sDrop, ifV, metM_eq, metK_eq, wp_noE, gPutD, wp_lenDT, sSeq, sIf, sAsg, sRet, sNil, gSet, gPut, tst, b2, b1, cal, on1, aCons, vget, mkL, mkT, calF, andT, orT, notT, andV, notV, wp_bind, wp_pure, wp_if, List.map, List.length, List.replicate, List.append, List.cons_append, List.nil_append, Nat.reduceSub, Nat.reduceAdd, Nat.reduceLeDiff, List.getElem?_cons_zero, List.getElem?_cons_succ, List.set_cons_zero, List.set_cons_succ, wp_int, wp_intb, wp_int20, wp_toB, wp_add, wp_abs, wp_neg, wp_lenL, pen0, pen1, pen2, put1, put2, decide_true, decide_false, if_true, if_false, Bool.false_eq_true, Nat.zero_le, exists_eq_left, and_true, true_and, Bool.not_true, Bool.not_false, reduceCtorEq, reduceIte, dpen0, dpen1, dpen2, dput1, dput2, wp_lenDL, wp_ixLs, hr]
  rw [wp_int2 (cmul1 (by decide) (by decide))]
  rcases Nat.eq_zero_or_pos cells.length with hz | hz
  · cases List.length_eq_zero_iff.1 hz
    have hl : ¬ a < 0 := by omega
    simp only [orV, sDrop, ifV, metM_eq, metK_eq, wp_noE, gPutD, wp_lenDT, sSeq, sIf, sAsg, sRet, sNil, gSet, gPut, tst, b2, b1, cal, on1, aCons, vget, mkL, mkT, calF, andT, orT, notT, andV, notV, wp_bind, wp_pure, wp_if, List.map, List.length, List.replicate, List.append, List.cons_append, List.nil_append, Nat.reduceSub, Nat.reduceAdd, Nat.reduceLeDiff, List.getElem?_cons_zero, List.getElem?_cons_succ, List.set_cons_zero, List.set_cons_succ, wp_int, wp_intb, wp_int20, wp_toB, wp_add, wp_abs, wp_neg, wp_lenL, pen0, pen1, pen2, put1, put2, decide_true, decide_false, if_true, if_false, Bool.false_eq_true, Nat.zero_le, exists_eq_left, and_true, true_and, Bool.not_true, Bool.not_false, reduceCtorEq, reduceIte, dpen0, dpen1, dpen2, dput1, dput2, wp_lenDL, wp_ixLs, wp_neNil0, List.length_nil, Int.ofNat_zero, Int.cast_ofNat_Int, hl]
    exact TL
  · have hl0 : ¬ (cells.map D.int).length = 0 := by rw [List.length_map]; omega
    have hm : 0 ≤ a % (cells.length : Int) ∧ a % (cells.length : Int) < cells.length := ⟨Int.emod_nonneg _ (by omega), Int.emod_lt_of_pos _ (by omega)⟩
    obtain ⟨k, hk⟩ : ∃ k : Nat, a % (cells.length : Int) = k := ⟨(a % (cells.length : Int)).toNat, by omega⟩
    have hk2 : k < cells.length := by omega
    obtain ⟨c, hcell⟩ : ∃ c, (cells.map D.int)[k]? = some (.int c) := ⟨_, map_at hk2⟩
    have hpos : (0 : Int) < (cells.length : Int) := by omega
    simp only [orV, sDrop, ifV, metM_eq, metK_eq, wp_noE, gPutD, wp_lenDT, sSeq, sIf, sAsg, sRet, sNil, gSet, gPut, tst, b2, b1, cal, on1, aCons, vget, mkL, mkT, calF, andT, orT, notT, andV, notV, wp_bind, wp_pure, wp_if, List.map, List.length, List.replicate, List.append, List.cons_append, List.nil_append, Nat.reduceSub, Nat.reduceAdd, Nat.reduceLeDiff, List.getElem?_cons_zero, List.getElem?_cons_succ, List.set_cons_zero, List.set_cons_succ, wp_int, wp_intb, wp_int20, wp_toB, wp_add, wp_abs, wp_neg, wp_lenL, pen0, pen1, pen2, put1, put2, decide_true, decide_false, if_true, if_false, Bool.false_eq_true, Nat.zero_le, exists_eq_left, and_true, true_and, Bool.not_true, Bool.not_false, reduceCtorEq, reduceIte, dpen0, dpen1, dpen2, dput1, dput2, wp_lenDL, wp_ixLs, wp_neNil hl0, List.length_map, wp_mod hpos, hk, wp_ixL hcell]
    by_cases h3 : a < (cells.length : Int)
    · simp only [orV, sDrop, ifV, metM_eq, metK_eq, wp_noE, gPutD, wp_lenDT, sSeq, sIf, sAsg, sRet, sNil, gSet, gPut, tst, b2, b1, cal, on1, aCons, vget, mkL, mkT, calF, andT, orT, notT, andV, notV, wp_bind, wp_pure, wp_if, List.map, List.length, List.replicate, List.append, List.cons_append, List.nil_append, Nat.reduceSub, Nat.reduceAdd, Nat.reduceLeDiff, List.getElem?_cons_zero, List.getElem?_cons_succ, List.set_cons_zero, List.set_cons_succ, wp_int, wp_intb, wp_int20, wp_toB, wp_add, wp_abs, wp_neg, wp_lenL, pen0, pen1, pen2, put1, put2, decide_true, decide_false, if_true, if_false, Bool.false_eq_true, Nat.zero_le, exists_eq_left, and_true, true_and, Bool.not_true, Bool.not_false, reduceCtorEq, reduceIte, dpen0, dpen1, dpen2, dput1, dput2, wp_lenDL, wp_ixLs, h3, wp_int2 cpow18, pow18]
      by_cases h4 : (1000000000000000000 : Int) ≤ (if c < 0 then -c else c)
      · simp only [orV, sDrop, ifV, metM_eq, metK_eq, wp_noE, gPutD, wp_lenDT, sSeq, sIf, sAsg, sRet, sNil, gSet, gPut, tst, b2, b1, cal, on1, aCons, vget, mkL, mkT, calF, andT, orT, notT, andV, notV, wp_bind, wp_pure, wp_if, List.map, List.length, List.replicate, List.append, List.cons_append, List.nil_append, Nat.reduceSub, Nat.reduceAdd, Nat.reduceLeDiff, List.getElem?_cons_zero, List.getElem?_cons_succ, List.set_cons_zero, List.set_cons_succ, wp_int, wp_intb, wp_int20, wp_toB, wp_add, wp_abs, wp_neg, wp_lenL, pen0, pen1, pen2, put1, put2, decide_true, decide_false, if_true, if_false, Bool.false_eq_true, Nat.zero_le, exists_eq_left, and_true, true_and, Bool.not_true, Bool.not_false, reduceCtorEq, reduceIte, dpen0, dpen1, dpen2, dput1, dput2, wp_lenDL, wp_ixLs, h4, wp_int2 cpow18, pow18]
        rw [wp_int2 (cmul1 (by decide) (by decide))]
        simp only [orV, sDrop, ifV, metM_eq, metK_eq, wp_noE, gPutD, wp_lenDT, sSeq, sIf, sAsg, sRet, sNil, gSet, gPut, tst, b2, b1, cal, on1, aCons, vget, mkL, mkT, calF, andT, orT, notT, andV, notV, wp_bind, wp_pure, wp_if, List.map, List.length, List.replicate, List.append, List.cons_append, List.nil_append, Nat.reduceSub, Nat.reduceAdd, Nat.reduceLeDiff, List.getElem?_cons_zero, List.getElem?_cons_succ, List.set_cons_zero, List.set_cons_succ, wp_int, wp_intb, wp_int20, wp_toB, wp_add, wp_abs, wp_neg, wp_lenL, pen0, pen1, pen2, put1, put2, decide_true, decide_false, if_true, if_false, Bool.false_eq_true, Nat.zero_le, exists_eq_left, and_true, true_and, Bool.not_true, Bool.not_false, reduceCtorEq, reduceIte, dpen0, dpen1, dpen2, dput1, dput2, wp_lenDL, wp_ixLs, wp_int2 (d1 _), wp_mod h1]
        exact ⟨_, rfl, _, rfl, Int.emod_nonneg _ (by omega), Int.emod_lt_of_pos _ h1, fin _ _ (.inr rfl)⟩
      · simp only [orV, sDrop, ifV, metM_eq, metK_eq, wp_noE, gPutD, wp_lenDT, sSeq, sIf, sAsg, sRet, sNil, gSet, gPut, tst, b2, b1, cal, on1, aCons, vget, mkL, mkT, calF, andT, orT, notT, andV, notV, wp_bind, wp_pure, wp_if, List.map, List.length, List.replicate, List.append, List.cons_append, List.nil_append, Nat.reduceSub, Nat.reduceAdd, Nat.reduceLeDiff, List.getElem?_cons_zero, List.getElem?_cons_succ, List.set_cons_zero, List.set_cons_succ, wp_int, wp_intb, wp_int20, wp_toB, wp_add, wp_abs, wp_neg, wp_lenL, pen0, pen1, pen2, put1, put2, decide_true, decide_false, if_true, if_false, Bool.false_eq_true, Nat.zero_le, exists_eq_left, and_true, true_and, Bool.not_true, Bool.not_false, reduceCtorEq, reduceIte, dpen0, dpen1, dpen2, dput1, dput2, wp_lenDL, wp_ixLs, h4]
        exact TL
    · simp only [orV, sDrop, ifV, metM_eq, metK_eq, wp_noE, gPutD, wp_lenDT, sSeq, sIf, sAsg, sRet, sNil, gSet, gPut, tst, b2, b1, cal, on1, aCons, vget, mkL, mkT, calF, andT, orT, notT, andV, notV, wp_bind, wp_pure, wp_if, List.map, List.length, List.replicate, List.append, List.cons_append, List.nil_append, Nat.reduceSub, Nat.reduceAdd, Nat.reduceLeDiff, List.getElem?_cons_zero, List.getElem?_cons_succ, List.set_cons_zero, List.set_cons_succ, wp_int, wp_intb, wp_int20, wp_toB, wp_add, wp_abs, wp_neg, wp_lenL, pen0, pen1, pen2, put1, put2, decide_true, decide_false, if_true, if_false, Bool.false_eq_true, Nat.zero_le, exists_eq_left, and_true, true_and, Bool.not_true, Bool.not_false, reduceCtorEq, reduceIte, dpen0, dpen1, dpen2, dput1, dput2, wp_lenDL, wp_ixLs, h3]
      exact TL
end
end Mi
namespace Mi
open PySem PySem.Spec PyProof.Rows L2
noncomputable def PenB (cells : List Int) (A : Int) (S : Sto) : Prop := ∃ T, Pen cells T A S
structure Out0 (S S' : Sto) : Prop where
  len : S'.length = S.length
  at' : ∀ i, 1 ≤ i → S'[i]? = S[i]?
theorem Out0.refl (S : Sto) : Out0 S S := ⟨rfl, fun _ _ => rfl⟩
theorem Out0.trans {S1 S2 S3 : Sto} (x : Out0 S1 S2) (y : Out0 S2 S3) : Out0 S1 S3 := ⟨y.len.trans x.len, fun i h => (y.at' i h).trans (x.at' i h)⟩
section
variable {S : Sto} {Q : D → Sto → Prop} {cells : List Int} {A : Int}
theorem PenB.mono {B : Int} (h : PenB cells A S) (l : A ≤ B) : PenB cells B S := let ⟨T, x⟩ := h; ⟨T, x.mono l⟩
theorem draw_okB {c : Int} (hc : cells.length ≤ 63) (hA : A ≤ 100000) (hp : PenB cells A S) (h1 : 0 < c) (h2 : c < 1073741824) :
    Wp (m__law_draw [.ref 0, .int c]) S fun v S' => ∃ z : Nat, v = .int (z : Int) ∧ (z : Int) < c ∧ PenB cells (A + 1) S' ∧ Out0 S S' := by
  obtain ⟨T, hp⟩ := hp
  obtain ⟨a0, r0, e0⟩ : ∃ a r, S = penS cells a r T := by obtain ⟨a, r, _, _, e⟩ := hp; exact ⟨a, r, e⟩
  refine (draw_ok hc hA hp h1 h2).mono ?_
  rintro v S' ⟨z, rfl, g0, g1, hp'⟩
  obtain ⟨a1, r1, e1⟩ : ∃ a r, S' = penS cells a r T := by obtain ⟨a, r, _, _, e⟩ := hp'; exact ⟨a, r, e⟩
  refine ⟨z.toNat, by rw [Int.toNat_of_nonneg g0], by rw [Int.toNat_of_nonneg g0]; exact g1, ⟨T, hp'⟩, ?_⟩
  subst e0 e1
  refine ⟨rfl, fun i hi => ?_⟩
  obtain ⟨j, rfl⟩ : ∃ j, i = j + 1 := ⟨i - 1, by omega⟩
  rfl
theorem pick_ok {ds : List D} (hc : cells.length ≤ 63) (hA : A ≤ 100000) (hp : PenB cells A S) (h1 : 0 < ds.length) (h2 : ds.length < 1073741824) :
    Wp (m__law_pick [.ref 0, .lst ds]) S fun v S' => v ∈ ds ∧ PenB cells (A + 1) S' ∧ Out0 S S' := by
  unfold m__law_pick
  refine wp_run ?_
  unfold b__law_pick
  simp only [orV, sDrop, ifV, metM_eq, metK_eq, wp_noE, gPutD, wp_lenDT, sSeq, sIf, sAsg, sRet, sNil, gSet, gPut, tst, b2, b1, cal, on1, aCons, vget, mkL, mkT, calF, andT, orT, notT, andV, notV, wp_bind, wp_pure, wp_if, List.map, List.length, List.replicate, List.append, List.cons_append, List.nil_append, Nat.reduceSub, Nat.reduceAdd, Nat.reduceLeDiff, List.getElem?_cons_zero, List.getElem?_cons_succ, List.set_cons_zero, List.set_cons_succ, wp_int, wp_intb, wp_int20, wp_toB, wp_add, wp_abs, wp_neg, wp_lenL, pen0, pen1, pen2, put1, put2, decide_true, decide_false, if_true, if_false, Bool.false_eq_true, Nat.zero_le, exists_eq_left, and_true, true_and, Bool.not_true, Bool.not_false, reduceCtorEq, reduceIte, wp_lenDL]
  refine (draw_okB hc hA hp (c := (ds.length : Int)) (by omega) (by omega)).mono ?_
  rintro v S' ⟨z, rfl, g, hp', o⟩
  have hz : z < ds.length := by omega
  simp only [orV, sDrop, ifV, metM_eq, metK_eq, wp_noE, gPutD, wp_lenDT, sSeq, sIf, sAsg, sRet, sNil, gSet, gPut, tst, b2, b1, cal, on1, aCons, vget, mkL, mkT, calF, andT, orT, notT, andV, notV, wp_bind, wp_pure, wp_if, List.map, List.length, List.replicate, List.append, List.cons_append, List.nil_append, Nat.reduceSub, Nat.reduceAdd, Nat.reduceLeDiff, List.getElem?_cons_zero, List.getElem?_cons_succ, List.set_cons_zero, List.set_cons_succ, wp_int, wp_intb, wp_int20, wp_toB, wp_add, wp_abs, wp_neg, wp_lenL, pen0, pen1, pen2, put1, put2, decide_true, decide_false, if_true, if_false, Bool.false_eq_true, Nat.zero_le, exists_eq_left, and_true, true_and, Bool.not_true, Bool.not_false, reduceCtorEq, reduceIte, wp_ixLs]
  rw [wp_ixL (List.getElem?_eq_getElem hz)]
  exact ⟨_, rfl, List.getElem_mem hz, hp', o⟩
end
end Mi
namespace Mi
open PySem PySem.Spec PyProof.Rows L2
noncomputable def LET : Str := "abcdefghijklmnopqrstuvwxyz"
noncomputable def ALN : Str := "abcdefghijklmnopqrstuvwxyz" ++ "0123456789"
/-- an int from lo to hi -/
noncomputable def betw (lo hi : Int) : D → Bool
  | .int i => decide (lo ≤ i) && decide (i ≤ hi)
  | _ => false
/-- all that is asked of parts -/
structure partV (v : D) : Prop where
  ok : okV v
  it : ∀ ds, v = .tup ds → ds.length ≤ 50000 ∧ ∀ d ∈ ds, nrB d = true
theorem partV.nr {v : D} (g : partV v) : nrB v = true := g.ok.1
section
variable {S : Sto} {v : D} {Q : D → Sto → Prop}
theorem wp_cII {g : Int → Int → Bool} {i j : Int} : Wp (cmpW g (.int i) (.int j)) S Q ↔ Q (.bl (g i j)) S := wp_of rfl
theorem number_okB (g : nrB v = true) : m_is_number [v] S = some (.ok (.bl (betw 1 999999 v)), S) := by
  cases v with
  | int i =>
    refine eq_of_wp ?_
    unfold m_is_number
    refine wp_run ?_
    unfold b_is_number
    simp only [orV, sDrop, ifV, metM_eq, metK_eq, wp_noE, gPutD, wp_lenDT, sSeq, sIf, sAsg, sRet, sNil, gSet, gPut, tst, b2, b1, cal, on1, aCons, vget, mkL, mkT, calF, andT, orT, notT, andV, notV, wp_bind, wp_pure, wp_if, List.map, List.length, List.replicate, List.append, List.cons_append, List.nil_append, Nat.reduceSub, Nat.reduceAdd, Nat.reduceLeDiff, List.getElem?_cons_zero, List.getElem?_cons_succ, List.set_cons_zero, List.set_cons_succ, wp_int, wp_intb, wp_int20, wp_toB, wp_add, wp_abs, wp_neg, wp_lenL, pen0, pen1, pen2, put1, put2, decide_true, decide_false, if_true, if_false, Bool.false_eq_true, Nat.zero_le, exists_eq_left, and_true, true_and, Bool.not_true, Bool.not_false, reduceCtorEq, reduceIte, chn, wp_cII, isi_intI, isi_intB]
    have e : decide (i ≤ 999999) = decide (i ≤ 999999) := decide_eq_decide.2 (by omega)
    by_cases h1 : (1 : Int) ≤ i <;> by_cases h2 : i ≤ 999999 <;> simp [orV, sDrop, ifV, metM_eq, metK_eq, wp_noE, gPutD, wp_lenDT, sSeq, sIf, sAsg, sRet, sNil, gSet, gPut, tst, b2, b1, cal, on1, aCons, vget, mkL, mkT, calF, andT, orT, notT, andV, notV, wp_bind, wp_pure, wp_if, List.map, List.length, List.replicate, List.append, List.cons_append, List.nil_append, Nat.reduceSub, Nat.reduceAdd, Nat.reduceLeDiff, List.getElem?_cons_zero, List.getElem?_cons_succ, List.set_cons_zero, List.set_cons_succ, wp_int, wp_intb, wp_int20, wp_toB, wp_add, wp_abs, wp_neg, wp_lenL, pen0, pen1, pen2, put1, put2, decide_true, decide_false, if_true, if_false, Bool.false_eq_true, Nat.zero_le, exists_eq_left, and_true, true_and, Bool.not_true, Bool.not_false, reduceCtorEq, reduceIte, h1, h2, isi_intB, betw, e]
  | bl b => cases b <;> rfl
  | ref n => cases g
  | lsr ds => cases g
  | exc c fs => cases g
  | _ => rfl
theorem view_ok (g : nrB v = true) : m_is_view [v] S = some (.ok (.bl (betw 0 999999 v)), S) := by
  cases v with
  | int i =>
    refine eq_of_wp ?_
    unfold m_is_view
    refine wp_run ?_
    unfold b_is_view
    simp only [orV, sDrop, ifV, metM_eq, metK_eq, wp_noE, gPutD, wp_lenDT, sSeq, sIf, sAsg, sRet, sNil, gSet, gPut, tst, b2, b1, cal, on1, aCons, vget, mkL, mkT, calF, andT, orT, notT, andV, notV, wp_bind, wp_pure, wp_if, List.map, List.length, List.replicate, List.append, List.cons_append, List.nil_append, Nat.reduceSub, Nat.reduceAdd, Nat.reduceLeDiff, List.getElem?_cons_zero, List.getElem?_cons_succ, List.set_cons_zero, List.set_cons_succ, wp_int, wp_intb, wp_int20, wp_toB, wp_add, wp_abs, wp_neg, wp_lenL, pen0, pen1, pen2, put1, put2, decide_true, decide_false, if_true, if_false, Bool.false_eq_true, Nat.zero_le, exists_eq_left, and_true, true_and, Bool.not_true, Bool.not_false, reduceCtorEq, reduceIte, chn, wp_cII, isi_intI, isi_intB]
    have e : decide (i ≤ 999999) = decide (i ≤ 999999) := decide_eq_decide.2 (by omega)
    by_cases h1 : (0 : Int) ≤ i <;> by_cases h2 : i ≤ 999999 <;> simp [orV, sDrop, ifV, metM_eq, metK_eq, wp_noE, gPutD, wp_lenDT, sSeq, sIf, sAsg, sRet, sNil, gSet, gPut, tst, b2, b1, cal, on1, aCons, vget, mkL, mkT, calF, andT, orT, notT, andV, notV, wp_bind, wp_pure, wp_if, List.map, List.length, List.replicate, List.append, List.cons_append, List.nil_append, Nat.reduceSub, Nat.reduceAdd, Nat.reduceLeDiff, List.getElem?_cons_zero, List.getElem?_cons_succ, List.set_cons_zero, List.set_cons_succ, wp_int, wp_intb, wp_int20, wp_toB, wp_add, wp_abs, wp_neg, wp_lenL, pen0, pen1, pen2, put1, put2, decide_true, decide_false, if_true, if_false, Bool.false_eq_true, Nat.zero_le, exists_eq_left, and_true, true_and, Bool.not_true, Bool.not_false, reduceCtorEq, reduceIte, h1, h2, isi_intB, betw, e]
  | bl b => cases b <;> rfl
  | ref n => cases g
  | lsr ds => cases g
  | exc c fs => cases g
  | _ => rfl
theorem wp_eqS {x y : Str} (hx : PyData.strOk x = true) (hy : PyData.strOk y = true) : Wp (eqM (.str x) (.str y)) S Q ↔ Q (.bl (x == y)) S := wp_of (by
  have h : lenDiff S (.str x) (.str y) = false := rfl
  simp [eqB, h, deS, toPy, shS hx, shS hy, PyData.eqv])
noncomputable def slotsB : D → Bool
  | .tup ds => ds.all (betw 0 7) && match intsOf ds with
    | some ns => ascB ns
    | none => false
  | _ => false
theorem eqNN {x z : Str} (hx : PyData.strOk x = true) (hz : PyData.strOk z = true) : Wp (eqM (.str x) (.str z)) S Q ↔ Q (.bl (x == z)) S := eqSS hx hz
theorem any_map {α : Type} (f : α → Bool) {ys : List α} : Wp (anyM (.lst (ys.map fun y => D.bl (f y)))) S Q ↔ Q (.bl (ys.any f)) S := wp_of (by
  simp only [anyM, asR, asC, bls_map]
  simp [List.any_map])
noncomputable def intsD : D → List Int
  | .tup ds => (intsOf ds).getD []
  | _ => []
/-- a kind of slots, behind the part before it -/
noncomputable def slotsK (kind : Str) (p q : D) : Bool := slotsB p && !(kind == "tidied" && (intsD p).isEmpty) && !(kind == "marked" && (intsD p).any fun i => decide (i ∈ intsD q))
/-- one part behind the part before it -/
noncomputable def ltB : D → D → Bool
  | .int i, .int j => decide (i < j)
  | _, _ => false
noncomputable def fitK (kind : Str) (p q : D) : Bool :=
  if kind = "number" then betw 1 999999 p
  else if kind = "outer" then isNon p || (betw 1 999999 p && ltB p q)
  else if kind = "page" ∨ kind = "slot" then betw 0 7 p
  else if kind = "key" then wordB LET p
  else if kind = "value" then wordB ALN p
  else if kind = "view" then betw 0 999999 p
  else if kind = "told" then isNon p || betw 0 999999 p
  else slotsK kind p q
noncomputable def KINDS : List Str := ["number", "outer", "page", "slot", "key", "value", "view", "told", "removed", "marked", "tidied"]
theorem kind_ok : ∀ k ∈ KINDS, PyData.strOk k = true := by decide +kernel
theorem inSSM {x a b : Str} : Wp (inM (.str x) (.tup [.str a, .str b])) S Q ↔ Q (.bl (x == a || x == b)) S := wp_of (by
  have e2 : L2.inV (.str x) [.str a, .str b] = (x == a || x == b) := by
    unfold L2.inV
    simp [L2.eqV]
    rw [show (a == x) = (x == a) from BEq.comm, show (b == x) = (x == b) from BEq.comm]
  simp [inB, flatD, flatL, asQ, e2, L2.flatV])
end
theorem lookup_map {α β : Type} {f : α → β} {x : Str} : ∀ {l : List (Str × α)}, (l.map fun p => (p.1, f p.2)).lookup x = (l.lookup x).map f
  | [] => rfl
  | (k, v) :: l => by
    simp only [List.map_cons, List.lookup]
    cases x == k
    · exact lookup_map
    · rfl
end Mi
namespace Mi
open PySem PySem.Spec PyProof.Rows L2
theorem kk_number : (("number" : Str) == "number") = true ∧ (("number" : Str) == "outer") = false ∧ (("number" : Str) == "page") = false ∧ (("number" : Str) == "slot") = false ∧ (("number" : Str) == "key") = false ∧ (("number" : Str) == "value") = false ∧ (("number" : Str) == "view") = false ∧ (("number" : Str) == "told") = false ∧ (("number" : Str) == "removed") = false ∧ (("number" : Str) == "marked") = false ∧ (("number" : Str) == "tidied") = false := by decide +kernel
theorem kk_view : (("view" : Str) == "number") = false ∧ (("view" : Str) == "outer") = false ∧ (("view" : Str) == "page") = false ∧ (("view" : Str) == "slot") = false ∧ (("view" : Str) == "key") = false ∧ (("view" : Str) == "value") = false ∧ (("view" : Str) == "view") = true ∧ (("view" : Str) == "told") = false ∧ (("view" : Str) == "removed") = false ∧ (("view" : Str) == "marked") = false ∧ (("view" : Str) == "tidied") = false := by decide +kernel
theorem kn_view : ¬ (("view" : Str) = "number") ∧ ¬ (("view" : Str) = "outer") ∧ ¬ (("view" : Str) = "page") ∧ ¬ (("view" : Str) = "slot") ∧ ¬ (("view" : Str) = "key") ∧ ¬ (("view" : Str) = "value") ∧ ¬ (("view" : Str) = "told") ∧ ¬ (("view" : Str) = "removed") ∧ ¬ (("view" : Str) = "marked") ∧ ¬ (("view" : Str) = "tidied") := by decide +kernel
theorem kinds_mem : ("number" : Str) ∈ KINDS ∧ ("outer" : Str) ∈ KINDS ∧ ("page" : Str) ∈ KINDS ∧ ("slot" : Str) ∈ KINDS ∧ ("key" : Str) ∈ KINDS ∧ ("value" : Str) ∈ KINDS ∧ ("view" : Str) ∈ KINDS ∧ ("told" : Str) ∈ KINDS ∧ ("removed" : Str) ∈ KINDS ∧ ("marked" : Str) ∈ KINDS ∧ ("tidied" : Str) ∈ KINDS := by decide +kernel
section
variable {S : Sto} {p q : D} {Q : D → Sto → Prop}
theorem wp_eqK {x z : Str} (hx : x ∈ KINDS) (hz : z ∈ KINDS) : Wp (eqM (.str x) (.str z)) S Q ↔ Q (.bl (x == z)) S := eqNN (kind_ok x hx) (kind_ok z hz)
theorem inSSD {x a b : Str} : Wp (inD false (.str x) (.tup [.str a, .str b])) S Q ↔ Q (.bl (x == a || x == b)) S := inSSM
theorem fit_number (gp : partV p) : m_part_fits [.str "number", p, q] S = some (.ok (.bl (fitK "number" p q)), S) := by
  refine eq_of_wp ?_
  unfold m_part_fits
  refine wp_run ?_
  unfold b_part_fits
  obtain ⟨k1, k2, k3, k4, k5, k6, k7, k8, k9, k10, k11⟩ := kinds_mem
  have eK : ∀ z, z ∈ KINDS → ∀ {Q : D → Sto → Prop}, Wp (eqM (.str "number") (.str z)) S Q ↔ Q (.bl (("number" : Str) == z)) S := fun z hz {Q} => wp_eqK k1 hz
  simp only [orV, sDrop, ifV, metM_eq, metK_eq, wp_noE, gPutD, wp_lenDT, sSeq, sIf, sAsg, sRet, sNil, gSet, gPut, tst, b2, b1, cal, on1, aCons, vget, mkL, mkT, calF, andT, orT, notT, andV, notV, wp_bind, wp_pure, wp_if, List.map, List.length, List.replicate, List.append, List.cons_append, List.nil_append, Nat.reduceSub, Nat.reduceAdd, Nat.reduceLeDiff, List.getElem?_cons_zero, List.getElem?_cons_succ, List.set_cons_zero, List.set_cons_succ, wp_int, wp_intb, wp_int20, wp_toB, wp_add, wp_abs, wp_neg, wp_lenL, pen0, pen1, pen2, put1, put2, decide_true, decide_false, if_true, if_false, Bool.false_eq_true, Nat.zero_le, exists_eq_left, and_true, true_and, Bool.not_true, Bool.not_false, reduceCtorEq, reduceIte, eK _ k1, eK _ k5, eK _ k6, eK _ k2, eK _ k7, eK _ k8, eK _ k11, inSSD, Bool.or_false, Bool.false_or, Bool.or_true, Bool.true_or, kk_number]
  simp [orV, sDrop, ifV, metM_eq, metK_eq, wp_noE, gPutD, wp_lenDT, sSeq, sIf, sAsg, sRet, sNil, gSet, gPut, tst, b2, b1, cal, on1, aCons, vget, mkL, mkT, calF, andT, orT, notT, andV, notV, wp_bind, wp_pure, wp_if, List.map, List.length, List.replicate, List.append, List.cons_append, List.nil_append, Nat.reduceSub, Nat.reduceAdd, Nat.reduceLeDiff, List.getElem?_cons_zero, List.getElem?_cons_succ, List.set_cons_zero, List.set_cons_succ, wp_int, wp_intb, wp_int20, wp_toB, wp_add, wp_abs, wp_neg, wp_lenL, pen0, pen1, pen2, put1, put2, decide_true, decide_false, if_true, if_false, Bool.false_eq_true, Nat.zero_le, exists_eq_left, and_true, true_and, Bool.not_true, Bool.not_false, reduceCtorEq, reduceIte, wp_of (number_okB gp.nr), fitK]
theorem fit_view (gp : partV p) : m_part_fits [.str "view", p, q] S = some (.ok (.bl (fitK "view" p q)), S) := by
  refine eq_of_wp ?_
  unfold m_part_fits
  refine wp_run ?_
  unfold b_part_fits
  obtain ⟨k1, k2, k3, k4, k5, k6, k7, k8, k9, k10, k11⟩ := kinds_mem
  have eK : ∀ z, z ∈ KINDS → ∀ {Q : D → Sto → Prop}, Wp (eqM (.str "view") (.str z)) S Q ↔ Q (.bl (("view" : Str) == z)) S := fun z hz {Q} => wp_eqK k7 hz
  simp only [orV, sDrop, ifV, metM_eq, metK_eq, wp_noE, gPutD, wp_lenDT, sSeq, sIf, sAsg, sRet, sNil, gSet, gPut, tst, b2, b1, cal, on1, aCons, vget, mkL, mkT, calF, andT, orT, notT, andV, notV, wp_bind, wp_pure, wp_if, List.map, List.length, List.replicate, List.append, List.cons_append, List.nil_append, Nat.reduceSub, Nat.reduceAdd, Nat.reduceLeDiff, List.getElem?_cons_zero, List.getElem?_cons_succ, List.set_cons_zero, List.set_cons_succ, wp_int, wp_intb, wp_int20, wp_toB, wp_add, wp_abs, wp_neg, wp_lenL, pen0, pen1, pen2, put1, put2, decide_true, decide_false, if_true, if_false, Bool.false_eq_true, Nat.zero_le, exists_eq_left, and_true, true_and, Bool.not_true, Bool.not_false, reduceCtorEq, reduceIte, eK _ k1, eK _ k5, eK _ k6, eK _ k2, eK _ k7, eK _ k8, eK _ k11, inSSD, Bool.or_false, Bool.false_or, Bool.or_true, Bool.true_or, kk_view]
  simp [orV, sDrop, ifV, metM_eq, metK_eq, wp_noE, gPutD, wp_lenDT, sSeq, sIf, sAsg, sRet, sNil, gSet, gPut, tst, b2, b1, cal, on1, aCons, vget, mkL, mkT, calF, andT, orT, notT, andV, notV, wp_bind, wp_pure, wp_if, List.map, List.length, List.replicate, List.append, List.cons_append, List.nil_append, Nat.reduceSub, Nat.reduceAdd, Nat.reduceLeDiff, List.getElem?_cons_zero, List.getElem?_cons_succ, List.set_cons_zero, List.set_cons_succ, wp_int, wp_intb, wp_int20, wp_toB, wp_add, wp_abs, wp_neg, wp_lenL, pen0, pen1, pen2, put1, put2, decide_true, decide_false, if_true, if_false, Bool.false_eq_true, Nat.zero_le, exists_eq_left, and_true, true_and, Bool.not_true, Bool.not_false, reduceCtorEq, reduceIte, wp_of (view_ok gp.nr), fitK, kn_view]
end
end Mi
namespace Mi
open PySem PySem.Spec PyProof.Rows L2
noncomputable def DIG : Str := "0123456789"
theorem dig_mem (c : Nat) : decide (c ∈ DIG.cps.toList) = (decide (48 ≤ c) && decide (c ≤ 57)) := by
  have h : DIG.cps.toList = [48, 49, 50, 51, 52, 53, 54, 55, 56, 57] := by decide +kernel
  rw [h, Bool.eq_iff_iff]
  simp only [List.mem_cons, List.not_mem_nil, decide_eq_true_eq, Bool.and_eq_true, or_false]
  omega
/-- a text of small signs, not long -/
structure WT (w : Str) : Prop where
  sm : Small w
  ln : w.length ≤ 20000
theorem WT.ok {w : Str} (h : WT w) : PyData.strOk w = true := small_ok h.sm
theorem WT.l5 {w : Str} (h : WT w) : w.length ≤ 100000 := Nat.le_trans h.ln (by decide)
noncomputable def digB (w : Str) : Bool := w.cps.toList.all fun c => decide (c ∈ DIG.cps.toList)
noncomputable def canB (w : Str) : Bool := decide (1 ≤ w.length) && (decide (w.length ≤ 6) && (digB w && !(decide (1 < w.length) && (w.cps.toList.head? == some 48))))
noncomputable def cval (w : Str) : Nat := NumText.digitsVal w.cps.toList
noncomputable def cint (w : Str) : Option Nat := if canB w = true then some (cval w) else none
theorem digs {w : Str} (h : digB w = true) : NumText.AllDigits w.cps.toList := fun c hc => by
  have := List.all_eq_true.1 h c hc
  rw [dig_mem] at this
  simpa using this
theorem int_cval {w : Str} (h : canB w = true) : intText? w = some ((cval w : Nat) : Int) := by
  unfold canB at h
  simp only [Bool.and_eq_true, decide_eq_true_eq] at h
  refine intText_digits (digs h.2.2.1) ?_ (by omega)
  intro e
  have : w.length = 0 := by show w.cps.size = 0; rw [← Array.length_toList, e]; rfl
  omega
theorem wp_intW {S : Sto} {Q : D → Sto → Prop} {w : Str} (h : canB w = true) : Wp (intT (.str w)) S Q ↔ Q (.int ((cval w : Nat) : Int)) S := wp_of (by
  have hl : w.length ≤ 640 := by
    unfold canB at h
    simp only [Bool.and_eq_true, decide_eq_true_eq] at h
    omega
  simp [intT, int_cval h, hl]
  rfl)
section
variable {S : Sto} {w : Str} {Q : D → Sto → Prop}
theorem zero_ok : PyData.strOk ("0" : Str) = true := by decide +kernel
theorem len_w (w : Str) : w.cps.toList.length = w.length := Array.length_toList
theorem one_eq {c d : Nat} : ((⟨#[c]⟩ : Str) == ⟨#[d]⟩) = (c == d) := by
  rw [Bool.eq_iff_iff]
  simp
theorem sgn_ok {c : Nat} (h : c < 128) : PyData.strOk (⟨#[c]⟩ : Str) = true := small_ok fun d hd => by simp at hd; omega
theorem zero_is : ("0" : Str) = ⟨#[48]⟩ := by decide +kernel
theorem ix_first {c : Nat} {r : List Nat} (h : w.cps.toList = c :: r) (hw : WT w) : Wp (ixD (.str w) (.int 0)) S Q ↔ Q (sgn c) S := wp_of (by
  have hl := hw.l5
  show ixM (.str w) (.int 0) S = _
  have e : L2.atI (c :: r) 0 = some c := by simp [L2.atI, L2.ixN]
  simp [ixM, h, e, hl])
theorem rd_eq : b_read_integer = (sSeq (sIf (orT (notT (tst (chn leM leM (fun _ => M.pure (.int 1)) (cal (on1 lenD) (aCons (vget 0) (fun _ => M.pure []))) (fun _ => M.pure (.int 6))))) (tst (cal (on1 anyM) (aCons (eLc (iSeq (vget 0)) (gSet 1) (fun _ => M.pure true) (b2 (inD true) (vget 1) (fun _ => M.pure (.str DIG))) [1]) (fun _ => M.pure []))))) (sSeq (sRet (vget 0))
    sNil) sNil)
    (sSeq (sIf (andT (tst (b2 eqM (b2 ixD (vget 0) (fun _ => M.pure (.int 0))) (fun _ => M.pure (.str "0")))) (tst (b2 neM (vget 0) (fun _ => M.pure (.str "0"))))) (sSeq (sRet (vget 0))
    sNil) sNil)
    (sSeq (sRet (cal (on1 intT) (aCons (vget 0) (fun _ => M.pure []))))
    sNil))) := rfl
noncomputable def rdI (w : Str) : D := match cint w with
  | some n => .int (n : Int)
  | none => .str w
theorem any_nin {w : Str} : (w.cps.toList.any fun c => !decide (c ∈ DIG.cps.toList)) = !digB w := by
  unfold digB
  rw [List.all_eq_not_any_not]
  simp
theorem read_int_ok (hw : WT w) : m_read_integer [.str w] S = some (.ok (rdI w), S) := by
  refine eq_of_wp ?_
  unfold m_read_integer
  refine wp_run ?_
  rw [rd_eq]
  have hl := hw.ln
  have hl5 : (w.cps.toList.map sgn).length ≤ 100000 := by rw [List.length_map, len_w]; exact hw.l5
  by_cases h1 : 1 ≤ w.length
  · by_cases h2 : w.length ≤ 6
    · have i1 : (1 : Int) ≤ (w.length : Int) := by omega
      have i2 : (w.length : Int) ≤ 6 := by omega
      obtain ⟨c, r, hcr⟩ : ∃ c r, w.cps.toList = c :: r := by
        cases h : w.cps.toList with
        | nil => have := len_w w; rw [h] at this; simp at this; omega
        | cons c r => exact ⟨c, r, rfl⟩
      have hc : c < 128 := hw.sm c (by rw [hcr]; simp)
      have lr : w.length = r.length + 1 := by rw [← len_w, hcr]; rfl
      have e0 : (w == ("0" : Str)) = (decide (w.length ≤ 1) && c == 48) := by
        rw [zero_is, Bool.eq_iff_iff]
        simp only [beq_iff_eq, Bool.and_eq_true, decide_eq_true_eq]
        constructor
        · rintro rfl
          simp at hcr
          exact ⟨by decide, hcr.1.symm⟩
        · rintro ⟨a1, rfl⟩
          have : r = [] := List.length_eq_zero_iff.1 (by omega)
          subst this
          exact TL.ext_tl hcr
      have hl6 : (w.cps.toList.map sgn).length ≤ 50000 := by rw [List.length_map, len_w]; omega
      simp only [orV, sDrop, ifV, metM_eq, metK_eq, wp_noE, gPutD, wp_lenDT, sSeq, sIf, sAsg, sRet, sNil, gSet, gPut, tst, b2, b1, cal, on1, aCons, vget, mkL, mkT, calF, andT, orT, notT, andV, notV, wp_bind, wp_pure, wp_if, List.map, List.length, List.replicate, List.append, List.cons_append, List.nil_append, Nat.reduceSub, Nat.reduceAdd, Nat.reduceLeDiff, List.getElem?_cons_zero, List.getElem?_cons_succ, List.set_cons_zero, List.set_cons_succ, wp_int, wp_intb, wp_int20, wp_toB, wp_add, wp_abs, wp_neg, wp_lenL, pen0, pen1, pen2, put1, put2, decide_true, decide_false, if_true, if_false, Bool.false_eq_true, Nat.zero_le, exists_eq_left, and_true, true_and, Bool.not_true, Bool.not_false, reduceCtorEq, reduceIte, chn, wp_lenDS hw.l5, i1, i2, iSeq, eLc, itemsOf, hl6]
      rw [wp_lc (g := sgn) (f := fun c => D.bl (!decide (c ∈ DIG.cps.toList))) (p := fun _ => true)]
      · rw [List.filter_eq_self.2 (fun _ _ => rfl)]
        simp only [orV, sDrop, ifV, metM_eq, metK_eq, wp_noE, gPutD, wp_lenDT, sSeq, sIf, sAsg, sRet, sNil, gSet, gPut, tst, b2, b1, cal, on1, aCons, vget, mkL, mkT, calF, andT, orT, notT, andV, notV, wp_bind, wp_pure, wp_if, List.map, List.length, List.replicate, List.append, List.cons_append, List.nil_append, Nat.reduceSub, Nat.reduceAdd, Nat.reduceLeDiff, List.getElem?_cons_zero, List.getElem?_cons_succ, List.set_cons_zero, List.set_cons_succ, wp_int, wp_intb, wp_int20, wp_toB, wp_add, wp_abs, wp_neg, wp_lenL, pen0, pen1, pen2, put1, put2, decide_true, decide_false, if_true, if_false, Bool.false_eq_true, Nat.zero_le, exists_eq_left, and_true, true_and, Bool.not_true, Bool.not_false, reduceCtorEq, reduceIte, any_map, any_nin]
        cases hd : digB w
        · simp [rdI, cint, canB, hd]
        · simp only [orV, sDrop, ifV, metM_eq, metK_eq, wp_noE, gPutD, wp_lenDT, sSeq, sIf, sAsg, sRet, sNil, gSet, gPut, tst, b2, b1, cal, on1, aCons, vget, mkL, mkT, calF, andT, orT, notT, andV, notV, wp_bind, wp_pure, wp_if, List.map, List.length, List.replicate, List.append, List.cons_append, List.nil_append, Nat.reduceSub, Nat.reduceAdd, Nat.reduceLeDiff, List.getElem?_cons_zero, List.getElem?_cons_succ, List.set_cons_zero, List.set_cons_succ, wp_int, wp_intb, wp_int20, wp_toB, wp_add, wp_abs, wp_neg, wp_lenL, pen0, pen1, pen2, put1, put2, decide_true, decide_false, if_true, if_false, Bool.false_eq_true, Nat.zero_le, exists_eq_left, and_true, true_and, Bool.not_true, Bool.not_false, reduceCtorEq, reduceIte, ix_first hcr hw, wp_eqS (sgn_ok hc) zero_ok, neSS hw.ok zero_ok, sgn]
          rw [zero_is, one_eq, ← zero_is, e0]
          have hh : w.cps.toList.head? = some c := by rw [hcr]; rfl
          by_cases hz : c = 48
          · subst hz
            by_cases h3 : w.length ≤ 1
            · have cb : canB w = true := by simp [canB, h1, h2, hd, hh]; omega
              simp only [orV, sDrop, ifV, metM_eq, metK_eq, wp_noE, gPutD, wp_lenDT, sSeq, sIf, sAsg, sRet, sNil, gSet, gPut, tst, b2, b1, cal, on1, aCons, vget, mkL, mkT, calF, andT, orT, notT, andV, notV, wp_bind, wp_pure, wp_if, List.map, List.length, List.replicate, List.append, List.cons_append, List.nil_append, Nat.reduceSub, Nat.reduceAdd, Nat.reduceLeDiff, List.getElem?_cons_zero, List.getElem?_cons_succ, List.set_cons_zero, List.set_cons_succ, wp_int, wp_intb, wp_int20, wp_toB, wp_add, wp_abs, wp_neg, wp_lenL, pen0, pen1, pen2, put1, put2, decide_true, decide_false, if_true, if_false, Bool.false_eq_true, Nat.zero_le, exists_eq_left, and_true, true_and, Bool.not_true, Bool.not_false, reduceCtorEq, reduceIte, h3, wp_intW cb, Bool.and_self, beq_self_eq_true]
              simp [rdI, cint, cb]
            · have h4 : 1 < w.length := by omega
              have cb : canB w = false := by simp [canB, h1, h2, hd, hh, h4]
              simp [h3, rdI, cint, cb]
          · have cb : canB w = true := by simp [canB, h1, h2, hd, hh, hz]
            have hz' : (c == 48) = false := by simpa using hz
            simp only [orV, sDrop, ifV, metM_eq, metK_eq, wp_noE, gPutD, wp_lenDT, sSeq, sIf, sAsg, sRet, sNil, gSet, gPut, tst, b2, b1, cal, on1, aCons, vget, mkL, mkT, calF, andT, orT, notT, andV, notV, wp_bind, wp_pure, wp_if, List.map, List.length, List.replicate, List.append, List.cons_append, List.nil_append, Nat.reduceSub, Nat.reduceAdd, Nat.reduceLeDiff, List.getElem?_cons_zero, List.getElem?_cons_succ, List.set_cons_zero, List.set_cons_succ, wp_int, wp_intb, wp_int20, wp_toB, wp_add, wp_abs, wp_neg, wp_lenL, pen0, pen1, pen2, put1, put2, decide_true, decide_false, if_true, if_false, Bool.false_eq_true, Nat.zero_le, exists_eq_left, and_true, true_and, Bool.not_true, Bool.not_false, reduceCtorEq, reduceIte, hz', wp_intW cb]
            simp [rdI, cint, cb]
      · intro y _; rfl
      · intro y _ _
        rfl
    · have i1 : (1 : Int) ≤ (w.length : Int) := by omega
      have i2 : ¬ (w.length : Int) ≤ 6 := by omega
      simp [orV, sDrop, ifV, metM_eq, metK_eq, wp_noE, gPutD, wp_lenDT, sSeq, sIf, sAsg, sRet, sNil, gSet, gPut, tst, b2, b1, cal, on1, aCons, vget, mkL, mkT, calF, andT, orT, notT, andV, notV, wp_bind, wp_pure, wp_if, List.map, List.length, List.replicate, List.append, List.cons_append, List.nil_append, Nat.reduceSub, Nat.reduceAdd, Nat.reduceLeDiff, List.getElem?_cons_zero, List.getElem?_cons_succ, List.set_cons_zero, List.set_cons_succ, wp_int, wp_intb, wp_int20, wp_toB, wp_add, wp_abs, wp_neg, wp_lenL, pen0, pen1, pen2, put1, put2, decide_true, decide_false, if_true, if_false, Bool.false_eq_true, Nat.zero_le, exists_eq_left, and_true, true_and, Bool.not_true, Bool.not_false, reduceCtorEq, reduceIte, chn, wp_lenDS hw.l5, i1, i2, rdI, cint, canB, h2]
  · have i1 : ¬ (1 : Int) ≤ (w.length : Int) := by omega
    simp [orV, sDrop, ifV, metM_eq, metK_eq, wp_noE, gPutD, wp_lenDT, sSeq, sIf, sAsg, sRet, sNil, gSet, gPut, tst, b2, b1, cal, on1, aCons, vget, mkL, mkT, calF, andT, orT, notT, andV, notV, wp_bind, wp_pure, wp_if, List.map, List.length, List.replicate, List.append, List.cons_append, List.nil_append, Nat.reduceSub, Nat.reduceAdd, Nat.reduceLeDiff, List.getElem?_cons_zero, List.getElem?_cons_succ, List.set_cons_zero, List.set_cons_succ, wp_int, wp_intb, wp_int20, wp_toB, wp_add, wp_abs, wp_neg, wp_lenL, pen0, pen1, pen2, put1, put2, decide_true, decide_false, if_true, if_false, Bool.false_eq_true, Nat.zero_le, exists_eq_left, and_true, true_and, Bool.not_true, Bool.not_false, reduceCtorEq, reduceIte, chn, wp_lenDS hw.l5, i1, rdI, cint, canB, h1]
end
end Mi
namespace Mi
open PySem PySem.Spec PyProof.Rows L2
section
variable {S : Sto} {w : Str} {Q : D → Sto → Prop}
theorem li_eq : b__law_integer = (sSeq (sAsg (eLc (iSeq (vget 0)) (gSet 2) (tst (b2 (inD true) (vget 2) (fun _ => M.pure (.str DIG)))) (vget 2) [2]) (gSet 1))
    (sSeq (sIf (orT (notT (tst (chn ltM ltM (fun _ => M.pure (.int 0)) (cal (on1 lenD) (aCons (vget 0) (fun _ => M.pure []))) (fun _ => M.pure (.int 7))))) (tst (b2 neM (vget 1) (mkL (fun _ => M.pure []))))) (sSeq (sRet (b1 negM (fun _ => M.pure (.int 1))))
    sNil) sNil)
    (sSeq (sRet (ifV (andT (tst (b2 gtM (cal (on1 lenD) (aCons (vget 0) (fun _ => M.pure []))) (fun _ => M.pure (.int 1)))) (tst (b2 eqM (b2 ixD (vget 0) (fun _ => M.pure (.int 0))) (fun _ => M.pure (.str "0"))))) (b1 negM (fun _ => M.pure (.int 1))) (cal (on1 intT) (aCons (vget 0) (fun _ => M.pure [])))))
    sNil))) := rfl
noncomputable def lwI (w : Str) : Int := match cint w with
  | some n => (n : Int)
  | none => -1
theorem law_int_ok (hw : WT w) : m__law_integer [.str w] S = some (.ok (.int (lwI w)), S) := by
  refine eq_of_wp ?_
  unfold m__law_integer
  refine wp_run ?_
  rw [li_eq]
  have hl6 : (w.cps.toList.map sgn).length ≤ 50000 := by rw [List.length_map, len_w]; have := hw.ln; omega
  simp only [orV, sDrop, ifV, metM_eq, metK_eq, wp_noE, gPutD, wp_lenDT, sSeq, sIf, sAsg, sRet, sNil, gSet, gPut, tst, b2, b1, cal, on1, aCons, vget, mkL, mkT, calF, andT, orT, notT, andV, notV, wp_bind, wp_pure, wp_if, List.map, List.length, List.replicate, List.append, List.cons_append, List.nil_append, Nat.reduceSub, Nat.reduceAdd, Nat.reduceLeDiff, List.getElem?_cons_zero, List.getElem?_cons_succ, List.set_cons_zero, List.set_cons_succ, wp_int, wp_intb, wp_int20, wp_toB, wp_add, wp_abs, wp_neg, wp_lenL, pen0, pen1, pen2, put1, put2, decide_true, decide_false, if_true, if_false, Bool.false_eq_true, Nat.zero_le, exists_eq_left, and_true, true_and, Bool.not_true, Bool.not_false, reduceCtorEq, reduceIte, iSeq, eLc, itemsOf, hl6]
  rw [wp_lc (g := sgn) (f := sgn) (p := fun c => !decide (c ∈ DIG.cps.toList))]
  · cases hd : digB w
    · have hf : ((w.cps.toList.filter fun c => !decide (c ∈ DIG.cps.toList)).map sgn).length ≠ 0 := by
        rw [List.length_map]
        intro e
        have := List.length_eq_zero_iff.1 e
        have h2 : (w.cps.toList.any fun c => !decide (c ∈ DIG.cps.toList)) = true := by rw [any_nin, hd]; rfl
        obtain ⟨c, hc, hd'⟩ := List.any_eq_true.1 h2
        have : c ∈ ([] : List Nat) := this ▸ List.mem_filter.2 ⟨hc, hd'⟩
        cases this
      simp only [orV, sDrop, ifV, metM_eq, metK_eq, wp_noE, gPutD, wp_lenDT, sSeq, sIf, sAsg, sRet, sNil, gSet, gPut, tst, b2, b1, cal, on1, aCons, vget, mkL, mkT, calF, andT, orT, notT, andV, notV, wp_bind, wp_pure, wp_if, List.map, List.length, List.replicate, List.append, List.cons_append, List.nil_append, Nat.reduceSub, Nat.reduceAdd, Nat.reduceLeDiff, List.getElem?_cons_zero, List.getElem?_cons_succ, List.set_cons_zero, List.set_cons_succ, wp_int, wp_intb, wp_int20, wp_toB, wp_add, wp_abs, wp_neg, wp_lenL, pen0, pen1, pen2, put1, put2, decide_true, decide_false, if_true, if_false, Bool.false_eq_true, Nat.zero_le, exists_eq_left, and_true, true_and, Bool.not_true, Bool.not_false, reduceCtorEq, reduceIte, wp_neNil hf, chn, wp_lenDS hw.l5]
      have e : lwI w = -1 := by simp [lwI, cint, canB, hd]
      rw [e]
      split
      · split <;> exact ⟨_, rfl, rfl⟩
      · exact ⟨_, rfl, rfl⟩
    · have hf : (w.cps.toList.filter fun c => !decide (c ∈ DIG.cps.toList)) = [] := List.filter_eq_nil_iff.2 fun c hc => by
        have h2 : (w.cps.toList.any fun c => !decide (c ∈ DIG.cps.toList)) = false := by rw [any_nin, hd]; rfl
        have := List.any_eq_false.1 h2 c hc
        simpa using this
      rw [hf]
      simp only [orV, sDrop, ifV, metM_eq, metK_eq, wp_noE, gPutD, wp_lenDT, sSeq, sIf, sAsg, sRet, sNil, gSet, gPut, tst, b2, b1, cal, on1, aCons, vget, mkL, mkT, calF, andT, orT, notT, andV, notV, wp_bind, wp_pure, wp_if, List.map, List.length, List.replicate, List.append, List.cons_append, List.nil_append, Nat.reduceSub, Nat.reduceAdd, Nat.reduceLeDiff, List.getElem?_cons_zero, List.getElem?_cons_succ, List.set_cons_zero, List.set_cons_succ, wp_int, wp_intb, wp_int20, wp_toB, wp_add, wp_abs, wp_neg, wp_lenL, pen0, pen1, pen2, put1, put2, decide_true, decide_false, if_true, if_false, Bool.false_eq_true, Nat.zero_le, exists_eq_left, and_true, true_and, Bool.not_true, Bool.not_false, reduceCtorEq, reduceIte, wp_neNil0, chn, wp_lenDS hw.l5]
      by_cases h1 : 1 ≤ w.length
      · by_cases h2 : w.length ≤ 6
        · have i1 : (0 : Int) < (w.length : Int) := by omega
          have i2 : (w.length : Int) < 7 := by omega
          simp only [orV, sDrop, ifV, metM_eq, metK_eq, wp_noE, gPutD, wp_lenDT, sSeq, sIf, sAsg, sRet, sNil, gSet, gPut, tst, b2, b1, cal, on1, aCons, vget, mkL, mkT, calF, andT, orT, notT, andV, notV, wp_bind, wp_pure, wp_if, List.map, List.length, List.replicate, List.append, List.cons_append, List.nil_append, Nat.reduceSub, Nat.reduceAdd, Nat.reduceLeDiff, List.getElem?_cons_zero, List.getElem?_cons_succ, List.set_cons_zero, List.set_cons_succ, wp_int, wp_intb, wp_int20, wp_toB, wp_add, wp_abs, wp_neg, wp_lenL, pen0, pen1, pen2, put1, put2, decide_true, decide_false, if_true, if_false, Bool.false_eq_true, Nat.zero_le, exists_eq_left, and_true, true_and, Bool.not_true, Bool.not_false, reduceCtorEq, reduceIte, i1, i2]
          obtain ⟨c, r, hcr⟩ : ∃ c r, w.cps.toList = c :: r := by
            cases h : w.cps.toList with
            | nil => have := len_w w; rw [h] at this; simp at this; omega
            | cons c r => exact ⟨c, r, rfl⟩
          have hc : c < 128 := hw.sm c (by rw [hcr]; simp)
          have hh : w.cps.toList.head? = some c := by rw [hcr]; rfl
          by_cases h3 : 1 < w.length
          · have i3 : (1 : Int) < (w.length : Int) := by omega
            simp only [orV, sDrop, ifV, metM_eq, metK_eq, wp_noE, gPutD, wp_lenDT, sSeq, sIf, sAsg, sRet, sNil, gSet, gPut, tst, b2, b1, cal, on1, aCons, vget, mkL, mkT, calF, andT, orT, notT, andV, notV, wp_bind, wp_pure, wp_if, List.map, List.length, List.replicate, List.append, List.cons_append, List.nil_append, Nat.reduceSub, Nat.reduceAdd, Nat.reduceLeDiff, List.getElem?_cons_zero, List.getElem?_cons_succ, List.set_cons_zero, List.set_cons_succ, wp_int, wp_intb, wp_int20, wp_toB, wp_add, wp_abs, wp_neg, wp_lenL, pen0, pen1, pen2, put1, put2, decide_true, decide_false, if_true, if_false, Bool.false_eq_true, Nat.zero_le, exists_eq_left, and_true, true_and, Bool.not_true, Bool.not_false, reduceCtorEq, reduceIte, i3, ix_first hcr hw, sgn, wp_eqS (sgn_ok hc) zero_ok]
            rw [zero_is, one_eq]
            by_cases hz : c = 48
            · subst hz
              have cb : canB w = false := by simp [canB, h1, h2, hd, hh, h3]
              simp [lwI, cint, cb]
            · have hz' : (c == 48) = false := by simpa using hz
              have cb : canB w = true := by simp [canB, h1, h2, hd, hh, hz]
              simp only [orV, sDrop, ifV, metM_eq, metK_eq, wp_noE, gPutD, wp_lenDT, sSeq, sIf, sAsg, sRet, sNil, gSet, gPut, tst, b2, b1, cal, on1, aCons, vget, mkL, mkT, calF, andT, orT, notT, andV, notV, wp_bind, wp_pure, wp_if, List.map, List.length, List.replicate, List.append, List.cons_append, List.nil_append, Nat.reduceSub, Nat.reduceAdd, Nat.reduceLeDiff, List.getElem?_cons_zero, List.getElem?_cons_succ, List.set_cons_zero, List.set_cons_succ, wp_int, wp_intb, wp_int20, wp_toB, wp_add, wp_abs, wp_neg, wp_lenL, pen0, pen1, pen2, put1, put2, decide_true, decide_false, if_true, if_false, Bool.false_eq_true, Nat.zero_le, exists_eq_left, and_true, true_and, Bool.not_true, Bool.not_false, reduceCtorEq, reduceIte, hz', wp_intW cb]
              simp [lwI, cint, cb]
          · have i3 : ¬ (1 : Int) < (w.length : Int) := by omega
            have cb : canB w = true := by simp [canB, h1, h2, hd, h3]
            simp only [orV, sDrop, ifV, metM_eq, metK_eq, wp_noE, gPutD, wp_lenDT, sSeq, sIf, sAsg, sRet, sNil, gSet, gPut, tst, b2, b1, cal, on1, aCons, vget, mkL, mkT, calF, andT, orT, notT, andV, notV, wp_bind, wp_pure, wp_if, List.map, List.length, List.replicate, List.append, List.cons_append, List.nil_append, Nat.reduceSub, Nat.reduceAdd, Nat.reduceLeDiff, List.getElem?_cons_zero, List.getElem?_cons_succ, List.set_cons_zero, List.set_cons_succ, wp_int, wp_intb, wp_int20, wp_toB, wp_add, wp_abs, wp_neg, wp_lenL, pen0, pen1, pen2, put1, put2, decide_true, decide_false, if_true, if_false, Bool.false_eq_true, Nat.zero_le, exists_eq_left, and_true, true_and, Bool.not_true, Bool.not_false, reduceCtorEq, reduceIte, i3, wp_intW cb]
            simp [lwI, cint, cb]
        · have i1 : (0 : Int) < (w.length : Int) := by omega
          have i2 : ¬ (w.length : Int) < 7 := by omega
          have cb : canB w = false := by simp [canB, h2]
          simp [i1, i2, lwI, cint, cb]
      · have i1 : ¬ (0 : Int) < (w.length : Int) := by omega
        have cb : canB w = false := by simp [canB, h1]
        simp only [orV, sDrop, ifV, metM_eq, metK_eq, wp_noE, gPutD, wp_lenDT, sSeq, sIf, sAsg, sRet, sNil, gSet, gPut, tst, b2, b1, cal, on1, aCons, vget, mkL, mkT, calF, andT, orT, notT, andV, notV, wp_bind, wp_pure, wp_if, List.map, List.length, List.replicate, List.append, List.cons_append, List.nil_append, Nat.reduceSub, Nat.reduceAdd, Nat.reduceLeDiff, List.getElem?_cons_zero, List.getElem?_cons_succ, List.set_cons_zero, List.set_cons_succ, wp_int, wp_intb, wp_int20, wp_toB, wp_add, wp_abs, wp_neg, wp_lenL, pen0, pen1, pen2, put1, put2, decide_true, decide_false, if_true, if_false, Bool.false_eq_true, Nat.zero_le, exists_eq_left, and_true, true_and, Bool.not_true, Bool.not_false, reduceCtorEq, reduceIte, i1]
        simp [lwI, cint, cb]
  · intro y _; rfl
  · intro y _ _
    rfl
end
end Mi
namespace Mi
open PySem PySem.Spec PyProof.Rows L2
noncomputable def SPC : Str := " "
theorem spc_is : SPC = ⟨#[32]⟩ := by decide +kernel
theorem join_mem {y : Str} : ∀ (ps : List Str) (p : Str), p ∈ ps → ∀ c ∈ p.cps.toList, c ∈ (Str.join y ps).cps.toList
  | [x], p, hp, c, hc => by
    simp at hp
    subst hp
    exact hc
  | x :: z :: r, p, hp, c, hc => by
    show c ∈ ((x.cps ++ y.cps) ++ (Str.join y (z :: r)).cps).toList
    rw [Array.toList_append, Array.toList_append]
    rcases List.mem_cons.1 hp with rfl | hp
    · exact List.mem_append.2 (.inl (List.mem_append.2 (.inl hc)))
    · exact List.mem_append.2 (.inr (join_mem (z :: r) p hp c hc))
theorem piece_ok {x y : Str} (h : WT x) {p : Str} (hp : p ∈ Txt.split x y) : WT p :=
  ⟨fun c hc => h.sm c (by have := join_mem (y := y) _ p hp c hc; rwa [StrLaws.join_split] at this), Nat.le_trans (PyProof.Rows.part_short hp) h.ln⟩
section
variable {S : Sto} {w : Str} {Q : D → Sto → Prop}
theorem wp_splitM {a b : Str} (hb : b.length ≠ 0) (ha : WT a) : Wp (splitM (.str a) [.str b]) S Q ↔ Q (.lst ((Txt.split a b).map D.str)) S := wp_of (by
  have := ha.ln
  have h : a.length ≤ 90000 := by omega
  simp [splitM, hb, h])
theorem wp_tupL {ds : List D} : Wp (tupleM (.lst ds)) S Q ↔ Q (.tup ds) S := wp_of rfl
theorem spc_len : SPC.length ≠ 0 := by decide +kernel
theorem split_few {x y : Str} (h : WT x) : (Txt.split x y).length ≤ 50000 := by have := PyProof.Rows.split_le x y; have := h.ln; omega
end
end Mi
namespace Mi
open PySem PySem.Spec PyProof.Rows L2
noncomputable def Wr {α : Type} (m : M α) (S : Sto) (Q : Except Exn α → Sto → Prop) : Prop := ∃ r S', m S = some (r, S') ∧ Q r S'
section
variable {α β : Type} {m : M α} {S : Sto}
theorem wr_bind {f : α → M β} {Q : Except Exn β → Sto → Prop} (h : Wr m S fun r S' => match r with
    | .ok a => Wr (f a) S' Q
    | .error x => Q (.error x) S') : Wr (M.bind m f) S Q := by
  obtain ⟨r, S', e, h⟩ := h
  cases r with
  | ok a =>
    obtain ⟨r2, S2, e2, h2⟩ := h
    exact ⟨r2, S2, by simp only [M.bind, e, e2], h2⟩
  | error x => exact ⟨.error x, S', by simp only [M.bind, e], h⟩
theorem wr_wp {Q : Except Exn α → Sto → Prop} (h : Wp m S fun a S' => Q (.ok a) S') : Wr m S Q := by
  obtain ⟨a, S', e, h⟩ := h
  exact ⟨.ok a, S', e, h⟩
theorem wr_mono {Q R : Except Exn α → Sto → Prop} (h : Wr m S Q) (k : ∀ r S', Q r S' → R r S') : Wr m S R := let ⟨r, S', e, h⟩ := h; ⟨r, S', e, k r S' h⟩
theorem wr_of {r : Except Exn α} {S' : Sto} {Q : Except Exn α → Sto → Prop} (e : m S = some (r, S')) (h : Q r S') : Wr m S Q := ⟨r, S', e, h⟩
theorem eq_of_wr {r : Except Exn α} {S' : Sto} (h : Wr m S fun r2 S2 => r2 = r ∧ S2 = S') : m S = some (r, S') := by
  obtain ⟨r2, S2, e, rfl, rfl⟩ := h
  exact e
end
section
variable {S0 : Sto} {a0 a2 a3 o5 o6 o7 : Option D} {k w : Str} {x : D} {l : List D} {ln : Int} {b : Bool}
noncomputable def badT (ln : Int) (n : Nat) : Exn := ⟨"InvalidText", [("word", .int (n : Int)), ("line", .int ln)]⟩
theorem cell_last (S0 : Sto) (ds : List D) : (S0 ++ [Cell.lst ds])[S0.length]? = some (.lst ds) := by simp
theorem chkL_ref {S : Sto} {r : Nat} {ds : List D} {Q : Unit → Sto → Prop} (h : S[r]? = some (.lst ds)) : Wp (chkL (.ref r)) S Q ↔ Q () S := wp_of (by
  simp [chkL, h])
end
end Mi
namespace Mi
open PySem PySem.Spec PyProof.Rows L2
section
variable {S : Sto} {t : Str} {ln : Int}
theorem raise_ok {ρ : Env} {m : Env → M (List D)} {n : Nat} {Q : Except Exn (Fl × Env) → Sto → Prop} (hm : Wp (m ρ) S fun xs S' => xs = [.int ln, .int (n : Int)] ∧ S' = S) (h : Q (.error (badT ln n)) S) : Wr (sRaise "InvalidText" ["line", "word"] (noE m) ρ) S Q := by
  unfold sRaise
  refine wr_bind (wr_wp ?_)
  rw [wp_noE]
  refine hm.mono ?_
  rintro xs S' ⟨rfl, rfl⟩
  exact wr_of rfl (by simpa [badT, xfs] using h)
theorem natEq {i j : Nat} : ((i : Int) == (j : Int)) = (i == j) := by
  rw [Bool.eq_iff_iff, beq_iff_eq, beq_iff_eq]
  omega
theorem natNe {i j : Nat} : (!((i : Int) == (j : Int))) = !(i == j) := by rw [natEq]
theorem natNe1 {i j : Nat} : (!((i : Int) == (j : Int) + 1)) = !(i == j + 1) := natNe (i := i) (j := j + 1)
theorem wp_tupC {S : Sto} {n : Nat} {ds : List D} {Q : D → Sto → Prop} (h : S[n]? = some (.lst ds)) : Wp (tupleM (.ref n)) S Q ↔ Q (.tup ds) S := wp_of (by
  simp [tupleM, asQ, asR, asC, h])
end
end Mi
namespace Mi
open PySem PySem.Spec PyProof.Rows L2
section
variable {S : Sto} {t : Str} {ln : Int}
theorem split_cons (t : Str) : ∃ x r, Txt.split t SPC = x :: r := by
  have := PyProof.Rows.split_pos t SPC
  cases h : Txt.split t SPC with
  | nil => rw [h] at this; simp at this
  | cons x r => exact ⟨x, r, rfl⟩
theorem slc_Ls {lo hi : Option Int} {ds : List D} {Q : D → Sto → Prop} : Wp (slcM lo hi (.lst ds)) S Q ↔ Q (.lst (cutD ds lo hi)) S := wp_of rfl
theorem cut_1 {d : D} {ds : List D} : cutD (d :: ds) (some 1) none = ds := (cut_hi (n := 1) (by simp)).trans rfl
theorem wp_newLs {ds : List D} {Q : D → Sto → Prop} : Wp (newL ds) S Q ↔ Q (.ref S.length) (S ++ [.lst ds]) := wp_of rfl
theorem wp_zipM {ks ws : List Str} {Q : List D → Sto → Prop} : Wp (zipOfM [.tup (ks.map D.str), .lst (ws.map D.str)]) S Q ↔ Q (List.zipWith pairD (ks.map D.str) (ws.map D.str)) S := wp_of rfl
end
end Mi
namespace Mi
open PySem PySem.Spec PyProof.Rows L2
noncomputable def KT : List (Str × List Str) := [("readers", []), ("view", ["number", "view"]), ("stay", ["view", "view"]), ("apart", ["view"]), ("range", ["number", "view", "view"]), ("word", ["view", "view"]), ("span", ["view", "view"])]
theorem kt_eq : tbl_LINES = KT.map fun p => (p.1, D.tup (p.2.map D.str)) := rfl
noncomputable def kB (k : Str) : Bool := k == "number" || k == "view"
theorem kt_kinds : KT.all (fun p => p.2.all kB && decide (p.2.length ≤ 3) && PyData.strOk p.1) = true := by decide +kernel
theorem mem_look {α : Type} {x : Str} {v : α} : ∀ {l : List (Str × α)}, l.lookup x = some v → (x, v) ∈ l
  | [], h => by cases h
  | (y, u) :: l, h => by
    simp only [List.lookup] at h
    cases e : x == y with
    | true =>
      rw [e] at h
      cases h
      rw [beq_iff_eq.1 e]
      simp
    | false =>
      rw [e] at h
      exact List.mem_cons_of_mem _ (mem_look h)
theorem kt_at {x : Str} {ks : List Str} (h : KT.lookup x = some ks) : (∀ k ∈ ks, kB k = true) ∧ ks.length ≤ 3 ∧ PyData.strOk x = true := by
  have := List.all_eq_true.1 kt_kinds _ (mem_look h)
  simp only [Bool.and_eq_true, decide_eq_true_eq] at this
  exact ⟨fun k hk => List.all_eq_true.1 this.1.1 k hk, this.1.2, this.2⟩
section
variable {S : Sto} {t : Str} {ln : Int} {Q : D → Sto → Prop}
theorem tblL_get {x : Str} : tbl_LINES.lookup x = (KT.lookup x).map fun ks => D.tup (ks.map D.str) := by
  rw [kt_eq]
  exact lookup_map (f := fun ks : List Str => D.tup (ks.map D.str))
theorem kdIx_L {x : Str} {ks : List Str} (h : KT.lookup x = some ks) : Wp (kdIx tbl_LINES (.str x)) S Q ↔ Q (.tup (ks.map D.str)) S := wp_of (by
  simp only [kdIx, tblL_get, h, Option.map]
  rfl)
theorem flatS : ∀ ns : List Str, flatL (ns.map D.str) = some (ns.map V.str)
  | [] => rfl
  | n :: ns => by simp [flatL, flatD, flatS ns]
theorem inV_S {x : Str} {ns : List Str} : L2.inV (.str x) (ns.map V.str) = ns.contains x := by
  unfold L2.inV
  rw [List.any_map]
  by_cases h : x ∈ ns
  · rw [show ns.contains x = true by simpa using h, List.any_eq_true]
    exact ⟨x, h, by simp [L2.eqV]⟩
  · rw [show ns.contains x = false by simpa using h, List.any_eq_false]
    intro k hk
    have : k ≠ x := fun e => h (e ▸ hk)
    simp [L2.eqV, this]
theorem nin_strsT {x : Str} {ns : List Str} : Wp (inD true (.str x) (.tup (ns.map D.str))) S Q ↔ Q (.bl (!ns.contains x)) S := wp_of (by
  have e2 : (ns.map V.str).all L2.flatV = true := by simp [L2.flatV]
  simp [inD, dctRd, inB, flatD, asQ, asR, asC, flatS, e2, inV_S, L2.flatV, dctAt, -List.contains_eq_mem])
theorem nin_strsL {x : Str} {ns : List Str} : Wp (inD true (.str x) (.lst (ns.map D.str))) S Q ↔ Q (.bl (!ns.contains x)) S := wp_of (by
  have e2 : (ns.map V.str).all L2.flatV = true := by simp [L2.flatV]
  simp [inD, dctRd, inB, flatD, asQ, asR, asC, flatS, e2, inV_S, L2.flatV, dctAt, -List.contains_eq_mem])
end
noncomputable def pF : List Str → List Str → List D → Except Nat (List D)
  | [], _, l => .ok l
  | _, [], l => .ok l
  | k :: ks, w :: ws, l => if fitK k (rdI w) .non = true then pF ks ws (l ++ [rdI w]) else .error (l.length + 1)
noncomputable def pL (al ws : List Str) : Except Nat (Str × List D) := match ws with
  | [] => .error 0
  | x :: r => if al.contains x = true then match KT.lookup x with
    | none => .error 0
    | some ks => match pF ks r [] with
      | .error n => .error n
      | .ok ps => if ps.length = r.length ∧ ps.length = ks.length then .ok (x, ps) else .error (ps.length + 1)
    else .error 0
theorem pF_len : ∀ (ks ws : List Str) (l qs : List D), pF ks ws l = .ok qs → qs.length ≤ l.length + ks.length
  | [], _, l, qs, h => by simp [pF] at h; subst h; simp
  | k :: ks, [], l, qs, h => by simp [pF] at h; subst h; simp
  | k :: ks, w :: ws, l, qs, h => by
    simp only [pF] at h
    split at h
    · have := pF_len ks ws _ _ h
      simp at this ⊢
      omega
    · cases h
end Mi
namespace Mi
open PySem PySem.Spec PyProof.Rows L2
theorem rdI_part {w : Str} (h : WT w) : partV (rdI w) := by
  unfold rdI
  split
  · exact ⟨⟨rfl, fun _ z => (by cases z)⟩, fun _ z => (by cases z)⟩
  · exact ⟨⟨rfl, fun x z => (by cases z; exact ⟨h.l5, h.ok⟩)⟩, fun _ z => (by cases z)⟩
theorem fits_k {S : Sto} {k w : Str} (hk : kB k = true) (hw : WT w) : m_part_fits [.str k, rdI w, .non] S = some (.ok (.bl (fitK k (rdI w) .non)), S) := by
  simp only [kB, Bool.or_eq_true, beq_iff_eq] at hk
  rcases hk with rfl | rfl
  · exact fit_number (rdI_part hw)
  · exact fit_view (rdI_part hw)
section
variable {S0 S : Sto} {a0 a2 a3 a4 o6 o7 o8 : Option D} {k w t : Str} {x : D} {l : List D} {ln : Int} {b : Bool}
noncomputable def rlB : Env → M (Fl × Env) := (sSeq (noE (sAsg (calF 1 m_read_integer (aCons (vget 7) (fun _ => M.pure []))) (gSet 8)))
    (sSeq (sIf (noE (notT (tst (calF 3 m_part_fits (aCons (vget 6) (aCons (vget 8) (aCons (fun _ => M.pure .non) (fun _ => M.pure [])))))))) (sSeq (sRaise "InvalidText" ["line", "word"] (noE (aCons (vget 1) (aCons (cal (on1 lenD) (aCons (vget 5) (fun _ => M.pure []))) (fun _ => M.pure [])))))
    sNil) sNil)
    (sSeq (noE (sDrop (mth chkL appM (vget 5) (aCons (vget 8) (fun _ => M.pure [])))))
    sNil)))
noncomputable def rlE3 : Env → M (Fl × Env) := (sSeq (sIf (noE (orT (tst (b2 neM (cal (on1 lenD) (aCons (vget 5) (fun _ => M.pure []))) (cal (on1 lenD) (aCons (vget 3) (fun _ => M.pure []))))) (tst (b2 neM (cal (on1 lenD) (aCons (vget 5) (fun _ => M.pure []))) (b2 addM (cal (on1 lenD) (aCons (vget 4) (fun _ => M.pure []))) (fun _ => M.pure (.int 1))))))) (sSeq (sRaise "InvalidText" ["line", "word"] (noE (aCons (vget 1) (aCons (cal (on1 lenD) (aCons (vget 5) (fun _ => M.pure []))) (fun _ => M.pure [])))))
    sNil) sNil)
    (sSeq (noE (sRet (cal (on1 tupleM) (aCons (vget 5) (fun _ => M.pure [])))))
    sNil))
theorem rlB_ok (hw : WT w) (hk : kB k = true) (hl : l.length < 90000) :
    Wr (rlB [a0, some (.int ln), a2, a3, a4, some (.ref S0.length), some (.str k), some (.str w), o8]) (S0 ++ [.lst (x :: l)]) fun r S' => if fitK k (rdI w) .non = true
      then r = .ok (.nx, [a0, some (.int ln), a2, a3, a4, some (.ref S0.length), some (.str k), some (.str w), some (rdI w)]) ∧ S' = S0 ++ [.lst (x :: (l ++ [rdI w]))]
      else r = .error (badT ln (l.length + 1)) ∧ S' = S0 ++ [.lst (x :: l)] := by
  have c := cell_last S0 (x :: l)
  unfold rlB
  refine wr_bind (wr_wp ?_)
  simp only [orV, sDrop, ifV, metM_eq, metK_eq, wp_noE, gPutD, wp_lenDT, sSeq, sIf, sAsg, sRet, sNil, gSet, gPut, tst, b2, b1, cal, on1, aCons, vget, mkL, mkT, calF, andT, orT, notT, andV, notV, wp_bind, wp_pure, wp_if, List.map, List.length, List.replicate, List.append, List.cons_append, List.nil_append, Nat.reduceSub, Nat.reduceAdd, Nat.reduceLeDiff, List.getElem?_cons_zero, List.getElem?_cons_succ, List.set_cons_zero, List.set_cons_succ, wp_int, wp_intb, wp_int20, wp_toB, wp_add, wp_abs, wp_neg, wp_lenL, pen0, pen1, pen2, put1, put2, decide_true, decide_false, if_true, if_false, Bool.false_eq_true, Nat.zero_le, exists_eq_left, and_true, true_and, Bool.not_true, Bool.not_false, reduceCtorEq, reduceIte, wp_of (read_int_ok (S := S0 ++ [.lst (x :: l)]) hw)]
  refine wr_bind ?_
  refine wr_bind (wr_wp ?_)
  simp only [orV, sDrop, ifV, metM_eq, metK_eq, wp_noE, gPutD, wp_lenDT, sSeq, sIf, sAsg, sRet, sNil, gSet, gPut, tst, b2, b1, cal, on1, aCons, vget, mkL, mkT, calF, andT, orT, notT, andV, notV, wp_bind, wp_pure, wp_if, List.map, List.length, List.replicate, List.append, List.cons_append, List.nil_append, Nat.reduceSub, Nat.reduceAdd, Nat.reduceLeDiff, List.getElem?_cons_zero, List.getElem?_cons_succ, List.set_cons_zero, List.set_cons_succ, wp_int, wp_intb, wp_int20, wp_toB, wp_add, wp_abs, wp_neg, wp_lenL, pen0, pen1, pen2, put1, put2, decide_true, decide_false, if_true, if_false, Bool.false_eq_true, Nat.zero_le, exists_eq_left, and_true, true_and, Bool.not_true, Bool.not_false, reduceCtorEq, reduceIte, wp_of (fits_k (S := S0 ++ [.lst (x :: l)]) hk hw)]
  cases fitK k (rdI w) .non with
  | false =>
    simp only [orV, sDrop, ifV, metM_eq, metK_eq, wp_noE, gPutD, wp_lenDT, sSeq, sIf, sAsg, sRet, sNil, gSet, gPut, tst, b2, b1, cal, on1, aCons, vget, mkL, mkT, calF, andT, orT, notT, andV, notV, wp_bind, wp_pure, wp_if, List.map, List.length, List.replicate, List.append, List.cons_append, List.nil_append, Nat.reduceSub, Nat.reduceAdd, Nat.reduceLeDiff, List.getElem?_cons_zero, List.getElem?_cons_succ, List.set_cons_zero, List.set_cons_succ, wp_int, wp_intb, wp_int20, wp_toB, wp_add, wp_abs, wp_neg, wp_lenL, pen0, pen1, pen2, put1, put2, decide_true, decide_false, if_true, if_false, Bool.false_eq_true, Nat.zero_le, exists_eq_left, and_true, true_and, Bool.not_true, Bool.not_false, reduceCtorEq, reduceIte]
    refine wr_bind ?_
    unfold sRaise
    refine wr_bind (wr_wp ?_)
    simp only [orV, sDrop, ifV, metM_eq, metK_eq, wp_noE, gPutD, wp_lenDT, sSeq, sIf, sAsg, sRet, sNil, gSet, gPut, tst, b2, b1, cal, on1, aCons, vget, mkL, mkT, calF, andT, orT, notT, andV, notV, wp_bind, wp_pure, wp_if, List.map, List.length, List.replicate, List.append, List.cons_append, List.nil_append, Nat.reduceSub, Nat.reduceAdd, Nat.reduceLeDiff, List.getElem?_cons_zero, List.getElem?_cons_succ, List.set_cons_zero, List.set_cons_succ, wp_int, wp_intb, wp_int20, wp_toB, wp_add, wp_abs, wp_neg, wp_lenL, pen0, pen1, pen2, put1, put2, decide_true, decide_false, if_true, if_false, Bool.false_eq_true, Nat.zero_le, exists_eq_left, and_true, true_and, Bool.not_true, Bool.not_false, reduceCtorEq, reduceIte, wp_lenC c]
    exact wr_of rfl ⟨by simp [badT, xfs], rfl⟩
  | true =>
    have hl2 : (x :: l).length < 100000 := by simp; omega
    simp only [orV, sDrop, ifV, metM_eq, metK_eq, wp_noE, gPutD, wp_lenDT, sSeq, sIf, sAsg, sRet, sNil, gSet, gPut, tst, b2, b1, cal, on1, aCons, vget, mkL, mkT, calF, andT, orT, notT, andV, notV, wp_bind, wp_pure, wp_if, List.map, List.length, List.replicate, List.append, List.cons_append, List.nil_append, Nat.reduceSub, Nat.reduceAdd, Nat.reduceLeDiff, List.getElem?_cons_zero, List.getElem?_cons_succ, List.set_cons_zero, List.set_cons_succ, wp_int, wp_intb, wp_int20, wp_toB, wp_add, wp_abs, wp_neg, wp_lenL, pen0, pen1, pen2, put1, put2, decide_true, decide_false, if_true, if_false, Bool.false_eq_true, Nat.zero_le, exists_eq_left, and_true, true_and, Bool.not_true, Bool.not_false, reduceCtorEq, reduceIte]
    refine wr_of rfl ?_
    simp only [orV, sDrop, ifV, metM_eq, metK_eq, wp_noE, gPutD, wp_lenDT, sSeq, sIf, sAsg, sRet, sNil, gSet, gPut, tst, b2, b1, cal, on1, aCons, vget, mkL, mkT, calF, andT, orT, notT, andV, notV, wp_bind, wp_pure, wp_if, List.map, List.length, List.replicate, List.append, List.cons_append, List.nil_append, Nat.reduceSub, Nat.reduceAdd, Nat.reduceLeDiff, List.getElem?_cons_zero, List.getElem?_cons_succ, List.set_cons_zero, List.set_cons_succ, wp_int, wp_intb, wp_int20, wp_toB, wp_add, wp_abs, wp_neg, wp_lenL, pen0, pen1, pen2, put1, put2, decide_true, decide_false, if_true, if_false, Bool.false_eq_true, Nat.zero_le, exists_eq_left, and_true, true_and, Bool.not_true, Bool.not_false, reduceCtorEq, reduceIte]
    refine wr_bind (wr_wp ?_)
    simp only [orV, sDrop, ifV, metM_eq, metK_eq, wp_noE, gPutD, wp_lenDT, sSeq, sIf, sAsg, sRet, sNil, gSet, gPut, tst, b2, b1, cal, on1, aCons, vget, mkL, mkT, calF, andT, orT, notT, andV, notV, wp_bind, wp_pure, wp_if, List.map, List.length, List.replicate, List.append, List.cons_append, List.nil_append, Nat.reduceSub, Nat.reduceAdd, Nat.reduceLeDiff, List.getElem?_cons_zero, List.getElem?_cons_succ, List.set_cons_zero, List.set_cons_succ, wp_int, wp_intb, wp_int20, wp_toB, wp_add, wp_abs, wp_neg, wp_lenL, pen0, pen1, pen2, put1, put2, decide_true, decide_false, if_true, if_false, Bool.false_eq_true, Nat.zero_le, exists_eq_left, and_true, true_and, Bool.not_true, Bool.not_false, reduceCtorEq, reduceIte, mth, chkL_ref c, wp_app c hl2]
    refine wr_of rfl ⟨rfl, ?_⟩
    rw [List.set_append_right _ _ (Nat.le_refl _), Nat.sub_self]
    rfl
theorem rl_loop : ∀ (ks ws : List Str) (l : List D) (o6 o7 o8 : Option D), (∀ k ∈ ks, kB k = true) → (∀ w ∈ ws, WT w) → l.length + ks.length < 80000 →
    Wr (loop (gTwo 6 7) rlB (List.zipWith pairD (ks.map D.str) (ws.map D.str)) [a0, some (.int ln), a2, a3, a4, some (.ref S0.length), o6, o7, o8]) (S0 ++ [.lst (x :: l)]) fun r S' => match pF ks ws l with
      | .ok qs => (∃ p6 p7 p8, r = .ok (.nx, [a0, some (.int ln), a2, a3, a4, some (.ref S0.length), p6, p7, p8])) ∧ S' = S0 ++ [.lst (x :: qs)]
      | .error n => r = .error (badT ln n) ∧ ∃ T, S' = S0 ++ T
  | [], ws, l, o6, o7, o8, _, _, _ => wr_of rfl ⟨⟨_, _, _, rfl⟩, rfl⟩
  | k :: ks, [], l, o6, o7, o8, _, _, _ => wr_of rfl ⟨⟨_, _, _, rfl⟩, rfl⟩
  | k :: ks, w :: ws, l, o6, o7, o8, hk, hw, hl => by
    have hw1 := hw w (by simp)
    have hk1 := hk k (by simp)
    simp only [List.length_cons] at hl
    rw [List.map_cons, List.map_cons, List.zipWith_cons_cons]
    simp only [loop]
    refine wr_bind (wr_of rfl ?_)
    refine wr_bind ?_
    refine wr_mono (rlB_ok (a0 := a0) (a2 := a2) (a3 := a3) (a4 := a4) (o8 := o8) (ln := ln) (x := x) hw1 hk1 (by omega)) fun r S' h => ?_
    by_cases hf : fitK k (rdI w) .non = true
    · rw [if_pos hf] at h
      obtain ⟨rfl, rfl⟩ := h
      simp only [pF, hf, if_true]
      exact rl_loop ks ws (l ++ [rdI w]) _ _ _ (fun z hz => hk z (by simp [hz])) (fun z hz => hw z (by simp [hz])) (by rw [List.length_append]; simp; omega)
    · rw [if_neg hf] at h
      obtain ⟨rfl, rfl⟩ := h
      simp only [pF, hf, if_false]
      exact ⟨rfl, _, rfl⟩
theorem rlE3_ok {p6 p7 p8 : Option D} {ws : List Str} {ks : List Str} {qs : List D} {S0 : Sto} (hl : qs.length ≤ 90000) :
    Wr (rlE3 [a0, some (.int ln), a2, some (.lst (ws.map D.str)), some (.tup (ks.map D.str)), some (.ref S0.length), p6, p7, p8]) (S0 ++ [.lst qs]) fun r S' => S' = S0 ++ [.lst qs] ∧ (if qs.length = ws.length ∧ qs.length = ks.length + 1 then ∃ ρ, r = .ok (.rt (.tup qs), ρ) else r = .error (badT ln qs.length)) := by
  have c := cell_last S0 qs
  unfold rlE3
  refine wr_bind ?_
  refine wr_bind (wr_wp ?_)
  have e1 : ((ws.map D.str).length : Int) = (ws.length : Int) := by rw [List.length_map]
  have e2 : ((ks.map D.str).length : Int) = (ks.length : Int) := by rw [List.length_map]
  simp only [orV, sDrop, ifV, metM_eq, metK_eq, wp_noE, gPutD, wp_lenDT, sSeq, sIf, sAsg, sRet, sNil, gSet, gPut, tst, b2, b1, cal, on1, aCons, vget, mkL, mkT, calF, andT, orT, notT, andV, notV, wp_bind, wp_pure, wp_if, List.map, List.length, List.replicate, List.append, List.cons_append, List.nil_append, Nat.reduceSub, Nat.reduceAdd, Nat.reduceLeDiff, List.getElem?_cons_zero, List.getElem?_cons_succ, List.set_cons_zero, List.set_cons_succ, wp_int, wp_intb, wp_int20, wp_toB, wp_add, wp_abs, wp_neg, wp_lenL, pen0, pen1, pen2, put1, put2, decide_true, decide_false, if_true, if_false, Bool.false_eq_true, Nat.zero_le, exists_eq_left, and_true, true_and, Bool.not_true, Bool.not_false, reduceCtorEq, reduceIte, wp_lenC c, wp_lenDL, wp_lenDT, e1, e2, wp_neI]
  simp only [natNe, natNe1]
  have rs : ∀ {Q : Except Exn (Fl × Env) → Sto → Prop}, Q (.error (badT ln qs.length)) (S0 ++ [Cell.lst qs]) → Wr (sRaise "InvalidText" ["line", "word"] (noE (aCons (vget 1) (aCons (cal (on1 lenD) (aCons (vget 5) fun x => M.pure [])) fun x => M.pure []))) [a0, some (D.int ln), a2, some (D.lst (List.map D.str ws)), some (D.tup (List.map D.str ks)), some (D.ref (List.length S0)), p6, p7, p8]) (S0 ++ [Cell.lst qs]) Q := fun {Q} h => raise_ok (by simp only [orV, sDrop, ifV, metM_eq, metK_eq, wp_noE, gPutD, wp_lenDT, sSeq, sIf, sAsg, sRet, sNil, gSet, gPut, tst, b2, b1, cal, on1, aCons, vget, mkL, mkT, calF, andT, orT, notT, andV, notV, wp_bind, wp_pure, wp_if, List.map, List.length, List.replicate, List.append, List.cons_append, List.nil_append, Nat.reduceSub, Nat.reduceAdd, Nat.reduceLeDiff, List.getElem?_cons_zero, List.getElem?_cons_succ, List.set_cons_zero, List.set_cons_succ, wp_int, wp_intb, wp_int20, wp_toB, wp_add, wp_abs, wp_neg, wp_lenL, pen0, pen1, pen2, put1, put2, decide_true, decide_false, if_true, if_false, Bool.false_eq_true, Nat.zero_le, exists_eq_left, and_true, true_and, Bool.not_true, Bool.not_false, reduceCtorEq, reduceIte, wp_lenC c]) h
  by_cases h1 : qs.length = ws.length
  · by_cases h2 : qs.length = ks.length + 1
    · have b1' : (qs.length == ws.length) = true := by simpa using h1
      have b2' : (qs.length == ks.length + 1) = true := by simpa using h2
      simp only [b1', b2', Bool.not_true, Bool.false_eq_true, if_false]
      refine wr_of rfl ?_
      refine wr_bind (wr_wp ?_)
      rw [wp_noE]
      simp only [orV, sDrop, ifV, metM_eq, metK_eq, wp_noE, gPutD, wp_lenDT, sSeq, sIf, sAsg, sRet, sNil, gSet, gPut, tst, b2, b1, cal, on1, aCons, vget, mkL, mkT, calF, andT, orT, notT, andV, notV, wp_bind, wp_pure, wp_if, List.map, List.length, List.replicate, List.append, List.cons_append, List.nil_append, Nat.reduceSub, Nat.reduceAdd, Nat.reduceLeDiff, List.getElem?_cons_zero, List.getElem?_cons_succ, List.set_cons_zero, List.set_cons_succ, wp_int, wp_intb, wp_int20, wp_toB, wp_add, wp_abs, wp_neg, wp_lenL, pen0, pen1, pen2, put1, put2, decide_true, decide_false, if_true, if_false, Bool.false_eq_true, Nat.zero_le, exists_eq_left, and_true, true_and, Bool.not_true, Bool.not_false, reduceCtorEq, reduceIte, wp_tupC c]
      refine wr_of rfl ⟨rfl, ?_⟩
      rw [if_pos ⟨h1, h2⟩]
      exact ⟨_, rfl⟩
    · have b1' : (qs.length == ws.length) = true := by simpa using h1
      have b2' : (qs.length == ks.length + 1) = false := by simpa using h2
      simp only [b1', b2', Bool.not_true, Bool.not_false, Bool.false_eq_true, if_false, if_true]
      refine wr_bind (rs ⟨rfl, ?_⟩)
      rw [if_neg fun z => h2 z.2]
  · have b1' : (qs.length == ws.length) = false := by simpa using h1
    simp only [b1', Bool.not_false, if_true]
    refine wr_bind (rs ⟨rfl, ?_⟩)
    rw [if_neg fun z => h1 z.1]
theorem rl_eq : b__read_line = (sSeq (noE (sAsg (mth chkS splitM (vget 0) (aCons (fun _ => M.pure (.str SPC)) (fun _ => M.pure []))) (gSet 3)))
    (sSeq (sIf (noE (tst (b2 (inD true) (b2 ixD (vget 3) (fun _ => M.pure (.int 0))) (vget 2)))) (sSeq (sRaise "InvalidText" ["line", "word"] (noE (aCons (vget 1) (aCons (fun _ => M.pure (.int 0)) (fun _ => M.pure [])))))
    sNil) sNil)
    (sSeq (noE (sAsg (b1 (kdIx tbl_LINES) (b2 ixD (vget 3) (fun _ => M.pure (.int 0)))) (gSet 4)))
    (sSeq (noE (sAsg (mkC (aCons (b2 ixD (vget 3) (fun _ => M.pure (.int 0))) (fun _ => M.pure []))) (gSet 5)))
    (sSeq (sFor (noE (iZipM (aCons (vget 4) (aCons (slc (vget 3) (some (fun _ => M.pure (.int 1))) none) (fun _ => M.pure []))))) (gTwo 6 7) rlB) rlE3))))) := rfl
theorem line_ok {al : List Str} (ht : WT t) (ha : ∀ x ∈ al, (KT.lookup x).isSome = true) : Wr (m__read_line [.str t, .int ln, .tup (al.map D.str)]) S fun r S' => (match pL al (Txt.split t SPC) with
    | .ok q => r = .ok (.tup (.str q.1 :: q.2))
    | .error n => r = .error (badT ln n)) ∧ ∃ T, S' = S ++ T := by
  obtain ⟨x, r, hs⟩ := split_cons t
  have hws : ∀ w ∈ r, WT w := fun w hw => piece_ok ht (y := SPC) (by rw [hs]; simp [hw])
  unfold m__read_line runM
  refine wr_bind ?_
  show Wr (b__read_line [some (.str t), some (.int ln), some (.tup (al.map D.str)), none, none, none, none, none, none]) S _
  rw [rl_eq]
  refine wr_bind (wr_wp ?_)
  simp only [orV, sDrop, ifV, metM_eq, metK_eq, wp_noE, gPutD, wp_lenDT, sSeq, sIf, sAsg, sRet, sNil, gSet, gPut, tst, b2, b1, cal, on1, aCons, vget, mkL, mkT, calF, andT, orT, notT, andV, notV, wp_bind, wp_pure, wp_if, List.map, List.length, List.replicate, List.append, List.cons_append, List.nil_append, Nat.reduceSub, Nat.reduceAdd, Nat.reduceLeDiff, List.getElem?_cons_zero, List.getElem?_cons_succ, List.set_cons_zero, List.set_cons_succ, wp_int, wp_intb, wp_int20, wp_toB, wp_add, wp_abs, wp_neg, wp_lenL, pen0, pen1, pen2, put1, put2, decide_true, decide_false, if_true, if_false, Bool.false_eq_true, Nat.zero_le, exists_eq_left, and_true, true_and, Bool.not_true, Bool.not_false, reduceCtorEq, reduceIte, mth, wp_chkS, wp_splitM spc_len ht, hs]
  refine wr_bind ?_
  refine wr_bind (wr_wp ?_)
  simp only [orV, sDrop, ifV, metM_eq, metK_eq, wp_noE, gPutD, wp_lenDT, sSeq, sIf, sAsg, sRet, sNil, gSet, gPut, tst, b2, b1, cal, on1, aCons, vget, mkL, mkT, calF, andT, orT, notT, andV, notV, wp_bind, wp_pure, wp_if, List.map, List.length, List.replicate, List.append, List.cons_append, List.nil_append, Nat.reduceSub, Nat.reduceAdd, Nat.reduceLeDiff, List.getElem?_cons_zero, List.getElem?_cons_succ, List.set_cons_zero, List.set_cons_succ, wp_int, wp_intb, wp_int20, wp_toB, wp_add, wp_abs, wp_neg, wp_lenL, pen0, pen1, pen2, put1, put2, decide_true, decide_false, if_true, if_false, Bool.false_eq_true, Nat.zero_le, exists_eq_left, and_true, true_and, Bool.not_true, Bool.not_false, reduceCtorEq, reduceIte, wp_ixLs]
  rw [show (0 : Int) = ((0 : Nat) : Int) from rfl, wp_ixL (k := 0) rfl]
  simp only [orV, sDrop, ifV, metM_eq, metK_eq, wp_noE, gPutD, wp_lenDT, sSeq, sIf, sAsg, sRet, sNil, gSet, gPut, tst, b2, b1, cal, on1, aCons, vget, mkL, mkT, calF, andT, orT, notT, andV, notV, wp_bind, wp_pure, wp_if, List.map, List.length, List.replicate, List.append, List.cons_append, List.nil_append, Nat.reduceSub, Nat.reduceAdd, Nat.reduceLeDiff, List.getElem?_cons_zero, List.getElem?_cons_succ, List.set_cons_zero, List.set_cons_succ, wp_int, wp_intb, wp_int20, wp_toB, wp_add, wp_abs, wp_neg, wp_lenL, pen0, pen1, pen2, put1, put2, decide_true, decide_false, if_true, if_false, Bool.false_eq_true, Nat.zero_le, exists_eq_left, and_true, true_and, Bool.not_true, Bool.not_false, reduceCtorEq, reduceIte, nin_strsT]
  cases hf : al.contains x with
  | false =>
    simp only [Bool.not_false, if_true]
    refine wr_bind (raise_ok (ln := ln) (n := 0) (by simp only [orV, sDrop, ifV, metM_eq, metK_eq, wp_noE, gPutD, wp_lenDT, sSeq, sIf, sAsg, sRet, sNil, gSet, gPut, tst, b2, b1, cal, on1, aCons, vget, mkL, mkT, calF, andT, orT, notT, andV, notV, wp_bind, wp_pure, wp_if, List.map, List.length, List.replicate, List.append, List.cons_append, List.nil_append, Nat.reduceSub, Nat.reduceAdd, Nat.reduceLeDiff, List.getElem?_cons_zero, List.getElem?_cons_succ, List.set_cons_zero, List.set_cons_succ, wp_int, wp_intb, wp_int20, wp_toB, wp_add, wp_abs, wp_neg, wp_lenL, pen0, pen1, pen2, put1, put2, decide_true, decide_false, if_true, if_false, Bool.false_eq_true, Nat.zero_le, exists_eq_left, and_true, true_and, Bool.not_true, Bool.not_false, reduceCtorEq, reduceIte]) ?_)
    simp only [pL, hf, Bool.false_eq_true, if_false]
    exact ⟨trivial, [], by simp⟩
  | true =>
    have hx := ha x (by simpa using hf)
    obtain ⟨ks, hk⟩ := Option.isSome_iff_exists.1 hx
    obtain ⟨k1, k2, k3⟩ := kt_at hk
    have h0 : (D.str x :: r.map D.str)[0]? = some (D.str x) := rfl
    simp only [Bool.not_true, Bool.false_eq_true, if_false]
    refine wr_of rfl ?_
    refine wr_bind (wr_wp ?_)
    simp only [orV, sDrop, ifV, metM_eq, metK_eq, wp_noE, gPutD, wp_lenDT, sSeq, sIf, sAsg, sRet, sNil, gSet, gPut, tst, b2, b1, cal, on1, aCons, vget, mkL, mkT, calF, andT, orT, notT, andV, notV, wp_bind, wp_pure, wp_if, List.map, List.length, List.replicate, List.append, List.cons_append, List.nil_append, Nat.reduceSub, Nat.reduceAdd, Nat.reduceLeDiff, List.getElem?_cons_zero, List.getElem?_cons_succ, List.set_cons_zero, List.set_cons_succ, wp_int, wp_intb, wp_int20, wp_toB, wp_add, wp_abs, wp_neg, wp_lenL, pen0, pen1, pen2, put1, put2, decide_true, decide_false, if_true, if_false, Bool.false_eq_true, Nat.zero_le, exists_eq_left, and_true, true_and, Bool.not_true, Bool.not_false, reduceCtorEq, reduceIte, wp_ixLs]
    rw [wp_ixL h0]
    simp only [orV, sDrop, ifV, metM_eq, metK_eq, wp_noE, gPutD, wp_lenDT, sSeq, sIf, sAsg, sRet, sNil, gSet, gPut, tst, b2, b1, cal, on1, aCons, vget, mkL, mkT, calF, andT, orT, notT, andV, notV, wp_bind, wp_pure, wp_if, List.map, List.length, List.replicate, List.append, List.cons_append, List.nil_append, Nat.reduceSub, Nat.reduceAdd, Nat.reduceLeDiff, List.getElem?_cons_zero, List.getElem?_cons_succ, List.set_cons_zero, List.set_cons_succ, wp_int, wp_intb, wp_int20, wp_toB, wp_add, wp_abs, wp_neg, wp_lenL, pen0, pen1, pen2, put1, put2, decide_true, decide_false, if_true, if_false, Bool.false_eq_true, Nat.zero_le, exists_eq_left, and_true, true_and, Bool.not_true, Bool.not_false, reduceCtorEq, reduceIte, kdIx_L hk]
    refine wr_bind (wr_wp ?_)
    simp only [orV, sDrop, ifV, metM_eq, metK_eq, wp_noE, gPutD, wp_lenDT, sSeq, sIf, sAsg, sRet, sNil, gSet, gPut, tst, b2, b1, cal, on1, aCons, vget, mkL, mkT, calF, andT, orT, notT, andV, notV, wp_bind, wp_pure, wp_if, List.map, List.length, List.replicate, List.append, List.cons_append, List.nil_append, Nat.reduceSub, Nat.reduceAdd, Nat.reduceLeDiff, List.getElem?_cons_zero, List.getElem?_cons_succ, List.set_cons_zero, List.set_cons_succ, wp_int, wp_intb, wp_int20, wp_toB, wp_add, wp_abs, wp_neg, wp_lenL, pen0, pen1, pen2, put1, put2, decide_true, decide_false, if_true, if_false, Bool.false_eq_true, Nat.zero_le, exists_eq_left, and_true, true_and, Bool.not_true, Bool.not_false, reduceCtorEq, reduceIte, mkC, wp_ixLs]
    rw [wp_ixL h0]
    simp only [orV, sDrop, ifV, metM_eq, metK_eq, wp_noE, gPutD, wp_lenDT, sSeq, sIf, sAsg, sRet, sNil, gSet, gPut, tst, b2, b1, cal, on1, aCons, vget, mkL, mkT, calF, andT, orT, notT, andV, notV, wp_bind, wp_pure, wp_if, List.map, List.length, List.replicate, List.append, List.cons_append, List.nil_append, Nat.reduceSub, Nat.reduceAdd, Nat.reduceLeDiff, List.getElem?_cons_zero, List.getElem?_cons_succ, List.set_cons_zero, List.set_cons_succ, wp_int, wp_intb, wp_int20, wp_toB, wp_add, wp_abs, wp_neg, wp_lenL, pen0, pen1, pen2, put1, put2, decide_true, decide_false, if_true, if_false, Bool.false_eq_true, Nat.zero_le, exists_eq_left, and_true, true_and, Bool.not_true, Bool.not_false, reduceCtorEq, reduceIte, wp_newLs]
    refine wr_bind ?_
    unfold sFor
    refine wr_bind (wr_wp ?_)
    simp only [orV, sDrop, ifV, metM_eq, metK_eq, wp_noE, gPutD, wp_lenDT, sSeq, sIf, sAsg, sRet, sNil, gSet, gPut, tst, b2, b1, cal, on1, aCons, vget, mkL, mkT, calF, andT, orT, notT, andV, notV, wp_bind, wp_pure, wp_if, List.map, List.length, List.replicate, List.append, List.cons_append, List.nil_append, Nat.reduceSub, Nat.reduceAdd, Nat.reduceLeDiff, List.getElem?_cons_zero, List.getElem?_cons_succ, List.set_cons_zero, List.set_cons_succ, wp_int, wp_intb, wp_int20, wp_toB, wp_add, wp_abs, wp_neg, wp_lenL, pen0, pen1, pen2, put1, put2, decide_true, decide_false, if_true, if_false, Bool.false_eq_true, Nat.zero_le, exists_eq_left, and_true, true_and, Bool.not_true, Bool.not_false, reduceCtorEq, reduceIte, iZipM, slc, parts, optI, slc_Ls, cut_1]
    rw [wp_zipM]
    have key := rl_loop (S0 := S) (a0 := some (.str t)) (a2 := some (.tup (al.map D.str))) (a3 := some (.lst (D.str x :: r.map D.str))) (a4 := some (.tup (ks.map D.str))) (ln := ln) (x := .str x) ks r [] none none none k1 hws (by simp; omega)
    refine wr_mono key fun res S' h => ?_
    cases hr : pF ks r [] with
    | error n =>
      rw [hr] at h
      obtain ⟨rfl, T, rfl⟩ := h
      simp only [pL, hf, hk, hr, if_true]
      exact ⟨trivial, _, rfl⟩
    | ok qs =>
      rw [hr] at h
      obtain ⟨⟨p5, p6, p7, rfl⟩, rfl⟩ := h
      have hq := pF_len _ _ _ _ hr
      simp only [List.length_nil] at hq
      refine wr_mono (rlE3_ok (ws := x :: r) (ks := ks) (qs := .str x :: qs) (by simp; omega)) fun res S' h => ?_
      obtain ⟨rfl, h⟩ := h
      simp only [pL, hf, hk, hr, if_true]
      by_cases hc : qs.length = r.length ∧ qs.length = ks.length
      · rw [if_pos hc]
        rw [if_pos (by simpa using hc)] at h
        obtain ⟨ρ, rfl⟩ := h
        exact wr_of rfl ⟨rfl, _, rfl⟩
      · rw [if_neg hc]
        rw [if_neg (by simpa using hc)] at h
        subst h
        exact ⟨rfl, _, rfl⟩
end
end Mi
namespace Mi
open PySem PySem.Spec PyProof.Rows L2
section
variable {S : Sto} {f : Fm} {W : List Str} {l : List D} {x p : D} {k w : Str} {a0 o2 o4 o5 o6 : Option D} {j : Nat}
theorem ixS_at {t : Str} {c : Nat} (hl : t.length ≤ 100000) (h : t.cps.toList[j]? = some c) {Q : D → Sto → Prop} : Wp (ixD (.str t) (.int (j : Int))) S Q ↔ Q (.str ⟨#[c]⟩) S := wp_of (by
  show ixM (.str t) (.int (j : Int)) S = _
  have e : L2.atI t.cps.toList (j : Int) = some c := atI_nat h
  simp only [ixM, e, hl, if_true]
  rfl)
theorem wp_lenDLs {ds : List D} {Q : D → Sto → Prop} : Wp (lenD (.lst ds)) S Q ↔ Q (.int (ds.length : Int)) S := wp_of rfl
theorem addT {ds es : List D} (h : ds.length + es.length ≤ 100000) {Q : D → Sto → Prop} : Wp (addM (.tup ds) (.tup es)) S Q ↔ Q (.tup (ds ++ es)) S := wp_of (by
  simp only [addM, h, if_true])
end
end Mi
namespace Mi
open PySem PySem.Spec PyProof.Rows L2
section
variable {S : Sto} {t : Str}
theorem wp_rng1 {n : Nat} {P : List D → Sto → Prop} (h : n ≤ 60000) : Wp (rngOf [.int (n : Int)]) S P ↔ P (rgD 0 n) S := wp_of (by
  show (if (-100000 : Int) ≤ (n : Int) ∧ (n : Int) ≤ 100000 then M.pure (rgD 0 ((n : Int)).toNat) else bad) S = _
  rw [if_pos (by omega), Int.toNat_natCast]
  rfl)
end
end Mi
namespace Mi
open PySem PySem.Spec PyProof.Rows L2
theorem digits_lt : ∀ (l : List Nat) (a : Nat), (∀ c ∈ l, 48 ≤ c ∧ c ≤ 57) → l.foldl (fun acc c => acc * 10 + (c - 48)) a < (a + 1) * 10 ^ l.length
  | [], a, _ => by simp
  | c :: l, a, h => by
    have hc := h c (by simp)
    have ih := digits_lt l (a * 10 + (c - 48)) fun d hd => h d (by simp [hd])
    rw [List.foldl_cons]
    refine Nat.lt_of_lt_of_le ih ?_
    rw [List.length_cons, Nat.pow_succ, Nat.mul_comm (10 ^ l.length) 10, ← Nat.mul_assoc]
    exact Nat.mul_le_mul_right _ (by omega)
theorem cval_le {w : Str} (h : canB w = true) : cval w ≤ 999999 := by
  simp only [canB, Bool.and_eq_true, decide_eq_true_eq] at h
  obtain ⟨h1, h2, h3, _⟩ := h
  have h4 := digits_lt w.cps.toList 0 (digs h3)
  rw [len_w] at h4
  have : (0 + 1) * 10 ^ w.length ≤ 1000000 := by
    rw [Nat.one_mul]
    exact Nat.pow_le_pow_right (by decide : 10 > 0) h2
  show NumText.digitsVal w.cps.toList ≤ 999999
  unfold NumText.digitsVal
  omega
theorem cint_le {w : Str} {n : Nat} (h : cint w = some n) : n ≤ 999999 := by
  unfold cint at h
  split at h
  · rename_i hc
    cases h
    exact cval_le hc
  · cases h
/-- the least a part may be -/
noncomputable def lowI (k : Str) : Int := if k = "number" then 1 else 0
theorem fit_low {k w : Str} (hk : kB k = true) : fitK k (rdI w) .non = decide (lowI k ≤ lwI w) ∧ (lowI k ≤ lwI w → rdI w = .int (lwI w)) := by
  simp only [kB, Bool.or_eq_true, beq_iff_eq] at hk
  unfold rdI lwI
  cases hc : cint w with
  | none =>
    rcases hk with rfl | rfl
    · exact ⟨rfl, fun h => absurd h (by simp [lowI])⟩
    · exact ⟨by simp [fitK, kn_view, betw, lowI], fun h => absurd h (by simp [lowI, kn_view])⟩
  | some n =>
    have hn := cint_le hc
    refine ⟨?_, fun _ => rfl⟩
    rcases hk with rfl | rfl
    · have h2 : (n : Int) ≤ 999999 := by omega
      simp [fitK, betw, lowI, h2]
    · have h2 : (n : Int) ≤ 999999 := by omega
      have h3 : (0 : Int) ≤ (n : Int) := by omega
      simp [fitK, kn_view, betw, lowI, h2, h3]
noncomputable def kOk (x : Str) : Nat → List Str → Bool
  | _, [] => true
  | j, k :: ks => kB k && ((k == "number") == (j == 1 && (x == "range" || x == "view"))) && kOk x (j + 1) ks
theorem kt_ok : KT.all (fun p => kOk p.1 1 p.2) = true := by decide +kernel
noncomputable def DK : List (Str × (Env → M D)) := [("readers", (fun _ => M.pure (.int 0))), ("range", (fun _ => M.pure (.int 3))), ("word", (fun _ => M.pure (.int 2))), ("span", (fun _ => M.pure (.int 2))), ("view", (fun _ => M.pure (.int 2))), ("stay", (fun _ => M.pure (.int 2))), ("apart", (fun _ => M.pure (.int 1)))]
noncomputable def CNT : List (Key × D) := [(.inr "readers", .int 0), (.inr "range", .int 3), (.inr "word", .int 2), (.inr "span", .int 2), (.inr "view", .int 2), (.inr "stay", .int 2), (.inr "apart", .int 1)]
section
variable {S : Sto} {t : Str} {Q : D → Sto → Prop}
theorem wp_ixKS {r : Nat} {kvs : List (Key × D)} {i : Str} {d : D} (h : S[r]? = some (.dct kvs)) (hv : valD kvs (.inr i) = some d) : Wp (ixD (.ref r) (.str i)) S Q ↔ Q d S := wp_of (by
  unfold ixD dctRd
  simp only [h, keyOf, hv])
theorem cnt_is : mergeD (zipK DK [.int 0, .int 3, .int 2, .int 2, .int 2, .int 2, .int 1]) = CNT := by with_unfolding_all rfl
theorem wp_dispDK {ρ : Env} : Wp (dispD DK ρ) S Q ↔ Q (.ref S.length) (S ++ [.dct CNT]) := wp_of (by
  have e : (S ++ [Cell.dct []])[S.length]? = some (.dct []) := by simp
  show ((match (S ++ [Cell.dct []])[S.length]? with
    | some (.dct []) => some (.ok (D.ref S.length), (S ++ [Cell.dct []]).set S.length (.dct (mergeD (zipK DK [.int 0, .int 3, .int 2, .int 2, .int 2, .int 2, .int 1]))))
    | _ => none) : Option (Except Exn D × Sto)) = _
  rw [e, cnt_is]
  rw [List.set_append_right _ _ (Nat.le_refl _), Nat.sub_self]
  rfl)
theorem cnt_val {x : Str} {ks : List Str} (h : KT.lookup x = some ks) : valD CNT (.inr x) = some (.int (ks.length : Int)) := by
  have h := mem_look h
  simp only [KT, List.mem_cons, List.not_mem_nil, or_false, Prod.mk.injEq] at h
  rcases h with ⟨rfl, rfl⟩ | ⟨rfl, rfl⟩ | ⟨rfl, rfl⟩ | ⟨rfl, rfl⟩ | ⟨rfl, rfl⟩ | ⟨rfl, rfl⟩ | ⟨rfl, rfl⟩ <;> with_unfolding_all rfl
end
end Mi
namespace Mi
open PySem PySem.Spec PyProof.Rows L2
theorem rgD_cons (j n : Nat) : rgD (j : Int) (n + 1) = .int (j : Int) :: rgD ((j + 1 : Nat) : Int) n := by
  unfold rgD
  rw [List.range_succ_eq_map, List.map_cons, List.map_map]
  refine List.cons_eq_cons.2 ⟨by simp, List.map_congr_left fun i _ => ?_⟩
  simp only [Function.comp]
  congr 1
  omega
section
variable {S0 S : Sto} {a0 a1 a3 o5 o6 : Option D} {x t : Str} {W ws : List Str} {l : List D}
noncomputable def llB : Env → M (Fl × Env) := (sSeq (sAsg (ifV (tst (b2 ltM (vget 5) (cal (on1 lenD) (aCons (vget 2) (fun _ => M.pure []))))) (calF 1 m__law_integer (aCons (b2 ixD (vget 2) (vget 5)) (fun _ => M.pure []))) (b1 negM (fun _ => M.pure (.int 1)))) (gSet 6))
    (sSeq (sIf (tst (b2 ltM (vget 6) (cal (on1 intM) (aCons (andV (b2 eqM (vget 5) (fun _ => M.pure (.int 1))) (b2 (inD false) (b2 ixD (vget 2) (fun _ => M.pure (.int 0))) (mkT (aCons (fun _ => M.pure (.str "range")) (aCons (fun _ => M.pure (.str "view")) (fun _ => M.pure [])))))) (fun _ => M.pure []))))) (sSeq (sRet (vget 5))
    sNil) sNil)
    (sSeq (sDrop (mth chkL appM (vget 4) (aCons (vget 6) (fun _ => M.pure []))))
    sNil)))
noncomputable def llE : Env → M (Fl × Env) := (sSeq (sRet (ifV (tst (b2 eqM (cal (on1 lenD) (aCons (vget 2) (fun _ => M.pure []))) (cal (on1 lenD) (aCons (vget 4) (fun _ => M.pure []))))) (vget 4) (cal (on1 lenD) (aCons (vget 4) (fun _ => M.pure [])))))
    sNil)
noncomputable def llI : Env → M (Fl × Env) := (sSeq (sIf (tst (b2 ltM (vget 6) (cal (on1 intM) (aCons (andV (b2 eqM (vget 5) (fun _ => M.pure (.int 1))) (b2 (inD false) (b2 ixD (vget 2) (fun _ => M.pure (.int 0))) (mkT (aCons (fun _ => M.pure (.str "range")) (aCons (fun _ => M.pure (.str "view")) (fun _ => M.pure [])))))) (fun _ => M.pure []))))) (sSeq (sRet (vget 5))
    sNil) sNil)
    (sSeq (sDrop (mth chkL appM (vget 4) (aCons (vget 6) (fun _ => M.pure []))))
    sNil))
theorem llB_eq : llB = (sSeq (sAsg (ifV (tst (b2 ltM (vget 5) (cal (on1 lenD) (aCons (vget 2) (fun _ => M.pure []))))) (calF 1 m__law_integer (aCons (b2 ixD (vget 2) (vget 5)) (fun _ => M.pure []))) (b1 negM (fun _ => M.pure (.int 1)))) (gSet 6)) llI) := rfl
theorem ll_eq : b__law_line = (sSeq (sAsg (mth chkS splitM (vget 0) (aCons (fun _ => M.pure (.str SPC)) (fun _ => M.pure []))) (gSet 2))
    (sSeq (sIf (tst (b2 (inD true) (b2 ixD (vget 2) (fun _ => M.pure (.int 0))) (vget 1))) (sSeq (sRet (fun _ => M.pure (.int 0)))
    sNil) sNil)
    (sSeq (sAsg (b2 ixD (dispD DK) (b2 ixD (vget 2) (fun _ => M.pure (.int 0)))) (gSet 3))
    (sSeq (sAsg (mkC (aCons (b2 ixD (vget 2) (fun _ => M.pure (.int 0))) (fun _ => M.pure []))) (gSet 4))
    (sSeq (sFor (len1 rngOf 2 (aCons (fun _ => M.pure (.int 1)) (aCons (b2 addM (vget 3) (fun _ => M.pure (.int 1))) (fun _ => M.pure [])))) (gSet 5) llB) llE))))) := rfl
noncomputable def vW : List Str → Int
  | [] => -1
  | w :: _ => lwI w
noncomputable def lowJ (x : Str) (j : Nat) : Int := if (j == 1 && (x == "range" || x == "view")) = true then 1 else 0
theorem llI_ok {j : Nat} {v : Int} (h0 : (W.map D.str)[0]? = some (.str x)) (hl : l.length < 90000) :
    Wp (llI [a0, a1, some (.lst (W.map D.str)), a3, some (.ref S0.length), some (.int (j : Int)), some (.int v)]) (S0 ++ [.lst l]) fun r S' => if lowJ x j ≤ v
      then r = (.nx, [a0, a1, some (.lst (W.map D.str)), a3, some (.ref S0.length), some (.int (j : Int)), some (.int v)]) ∧ S' = S0 ++ [.lst (l ++ [.int v])]
      else r.1 = .rt (.int (j : Int)) ∧ S' = S0 ++ [.lst l] := by
  have c := cell_last S0 l
  have hl2 : l.length < 100000 := by omega
  have ix0 : ∀ {S : Sto} {Q : D → Sto → Prop}, Wp (ixM (.lst (W.map D.str)) (.int 0)) S Q ↔ Q (.str x) S := fun {S Q} => wp_ixL (k := 0) h0
  have e1 : ((j : Int) == 1) = (j == 1) := by
    rw [Bool.eq_iff_iff, beq_iff_eq, beq_iff_eq]
    omega
  unfold llI
  cases h1 : (j == 1) with
  | false =>
    have lo : lowJ x j = 0 := by unfold lowJ; rw [h1]; rfl
    rw [lo]
    by_cases hv : (0 : Int) ≤ v
    · have hd : decide (v < 0) = false := decide_eq_false (by omega)
      simp only [orV, sDrop, ifV, metM_eq, metK_eq, wp_noE, gPutD, wp_lenDT, sSeq, sIf, sAsg, sRet, sNil, gSet, gPut, tst, b2, b1, cal, on1, aCons, vget, mkL, mkT, calF, andT, orT, notT, andV, notV, wp_bind, wp_pure, wp_if, List.map, List.length, List.replicate, List.append, List.cons_append, List.nil_append, Nat.reduceSub, Nat.reduceAdd, Nat.reduceLeDiff, List.getElem?_cons_zero, List.getElem?_cons_succ, List.set_cons_zero, List.set_cons_succ, wp_int, wp_intb, wp_int20, wp_toB, wp_add, wp_abs, wp_neg, wp_lenL, pen0, pen1, pen2, put1, put2, decide_true, decide_false, if_true, if_false, Bool.false_eq_true, Nat.zero_le, exists_eq_left, and_true, true_and, Bool.not_true, Bool.not_false, reduceCtorEq, reduceIte, wp_eqI, e1, h1, wp_cII, hd, if_pos hv, mth, chkL_ref c, wp_app c hl2]
      rw [List.set_append_right _ _ (Nat.le_refl _), Nat.sub_self]
      rfl
    · have hd : decide (v < 0) = true := decide_eq_true (by omega)
      simp only [orV, sDrop, ifV, metM_eq, metK_eq, wp_noE, gPutD, wp_lenDT, sSeq, sIf, sAsg, sRet, sNil, gSet, gPut, tst, b2, b1, cal, on1, aCons, vget, mkL, mkT, calF, andT, orT, notT, andV, notV, wp_bind, wp_pure, wp_if, List.map, List.length, List.replicate, List.append, List.cons_append, List.nil_append, Nat.reduceSub, Nat.reduceAdd, Nat.reduceLeDiff, List.getElem?_cons_zero, List.getElem?_cons_succ, List.set_cons_zero, List.set_cons_succ, wp_int, wp_intb, wp_int20, wp_toB, wp_add, wp_abs, wp_neg, wp_lenL, pen0, pen1, pen2, put1, put2, decide_true, decide_false, if_true, if_false, Bool.false_eq_true, Nat.zero_le, exists_eq_left, and_true, true_and, Bool.not_true, Bool.not_false, reduceCtorEq, reduceIte, wp_eqI, e1, h1, wp_cII, hd, if_neg hv]
  | true =>
    have lo : lowJ x j = if (x == "range" || x == "view") = true then 1 else 0 := by unfold lowJ; rw [h1]; rfl
    rw [lo]
    cases hx : (x == ("range" : Str) || x == ("view" : Str)) with
    | false =>
      by_cases hv : (0 : Int) ≤ v
      · have hd : decide (v < 0) = false := decide_eq_false (by omega)
        simp only [orV, sDrop, ifV, metM_eq, metK_eq, wp_noE, gPutD, wp_lenDT, sSeq, sIf, sAsg, sRet, sNil, gSet, gPut, tst, b2, b1, cal, on1, aCons, vget, mkL, mkT, calF, andT, orT, notT, andV, notV, wp_bind, wp_pure, wp_if, List.map, List.length, List.replicate, List.append, List.cons_append, List.nil_append, Nat.reduceSub, Nat.reduceAdd, Nat.reduceLeDiff, List.getElem?_cons_zero, List.getElem?_cons_succ, List.set_cons_zero, List.set_cons_succ, wp_int, wp_intb, wp_int20, wp_toB, wp_add, wp_abs, wp_neg, wp_lenL, pen0, pen1, pen2, put1, put2, decide_true, decide_false, if_true, if_false, Bool.false_eq_true, Nat.zero_le, exists_eq_left, and_true, true_and, Bool.not_true, Bool.not_false, reduceCtorEq, reduceIte, wp_eqI, e1, h1, wp_ixLs, ix0, inSSD, hx, wp_cII, hd, if_pos hv, mth, chkL_ref c, wp_app c hl2]
        rw [List.set_append_right _ _ (Nat.le_refl _), Nat.sub_self]
        rfl
      · have hd : decide (v < 0) = true := decide_eq_true (by omega)
        simp only [orV, sDrop, ifV, metM_eq, metK_eq, wp_noE, gPutD, wp_lenDT, sSeq, sIf, sAsg, sRet, sNil, gSet, gPut, tst, b2, b1, cal, on1, aCons, vget, mkL, mkT, calF, andT, orT, notT, andV, notV, wp_bind, wp_pure, wp_if, List.map, List.length, List.replicate, List.append, List.cons_append, List.nil_append, Nat.reduceSub, Nat.reduceAdd, Nat.reduceLeDiff, List.getElem?_cons_zero, List.getElem?_cons_succ, List.set_cons_zero, List.set_cons_succ, wp_int, wp_intb, wp_int20, wp_toB, wp_add, wp_abs, wp_neg, wp_lenL, pen0, pen1, pen2, put1, put2, decide_true, decide_false, if_true, if_false, Bool.false_eq_true, Nat.zero_le, exists_eq_left, and_true, true_and, Bool.not_true, Bool.not_false, reduceCtorEq, reduceIte, wp_eqI, e1, h1, wp_ixLs, ix0, inSSD, hx, wp_cII, hd, if_neg hv]
    | true =>
      by_cases hv : (1 : Int) ≤ v
      · have hd : decide (v < 1) = false := decide_eq_false (by omega)
        simp only [orV, sDrop, ifV, metM_eq, metK_eq, wp_noE, gPutD, wp_lenDT, sSeq, sIf, sAsg, sRet, sNil, gSet, gPut, tst, b2, b1, cal, on1, aCons, vget, mkL, mkT, calF, andT, orT, notT, andV, notV, wp_bind, wp_pure, wp_if, List.map, List.length, List.replicate, List.append, List.cons_append, List.nil_append, Nat.reduceSub, Nat.reduceAdd, Nat.reduceLeDiff, List.getElem?_cons_zero, List.getElem?_cons_succ, List.set_cons_zero, List.set_cons_succ, wp_int, wp_intb, wp_int20, wp_toB, wp_add, wp_abs, wp_neg, wp_lenL, pen0, pen1, pen2, put1, put2, decide_true, decide_false, if_true, if_false, Bool.false_eq_true, Nat.zero_le, exists_eq_left, and_true, true_and, Bool.not_true, Bool.not_false, reduceCtorEq, reduceIte, wp_eqI, e1, h1, wp_ixLs, ix0, inSSD, hx, wp_cII, hd, if_pos hv, mth, chkL_ref c, wp_app c hl2]
        rw [List.set_append_right _ _ (Nat.le_refl _), Nat.sub_self]
        rfl
      · have hd : decide (v < 1) = true := decide_eq_true (by omega)
        simp only [orV, sDrop, ifV, metM_eq, metK_eq, wp_noE, gPutD, wp_lenDT, sSeq, sIf, sAsg, sRet, sNil, gSet, gPut, tst, b2, b1, cal, on1, aCons, vget, mkL, mkT, calF, andT, orT, notT, andV, notV, wp_bind, wp_pure, wp_if, List.map, List.length, List.replicate, List.append, List.cons_append, List.nil_append, Nat.reduceSub, Nat.reduceAdd, Nat.reduceLeDiff, List.getElem?_cons_zero, List.getElem?_cons_succ, List.set_cons_zero, List.set_cons_succ, wp_int, wp_intb, wp_int20, wp_toB, wp_add, wp_abs, wp_neg, wp_lenL, pen0, pen1, pen2, put1, put2, decide_true, decide_false, if_true, if_false, Bool.false_eq_true, Nat.zero_le, exists_eq_left, and_true, true_and, Bool.not_true, Bool.not_false, reduceCtorEq, reduceIte, wp_eqI, e1, h1, wp_ixLs, ix0, inSSD, hx, wp_cII, hd, if_neg hv]
theorem llB_ok {j : Nat} (h0 : (W.map D.str)[0]? = some (.str x)) (hw : ∀ w ∈ ws, WT w) (hd : W.drop j = ws) (hl : l.length < 90000) :
    Wp (llB [a0, a1, some (.lst (W.map D.str)), a3, some (.ref S0.length), some (.int (j : Int)), o6]) (S0 ++ [.lst l]) fun r S' => if lowJ x j ≤ vW ws
      then r = (.nx, [a0, a1, some (.lst (W.map D.str)), a3, some (.ref S0.length), some (.int (j : Int)), some (.int (vW ws))]) ∧ S' = S0 ++ [.lst (l ++ [.int (vW ws)])]
      else r.1 = .rt (.int (j : Int)) ∧ S' = S0 ++ [.lst l] := by
  rw [llB_eq]
  have e1 : ((W.map D.str).length : Int) = (W.length : Int) := by rw [List.length_map]
  cases ws with
  | nil =>
    have hj : W.length ≤ j := by
      have := congrArg List.length hd
      simp at this
      omega
    have h1 : decide ((j : Int) < (W.length : Int)) = false := decide_eq_false (by omega)
    simp only [sSeq, sAsg, wp_bind]
    simp only [orV, sDrop, ifV, metM_eq, metK_eq, wp_noE, gPutD, wp_lenDT, sSeq, sIf, sAsg, sRet, sNil, gSet, gPut, tst, b2, b1, cal, on1, aCons, vget, mkL, mkT, calF, andT, orT, notT, andV, notV, wp_bind, wp_pure, wp_if, List.map, List.length, List.replicate, List.append, List.cons_append, List.nil_append, Nat.reduceSub, Nat.reduceAdd, Nat.reduceLeDiff, List.getElem?_cons_zero, List.getElem?_cons_succ, List.set_cons_zero, List.set_cons_succ, wp_int, wp_intb, wp_int20, wp_toB, wp_add, wp_abs, wp_neg, wp_lenL, pen0, pen1, pen2, put1, put2, decide_true, decide_false, if_true, if_false, Bool.false_eq_true, Nat.zero_le, exists_eq_left, and_true, true_and, Bool.not_true, Bool.not_false, reduceCtorEq, reduceIte, wp_lenDL, e1, wp_cII, h1, wp_neg]
    exact llI_ok h0 hl
  | cons w r =>
    have hj : j < W.length := by
      refine Nat.lt_of_not_le fun z => ?_
      rw [List.drop_eq_nil_of_le z] at hd
      cases hd
    have h1 : decide ((j : Int) < (W.length : Int)) = true := decide_eq_true (by omega)
    have hx : (W.map D.str)[j]? = some (.str w) := by
      have : W[j]? = some w := by rw [← List.head?_drop, hd]; rfl
      rw [List.getElem?_map, this]
      rfl
    have hw1 := hw w (by simp)
    simp only [sSeq, sAsg, wp_bind]
    simp only [orV, sDrop, ifV, metM_eq, metK_eq, wp_noE, gPutD, wp_lenDT, sSeq, sIf, sAsg, sRet, sNil, gSet, gPut, tst, b2, b1, cal, on1, aCons, vget, mkL, mkT, calF, andT, orT, notT, andV, notV, wp_bind, wp_pure, wp_if, List.map, List.length, List.replicate, List.append, List.cons_append, List.nil_append, Nat.reduceSub, Nat.reduceAdd, Nat.reduceLeDiff, List.getElem?_cons_zero, List.getElem?_cons_succ, List.set_cons_zero, List.set_cons_succ, wp_int, wp_intb, wp_int20, wp_toB, wp_add, wp_abs, wp_neg, wp_lenL, pen0, pen1, pen2, put1, put2, decide_true, decide_false, if_true, if_false, Bool.false_eq_true, Nat.zero_le, exists_eq_left, and_true, true_and, Bool.not_true, Bool.not_false, reduceCtorEq, reduceIte, wp_lenDL, e1, wp_cII, h1, wp_ixLs, wp_ixL hx, wp_of (law_int_ok (S := S0 ++ [.lst l]) hw1)]
    exact llI_ok h0 hl
end
end Mi
namespace Mi
open PySem PySem.Spec PyProof.Rows L2
section
variable {S0 S : Sto} {a0 a1 a3 o5 o6 : Option D} {x t : Str} {W : List Str}
theorem low_eq {k : Str} {j : Nat} (h : ((k == ("number" : Str)) == (j == 1 && (x == ("range" : Str) || x == ("view" : Str)))) = true) : lowJ x j = lowI k := by
  have h := (beq_iff_eq.1 h)
  unfold lowJ lowI
  rw [← h]
  by_cases e : k = "number"
  · simp [e]
  · simp [e]
theorem wp_of_eq {α : Type} {m : M α} {S S' : Sto} {a : α} {Q : α → Sto → Prop} (e : m S = some (.ok a, S')) (h : Q a S') : Wp m S Q := ⟨a, S', e, h⟩
theorem ll_loop (h0 : (W.map D.str)[0]? = some (.str x)) : ∀ (ks ws : List Str) (j : Nat) (l : List D) (o5 o6 : Option D), kOk x j ks = true → (∀ w ∈ ws, WT w) → W.drop j = ws → l.length + 1 = j → l.length + ks.length < 80000 →
    Wp (loop (gSet 5) llB (rgD (j : Int) ks.length) [a0, a1, some (.lst (W.map D.str)), a3, some (.ref S0.length), o5, o6]) (S0 ++ [.lst (.str x :: l)]) fun r S' => (∃ T, S' = S0 ++ T) ∧ match pF ks ws l with
      | .error n => r.1 = .rt (.int (n : Int))
      | .ok qs => if qs.length = l.length + ks.length then (∃ p5 p6, r = (.nx, [a0, a1, some (.lst (W.map D.str)), a3, some (.ref S0.length), p5, p6])) ∧ S' = S0 ++ [.lst (.str x :: qs)] else r.1 = .rt (.int ((qs.length + 1 : Nat) : Int))
  | [], ws, j, l, o5, o6, _, _, _, _, _ => wp_of_eq rfl ⟨⟨_, rfl⟩, by
      show if l.length = l.length + 0 then _ else _
      rw [if_pos (by omega)]
      exact ⟨⟨_, _, rfl⟩, rfl⟩⟩
  | k :: ks, ws, j, l, o5, o6, hk, hw, hd, hj, hl => by
    simp only [kOk, Bool.and_eq_true] at hk
    obtain ⟨⟨k1, k2⟩, k3⟩ := hk
    simp only [List.length_cons] at hl ⊢
    rw [rgD_cons]
    simp only [loop, gSet, wp_bind, wp_pure, List.set_cons_succ, List.set_cons_zero]
    show Wp (llB [a0, a1, some (.lst (W.map D.str)), a3, some (.ref S0.length), some (.int (j : Int)), o6]) (S0 ++ [.lst (.str x :: l)]) _
    refine (llB_ok (x := x) h0 hw hd (by simp; omega)).mono ?_
    rintro ⟨f, ρ⟩ S' h
    rw [low_eq k2] at h
    cases ws with
    | nil =>
      rw [if_neg (by simp only [vW, lowI]; split <;> omega)] at h
      obtain ⟨h1, rfl⟩ := h
      subst h1
      refine wp_of_eq rfl ⟨⟨_, rfl⟩, ?_⟩
      simp only [pF]
      rw [if_neg (by omega), hj]
    | cons w ws =>
      obtain ⟨f1, f2⟩ := fit_low (k := k) (w := w) k1
      by_cases hv : lowI k ≤ lwI w
      · rw [if_pos (show lowI k ≤ vW (w :: ws) from hv)] at h
        obtain ⟨h1, rfl⟩ := h
        cases h1
        have e := f2 hv
        have hd2 : W.drop (j + 1) = ws := by
          rw [← List.drop_drop, hd]
          rfl
        have ih := ll_loop h0 ks ws (j + 1) (l ++ [rdI w]) (some (.int (j : Int))) (some (.int (lwI w))) k3 (fun z hz => hw z (by simp [hz])) hd2 (by simp; omega) (by simp; omega)
        simp only [pF, f1, decide_eq_true hv, if_true]
        rw [e] at ih ⊢
        refine Wp.mono ih ?_
        intro r S' h
        rw [show (l ++ [D.int (lwI w)]).length + ks.length = l.length + (ks.length + 1) by simp; omega] at h
        exact h
      · rw [if_neg (show ¬ lowI k ≤ vW (w :: ws) from hv)] at h
        obtain ⟨h1, rfl⟩ := h
        subst h1
        refine wp_of_eq rfl ⟨⟨_, rfl⟩, ?_⟩
        simp only [pF, f1, decide_eq_false hv, Bool.false_eq_true, if_false]
        rw [hj]
theorem llE_ok {o5 o6 : Option D} {qs : List D} : Wp (llE [a0, a1, some (.lst (W.map D.str)), a3, some (.ref S0.length), o5, o6]) (S0 ++ [.lst qs]) fun r S' => S' = S0 ++ [.lst qs] ∧ r.1 = .rt (if W.length = qs.length then .ref S0.length else .int (qs.length : Int)) := by
  have c := cell_last S0 qs
  have e1 : ((W.map D.str).length : Int) = (W.length : Int) := by rw [List.length_map]
  unfold llE
  by_cases h : W.length = qs.length
  · have hb : (W.length == qs.length) = true := by simpa using h
    simp only [orV, sDrop, ifV, metM_eq, metK_eq, wp_noE, gPutD, wp_lenDT, sSeq, sIf, sAsg, sRet, sNil, gSet, gPut, tst, b2, b1, cal, on1, aCons, vget, mkL, mkT, calF, andT, orT, notT, andV, notV, wp_bind, wp_pure, wp_if, List.map, List.length, List.replicate, List.append, List.cons_append, List.nil_append, Nat.reduceSub, Nat.reduceAdd, Nat.reduceLeDiff, List.getElem?_cons_zero, List.getElem?_cons_succ, List.set_cons_zero, List.set_cons_succ, wp_int, wp_intb, wp_int20, wp_toB, wp_add, wp_abs, wp_neg, wp_lenL, pen0, pen1, pen2, put1, put2, decide_true, decide_false, if_true, if_false, Bool.false_eq_true, Nat.zero_le, exists_eq_left, and_true, true_and, Bool.not_true, Bool.not_false, reduceCtorEq, reduceIte, wp_lenDL, wp_lenC c, e1, wp_eqI, natEq, hb, h]
    simp
  · have hb : (W.length == qs.length) = false := by simpa using h
    simp only [orV, sDrop, ifV, metM_eq, metK_eq, wp_noE, gPutD, wp_lenDT, sSeq, sIf, sAsg, sRet, sNil, gSet, gPut, tst, b2, b1, cal, on1, aCons, vget, mkL, mkT, calF, andT, orT, notT, andV, notV, wp_bind, wp_pure, wp_if, List.map, List.length, List.replicate, List.append, List.cons_append, List.nil_append, Nat.reduceSub, Nat.reduceAdd, Nat.reduceLeDiff, List.getElem?_cons_zero, List.getElem?_cons_succ, List.set_cons_zero, List.set_cons_succ, wp_int, wp_intb, wp_int20, wp_toB, wp_add, wp_abs, wp_neg, wp_lenL, pen0, pen1, pen2, put1, put2, decide_true, decide_false, if_true, if_false, Bool.false_eq_true, Nat.zero_le, exists_eq_left, and_true, true_and, Bool.not_true, Bool.not_false, reduceCtorEq, reduceIte, wp_lenDL, wp_lenC c, e1, wp_eqI, natEq, hb, h]
theorem lawline_ok {al : List Str} (ht : WT t) (ha : ∀ x ∈ al, (KT.lookup x).isSome = true) : Wp (m__law_line [.str t, .lst (al.map D.str)]) S fun v S' => (∃ T, S' = S ++ T) ∧ match pL al (Txt.split t SPC) with
    | .ok q => ∃ r, v = .ref r ∧ S'[r]? = some (.lst (.str q.1 :: q.2))
    | .error n => v = .int (n : Int) := by
  obtain ⟨x, r, hs⟩ := split_cons t
  have hws : ∀ w ∈ r, WT w := fun w hw => piece_ok ht (y := SPC) (by rw [hs]; simp [hw])
  unfold m__law_line
  refine wp_run ?_
  rw [ll_eq]
  have h0 : ((x :: r).map D.str)[0]? = some (D.str x) := rfl
  have ix0 : ∀ {S : Sto} {Q : D → Sto → Prop}, Wp (ixM (.lst ((x :: r).map D.str)) (.int 0)) S Q ↔ Q (.str x) S := fun {S Q} => wp_ixL (k := 0) h0
  cases hf : al.contains x with
  | false =>
    simp only [orV, sDrop, ifV, metM_eq, metK_eq, wp_noE, gPutD, wp_lenDT, sSeq, sIf, sAsg, sRet, sNil, gSet, gPut, tst, b2, b1, cal, on1, aCons, vget, mkL, mkT, calF, andT, orT, notT, andV, notV, wp_bind, wp_pure, wp_if, List.map, List.length, List.replicate, List.append, List.cons_append, List.nil_append, Nat.reduceSub, Nat.reduceAdd, Nat.reduceLeDiff, List.getElem?_cons_zero, List.getElem?_cons_succ, List.set_cons_zero, List.set_cons_succ, wp_int, wp_intb, wp_int20, wp_toB, wp_add, wp_abs, wp_neg, wp_lenL, pen0, pen1, pen2, put1, put2, decide_true, decide_false, if_true, if_false, Bool.false_eq_true, Nat.zero_le, exists_eq_left, and_true, true_and, Bool.not_true, Bool.not_false, reduceCtorEq, reduceIte, mth, wp_chkS, wp_splitM spc_len ht, hs, wp_ixLs]
    rw [show (D.str x :: List.map D.str r) = (x :: r).map D.str from rfl, ix0]
    simp only [orV, sDrop, ifV, metM_eq, metK_eq, wp_noE, gPutD, wp_lenDT, sSeq, sIf, sAsg, sRet, sNil, gSet, gPut, tst, b2, b1, cal, on1, aCons, vget, mkL, mkT, calF, andT, orT, notT, andV, notV, wp_bind, wp_pure, wp_if, List.map, List.length, List.replicate, List.append, List.cons_append, List.nil_append, Nat.reduceSub, Nat.reduceAdd, Nat.reduceLeDiff, List.getElem?_cons_zero, List.getElem?_cons_succ, List.set_cons_zero, List.set_cons_succ, wp_int, wp_intb, wp_int20, wp_toB, wp_add, wp_abs, wp_neg, wp_lenL, pen0, pen1, pen2, put1, put2, decide_true, decide_false, if_true, if_false, Bool.false_eq_true, Nat.zero_le, exists_eq_left, and_true, true_and, Bool.not_true, Bool.not_false, reduceCtorEq, reduceIte, nin_strsL, hf]
    refine ⟨_, rfl, ⟨[], by simp⟩, ?_⟩
    simp only [pL, hf, Bool.false_eq_true, if_false]
    rfl
  | true =>
    have hx := ha x (by simpa using hf)
    obtain ⟨ks, hk⟩ := Option.isSome_iff_exists.1 hx
    obtain ⟨k1, k2, k3⟩ := kt_at hk
    have kk : kOk x 1 ks = true := List.all_eq_true.1 kt_ok _ (mem_look hk)
    have cd : (S ++ [Cell.dct CNT])[S.length]? = some (.dct CNT) := by simp
    have e2 : ((ks.length : Int) + 1 - 1).toNat = ks.length := by omega
    have rg : ∀ {S : Sto} {P : List D → Sto → Prop}, Wp (rngOf [.int 1, .int ((ks.length : Int) + 1)]) S P ↔ P (rgD ((1 : Nat) : Int) ks.length) S := fun {S P} => wp_of (by
      show (if (-100000 : Int) ≤ 1 ∧ (1 : Int) ≤ 100000 ∧ (-100000 : Int) ≤ (ks.length : Int) + 1 ∧ (ks.length : Int) + 1 ≤ 100000 then M.pure (rgD 1 ((ks.length : Int) + 1 - 1).toNat) else bad) S = _
      rw [if_pos (by omega), e2]
      rfl)
    simp only [orV, sDrop, ifV, metM_eq, metK_eq, wp_noE, gPutD, wp_lenDT, sSeq, sIf, sAsg, sRet, sNil, gSet, gPut, tst, b2, b1, cal, on1, aCons, vget, mkL, mkT, calF, andT, orT, notT, andV, notV, wp_bind, wp_pure, wp_if, List.map, List.length, List.replicate, List.append, List.cons_append, List.nil_append, Nat.reduceSub, Nat.reduceAdd, Nat.reduceLeDiff, List.getElem?_cons_zero, List.getElem?_cons_succ, List.set_cons_zero, List.set_cons_succ, wp_int, wp_intb, wp_int20, wp_toB, wp_add, wp_abs, wp_neg, wp_lenL, pen0, pen1, pen2, put1, put2, decide_true, decide_false, if_true, if_false, Bool.false_eq_true, Nat.zero_le, exists_eq_left, and_true, true_and, Bool.not_true, Bool.not_false, reduceCtorEq, reduceIte, mth, wp_chkS, wp_splitM spc_len ht, hs, wp_ixLs]
    rw [show (D.str x :: List.map D.str r) = (x :: r).map D.str from rfl, ix0]
    simp only [orV, sDrop, ifV, metM_eq, metK_eq, wp_noE, gPutD, wp_lenDT, sSeq, sIf, sAsg, sRet, sNil, gSet, gPut, tst, b2, b1, cal, on1, aCons, vget, mkL, mkT, calF, andT, orT, notT, andV, notV, wp_bind, wp_pure, wp_if, List.map, List.length, List.replicate, List.append, List.cons_append, List.nil_append, Nat.reduceSub, Nat.reduceAdd, Nat.reduceLeDiff, List.getElem?_cons_zero, List.getElem?_cons_succ, List.set_cons_zero, List.set_cons_succ, wp_int, wp_intb, wp_int20, wp_toB, wp_add, wp_abs, wp_neg, wp_lenL, pen0, pen1, pen2, put1, put2, decide_true, decide_false, if_true, if_false, Bool.false_eq_true, Nat.zero_le, exists_eq_left, and_true, true_and, Bool.not_true, Bool.not_false, reduceCtorEq, reduceIte, nin_strsL, hf, wp_dispDK, wp_ixLs]
    rw [show (D.str x :: List.map D.str r) = (x :: r).map D.str from rfl, ix0]
    simp only [orV, sDrop, ifV, metM_eq, metK_eq, wp_noE, gPutD, wp_lenDT, sSeq, sIf, sAsg, sRet, sNil, gSet, gPut, tst, b2, b1, cal, on1, aCons, vget, mkL, mkT, calF, andT, orT, notT, andV, notV, wp_bind, wp_pure, wp_if, List.map, List.length, List.replicate, List.append, List.cons_append, List.nil_append, Nat.reduceSub, Nat.reduceAdd, Nat.reduceLeDiff, List.getElem?_cons_zero, List.getElem?_cons_succ, List.set_cons_zero, List.set_cons_succ, wp_int, wp_intb, wp_int20, wp_toB, wp_add, wp_abs, wp_neg, wp_lenL, pen0, pen1, pen2, put1, put2, decide_true, decide_false, if_true, if_false, Bool.false_eq_true, Nat.zero_le, exists_eq_left, and_true, true_and, Bool.not_true, Bool.not_false, reduceCtorEq, reduceIte, wp_ixKS cd (cnt_val hk), mkC, wp_ixLs]
    rw [show (D.str x :: List.map D.str r) = (x :: r).map D.str from rfl, ix0]
    simp only [orV, sDrop, ifV, metM_eq, metK_eq, wp_noE, gPutD, wp_lenDT, sSeq, sIf, sAsg, sRet, sNil, gSet, gPut, tst, b2, b1, cal, on1, aCons, vget, mkL, mkT, calF, andT, orT, notT, andV, notV, wp_bind, wp_pure, wp_if, List.map, List.length, List.replicate, List.append, List.cons_append, List.nil_append, Nat.reduceSub, Nat.reduceAdd, Nat.reduceLeDiff, List.getElem?_cons_zero, List.getElem?_cons_succ, List.set_cons_zero, List.set_cons_succ, wp_int, wp_intb, wp_int20, wp_toB, wp_add, wp_abs, wp_neg, wp_lenL, pen0, pen1, pen2, put1, put2, decide_true, decide_false, if_true, if_false, Bool.false_eq_true, Nat.zero_le, exists_eq_left, and_true, true_and, Bool.not_true, Bool.not_false, reduceCtorEq, reduceIte, wp_newLs, sFor, len1]
    rw [rg]
    refine (ll_loop (S0 := S ++ [.dct CNT]) (x := x) (W := x :: r) h0 ks r 1 [] none none kk hws rfl rfl (by simp; omega)).mono ?_
    rintro ⟨f, ρ⟩ S' ⟨⟨T, rfl⟩, h⟩
    cases hr : pF ks r [] with
    | error n =>
      rw [hr] at h
      have h : f = .rt (.int (n : Int)) := h
      have e : pL al (x :: r) = .error n := by simp only [pL, hf, hk, hr, if_true]
      rw [e]
      subst h
      exact wp_of_eq rfl ⟨_, rfl, ⟨_, List.append_assoc _ _ _⟩, rfl⟩
    | ok qs =>
      rw [hr] at h
      simp only [List.length_nil, Nat.zero_add] at h
      have e : pL al (x :: r) = if qs.length = r.length ∧ qs.length = ks.length then .ok (x, qs) else .error (qs.length + 1) := by simp only [pL, hf, hk, hr, if_true]
      rw [e]
      by_cases hq : qs.length = ks.length
      · rw [if_pos hq] at h
        obtain ⟨⟨p5, p6, e5⟩, e2⟩ := h
        cases e5
        rw [e2]
        refine (llE_ok (S0 := S ++ [.dct CNT]) (W := x :: r) (qs := .str x :: qs)).mono ?_
        rintro ⟨f2, ρ2⟩ S2 ⟨rfl, e3⟩
        have e3 : f2 = _ := e3
        subst e3
        refine ⟨_, rfl, ⟨_, List.append_assoc _ _ _⟩, ?_⟩
        by_cases hl : qs.length = r.length
        · rw [if_pos (⟨hl, hq⟩ : qs.length = r.length ∧ qs.length = ks.length), if_pos (show (x :: r).length = (D.str x :: qs).length by simp [hl])]
          exact ⟨_, rfl, cell_last _ _⟩
        · rw [if_neg (fun z : qs.length = r.length ∧ qs.length = ks.length => hl z.1), if_neg (show ¬ (x :: r).length = (D.str x :: qs).length by simp; omega)]
          rfl
      · rw [if_neg hq] at h
        have h : f = .rt (.int ((qs.length + 1 : Nat) : Int)) := h
        subst h
        refine wp_of_eq rfl ⟨_, rfl, ⟨_, List.append_assoc _ _ _⟩, ?_⟩
        rw [if_neg (fun z : qs.length = r.length ∧ qs.length = ks.length => hq z.2)]
end
end Mi
namespace Mi
open PySem PySem.Spec PyProof.Rows L2
section
variable {S S' : Sto} {t : Str} {mc : M D} {d : D} {n : Nat}
theorem heard_ok (e : mc S = some (.ok d, S')) : h__law_heard mc S = some (.ok (.lst [d]), S') := by
  unfold h__law_heard heardM
  rw [e]
  rfl
theorem heard_bad {ln : Int} (e : mc S = some (.error (badT ln n), S')) : h__law_heard mc S = some (.ok (.tup [.int ln, .int (n : Int)]), S') := by
  unfold h__law_heard heardM
  rw [e]
  show catchM _ _ _ _ _ _ = _
  unfold catchM badT
  rw [if_pos (by simp)]
  rfl
end
end Mi
namespace Mi
open PySem PySem.Spec PyProof.Rows L2
theorem gl_all {P : Nat → D → Prop} {w : Nat} : ∀ {ds : List D}, (∀ d ∈ ds, P w d) → GL P (ds.length * (w + 2) + 3) ds
  | [], _ => by simp [GL]
  | d :: ds, h => by
    refine ⟨w, ds.length * (w + 2) + 3, h d (by simp), gl_all fun x hx => h x (by simp [hx]), ?_⟩
    simp only [List.length_cons, Nat.succ_mul]
    omega
theorem GB_big : (1000000 : Int) ≤ GB := by decide +kernel
end Mi
namespace Mi
open PySem PySem.Spec PyProof.Rows L2
noncomputable def txtOf (d : D) : Str := match toPy d with
  | some p => p.shown
  | none => ""
section
variable {S S' : Sto} {r : Nat} {Q : D → Sto → Prop}
theorem wp_newLs2 {ds : List D} {Q : D → Sto → Prop} : Wp (newL ds) S Q ↔ Q (.ref S.length) (S ++ [.lst ds]) := wp_of rfl
end
end Mi
namespace Mi
open PySem PySem.Spec PyProof.Rows L2
/-- a text of small signs, of at most n -/
structure WL (n : Nat) (w : Str) : Prop where
  sm : Small w
  ln : w.length ≤ n
theorem WL.wt {n : Nat} {w : Str} (h : WL n w) (hn : n ≤ 20000) : WT w := ⟨h.sm, Nat.le_trans h.ln hn⟩
theorem WL.mono {n m : Nat} {w : Str} (h : WL n w) (hn : n ≤ m) : WL m w := ⟨h.sm, Nat.le_trans h.ln hn⟩
theorem WL.app {n m : Nat} {a b : Str} (h : WL n a) (k : WL m b) : WL (n + m) (a ++ b) := ⟨small_app h.sm k.sm, by rw [Str.length_append]; exact Nat.add_le_add h.ln k.ln⟩
theorem WL.cut {n : Nat} {a : Str} {lo hi : Option Int} (h : WL n a) : WL n (cutS a lo hi) := ⟨(small_cut h.sm).1, Nat.le_trans (small_cut h.sm).2 h.ln⟩
theorem join_sub {y : Str} : ∀ (ps : List Str) (c : Nat), c ∈ (Str.join y ps).cps.toList → c ∈ y.cps.toList ∨ ∃ p ∈ ps, c ∈ p.cps.toList
  | [], c, h => by cases h
  | [x], c, h => .inr ⟨x, by simp, h⟩
  | x :: z :: r, c, h => by
    have h : c ∈ ((x.cps ++ y.cps) ++ (Str.join y (z :: r)).cps).toList := h
    rw [Array.toList_append, Array.toList_append] at h
    rcases List.mem_append.1 h with h | h
    · rcases List.mem_append.1 h with h | h
      · exact .inr ⟨x, by simp, h⟩
      · exact .inl h
    · rcases join_sub (z :: r) c h with h | ⟨p, hp, h⟩
      · exact .inl h
      · exact .inr ⟨p, by simp at hp ⊢; exact .inr hp, h⟩
theorem join_eq (y : Str) (ps : List Str) : Txt.join y ps = Str.join y ps := StrLaws.glued_eq_join y ps
theorem spc_small : Small SPC := by
  intro c hc
  rw [spc_is] at hc
  simp at hc
  omega
theorem WL.join {ps : List Str} {n : Nat} (h : ∀ p ∈ ps, Small p) (hl : (ps.map (·.length)).sum + ps.length ≤ n) : WL n (Txt.join SPC ps) := by
  rw [join_eq]
  refine ⟨fun c hc => ?_, ?_⟩
  · rcases join_sub ps c hc with h1 | ⟨p, hp, h1⟩
    · exact spc_small c h1
    · exact h p hp c h1
  · have := StrLaws.join_length_le SPC ps
    have e : SPC.length = 1 := by decide +kernel
    rw [e] at this
    omega
/-- the weight of a text's words -/
theorem words_w (a : Str) : ((Txt.split a SPC).map (·.length)).sum + (Txt.split a SPC).length ≤ a.length + 1 := PyProof.Rows.split_weight a SPC (by decide +kernel)
end Mi
namespace Mi
open PySem PySem.Spec PyProof.Rows L2
section
variable {S : Sto} {cells : List Int} {A : Int}
theorem PenB.app (h : PenB cells A S) (X : Sto) : PenB cells A (S ++ X) := by
  obtain ⟨T, a, r, h1, h2, rfl⟩ := h
  exact ⟨T ++ X, a, r, h1, h2, rfl⟩
end
end Mi
namespace Mi
open PySem PySem.Spec PyProof.Rows L2
noncomputable def num (n : Nat) : Str := Str.ofString (toString ((n : Nat) : Int))
theorem num_l (n : Nat) : (num n).cps.toList = TL.numL n := TL.tl_num n
theorem num_head : ∀ n : Nat, 1 ≤ n → (TL.numL n).head? ≠ some 48
  | n, h => by
    by_cases h10 : n < 10
    · rw [TL.numL_lt h10]
      simp
      omega
    · rw [TL.numL_step (by omega)]
      have ih := num_head (n / 10) (by omega)
      cases hl : TL.numL (n / 10) with
      | nil => exact absurd hl (TL.numL_ne _)
      | cons a r =>
        rw [hl] at ih
        simpa using ih
theorem num_can {n : Nat} (h : n ≤ 999999) : canB (num n) = true := by
  have l6 : (TL.numL n).length ≤ 6 := TL.numL_len (by omega) (by omega)
  have e : (num n).length = (TL.numL n).length := by rw [← len_w, num_l]
  have hp : 1 ≤ (TL.numL n).length := List.length_pos_iff.2 (TL.numL_ne n)
  have hd : digB (num n) = true := by
    unfold digB
    rw [num_l, List.all_eq_true]
    intro c hc
    have := TL.numL_digits n c hc
    rw [dig_mem]
    simp [this.1, this.2]
  unfold canB
  rw [hd, num_l, e]
  by_cases h0 : n = 0
  · subst h0
    rw [TL.numL_lt (by omega)]
    rfl
  · have h48 := num_head n (by omega)
    have : ((TL.numL n).head? == some 48) = false := by rw [beq_eq_false_iff_ne]; exact h48
    rw [this]
    simp [hp, l6]
theorem num_rd {n : Nat} (h : n ≤ 999999) : rdI (num n) = .int (n : Int) := by
  have e : cval (num n) = n := by
    unfold cval
    rw [num_l]
    exact TL.numL_val n
  simp only [rdI, cint, num_can h, if_true, e]
theorem num_free (n : Nat) {s : Nat} (h : s < 48 ∨ 57 < s) : s ∉ (num n).cps.toList := by rw [num_l]; exact TL.numL_free h
theorem num_wl {n : Nat} (h : n ≤ 999999) : WL 6 (num n) := by
  refine ⟨fun c hc => ?_, ?_⟩
  · rw [num_l] at hc
    have := TL.numL_digits n c hc
    omega
  · rw [← len_w, num_l]
    exact TL.numL_len (by omega) (by omega)
end Mi
namespace Mi
open PySem PySem.Spec PyProof.Rows L2
theorem split_join {c : Nat} {y : Str} (hy : y = ⟨#[c]⟩) (hc : c < 256) {ws : List Str} (hne : ws ≠ []) (hf : ∀ p ∈ ws, c ∉ p.cps.toList) : Txt.split (Txt.join y ws) y = ws := by
  subst hy
  have ey : TL.tl (⟨#[c]⟩ : Str) = [c] := rfl
  refine TL.map_tl_inj ?_
  rw [TL.split_spl _ _ (by rw [ey]; simp) (TL.kind_ok (by simpa using hc)), ey]
  have e : TL.tl (Txt.join (⟨#[c]⟩ : Str) ws) = TL.joinL [c] (ws.map TL.tl) := by
    rw [TL.join_eq, TL.tl_join, ey]
  rw [e]
  refine TL.spl_join (by simpa using hne) fun p hp => ?_
  obtain ⟨q, hq, rfl⟩ := List.mem_map.1 hp
  exact hf q hq
end Mi
namespace Mi
open PySem PySem.Spec PyProof.Rows L2
section
variable {S : Sto} {Q : D → Sto → Prop}
theorem strI {n : Nat} (h : n ≤ 1000000) : Wp (strM (.int (n : Int))) S Q ↔ Q (.str (num n)) S := wp_of (by
  have hl : (n : Int).natAbs.log2 < 1920 := by
    rw [Int.natAbs_natCast]
    by_cases h0 : n = 0
    · subst h0; decide
    · have : n < 2 ^ 1920 := Nat.lt_of_le_of_lt h (by decide +kernel)
      exact (Nat.log2_lt h0).2 this
  show (if (n : Int).natAbs.log2 < 1920 then M.pure (D.str (Str.ofString (toString (n : Int)))) else bad) S = _
  rw [if_pos hl]
  rfl)
end
end Mi
namespace Mi
open PySem PySem.Spec PyProof.Rows L2
noncomputable def Tw (h w : Nat) (d : D) : Prop := ∃ p, Told GB h w d p
theorem Tw.mono {h w h' w' : Nat} {d : D} (t : Tw h w d) (hh : h ≤ h') (hw : w ≤ w') : Tw h' w' d := let ⟨p, k⟩ := t; ⟨p, k.py, k.show_, Nat.le_trans k.len hw, k.ok, Nat.le_trans k.depth (by omega)⟩
theorem tw_num {n : Nat} (h : n ≤ 999999) : Tw 0 6 (.int (n : Int)) := by
  have e : (PyData.int (n : Int)).shown = num n := by simp [PyData.shown, num]
  have hb : -(1000000 : Int) ≤ n ∧ (n : Int) ≤ 1000000 := by omega
  exact ⟨.int n, rfl, by have h3 := int_log hb GB_big; rw [Int.natAbs_natCast] at h3; simp [PyData.showable, h3], by rw [e]; exact (num_wl h).ln, by rw [e]; exact small_ok (num_wl h).sm, by simp [PyData.depth]⟩
theorem tw_str {x : Str} {n : Nat} (h : WL n x) : Tw 0 (10 * n + 2) (.str x) := by
  have e2 : (reprText x).length ≤ 10 * x.length + 2 := PySem.StrLaws.reprText_len x (fun c hc => Nat.lt_trans (h.sm c hc) (by decide))
  have e : (PyData.str x).shown = reprText x := by simp [PyData.shown]
  have := h.ln
  exact ⟨.str x, rfl, by simp [PyData.showable], by rw [e]; omega, by rw [e]; exact strOk_repr h.sm, by simp [PyData.depth]⟩
theorem tw_tup {h w : Nat} {ds : List D} (g : ∀ d ∈ ds, Tw h w d) : Tw (h + 1) (ds.length * (w + 2) + 3) (.tup ds) := by
  obtain ⟨ps, ks⟩ := list_told (b := GB) (h := h) (P := fun w d => Tw h w d) (fun w d g => g) (gl_all g)
  exact ⟨.tuple ps, by simp [toPy, ks.py], by simp [PyData.showable, ks.show_], by simp only [PyData.shown]; exact Nat.le_trans (tupleText_len_le _) ks.len, by simp only [PyData.shown]; exact strOk_tup ks.ok, by simp only [PyData.depth]; have := ks.depth; omega⟩
theorem tw_lst {h w : Nat} {ds : List D} (g : ∀ d ∈ ds, Tw h w d) : Tw (h + 1) (ds.length * (w + 2) + 3) (.lst ds) := by
  obtain ⟨ps, ks⟩ := list_told (b := GB) (h := h) (P := fun w d => Tw h w d) (fun w d g => g) (gl_all g)
  exact ⟨.list ps, by simp [toPy, ks.py], by simp [PyData.showable, ks.show_], by simp only [PyData.shown]; exact Nat.le_trans (listText_len_le _) ks.len, by simp only [PyData.shown]; exact strOk_list ks.ok, by simp only [PyData.depth]; have := ks.depth; omega⟩
section
variable {S : Sto} {r : Nat} {Q : D → Sto → Prop} {d : D} {h w : Nat}
theorem Tw.de (g : Tw h w d) (S : Sto) : deS S d = d := by
  obtain ⟨p, k⟩ := g
  have := k.py
  cases d with
  | ref n => simp [toPy] at this
  | _ => rfl
theorem rep_w (g : Tw h w d) (hh : h ≤ 50) (hw : w ≤ 90000) : Wp (reprM d) S Q ↔ Q (.str (txtOf d)) S := wp_of (by
  have e := g.de S
  obtain ⟨p, k⟩ := g
  unfold reprM txtOf
  simp only [e, k.py]
  rw [if_pos ⟨k.show_, Nat.le_trans k.len (by omega), Nat.le_trans k.depth (by omega)⟩])
theorem rep_wc {ds : List D} (hc : S[r]? = some (.lst ds)) (g : Tw h w (.lst ds)) (hh : h ≤ 50) (hw : w ≤ 90000) : Wp (reprM (.ref r)) S Q ↔ Q (.str (txtOf (.lst ds))) S := wp_of (by
  obtain ⟨p, k⟩ := g
  have e : deS S (.ref r) = .lst ds := by unfold deS; simp only [hc]
  unfold reprM txtOf
  simp only [e, k.py]
  rw [if_pos ⟨k.show_, Nat.le_trans k.len (by omega), Nat.le_trans k.depth (by omega)⟩])
theorem tw_ok (g : Tw h w d) : PyData.strOk (txtOf d) = true := by
  obtain ⟨p, k⟩ := g
  unfold txtOf
  simp only [k.py]
  exact k.ok
end
end Mi
namespace Mi
open PySem PySem.Spec PyProof.Rows L2
theorem str_ext {x y : Str} (h : x.cps.toList = y.cps.toList) : x = y := by
  cases x
  cases y
  congr
  exact Array.toList_inj.1 h
end Mi
namespace Mi
open PySem PySem.Spec PyProof.Rows L2
noncomputable def nl (w : Str) : Nat := w.cps.toList.count 10
end Mi
namespace Mi
open PySem PySem.Spec PyProof.Rows L2
/-- what stood stands, but for the pen -/
structure Kp (S S' : Sto) : Prop where
  len : S.length ≤ S'.length
  at' : ∀ i, 1 ≤ i → i < S.length → S'[i]? = S[i]?
theorem Kp.trans {S1 S2 S3 : Sto} (x : Kp S1 S2) (y : Kp S2 S3) : Kp S1 S3 := ⟨Nat.le_trans x.len y.len, fun i h1 h2 => (y.at' i h1 (Nat.lt_of_lt_of_le h2 x.len)).trans (x.at' i h1 h2)⟩
theorem Out0.kp {S S' : Sto} (o : Out0 S S') : Kp S S' := ⟨by rw [o.len]; exact Nat.le_refl _, fun i h _ => o.at' i h⟩
theorem Kp.app (S X : Sto) : Kp S (S ++ X) := ⟨by rw [List.length_append]; omega, fun i _ h => List.getElem?_append_left h⟩
end Mi
namespace Mi
open PySem PySem.Spec PyProof.Rows L2
/-- texts of at most n -/
noncomputable def TX (n : Nat) (d : D) : Prop := ∃ x, d = .str x ∧ WL n x
theorem strs_map : ∀ ys : List Str, strsOf (ys.map D.str) = some ys
  | [] => rfl
  | y :: ys => by simp [strsOf, strs_map ys]
section
variable {S : Sto} {cells : List Int} {A : Int} {t s w : Str} {L i k n : Nat} {o2 o3 o4 o5 o6 o7 : Option D} {ds : List D} {Q : D → Sto → Prop}
theorem wp_joinL {ys : List Str} (h : (ys.map (·.length)).sum + ys.length ≤ 90000) : Wp (joinM (.str SPC) [.lst (ys.map D.str)]) S Q ↔ Q (.str (Txt.join SPC ys)) S := wp_of (by
  have e : SPC.length = 1 := by decide +kernel
  simp only [joinM, asQ, asR, asC, strs_map, e, Nat.mul_one]
  rw [if_pos (by omega)])
theorem wl_lit {x : Str} {n : Nat} (h : (x.cps.toList.all (fun c => decide (c < 128)) && decide (x.length ≤ n)) = true) : WL n x := by
  simp only [Bool.and_eq_true, decide_eq_true_eq] at h
  exact ⟨fun c hc => of_decide_eq_true (List.all_eq_true.1 h.1 c hc), h.2⟩
theorem nl_wl : WL 1 ("\n" : Str) := wl_lit (by decide +kernel)
theorem sp_wl : WL 1 SPC := wl_lit (by decide +kernel)
theorem addS {x y : Str} (h : x.length + y.length ≤ 100000) : Wp (addM (.str x) (.str y)) S Q ↔ Q (.str (x ++ y)) S := wp_of (by
  simp only [addM, h, if_true])
end
end Mi
namespace Mi
open PySem PySem.Spec PyProof.Rows L2
section
variable {S S0 : Sto} {cells : List Int} {A : Int} {t s w : Str} {L k n : Nat} {o2 o3 o6 : Option D} {ds : List D} {ws : List Str} {Q : D → Sto → Prop}
theorem take_S (h : k ≤ ws.length) : cutD (ws.map D.str) none (some (k : Int)) = (ws.take k).map D.str := by
  rw [cut_lo (by rw [List.length_map]; exact h), List.map_take]
theorem drop_S (h : k ≤ ws.length) : cutD (ws.map D.str) (some (k : Int)) none = (ws.drop k).map D.str := by
  rw [cut_hi (by rw [List.length_map]; exact h), List.map_drop]
noncomputable def wt (ws : List Str) : Nat := (ws.map (·.length)).sum + ws.length
theorem wt_app (a b : List Str) : wt (a ++ b) = wt a + wt b := by
  unfold wt
  rw [List.map_append, List.sum_append, List.length_append]
  omega
theorem wt_one (w : Str) : wt [w] = w.length + 1 := by simp [wt]
theorem wt_cut (ws : List Str) (k : Nat) : wt (ws.take k) + wt (ws.drop k) = wt ws := by rw [← wt_app, List.take_append_drop]
theorem wt_drop (ws : List Str) (k : Nat) : wt (ws.drop (k + 1)) ≤ wt (ws.drop k) := by
  have h : ws.drop (k + 1) = (ws.drop k).drop 1 := by rw [List.drop_drop]
  rw [h]
  have := wt_cut (ws.drop k) 1
  omega
theorem wt_len (ws : List Str) : ws.length ≤ wt ws := by unfold wt; omega
theorem set_last {d : D} : (S0 ++ [Cell.lst ds]).set S0.length (.lst (ds ++ [d])) = S0 ++ [.lst (ds ++ [d])] := by
  rw [List.set_append_right _ _ (Nat.le_refl _), Nat.sub_self]
  rfl
end
end Mi
namespace Mi
open PySem PySem.Spec PyProof.Rows L2
noncomputable def ENT : List Str := ["view", "stay", "apart"]
noncomputable def FST : List Str := ["readers", "range", "word", "span"]
structure St3 where
  vs : List D
  ss : List D
  as : List D
noncomputable def valE (x : Str) (ps : List D) : D := if x = "apart" then ps.headD .non else .tup ps
noncomputable def addE (x : Str) (v : D) (st : St3) : St3 := if x = "view" then ⟨st.vs ++ [v], st.ss, st.as⟩ else if x = "stay" then ⟨st.vs, st.ss ++ [v], st.as⟩ else ⟨st.vs, st.ss, st.as ++ [v]⟩
noncomputable def dropTo (x : Str) (al : List Str) : List Str := match ixOf x al with
  | some j => al.drop j
  | none => []
noncomputable def runE : List Str → Nat → List Str → St3 → Except (Nat × Nat) St3
  | [], _, _, st => .ok st
  | l :: ls, at', al, st => match pL al (Txt.split l SPC) with
    | .error n => .error (at', n)
    | .ok q => runE ls (at' + 1) (dropTo q.1 al) (addE q.1 (valE q.1 q.2) st)
noncomputable def paperD (st : St3) : D := .tup [.str "readers", .tup st.vs, .tup st.ss, .tup st.as]
noncomputable def runW (l0 : Str) (ls : List Str) : Except (Nat × Nat) D := match pL FST (Txt.split l0 SPC) with
  | .error n => .error (0, n)
  | .ok q => if q.1 = "readers" then (match runE ls 1 ENT ⟨[], [], []⟩ with
      | .error e => .error e
      | .ok st => .ok (paperD st))
    else if ls = [] then .ok (.tup (.str q.1 :: q.2)) else .error (1, 0)
theorem pL_ok {al ws : List Str} {q : Str × List D} (h : pL al ws = .ok q) : q.1 ∈ al ∧ ∃ ks, KT.lookup q.1 = some ks ∧ q.2.length = ks.length ∧ ∃ r, ws = q.1 :: r ∧ pF ks r [] = .ok q.2 ∧ r.length = ks.length := by
  unfold pL at h
  split at h
  · cases h
  · rename_i x r
    split at h
    · rename_i hc
      split at h
      · cases h
      · rename_i ks hk
        split at h
        · cases h
        · rename_i ps hp
          split at h
          · rename_i hl
            cases h
            exact ⟨by simpa using hc, ks, hk, hl.2, r, rfl, hp, by omega⟩
          · cases h
    · cases h
theorem ixOf_mem {x : Str} : ∀ {al : List Str}, x ∈ al → ∃ j, ixOf x al = some j ∧ j ≤ al.length
  | [], h => by cases h
  | y :: al, h => by
    unfold ixOf
    by_cases e : y = x
    · exact ⟨0, by rw [if_pos e], Nat.zero_le _⟩
    · rw [if_neg e]
      rcases List.mem_cons.1 h with h | h
      · exact absurd h.symm e
      · obtain ⟨j, h1, h2⟩ := ixOf_mem h
        exact ⟨j + 1, by rw [h1]; rfl, by simp; omega⟩
theorem dropTo_mem {x y : Str} {al : List Str} (h : y ∈ dropTo x al) : y ∈ al := by
  unfold dropTo at h
  split at h
  · exact List.mem_of_mem_drop h
  · cases h
theorem ent_kt : ∀ x ∈ ENT, (KT.lookup x).isSome = true := by decide +kernel
theorem fst_kt : ∀ x ∈ FST, (KT.lookup x).isSome = true := by decide +kernel
theorem ent_cases {x : Str} (h : x ∈ ENT) : x = "view" ∨ x = "stay" ∨ x = "apart" := by simpa [ENT] using h
theorem ke : ¬ (("view" : Str) = "apart") ∧ ¬ (("stay" : Str) = "apart") ∧ ¬ (("stay" : Str) = "view") ∧ ¬ (("apart" : Str) = "view") ∧ ¬ (("apart" : Str) = "stay") ∧ (("view" : Str) == "apart") = false ∧ (("stay" : Str) == "apart") = false := by decide +kernel
theorem apart_ok : PyData.strOk ("apart" : Str) = true := by decide +kernel
section
variable {S S0 : Sto} {a0 a3 a4 o5 o6 : Option D} {x t : Str} {al : List Str} {ds ps T : List D} {Q : D → Sto → Prop}
theorem chkP_S : Wp (chkP (.stp ds)) S Q' ↔ Q' () S := wp_of rfl
theorem idxS_S {z : Str} {j : Nat} (h : ixOf z al = some j) : Wp (idxS (.stp (al.map D.str)) [.str z]) S Q ↔ Q (.int (j : Int)) S := wp_of (by
  simp only [idxS, strs_map, h]
  rfl)
theorem slsM_S {lo hi : Option Int} : Wp (slsM lo hi (.stp ds)) S Q ↔ Q (.stp (cutD ds lo hi)) S := wp_of rfl
theorem slcT_S {lo hi : Option Int} : Wp (slcM lo hi (.tup ds)) S Q ↔ Q (.tup (cutD ds lo hi)) S := wp_of rfl
theorem wkT_S : Wp (wkT (.stp ds)) S Q ↔ Q (.tup ds) S := wp_of rfl
noncomputable def FD (n : Nat) : List (Key × D) := [(.inr "view", .ref (n + 1)), (.inr "stay", .ref (n + 2)), (.inr "apart", .ref (n + 3))]
noncomputable def PS (S : Sto) (st : St3) (T : Sto) : Sto := S ++ (.dct (FD S.length) :: .lst st.vs :: .lst st.ss :: .lst st.as :: T)
theorem ps0 {st : St3} {T : Sto} : (PS S st T)[S.length]? = some (.dct (FD S.length)) := by simp [PS]
theorem ps1 {st : St3} {T : Sto} : (PS S st T)[S.length + 1]? = some (.lst st.vs) := by simp [PS, List.getElem?_append_right]
theorem ps2 {st : St3} {T : Sto} : (PS S st T)[S.length + 2]? = some (.lst st.ss) := by simp [PS, List.getElem?_append_right]
theorem ps3 {st : St3} {T : Sto} : (PS S st T)[S.length + 3]? = some (.lst st.as) := by simp [PS, List.getElem?_append_right]
theorem pset1 {st : St3} {T : Sto} {u : List D} : (PS S st T).set (S.length + 1) (.lst u) = PS S ⟨u, st.ss, st.as⟩ T := by simp [PS, List.set_append_right]
theorem pset2 {st : St3} {T : Sto} {u : List D} : (PS S st T).set (S.length + 2) (.lst u) = PS S ⟨st.vs, u, st.as⟩ T := by simp [PS, List.set_append_right]
theorem pset3 {st : St3} {T : Sto} {u : List D} : (PS S st T).set (S.length + 3) (.lst u) = PS S ⟨st.vs, st.ss, u⟩ T := by simp [PS, List.set_append_right]
theorem psapp {st : St3} {T T' : Sto} : PS S st T ++ T' = PS S st (T ++ T') := by simp [PS]
theorem fd_view (n : Nat) : valD (FD n) (.inr "view") = some (.ref (n + 1)) := by with_unfolding_all rfl
theorem fd_stay (n : Nat) : valD (FD n) (.inr "stay") = some (.ref (n + 2)) := by with_unfolding_all rfl
theorem fd_apart (n : Nat) : valD (FD n) (.inr "apart") = some (.ref (n + 3)) := by with_unfolding_all rfl
end
end Mi
namespace Mi
open PySem PySem.Spec PyProof.Rows L2
section
variable {S S0 : Sto} {a0 a3 a4 o5 o6 : Option D} {x t : Str} {al : List Str} {ds ps T : List D} {Q : D → Sto → Prop}
noncomputable def reA : Env → M D := (ifV (tst (b2 eqM (b2 ixD (vget 5) (fun _ => M.pure (.int 0))) (fun _ => M.pure (.str "apart")))) (b2 ixD (vget 5) (fun _ => M.pure (.int 1))) (slc (vget 5) (some (fun _ => M.pure (.int 1))) none))
noncomputable def reT : Env → M (Fl × Env) := (sSeq (noE (sAsg (slcS (vget 2) (some (mth chkP idxS (vget 2) (aCons (b2 ixD (vget 5) (fun _ => M.pure (.int 0))) (fun _ => M.pure [])))) none) (gSet 2)))
    (sSeq (noE (sDrop (mth chkL appM (b2 ixD (vget 1) (b2 ixD (vget 5) (fun _ => M.pure (.int 0)))) (aCons reA (fun _ => M.pure [])))))
    sNil))
noncomputable def reC : Env → M D := calF 3 m__read_line (noE (aCons (vget 4) (aCons (b2 addM (vget 3) (fun _ => M.pure (.int 1))) (aCons (wkM (vget 2)) (fun _ => M.pure [])))))
noncomputable def reB : Env → M (Fl × Env) := (sSeq (sAsg reC (gSet 5)) reT)
noncomputable def reE : Env → M (Fl × Env) := (sSeq (noE (sRet (cal (on1 tupleM) (aCons (eLc (iSeq (wkM (fun _ => M.pure (.stp [.str "view", .str "stay", .str "apart"])))) (gSet 6) (fun _ => M.pure true) (cal (on1 tupleM) (aCons (b2 ixD (vget 1) (vget 6)) (fun _ => M.pure []))) [6]) (fun _ => M.pure [])))))
    sNil)
theorem re_eq : b__read_entries = (sSeq (noE (sAsg (eDc (iSeq (wkM (fun _ => M.pure (.stp [.str "view", .str "stay", .str "apart"])))) (gSet 6) (fun _ => M.pure true) (vget 6) (mkC (fun _ => M.pure [])) [6]) (gSet 1)))
    (sSeq (noE (sAsg (fun _ => M.pure (.stp [.str "view", .str "stay", .str "apart"])) (gSet 2)))
    (sSeq (sFor (noE (iEnu (aCons (slc (vget 0) (some (fun _ => M.pure (.int 1))) none) (fun _ => M.pure [])))) (gTwo 3 4) reB) reE))) := rfl
theorem ps_cons {ps : List D} (h : 1 ≤ ps.length) : ∃ d r, ps = d :: r := by
  cases ps with
  | nil => simp at h
  | cons d r => exact ⟨d, r, rfl⟩
theorem reA_ok {ρ : Env} (hx : x ∈ ENT) (h1 : 1 ≤ ps.length) (h5 : ρ[5]? = some (some (.tup (.str x :: ps)))) : Wp (reA ρ) S Q ↔ Q (valE x ps) S := by
  obtain ⟨d, r, rfl⟩ := ps_cons h1
  have i0 : ∀ {S : Sto} {Q : D → Sto → Prop}, Wp (ixD (.tup (.str x :: d :: r)) (.int 0)) S Q ↔ Q (.str x) S := ixT (k := 0) rfl
  have i1 : ∀ {S : Sto} {Q : D → Sto → Prop}, Wp (ixD (.tup (.str x :: d :: r)) (.int 1)) S Q ↔ Q d S := ixT (k := 1) rfl
  obtain ⟨ks, hk⟩ := Option.isSome_iff_exists.1 (ent_kt x hx)
  have hs := (kt_at hk).2.2
  unfold reA
  simp only [ifV, tst, b2, vget, wp_bind, h5, wp_pure, i0, wp_eqS hs apart_ok, wp_toB, wp_if]
  by_cases e : x = "apart"
  · rw [if_pos (by simpa using e)]
    subst e
    simp only [i1, valE, if_true]
    rfl
  · rw [if_neg (by simpa using e)]
    simp only [slc, wp_bind, vget, h5, wp_pure, parts, optI, slcT_S, cut_1, valE, e, if_false]
theorem reT_ok {st : St3} {T : Sto} (hx : x ∈ ENT) (ha : x ∈ al) (h1 : 1 ≤ ps.length) (hl : st.vs.length ≤ 90000 ∧ st.ss.length ≤ 90000 ∧ st.as.length ≤ 90000) :
    Wp (reT [a0, some (.ref S.length), some (.stp (al.map D.str)), a3, a4, some (.tup (.str x :: ps)), o6]) (PS S st T) fun r S' => r = (.nx, [a0, some (.ref S.length), some (.stp ((dropTo x al).map D.str)), a3, a4, some (.tup (.str x :: ps)), o6]) ∧ S' = PS S (addE x (valE x ps) st) T := by
  obtain ⟨j, hj, hjl⟩ := ixOf_mem ha
  have hd : dropTo x al = al.drop j := by unfold dropTo; rw [hj]
  have i0 : ∀ {S : Sto} {Q : D → Sto → Prop}, Wp (ixD (.tup (.str x :: ps)) (.int 0)) S Q ↔ Q (.str x) S := ixT (k := 0) rfl
  have rA : ∀ {a2 : Option D} {S0 : Sto} {Q : D → Sto → Prop}, Wp (reA [a0, some (.ref S.length), a2, a3, a4, some (.tup (.str x :: ps)), o6]) S0 Q ↔ Q (valE x ps) S0 := fun {a2 S0 Q} => reA_ok hx h1 rfl
  unfold reT
  simp only [orV, sDrop, ifV, metM_eq, metK_eq, wp_noE, gPutD, wp_lenDT, sSeq, sIf, sAsg, sRet, sNil, gSet, gPut, tst, b2, b1, cal, on1, aCons, vget, mkL, mkT, calF, andT, orT, notT, andV, notV, wp_bind, wp_pure, wp_if, List.map, List.length, List.replicate, List.append, List.cons_append, List.nil_append, Nat.reduceSub, Nat.reduceAdd, Nat.reduceLeDiff, List.getElem?_cons_zero, List.getElem?_cons_succ, List.set_cons_zero, List.set_cons_succ, wp_int, wp_intb, wp_int20, wp_toB, wp_add, wp_abs, wp_neg, wp_lenL, pen0, pen1, pen2, put1, put2, decide_true, decide_false, if_true, if_false, Bool.false_eq_true, Nat.zero_le, exists_eq_left, and_true, true_and, Bool.not_true, Bool.not_false, reduceCtorEq, reduceIte, slcS, parts, mth, chkP_S, i0, idxS_S hj, optI, slsM_S, drop_S hjl, hd]
  have l1 : st.vs.length < 100000 := by omega
  have l2 : st.ss.length < 100000 := by omega
  have l3 : st.as.length < 100000 := by omega
  rcases ent_cases hx with rfl | rfl | rfl
  · simp only [wp_ixKS ps0 (fd_view _), chkL_ref ps1, rA, wp_app ps1 l1, wp_pure, pset1, addE, if_true, and_self]
  · simp only [wp_ixKS ps0 (fd_stay _), chkL_ref ps2, rA, wp_app ps2 l2, wp_pure, pset2, addE, if_true, ke.2.2.1, if_false, and_self]
  · simp only [wp_ixKS ps0 (fd_apart _), chkL_ref ps3, rA, wp_app ps3 l3, wp_pure, pset3, addE, ke.2.2.2.1, ke.2.2.2.2.1, if_false, and_self]
theorem kt_ent1 {x : Str} {ks : List Str} (hx : x ∈ ENT) (h : KT.lookup x = some ks) : 1 ≤ ks.length := by
  rcases ent_cases hx with rfl | rfl | rfl
  · cases h; decide
  · cases h; decide
  · cases h; decide
theorem addE_len (st : St3) (x : Str) (v : D) : (addE x v st).vs.length ≤ st.vs.length + 1 ∧ (addE x v st).ss.length ≤ st.ss.length + 1 ∧ (addE x v st).as.length ≤ st.as.length + 1 := by
  unfold addE
  split
  · exact ⟨by simp, by simp, by simp⟩
  · split
    · exact ⟨by simp, by simp, by simp⟩
    · exact ⟨by simp, by simp, by simp⟩
theorem reArgs {l : Str} {i : Int} {a1 : Option D} : (noE (aCons (vget 4) (aCons (b2 addM (vget 3) (fun _ => M.pure (.int 1))) (aCons (wkM (vget 2)) (fun _ => M.pure []))))) [a0, a1, some (.stp (al.map D.str)), some (.int i), some (.str l), o5, o6] S0 = some (.ok [.str l, .int (i + 1), .tup (al.map D.str)], S0) := eq_of_wp (by
  simp only [wp_noE, aCons, vget, wp_bind, wp_pure, List.getElem?_cons_succ, List.getElem?_cons_zero, b2, wp_add, wkM, wkT_S, and_self])
theorem re_loop : ∀ (ls : List Str) (i : Nat) (al : List Str) (st : St3) (T : Sto) (o3 o4 o5 : Option D), (∀ l ∈ ls, WT l) → (∀ y ∈ al, y ∈ ENT) → st.vs.length + ls.length ≤ 80000 → st.ss.length + ls.length ≤ 80000 → st.as.length + ls.length ≤ 80000 →
    Wr (loop (gTwo 3 4) reB (numD i (ls.map D.str)) [a0, some (.ref S.length), some (.stp (al.map D.str)), o3, o4, o5, o6]) (PS S st T) fun r S' => match runE ls (i + 1) al st with
      | .ok st' => (∃ p2 p3 p4 p5, r = .ok (.nx, [a0, some (.ref S.length), p2, p3, p4, p5, o6])) ∧ ∃ T', S' = PS S st' T'
      | .error e => r = .error (badT (e.1 : Int) e.2) ∧ ∃ T', S' = S ++ T'
  | [], i, al, st, T, o3, o4, o5, _, _, _, _, _ => wr_of rfl ⟨⟨_, _, _, _, rfl⟩, _, rfl⟩
  | l :: ls, i, al, st, T, o3, o4, o5, hw, ha, h1, h2, h3 => by
    simp only [List.length_cons] at h1 h2 h3
    rw [List.map_cons]
    unfold numD loop
    refine wr_bind (wr_of rfl ?_)
    refine wr_bind ?_
    unfold reB sSeq
    refine wr_bind ?_
    unfold sAsg
    refine wr_bind ?_
    have e : (noE (aCons (vget 4) (aCons (b2 addM (vget 3) (fun _ => M.pure (.int 1))) (aCons (wkM (vget 2)) (fun _ => M.pure []))))) [a0, some (.ref S.length), some (.stp (al.map D.str)), some (.int (i : Int)), some (.str l), o5, o6] (PS S st T) = some (.ok [.str l, .int ((i : Int) + 1), .tup (al.map D.str)], PS S st T) := reArgs
    unfold reC calF
    refine wr_bind (wr_of e ?_)
    show Wr (m__read_line [.str l, .int ((i : Int) + 1), .tup (al.map D.str)]) (PS S st T) _
    refine wr_mono (line_ok (ln := ((i : Int) + 1)) (hw l (by simp)) fun y hy => ent_kt y (ha y hy)) fun r S' h => ?_
    obtain ⟨h, T2, rfl⟩ := h
    cases hp : pL al (Txt.split l SPC) with
    | error n =>
      rw [hp] at h
      have h : r = _ := h
      subst h
      simp only [runE, hp]
      exact ⟨by norm_cast, _, by rw [psapp]; rfl⟩
    | ok q =>
      rw [hp] at h
      have h : r = .ok (.tup (.str q.1 :: q.2)) := h
      subst h
      obtain ⟨q1, ks, q2, q3, _⟩ := pL_ok hp
      have hx := ha _ q1
      rw [psapp]
      simp only [runE, hp]
      refine wr_of rfl ?_
      refine wr_wp ?_
      show Wp (reT [a0, some (.ref S.length), some (.stp (al.map D.str)), some (.int (i : Int)), some (.str l), some (.tup (.str q.1 :: q.2)), o6]) (PS S st (T ++ T2)) _
      refine (reT_ok hx q1 (by rw [q3]; exact kt_ent1 hx q2) ⟨by omega, by omega, by omega⟩).mono ?_
      rintro _ _ ⟨rfl, rfl⟩
      obtain ⟨g1, g2, g3⟩ := addE_len st q.1 (valE q.1 q.2)
      exact re_loop ls (i + 1) (dropTo q.1 al) _ (T ++ T2) _ _ _ (fun z hz => hw z (by simp [hz])) (fun y hy => ha y (dropTo_mem hy)) (by omega) (by omega) (by omega)
end
end Mi
namespace Mi
open PySem PySem.Spec PyProof.Rows L2
section
variable {S S0 : Sto} {a0 a2 a3 a4 a5 a6 : Option D} {x t : Str} {al : List Str} {ds ps : List D} {Q : D → Sto → Prop}
theorem sgt0 {c : Cell} {T : Sto} : (S ++ (c :: T))[S.length]? = some c := by simp
theorem sst0 {c d : Cell} {T : Sto} : (S ++ (c :: T)).set S.length d = S ++ (d :: T) := by simp [List.set_append_right]
theorem sap0 {c d : Cell} {T : Sto} : (S ++ (c :: T)) ++ [d] = S ++ (c :: (T ++ [d])) := by simp
theorem sln0 {c : Cell} {T : Sto} : (S ++ (c :: T)).length = S.length + (T.length + 1) := by simp
theorem putN_S {n : Nat} {kvs : List (Key × D)} {z : D} {Q : Unit → Sto → Prop} (h : S[n]? = some (.dct kvs)) (hl : kvs.length < 100000) : Wp (putN n (.str x) z) S Q ↔ Q () (S.set n (.dct (putD kvs (.inr x) z))) := wp_of (by
  simp only [putN, h, keyOf]
  rw [if_pos hl])
theorem dc_step {n : Nat} {xs : List D} {ρ : Env} {kvs : List (Key × D)} {Q : Unit → Sto → Prop} (hρ : 6 < ρ.length) (h : (S ++ [Cell.lst []])[n]? = some (.dct kvs)) (hl : kvs.length < 100000) : Wp (dcGo n (gSet 6) (fun _ => M.pure true) (vget 6) (mkC (fun _ => M.pure [])) ρ (.str x :: xs)) S Q ↔ Wp (dcGo n (gSet 6) (fun _ => M.pure true) (vget 6) (mkC (fun _ => M.pure [])) ρ xs) ((S ++ [Cell.lst []]).set n (.dct (putD kvs (.inr x) (.ref S.length)))) Q := by
  have h6 : (ρ.set 6 (some (D.str x)))[6]? = some (some (D.str x)) := by simp [hρ]
  simp only [dcGo, gSet, wp_bind, wp_pure, if_true, vget, h6, mkC, List.length_nil, Nat.zero_le, wp_newLs, putN_S h hl]
theorem dc_nil {n : Nat} {ρ : Env} {Q : Unit → Sto → Prop} : Wp (dcGo n (gSet 6) (fun _ => M.pure true) (vget 6) (mkC (fun _ => M.pure [])) ρ []) S Q ↔ Q () S := wp_of rfl
noncomputable def k1 (n : Nat) : List (Key × D) := [(.inr "view", .ref (n + 1))]
noncomputable def k2 (n : Nat) : List (Key × D) := [(.inr "view", .ref (n + 1)), (.inr "stay", .ref (n + 2))]
theorem pk1 (n : Nat) : putD ([] : List (Key × D)) (.inr "view") (.ref (n + 1)) = k1 n := by with_unfolding_all rfl
theorem pk2 (n : Nat) : putD (k1 n) (.inr "stay") (.ref (n + 2)) = k2 n := by with_unfolding_all rfl
theorem pk3 (n : Nat) : putD (k2 n) (.inr "apart") (.ref (n + 3)) = FD n := by with_unfolding_all rfl
noncomputable def ENTD : List D := [.str "view", .str "stay", .str "apart"]
theorem dc_ok {ρ : Env} (hρ : 6 < ρ.length) : Wp (eDc (iSeq (wkM (fun _ => M.pure (.stp ENTD)))) (gSet 6) (fun _ => M.pure true) (vget 6) (mkC (fun _ => M.pure [])) [6] ρ) S Q ↔ Q (.ref S.length) (PS S ⟨[], [], []⟩ []) := by
  have hw : 6 < (wipeE [6] ρ).length := by simpa [wipeE] using hρ
  unfold eDc
  rw [wp_bind]
  simp only [iSeq, wkM, wp_bind, wp_pure, wkT_S]
  show Wp (itemsOf (.tup ENTD)) S _ ↔ _
  have it : ∀ {P : List D → Sto → Prop}, Wp (itemsOf (.tup ENTD)) S P ↔ P ENTD S := wp_of rfl
  rw [it]
  show Wp (M.bind (noErr (dcGo S.length (gSet 6) (fun _ => M.pure true) (vget 6) (mkC (fun _ => M.pure [])) (wipeE [6] ρ) ENTD)) (fun _ => M.pure (.ref S.length))) (S ++ [.dct []]) Q ↔ _
  rw [wp_bind, wp_noErrI]
  unfold ENTD
  rw [dc_step hw (kvs := []) (by rw [sap0]; exact sgt0) (by decide)]
  rw [sap0, sst0, sln0]
  simp only [List.nil_append, List.length_nil, Nat.zero_add]
  rw [pk1, dc_step hw (kvs := k1 S.length) (by rw [sap0]; exact sgt0) (by show 1 < 100000; decide)]
  rw [sap0, sst0, sln0]
  simp only [List.cons_append, List.nil_append, List.length_cons, List.length_nil, Nat.zero_add]
  rw [pk2, dc_step hw (kvs := k2 S.length) (by rw [sap0]; exact sgt0) (by show 2 < 100000; decide)]
  rw [sap0, sst0, sln0]
  simp only [List.cons_append, List.nil_append, List.length_cons, List.length_nil, Nat.zero_add]
  rw [pk3, dc_nil, wp_pure]
  rfl
theorem reE_ok {st : St3} {T : Sto} : Wp (reE [a0, some (.ref S.length), a2, a3, a4, a5, a6]) (PS S st T) fun r S' => S' = PS S st T ∧ r.1 = .rt (.tup [.tup st.vs, .tup st.ss, .tup st.as]) := by
  have it : ∀ {S : Sto} {P : List D → Sto → Prop}, Wp (itemsOf (.tup ENTD)) S P ↔ P ENTD S := wp_of rfl
  unfold reE
  simp only [orV, sDrop, ifV, metM_eq, metK_eq, wp_noE, gPutD, wp_lenDT, sSeq, sIf, sAsg, sRet, sNil, gSet, gPut, tst, b2, b1, cal, on1, aCons, vget, mkL, mkT, calF, andT, orT, notT, andV, notV, wp_bind, wp_pure, wp_if, List.map, List.length, List.replicate, List.append, List.cons_append, List.nil_append, Nat.reduceSub, Nat.reduceAdd, Nat.reduceLeDiff, List.getElem?_cons_zero, List.getElem?_cons_succ, List.set_cons_zero, List.set_cons_succ, wp_int, wp_intb, wp_int20, wp_toB, wp_add, wp_abs, wp_neg, wp_lenL, pen0, pen1, pen2, put1, put2, decide_true, decide_false, if_true, if_false, Bool.false_eq_true, Nat.zero_le, exists_eq_left, and_true, true_and, Bool.not_true, Bool.not_false, reduceCtorEq, reduceIte, eLc, iSeq, wkM, wkT_S]
  show Wp (itemsOf (.tup ENTD)) _ _
  rw [it]
  unfold ENTD
  simp only [orV, sDrop, ifV, metM_eq, metK_eq, wp_noE, gPutD, wp_lenDT, sSeq, sIf, sAsg, sRet, sNil, gSet, gPut, tst, b2, b1, cal, on1, aCons, vget, mkL, mkT, calF, andT, orT, notT, andV, notV, wp_bind, wp_pure, wp_if, List.map, List.length, List.replicate, List.append, List.cons_append, List.nil_append, Nat.reduceSub, Nat.reduceAdd, Nat.reduceLeDiff, List.getElem?_cons_zero, List.getElem?_cons_succ, List.set_cons_zero, List.set_cons_succ, wp_int, wp_intb, wp_int20, wp_toB, wp_add, wp_abs, wp_neg, wp_lenL, pen0, pen1, pen2, put1, put2, decide_true, decide_false, if_true, if_false, Bool.false_eq_true, Nat.zero_le, exists_eq_left, and_true, true_and, Bool.not_true, Bool.not_false, reduceCtorEq, reduceIte, wipeE, List.foldr, wp_noErrI, lcGo, wp_ixKS ps0 (fd_view _), wp_ixKS ps0 (fd_stay _), wp_ixKS ps0 (fd_apart _), wp_tupC ps1, wp_tupC ps2, wp_tupC ps3, wp_tupL]
theorem numD_fz {ls : List D} {P : List D → Sto → Prop} : Wp (enumOf [.lst ls]) S P ↔ P (numD 0 ls) S := wp_of rfl
theorem entries_ok {l0 : Str} {ls : List Str} (hw : ∀ l ∈ ls, WT l) (hl : ls.length ≤ 80000) : Wr (m__read_entries [.lst ((l0 :: ls).map D.str)]) S fun r S' => (match runE ls 1 ENT ⟨[], [], []⟩ with
    | .ok st => r = .ok (.tup [.tup st.vs, .tup st.ss, .tup st.as])
    | .error e => r = .error (badT (e.1 : Int) e.2)) ∧ ∃ T, S' = S ++ T := by
  unfold m__read_entries runM
  refine wr_bind ?_
  show Wr (b__read_entries [some (.lst ((l0 :: ls).map D.str)), none, none, none, none, none, none]) S _
  rw [re_eq]
  refine wr_bind (wr_wp ?_)
  rw [wp_noE]
  unfold sAsg
  rw [wp_bind]
  show Wp (eDc (iSeq (wkM (fun _ => M.pure (.stp ENTD)))) (gSet 6) (fun _ => M.pure true) (vget 6) (mkC (fun _ => M.pure [])) [6] _) S _
  rw [dc_ok (by simp)]
  simp only [gSet, wp_bind, wp_pure, List.set_cons_succ, List.set_cons_zero]
  refine wr_bind (wr_wp ?_)
  simp only [orV, sDrop, ifV, metM_eq, metK_eq, wp_noE, gPutD, wp_lenDT, sSeq, sIf, sAsg, sRet, sNil, gSet, gPut, tst, b2, b1, cal, on1, aCons, vget, mkL, mkT, calF, andT, orT, notT, andV, notV, wp_bind, wp_pure, wp_if, List.map, List.length, List.replicate, List.append, List.cons_append, List.nil_append, Nat.reduceSub, Nat.reduceAdd, Nat.reduceLeDiff, List.getElem?_cons_zero, List.getElem?_cons_succ, List.set_cons_zero, List.set_cons_succ, wp_int, wp_intb, wp_int20, wp_toB, wp_add, wp_abs, wp_neg, wp_lenL, pen0, pen1, pen2, put1, put2, decide_true, decide_false, if_true, if_false, Bool.false_eq_true, Nat.zero_le, exists_eq_left, and_true, true_and, Bool.not_true, Bool.not_false, reduceCtorEq, reduceIte]
  refine wr_bind ?_
  unfold sFor
  refine wr_bind (wr_wp ?_)
  simp only [orV, sDrop, ifV, metM_eq, metK_eq, wp_noE, gPutD, wp_lenDT, sSeq, sIf, sAsg, sRet, sNil, gSet, gPut, tst, b2, b1, cal, on1, aCons, vget, mkL, mkT, calF, andT, orT, notT, andV, notV, wp_bind, wp_pure, wp_if, List.map, List.length, List.replicate, List.append, List.cons_append, List.nil_append, Nat.reduceSub, Nat.reduceAdd, Nat.reduceLeDiff, List.getElem?_cons_zero, List.getElem?_cons_succ, List.set_cons_zero, List.set_cons_succ, wp_int, wp_intb, wp_int20, wp_toB, wp_add, wp_abs, wp_neg, wp_lenL, pen0, pen1, pen2, put1, put2, decide_true, decide_false, if_true, if_false, Bool.false_eq_true, Nat.zero_le, exists_eq_left, and_true, true_and, Bool.not_true, Bool.not_false, reduceCtorEq, reduceIte, iEnu, slc, parts, optI, slc_Ls, cut_1, numD_fz]
  refine wr_mono (re_loop (S := S) ls 0 ENT ⟨[], [], []⟩ [] none none none hw (fun y h => h) (by simpa using hl) (by simpa using hl) (by simpa using hl)) fun r S' h => ?_
  cases hr : runE ls (0 + 1) ENT ⟨[], [], []⟩ with
  | error e =>
    rw [hr] at h
    obtain ⟨rfl, T', rfl⟩ := h
    exact ⟨rfl, _, rfl⟩
  | ok st =>
    rw [hr] at h
    obtain ⟨⟨p2, p3, p4, p5, rfl⟩, T', rfl⟩ := h
    refine wr_wp (reE_ok.mono ?_)
    rintro ⟨f, ρ⟩ S2 ⟨rfl, rfl⟩
    exact wr_of rfl ⟨rfl, _, rfl⟩
end
end Mi
namespace Mi
open PySem PySem.Spec PyProof.Rows L2
section
variable {S : Sto} {cells : List Int} {A : Int} {t s w : Str} {L k i : Nat} {o6 : Option D} {ws : List Str} {Q : D → Sto → Prop}
theorem mul30 : Wp (mulT (.str "1") (.int 30)) S Q ↔ Q (.str (Txt.mul "1" 30)) S := wp_of (by
  have e : ("1" : Str).length = 1 := by decide +kernel
  simp only [mulT, e]
  rfl)
end
end Mi
namespace Mi
open PySem PySem.Spec PyProof.Rows L2
noncomputable def ODD : List D := [.non, .bl true, .bl false, .int 0, .int 1, .int (-1), .int 7, .int 8, .int 999999, .int 1000000, .int OB, .int (0 - OB), .str "", .str "a", .str "abcdefgh",
  .str "abcdefghi", .str "A", .str "a1", .str "1", .str "a b", .str "b\n", .str "-", .tup [], .tup [.int 0, .int 0], .tup [.int 7, .int 7], .tup [.int 0, .int 8], .tup [.int (-1), .int 0], .lst [.int 0, .int 0],
  .tup [.bl true, .int 0], .tup [.int 0, .int 0, .int 0], .lst [], .dct [], .tup [.str "0", .int 0], .tup [.int 0], .lst [.non], .dct [(.str "a", .int 1)], .tup [.str "fall"], .str "fall", .lst [.tup [.str "fall"]], .tup [.str "sweep", .non]]
section
variable {S : Sto} {v : D} {cells : List Int} {A : Int}
theorem cpow59 : CPow 10 59 := by decide
noncomputable def isStr : D → Bool
  | .str _ => true
  | _ => false
theorem odd_isi (h : v ∈ ODD) : isStr v = true ∨ ∀ {S : Sto}, Wp (isiM "str" v) S fun b S' => b = .bl false ∧ S' = S := by
  simp only [ODD, List.mem_cons, List.not_mem_nil, or_false] at h
  rcases h with rfl | rfl | rfl | rfl | rfl | rfl | rfl | rfl | rfl | rfl | rfl | rfl | rfl | rfl | rfl | rfl | rfl | rfl | rfl | rfl | rfl | rfl | rfl | rfl | rfl | rfl | rfl | rfl | rfl | rfl | rfl | rfl | rfl | rfl | rfl | rfl | rfl | rfl | rfl | rfl
  all_goals first
    | exact .inl rfl
    | exact .inr fun {S} => isi_nonS.2 ⟨rfl, rfl⟩
    | exact .inr fun {S} => isi_blS.2 ⟨rfl, rfl⟩
    | exact .inr fun {S} => isi_intS.2 ⟨rfl, rfl⟩
    | exact .inr fun {S} => isi_tupS.2 ⟨rfl, rfl⟩
    | exact .inr fun {S} => isi_lstS.2 ⟨rfl, rfl⟩
    | exact .inr fun {S} => isi_dctS.2 ⟨rfl, rfl⟩
end
end Mi
namespace Mi
open PySem PySem.Spec PyProof.Rows L2
noncomputable def NLS : Str := "\n"
theorem nls_is : NLS = ⟨#[10]⟩ := by decide +kernel
theorem nls_len : NLS.length = 1 := by decide +kernel
section
variable {S : Sto} {t : Str} {o0 : Option D}
theorem nls_wt {t p : Str} (ht : WT t) (hp : p ∈ Txt.split t NLS) : WT p := piece_ok ht hp
end
end Mi
namespace Mi
open PySem PySem.Spec PyProof.Rows L2
noncomputable def dueW (l0 : Str) (ls : List Str) : D := match runW l0 ls with
  | .ok d => .lst [d]
  | .error e => .tup [.int (e.1 : Int), .int (e.2 : Int)]
noncomputable def dueP (t : Str) : D := match Txt.split t NLS with
  | [] => .tup [.int 0, .int 0]
  | l0 :: ls => dueW l0 ls
theorem spl_cons {y : Str} (t : Str) : ∃ x r, Txt.split t y = x :: r := by
  have := PyProof.Rows.split_pos t y
  cases h : Txt.split t y with
  | nil => rw [h] at this; simp at this
  | cons x r => exact ⟨x, r, rfl⟩
theorem readers_ok : PyData.strOk ("readers" : Str) = true := by decide +kernel
section
variable {S : Sto} {t : Str} {Q : D → Sto → Prop}
noncomputable def rpB : Env → M (Fl × Env) := (sSeq (sIf (noE (tst (b2 eqM (b2 ixD (vget 2) (fun _ => M.pure (.int 0))) (fun _ => M.pure (.str "readers"))))) (sSeq (sRet (b2 addM (vget 2) (calF 1 m__read_entries (noE (aCons (vget 1) (fun _ => M.pure []))))))
    sNil) sNil)
    (sSeq (sIf (noE (tst (b2 gtM (cal (on1 lenD) (aCons (vget 1) (fun _ => M.pure []))) (fun _ => M.pure (.int 1))))) (sSeq (sRaise "InvalidText" ["line", "word"] (noE (aCons (fun _ => M.pure (.int 1)) (aCons (fun _ => M.pure (.int 0)) (fun _ => M.pure [])))))
    sNil) sNil)
    (sSeq (noE (sRet (vget 2)))
    sNil)))
noncomputable def rpC : Env → M D := calF 3 m__read_line (noE (aCons (b2 ixD (vget 1) (fun _ => M.pure (.int 0))) (aCons (fun _ => M.pure (.int 0)) (aCons (b2 addM (mkT (aCons (fun _ => M.pure (.str "readers")) (fun _ => M.pure []))) (wkM (fun _ => M.pure (.stp [.str "range", .str "word", .str "span"])))) (fun _ => M.pure [])))))
theorem rp_eq : b_read_paper = (sSeq (sIf (noE (notT (tst (b1 (isiM "str") (vget 0))))) (sSeq (sRaise "InvalidText" ["line", "word"] (noE (aCons (fun _ => M.pure (.int 0)) (aCons (fun _ => M.pure (.int 0)) (fun _ => M.pure [])))))
    sNil) sNil)
    (sSeq (noE (sAsg (mth chkS splitM (vget 0) (aCons (fun _ => M.pure (.str NLS)) (fun _ => M.pure []))) (gSet 1)))
    (sSeq (sAsg rpC (gSet 2)) rpB))) := rfl
theorem rpArgs {l0 : Str} {r : List D} {a0 a2 : Option D} : (noE (aCons (b2 ixD (vget 1) (fun _ => M.pure (.int 0))) (aCons (fun _ => M.pure (.int 0)) (aCons (b2 addM (mkT (aCons (fun _ => M.pure (.str "readers")) (fun _ => M.pure []))) (wkM (fun _ => M.pure (.stp [.str "range", .str "word", .str "span"])))) (fun _ => M.pure []))))) [a0, some (.lst (.str l0 :: r)), a2] S = some (.ok [.str l0, .int 0, .tup (FST.map D.str)], S) := eq_of_wp (by
  have i0 : ∀ {S : Sto} {Q : D → Sto → Prop}, Wp (ixM (.lst (.str l0 :: r)) (.int 0)) S Q ↔ Q (.str l0) S := fun {S Q} => wp_ixL (k := 0) rfl
  simp only [orV, sDrop, ifV, metM_eq, metK_eq, wp_noE, gPutD, wp_lenDT, sSeq, sIf, sAsg, sRet, sNil, gSet, gPut, tst, b2, b1, cal, on1, aCons, vget, mkL, mkT, calF, andT, orT, notT, andV, notV, wp_bind, wp_pure, wp_if, List.map, List.length, List.replicate, List.append, List.cons_append, List.nil_append, Nat.reduceSub, Nat.reduceAdd, Nat.reduceLeDiff, List.getElem?_cons_zero, List.getElem?_cons_succ, List.set_cons_zero, List.set_cons_succ, wp_int, wp_intb, wp_int20, wp_toB, wp_add, wp_abs, wp_neg, wp_lenL, pen0, pen1, pen2, put1, put2, decide_true, decide_false, if_true, if_false, Bool.false_eq_true, Nat.zero_le, exists_eq_left, and_true, true_and, Bool.not_true, Bool.not_false, reduceCtorEq, reduceIte, wkM, wkT_S, wp_ixLs, i0, addT (ds := [D.str "readers"]) (es := [D.str "range", D.str "word", D.str "span"]) (by decide)]
  rfl)
theorem nls_len0 : NLS.length ≠ 0 := by decide +kernel
theorem paper_ok {l0 : Str} {ls : List Str} (ht : WT t) (hs : Txt.split t NLS = l0 :: ls) : Wr (m_read_paper [.str t]) S fun r S' => (match runW l0 ls with
    | .ok d => r = .ok d
    | .error e => r = .error (badT (e.1 : Int) e.2)) ∧ ∃ T, S' = S ++ T := by
  have hw : ∀ l ∈ l0 :: ls, WT l := fun l hl => nls_wt ht (by rw [hs]; exact hl)
  have few : (l0 :: ls).length ≤ 50000 := by rw [← hs]; exact split_few ht
  unfold m_read_paper runM
  refine wr_bind ?_
  show Wr (b_read_paper [some (.str t), none, none]) S _
  rw [rp_eq]
  refine wr_bind (wr_of (show sIf _ _ _ _ _ = some (.ok (.nx, [some (.str t), none, none]), S) from eq_of_wp (by simp only [orV, sDrop, ifV, metM_eq, metK_eq, wp_noE, gPutD, wp_lenDT, sSeq, sIf, sAsg, sRet, sNil, gSet, gPut, tst, b2, b1, cal, on1, aCons, vget, mkL, mkT, calF, andT, orT, notT, andV, notV, wp_bind, wp_pure, wp_if, List.map, List.length, List.replicate, List.append, List.cons_append, List.nil_append, Nat.reduceSub, Nat.reduceAdd, Nat.reduceLeDiff, List.getElem?_cons_zero, List.getElem?_cons_succ, List.set_cons_zero, List.set_cons_succ, wp_int, wp_intb, wp_int20, wp_toB, wp_add, wp_abs, wp_neg, wp_lenL, pen0, pen1, pen2, put1, put2, decide_true, decide_false, if_true, if_false, Bool.false_eq_true, Nat.zero_le, exists_eq_left, and_true, true_and, Bool.not_true, Bool.not_false, reduceCtorEq, reduceIte, isi_strS])) ?_)
  refine wr_bind (wr_wp ?_)
  simp only [orV, sDrop, ifV, metM_eq, metK_eq, wp_noE, gPutD, wp_lenDT, sSeq, sIf, sAsg, sRet, sNil, gSet, gPut, tst, b2, b1, cal, on1, aCons, vget, mkL, mkT, calF, andT, orT, notT, andV, notV, wp_bind, wp_pure, wp_if, List.map, List.length, List.replicate, List.append, List.cons_append, List.nil_append, Nat.reduceSub, Nat.reduceAdd, Nat.reduceLeDiff, List.getElem?_cons_zero, List.getElem?_cons_succ, List.set_cons_zero, List.set_cons_succ, wp_int, wp_intb, wp_int20, wp_toB, wp_add, wp_abs, wp_neg, wp_lenL, pen0, pen1, pen2, put1, put2, decide_true, decide_false, if_true, if_false, Bool.false_eq_true, Nat.zero_le, exists_eq_left, and_true, true_and, Bool.not_true, Bool.not_false, reduceCtorEq, reduceIte, mth, wp_chkS, wp_splitM nls_len0 ht, hs]
  refine wr_bind ?_
  refine wr_bind ?_
  unfold rpC calF
  refine wr_bind (wr_of rpArgs ?_)
  show Wr (m__read_line [.str l0, .int 0, .tup (FST.map D.str)]) S _
  refine wr_mono (line_ok (ln := 0) (hw l0 (by simp)) fst_kt) fun r S' h => ?_
  obtain ⟨h, T, rfl⟩ := h
  cases hp : pL FST (Txt.split l0 SPC) with
  | error n =>
    rw [hp] at h
    have h : r = _ := h
    subst h
    simp only [runW, hp]
    exact ⟨rfl, _, rfl⟩
  | ok q =>
    rw [hp] at h
    have h : r = .ok (.tup (.str q.1 :: q.2)) := h
    subst h
    obtain ⟨q1, ks, q2, q3, _⟩ := pL_ok hp
    have hk := (kt_at q2).2.2
    have i0 : ∀ {S : Sto} {Q : D → Sto → Prop}, Wp (ixD (.tup (.str q.1 :: q.2)) (.int 0)) S Q ↔ Q (.str q.1) S := ixT (k := 0) rfl
    simp only [runW, hp]
    refine wr_of rfl ?_
    show Wr (rpB [some (.str t), some (.lst ((l0 :: ls).map D.str)), some (.tup (.str q.1 :: q.2))]) (S ++ T) _
    unfold rpB
    refine wr_bind ?_
    refine wr_bind (wr_wp ?_)
    simp only [orV, sDrop, ifV, metM_eq, metK_eq, wp_noE, gPutD, wp_lenDT, sSeq, sIf, sAsg, sRet, sNil, gSet, gPut, tst, b2, b1, cal, on1, aCons, vget, mkL, mkT, calF, andT, orT, notT, andV, notV, wp_bind, wp_pure, wp_if, List.map, List.length, List.replicate, List.append, List.cons_append, List.nil_append, Nat.reduceSub, Nat.reduceAdd, Nat.reduceLeDiff, List.getElem?_cons_zero, List.getElem?_cons_succ, List.set_cons_zero, List.set_cons_succ, wp_int, wp_intb, wp_int20, wp_toB, wp_add, wp_abs, wp_neg, wp_lenL, pen0, pen1, pen2, put1, put2, decide_true, decide_false, if_true, if_false, Bool.false_eq_true, Nat.zero_le, exists_eq_left, and_true, true_and, Bool.not_true, Bool.not_false, reduceCtorEq, reduceIte, i0, wp_eqS hk readers_ok]
    by_cases e : q.1 = "readers"
    · have e0 : q.2 = [] := by
        rw [e] at q2
        cases q2
        exact List.length_eq_zero_iff.1 q3
      rw [if_pos (by simpa using e), if_pos e]
      refine wr_bind ?_
      unfold sRet
      refine wr_bind ?_
      refine wr_bind (wr_of rfl ?_)
      refine wr_bind ?_
      refine wr_bind (wr_of rfl ?_)
      show Wr (m__read_entries [.lst ((l0 :: ls).map D.str)]) (S ++ T) _
      refine wr_mono (entries_ok (fun l hl => hw l (by simp [hl])) (by simp at few; omega)) fun r S' h => ?_
      obtain ⟨h, T2, rfl⟩ := h
      rw [e, e0]
      cases hr : runE ls 1 ENT ⟨[], [], []⟩ with
      | error z =>
        rw [hr] at h
        have h : r = _ := h
        subst h
        exact ⟨rfl, _, List.append_assoc _ _ _⟩
      | ok st =>
        rw [hr] at h
        have h : r = _ := h
        subst h
        refine wr_wp ?_
        rw [addT (by simp)]
        refine wr_of rfl (wr_of rfl ?_)
        exact wr_of rfl (wr_of rfl ⟨rfl, _, List.append_assoc _ _ _⟩)
    · rw [if_neg (by simpa using e), if_neg e]
      refine wr_of rfl ?_
      refine wr_bind ?_
      refine wr_bind (wr_wp ?_)
      have el : ((D.str l0 :: List.map D.str ls).length : Int) = (ls.length : Int) + 1 := by simp
      simp only [orV, sDrop, ifV, metM_eq, metK_eq, wp_noE, gPutD, wp_lenDT, sSeq, sIf, sAsg, sRet, sNil, gSet, gPut, tst, b2, b1, cal, on1, aCons, vget, mkL, mkT, calF, andT, orT, notT, andV, notV, wp_bind, wp_pure, wp_if, List.map, List.length, List.replicate, List.append, List.cons_append, List.nil_append, Nat.reduceSub, Nat.reduceAdd, Nat.reduceLeDiff, List.getElem?_cons_zero, List.getElem?_cons_succ, List.set_cons_zero, List.set_cons_succ, wp_int, wp_intb, wp_int20, wp_toB, wp_add, wp_abs, wp_neg, wp_lenL, pen0, pen1, pen2, put1, put2, decide_true, decide_false, if_true, if_false, Bool.false_eq_true, Nat.zero_le, exists_eq_left, and_true, true_and, Bool.not_true, Bool.not_false, reduceCtorEq, reduceIte, wp_lenDL, el, wp_cII]
      cases ls with
      | nil =>
        rw [if_neg (by simp), if_pos rfl]
        refine wr_of rfl (wr_bind (wr_wp ?_))
        simp only [orV, sDrop, ifV, metM_eq, metK_eq, wp_noE, gPutD, wp_lenDT, sSeq, sIf, sAsg, sRet, sNil, gSet, gPut, tst, b2, b1, cal, on1, aCons, vget, mkL, mkT, calF, andT, orT, notT, andV, notV, wp_bind, wp_pure, wp_if, List.map, List.length, List.replicate, List.append, List.cons_append, List.nil_append, Nat.reduceSub, Nat.reduceAdd, Nat.reduceLeDiff, List.getElem?_cons_zero, List.getElem?_cons_succ, List.set_cons_zero, List.set_cons_succ, wp_int, wp_intb, wp_int20, wp_toB, wp_add, wp_abs, wp_neg, wp_lenL, pen0, pen1, pen2, put1, put2, decide_true, decide_false, if_true, if_false, Bool.false_eq_true, Nat.zero_le, exists_eq_left, and_true, true_and, Bool.not_true, Bool.not_false, reduceCtorEq, reduceIte]
        exact wr_of rfl (wr_of rfl ⟨rfl, _, rfl⟩)
      | cons l ls =>
        rw [if_pos (by simp; omega), if_neg (by simp)]
        refine wr_bind (raise_ok (ln := 1) (n := 0) (by simp only [orV, sDrop, ifV, metM_eq, metK_eq, wp_noE, gPutD, wp_lenDT, sSeq, sIf, sAsg, sRet, sNil, gSet, gPut, tst, b2, b1, cal, on1, aCons, vget, mkL, mkT, calF, andT, orT, notT, andV, notV, wp_bind, wp_pure, wp_if, List.map, List.length, List.replicate, List.append, List.cons_append, List.nil_append, Nat.reduceSub, Nat.reduceAdd, Nat.reduceLeDiff, List.getElem?_cons_zero, List.getElem?_cons_succ, List.set_cons_zero, List.set_cons_succ, wp_int, wp_intb, wp_int20, wp_toB, wp_add, wp_abs, wp_neg, wp_lenL, pen0, pen1, pen2, put1, put2, decide_true, decide_false, if_true, if_false, Bool.false_eq_true, Nat.zero_le, exists_eq_left, and_true, true_and, Bool.not_true, Bool.not_false, reduceCtorEq, reduceIte]; rfl) ?_)
        exact ⟨rfl, _, rfl⟩
theorem paper_odd {d : D} (hd : Wp (isiM "str" d) S fun b S' => b = .bl false ∧ S' = S) : m_read_paper [d] S = some (.error (badT 0 0), S) := by
  refine eq_of_wr ?_
  unfold m_read_paper runM
  refine wr_bind ?_
  show Wr (b_read_paper [some d, none, none]) S _
  rw [rp_eq]
  refine wr_bind ?_
  refine wr_bind (wr_wp ?_)
  simp only [orV, sDrop, ifV, metM_eq, metK_eq, wp_noE, gPutD, wp_lenDT, sSeq, sIf, sAsg, sRet, sNil, gSet, gPut, tst, b2, b1, cal, on1, aCons, vget, mkL, mkT, calF, andT, orT, notT, andV, notV, wp_bind, wp_pure, wp_if, List.map, List.length, List.replicate, List.append, List.cons_append, List.nil_append, Nat.reduceSub, Nat.reduceAdd, Nat.reduceLeDiff, List.getElem?_cons_zero, List.getElem?_cons_succ, List.set_cons_zero, List.set_cons_succ, wp_int, wp_intb, wp_int20, wp_toB, wp_add, wp_abs, wp_neg, wp_lenL, pen0, pen1, pen2, put1, put2, decide_true, decide_false, if_true, if_false, Bool.false_eq_true, Nat.zero_le, exists_eq_left, and_true, true_and, Bool.not_true, Bool.not_false, reduceCtorEq, reduceIte]
  refine hd.mono ?_
  rintro b S' ⟨rfl, rfl⟩
  simp only [orV, sDrop, ifV, metM_eq, metK_eq, wp_noE, gPutD, wp_lenDT, sSeq, sIf, sAsg, sRet, sNil, gSet, gPut, tst, b2, b1, cal, on1, aCons, vget, mkL, mkT, calF, andT, orT, notT, andV, notV, wp_bind, wp_pure, wp_if, List.map, List.length, List.replicate, List.append, List.cons_append, List.nil_append, Nat.reduceSub, Nat.reduceAdd, Nat.reduceLeDiff, List.getElem?_cons_zero, List.getElem?_cons_succ, List.set_cons_zero, List.set_cons_succ, wp_int, wp_intb, wp_int20, wp_toB, wp_add, wp_abs, wp_neg, wp_lenL, pen0, pen1, pen2, put1, put2, decide_true, decide_false, if_true, if_false, Bool.false_eq_true, Nat.zero_le, exists_eq_left, and_true, true_and, Bool.not_true, Bool.not_false, reduceCtorEq, reduceIte]
  refine wr_bind (raise_ok (ln := 0) (n := 0) (by simp only [orV, sDrop, ifV, metM_eq, metK_eq, wp_noE, gPutD, wp_lenDT, sSeq, sIf, sAsg, sRet, sNil, gSet, gPut, tst, b2, b1, cal, on1, aCons, vget, mkL, mkT, calF, andT, orT, notT, andV, notV, wp_bind, wp_pure, wp_if, List.map, List.length, List.replicate, List.append, List.cons_append, List.nil_append, Nat.reduceSub, Nat.reduceAdd, Nat.reduceLeDiff, List.getElem?_cons_zero, List.getElem?_cons_succ, List.set_cons_zero, List.set_cons_succ, wp_int, wp_intb, wp_int20, wp_toB, wp_add, wp_abs, wp_neg, wp_lenL, pen0, pen1, pen2, put1, put2, decide_true, decide_false, if_true, if_false, Bool.false_eq_true, Nat.zero_le, exists_eq_left, and_true, true_and, Bool.not_true, Bool.not_false, reduceCtorEq, reduceIte]; rfl) ?_)
  exact ⟨rfl, rfl⟩
theorem heardP (ht : WT t) {m : M D} (hm : m = m_read_paper [.str t]) : ∃ T, h__law_heard m S = some (.ok (dueP t), S ++ T) := by
  subst hm
  obtain ⟨l0, ls, hs⟩ := spl_cons (y := NLS) t
  obtain ⟨r, S', e, h, T, rfl⟩ := paper_ok (S := S) ht hs
  have hd : dueP t = dueW l0 ls := by unfold dueP; rw [hs]
  rw [hd]
  unfold dueW
  cases hr : runW l0 ls with
  | ok d =>
    rw [hr] at h
    have h : r = _ := h
    subst h
    exact ⟨T, heard_ok e⟩
  | error z =>
    rw [hr] at h
    have h : r = _ := h
    subst h
    exact ⟨T, heard_bad e⟩
end
end Mi
namespace Mi
open PySem PySem.Spec PyProof.Rows L2
section
variable {S : Sto} {t : Str} {Q : D → Sto → Prop} {a0 a1 a2 a3 a4 a5 a6 a7 o5 o6 o7 : Option D} {r : Nat} {x : Str} {ds ps : List D} {al : List Str}
theorem wp_ixLC {k : Nat} {d : D} (h : S[r]? = some (.lst ds)) (hd : ds[k]? = some d) : Wp (ixD (.ref r) (.int (k : Int))) S Q ↔ Q d S := wp_of (by
  have e : atI ds (k : Int) = some d := by
    have hk : k < ds.length := (List.getElem?_eq_some_iff.1 hd).1
    have e2 : L2.ixN ds.length (k : Int) = some k := by
      unfold L2.ixN
      rw [if_pos (by omega)]
      simpa using hk
    unfold L2.atI
    rw [e2]
    exact hd
  unfold ixD dctRd
  simp only [h]
  unfold ixM
  simp only [asQ, asR, asC, h, e])
theorem slc_LC {lo hi : Option Int} (h : S[r]? = some (.lst ds)) : Wp (slcM lo hi (.ref r)) S Q ↔ Q (.lst (cutD ds lo hi)) S := wp_of (by
  simp [slcM, asR, asC, h])
theorem isi_LC (h : S[r]? = some (.lst ds)) : Wp (isiM "list" (.ref r)) S Q ↔ Q (.bl true) S := wp_of (by
  unfold isiM
  have e : tyN S (.ref r) = some "list" := by simp [tyN, h]
  rw [e]
  have k : kitB "list" "list" = some true := by decide +kernel
  simp only [k])
theorem wp_setKS {kvs : List (Key × D)} {i : Str} {v : D} {ρ : Env} {Q : Env → Sto → Prop} (h : S[r]? = some (.dct kvs)) (hl : kvs.length < 100000) : Wp (putDM (.ref r) (.str i) v ρ) S Q ↔ Q ρ (S.set r (.dct (putD kvs (.inr i) v))) := wp_of (by
  unfold putDM
  simp only [h, keyOf]
  rw [if_pos hl])
noncomputable def DP : List (Str × (Env → M D)) := [("view", (mkT (fun _ => M.pure []))), ("stay", (mkT (fun _ => M.pure []))), ("apart", (mkT (fun _ => M.pure [])))]
noncomputable def LD (st : St3) : List (Key × D) := [(.inr "view", .tup st.vs), (.inr "stay", .tup st.ss), (.inr "apart", .tup st.as)]
noncomputable def LS (S : Sto) (st : St3) (T : Sto) : Sto := S ++ (.dct (LD st) :: T)
theorem ld_is : mergeD (zipK DP [.tup [], .tup [], .tup []]) = LD ⟨[], [], []⟩ := by with_unfolding_all rfl
theorem wp_dispDP {ρ : Env} : Wp (dispD DP ρ) S Q ↔ Q (.ref S.length) (LS S ⟨[], [], []⟩ []) := wp_of (by
  have e : (S ++ [Cell.dct []])[S.length]? = some (.dct []) := by simp
  show ((match (S ++ [Cell.dct []])[S.length]? with
    | some (.dct []) => some (.ok (D.ref S.length), (S ++ [Cell.dct []]).set S.length (.dct (mergeD (zipK DP [.tup [], .tup [], .tup []]))))
    | _ => none) : Option (Except Exn D × Sto)) = _
  rw [e, ld_is]
  rw [List.set_append_right _ _ (Nat.le_refl _), Nat.sub_self]
  rfl)
theorem ls0 {st : St3} {T : Sto} : (LS S st T)[S.length]? = some (.dct (LD st)) := by simp [LS]
theorem lsapp {st : St3} {T T' : Sto} : LS S st T ++ T' = LS S st (T ++ T') := by simp [LS]
theorem lsset {st : St3} {T : Sto} {c : List (Key × D)} : (LS S st T).set S.length (.dct c) = S ++ (.dct c :: T) := by simp [LS, List.set_append_right]
theorem ld_view (st : St3) : valD (LD st) (.inr "view") = some (.tup st.vs) := by with_unfolding_all rfl
theorem ld_stay (st : St3) : valD (LD st) (.inr "stay") = some (.tup st.ss) := by with_unfolding_all rfl
theorem ld_apart (st : St3) : valD (LD st) (.inr "apart") = some (.tup st.as) := by with_unfolding_all rfl
theorem lp_view (st : St3) (v : List D) : putD (LD st) (.inr "view") (.tup v) = LD ⟨v, st.ss, st.as⟩ := by with_unfolding_all rfl
theorem lp_stay (st : St3) (v : List D) : putD (LD st) (.inr "stay") (.tup v) = LD ⟨st.vs, v, st.as⟩ := by with_unfolding_all rfl
theorem lp_apart (st : St3) (v : List D) : putD (LD st) (.inr "apart") (.tup v) = LD ⟨st.vs, st.ss, v⟩ := by with_unfolding_all rfl
theorem idxL_S {z : Str} {j : Nat} (h : ixOf z al = some j) : Wp (idxL (.lst (al.map D.str)) [.str z]) S Q ↔ Q (.int (j : Int)) S := wp_of (by
  simp [idxL, asR, asC, strs_map, h])
theorem chkLd_S {Q : Unit → Sto → Prop} : Wp (chkLd (.lst ds)) S Q ↔ Q () S := wp_of (by simp [chkLd, asR, asC])
noncomputable def lrV : Env → M D := (ifV (tst (b2 eqM (b2 ixD (vget 6) (fun _ => M.pure (.int 0))) (fun _ => M.pure (.str "apart")))) (b2 ixD (vget 6) (fun _ => M.pure (.int 1))) (cal (on1 tupleM) (aCons (slc (vget 6) (some (fun _ => M.pure (.int 1))) none) (fun _ => M.pure []))))
noncomputable def lrU : Env → M (Fl × Env) := (sSeq (sAsg (slc (vget 3) (some (mth chkLd idxL (vget 3) (aCons (b2 ixD (vget 6) (fun _ => M.pure (.int 0))) (fun _ => M.pure [])))) none) (gSet 3))
    (sSeq (sAsg lrV (gSet 7))
    (sSeq (sAsg (b2 addM (b2 ixD (vget 4) (b2 ixD (vget 6) (fun _ => M.pure (.int 0)))) (mkT (aCons (vget 7) (fun _ => M.pure [])))) (gPutD (vget 4) (b2 ixD (vget 6) (fun _ => M.pure (.int 0)))))
    sNil)))
noncomputable def lrT : Env → M (Fl × Env) := (sSeq (sIf (notT (tst (b1 (isiM "list") (vget 6)))) (sSeq (sRet (mkT (aCons (vget 5) (aCons (vget 6) (fun _ => M.pure [])))))
    sNil) sNil) lrU)
noncomputable def lrB : Env → M (Fl × Env) := (sSeq (sAsg (calF 2 m__law_line (aCons (b2 ixD (vget 1) (vget 5)) (aCons (vget 3) (fun _ => M.pure [])))) (gSet 6)) lrT)
noncomputable def lrE : Env → M (Fl × Env) := (sSeq (sRet (mkL (aCons (mkT (aCons (fun _ => M.pure (.str "readers")) (aCons (b2 ixD (vget 4) (fun _ => M.pure (.str "view"))) (aCons (b2 ixD (vget 4) (fun _ => M.pure (.str "stay"))) (aCons (b2 ixD (vget 4) (fun _ => M.pure (.str "apart"))) (fun _ => M.pure [])))))) (fun _ => M.pure []))))
    sNil)
noncomputable def lrG : Env → M (Fl × Env) := (sSeq (sPar 3 4 (mkL (aCons (fun _ => M.pure (.str "view")) (aCons (fun _ => M.pure (.str "stay")) (aCons (fun _ => M.pure (.str "apart")) (fun _ => M.pure []))))) (dispD DP))
    (sSeq (sFor (len1 rngOf 2 (aCons (fun _ => M.pure (.int 1)) (aCons (cal (on1 lenD) (aCons (vget 1) (fun _ => M.pure []))) (fun _ => M.pure [])))) (gSet 5) lrB) lrE))
noncomputable def lrF : Env → M (Fl × Env) := (sSeq (sIf (notT (tst (b1 (isiM "list") (vget 2)))) (sSeq (sRet (mkT (aCons (fun _ => M.pure (.int 0)) (aCons (vget 2) (fun _ => M.pure [])))))
    sNil) sNil)
    (sSeq (sIf (tst (b2 neM (b2 ixD (vget 2) (fun _ => M.pure (.int 0))) (fun _ => M.pure (.str "readers")))) (sSeq (sRet (ifV (tst (b2 eqM (cal (on1 lenD) (aCons (vget 1) (fun _ => M.pure []))) (fun _ => M.pure (.int 1)))) (mkL (aCons (cal (on1 tupleM) (aCons (vget 2) (fun _ => M.pure []))) (fun _ => M.pure []))) (mkT (aCons (fun _ => M.pure (.int 1)) (aCons (fun _ => M.pure (.int 0)) (fun _ => M.pure []))))))
    sNil) sNil) lrG))
theorem lr_eq : b__law_read = (sSeq (sAsg (mth chkS splitM (vget 0) (aCons (fun _ => M.pure (.str NLS)) (fun _ => M.pure []))) (gSet 1))
    (sSeq (sAsg (calF 2 m__law_line (aCons (b2 ixD (vget 1) (fun _ => M.pure (.int 0))) (aCons (mkL (aCons (fun _ => M.pure (.str "readers")) (aCons (fun _ => M.pure (.str "range")) (aCons (fun _ => M.pure (.str "word")) (aCons (fun _ => M.pure (.str "span")) (fun _ => M.pure [])))))) (fun _ => M.pure [])))) (gSet 2)) lrF)) := rfl
theorem lrV_ok {ρ : Env} (hx : x ∈ ENT) (h1 : 1 ≤ ps.length) (h6 : ρ[6]? = some (some (.ref r))) (c : S[r]? = some (.lst (.str x :: ps))) : Wp (lrV ρ) S Q ↔ Q (valE x ps) S := by
  obtain ⟨d, u, rfl⟩ := ps_cons h1
  have i0 : ∀ {Q : D → Sto → Prop}, Wp (ixD (.ref r) (.int 0)) S Q ↔ Q (.str x) S := fun {Q} => wp_ixLC (k := 0) c rfl
  have i1 : ∀ {Q : D → Sto → Prop}, Wp (ixD (.ref r) (.int 1)) S Q ↔ Q d S := fun {Q} => wp_ixLC (k := 1) c rfl
  obtain ⟨ks, hk⟩ := Option.isSome_iff_exists.1 (ent_kt x hx)
  have hs := (kt_at hk).2.2
  unfold lrV
  simp only [ifV, tst, b2, vget, wp_bind, h6, wp_pure, i0, wp_eqS hs apart_ok, wp_toB, wp_if]
  by_cases e : x = "apart"
  · rw [if_pos (by simpa using e)]
    subst e
    simp only [i1, valE, if_true]
    rfl
  · rw [if_neg (by simpa using e)]
    simp only [orV, sDrop, ifV, metM_eq, metK_eq, wp_noE, gPutD, wp_lenDT, sSeq, sIf, sAsg, sRet, sNil, gSet, gPut, tst, b2, b1, cal, on1, aCons, vget, mkL, mkT, calF, andT, orT, notT, andV, notV, wp_bind, wp_pure, wp_if, List.map, List.length, List.replicate, List.append, List.cons_append, List.nil_append, Nat.reduceSub, Nat.reduceAdd, Nat.reduceLeDiff, List.getElem?_cons_zero, List.getElem?_cons_succ, List.set_cons_zero, List.set_cons_succ, wp_int, wp_intb, wp_int20, wp_toB, wp_add, wp_abs, wp_neg, wp_lenL, pen0, pen1, pen2, put1, put2, decide_true, decide_false, if_true, if_false, Bool.false_eq_true, Nat.zero_le, exists_eq_left, and_true, true_and, Bool.not_true, Bool.not_false, reduceCtorEq, reduceIte, slc, h6, parts, optI, slc_LC c, cut_1, valE, e, if_false, wp_tupL]
theorem lrU_ok {st : St3} {T : Sto} (hx : x ∈ ENT) (ha : x ∈ al) (h1 : 1 ≤ ps.length) (hl : st.vs.length ≤ 90000 ∧ st.ss.length ≤ 90000 ∧ st.as.length ≤ 90000) (c : (LS S st T)[r]? = some (.lst (.str x :: ps))) :
    Wp (lrU [a0, a1, a2, some (.lst (al.map D.str)), some (.ref S.length), a5, some (.ref r), o7]) (LS S st T) fun q S' => (∃ p7, q = (.nx, [a0, a1, a2, some (.lst ((dropTo x al).map D.str)), some (.ref S.length), a5, some (.ref r), p7])) ∧ S' = LS S (addE x (valE x ps) st) T := by
  obtain ⟨j, hj, hjl⟩ := ixOf_mem ha
  have hd : dropTo x al = al.drop j := by unfold dropTo; rw [hj]
  have i0 : ∀ {Q : D → Sto → Prop}, Wp (ixD (.ref r) (.int 0)) (LS S st T) Q ↔ Q (.str x) (LS S st T) := fun {Q} => wp_ixLC (k := 0) c rfl
  unfold lrU
  simp only [orV, sDrop, ifV, metM_eq, metK_eq, wp_noE, gPutD, wp_lenDT, sSeq, sIf, sAsg, sRet, sNil, gSet, gPut, tst, b2, b1, cal, on1, aCons, vget, mkL, mkT, calF, andT, orT, notT, andV, notV, wp_bind, wp_pure, wp_if, List.map, List.length, List.replicate, List.append, List.cons_append, List.nil_append, Nat.reduceSub, Nat.reduceAdd, Nat.reduceLeDiff, List.getElem?_cons_zero, List.getElem?_cons_succ, List.set_cons_zero, List.set_cons_succ, wp_int, wp_intb, wp_int20, wp_toB, wp_add, wp_abs, wp_neg, wp_lenL, pen0, pen1, pen2, put1, put2, decide_true, decide_false, if_true, if_false, Bool.false_eq_true, Nat.zero_le, exists_eq_left, and_true, true_and, Bool.not_true, Bool.not_false, reduceCtorEq, reduceIte, slc, parts, mth, chkLd_S, i0, idxL_S hj, optI, slc_Ls, drop_S hjl, hd]
  rw [lrV_ok hx h1 rfl c]
  simp only [orV, sDrop, ifV, metM_eq, metK_eq, wp_noE, gPutD, wp_lenDT, sSeq, sIf, sAsg, sRet, sNil, gSet, gPut, tst, b2, b1, cal, on1, aCons, vget, mkL, mkT, calF, andT, orT, notT, andV, notV, wp_bind, wp_pure, wp_if, List.map, List.length, List.replicate, List.append, List.cons_append, List.nil_append, Nat.reduceSub, Nat.reduceAdd, Nat.reduceLeDiff, List.getElem?_cons_zero, List.getElem?_cons_succ, List.set_cons_zero, List.set_cons_succ, wp_int, wp_intb, wp_int20, wp_toB, wp_add, wp_abs, wp_neg, wp_lenL, pen0, pen1, pen2, put1, put2, decide_true, decide_false, if_true, if_false, Bool.false_eq_true, Nat.zero_le, exists_eq_left, and_true, true_and, Bool.not_true, Bool.not_false, reduceCtorEq, reduceIte, i0]
  rcases ent_cases hx with rfl | rfl | rfl
  · simp only [orV, sDrop, ifV, metM_eq, metK_eq, wp_noE, gPutD, wp_lenDT, sSeq, sIf, sAsg, sRet, sNil, gSet, gPut, tst, b2, b1, cal, on1, aCons, vget, mkL, mkT, calF, andT, orT, notT, andV, notV, wp_bind, wp_pure, wp_if, List.map, List.length, List.replicate, List.append, List.cons_append, List.nil_append, Nat.reduceSub, Nat.reduceAdd, Nat.reduceLeDiff, List.getElem?_cons_zero, List.getElem?_cons_succ, List.set_cons_zero, List.set_cons_succ, wp_int, wp_intb, wp_int20, wp_toB, wp_add, wp_abs, wp_neg, wp_lenL, pen0, pen1, pen2, put1, put2, decide_true, decide_false, if_true, if_false, Bool.false_eq_true, Nat.zero_le, exists_eq_left, and_true, true_and, Bool.not_true, Bool.not_false, reduceCtorEq, reduceIte, wp_ixKS ls0 (ld_view _), i0, addT (show st.vs.length + [valE "view" ps].length ≤ 100000 by simp; omega), wp_setKS ls0 (show (LD st).length < 100000 by show 3 < 100000; decide), lsset, lp_view]
    exact ⟨⟨_, rfl⟩, rfl⟩
  · simp only [orV, sDrop, ifV, metM_eq, metK_eq, wp_noE, gPutD, wp_lenDT, sSeq, sIf, sAsg, sRet, sNil, gSet, gPut, tst, b2, b1, cal, on1, aCons, vget, mkL, mkT, calF, andT, orT, notT, andV, notV, wp_bind, wp_pure, wp_if, List.map, List.length, List.replicate, List.append, List.cons_append, List.nil_append, Nat.reduceSub, Nat.reduceAdd, Nat.reduceLeDiff, List.getElem?_cons_zero, List.getElem?_cons_succ, List.set_cons_zero, List.set_cons_succ, wp_int, wp_intb, wp_int20, wp_toB, wp_add, wp_abs, wp_neg, wp_lenL, pen0, pen1, pen2, put1, put2, decide_true, decide_false, if_true, if_false, Bool.false_eq_true, Nat.zero_le, exists_eq_left, and_true, true_and, Bool.not_true, Bool.not_false, reduceCtorEq, reduceIte, wp_ixKS ls0 (ld_stay _), i0, addT (show st.ss.length + [valE "stay" ps].length ≤ 100000 by simp; omega), wp_setKS ls0 (show (LD st).length < 100000 by show 3 < 100000; decide), lsset, lp_stay]
    exact ⟨⟨_, rfl⟩, rfl⟩
  · simp only [orV, sDrop, ifV, metM_eq, metK_eq, wp_noE, gPutD, wp_lenDT, sSeq, sIf, sAsg, sRet, sNil, gSet, gPut, tst, b2, b1, cal, on1, aCons, vget, mkL, mkT, calF, andT, orT, notT, andV, notV, wp_bind, wp_pure, wp_if, List.map, List.length, List.replicate, List.append, List.cons_append, List.nil_append, Nat.reduceSub, Nat.reduceAdd, Nat.reduceLeDiff, List.getElem?_cons_zero, List.getElem?_cons_succ, List.set_cons_zero, List.set_cons_succ, wp_int, wp_intb, wp_int20, wp_toB, wp_add, wp_abs, wp_neg, wp_lenL, pen0, pen1, pen2, put1, put2, decide_true, decide_false, if_true, if_false, Bool.false_eq_true, Nat.zero_le, exists_eq_left, and_true, true_and, Bool.not_true, Bool.not_false, reduceCtorEq, reduceIte, wp_ixKS ls0 (ld_apart _), i0, addT (show st.as.length + [valE "apart" ps].length ≤ 100000 by simp; omega), wp_setKS ls0 (show (LD st).length < 100000 by show 3 < 100000; decide), lsset, lp_apart]
    exact ⟨⟨_, rfl⟩, rfl⟩
end
end Mi
namespace Mi
open PySem PySem.Spec PyProof.Rows L2
section
variable {S : Sto} {t : Str} {Q : D → Sto → Prop} {a0 a2 o5 o6 o7 : Option D} {LL : List Str}
theorem isi_intLL {i : Int} : Wp (isiM "list" (.int i)) S Q ↔ Q (.bl false) S := wp_isi (fun _ => rfl) (by decide +kernel)
theorem lr_loop : ∀ (ls : List Str) (j : Nat) (al : List Str) (st : St3) (T : Sto) (o5 o6 o7 : Option D), LL.drop j = ls → (∀ l ∈ ls, WT l) → (∀ y ∈ al, y ∈ ENT) → st.vs.length + ls.length ≤ 80000 → st.ss.length + ls.length ≤ 80000 → st.as.length + ls.length ≤ 80000 →
    Wp (loop (gSet 5) lrB (rgD (j : Int) ls.length) [a0, some (.lst (LL.map D.str)), a2, some (.lst (al.map D.str)), some (.ref S.length), o5, o6, o7]) (LS S st T) fun r S' => match runE ls j al st with
      | .ok st' => (∃ p3 p5 p6 p7, r = (.nx, [a0, some (.lst (LL.map D.str)), a2, p3, some (.ref S.length), p5, p6, p7])) ∧ ∃ T', S' = LS S st' T'
      | .error e => r.1 = .rt (.tup [.int (e.1 : Int), .int (e.2 : Int)]) ∧ ∃ T', S' = S ++ T'
  | [], j, al, st, T, o5, o6, o7, _, _, _, _, _, _ => wp_of_eq rfl ⟨⟨_, _, _, _, rfl⟩, _, rfl⟩
  | l :: ls, j, al, st, T, o5, o6, o7, hd, hw, ha, h1, h2, h3 => by
    simp only [List.length_cons] at h1 h2 h3 ⊢
    have hx : (LL.map D.str)[j]? = some (.str l) := by
      have : LL[j]? = some l := by rw [← List.head?_drop, hd]; rfl
      rw [List.getElem?_map, this]
      rfl
    have hd2 : LL.drop (j + 1) = ls := by
      rw [← List.drop_drop, hd]
      rfl
    rw [rgD_cons]
    simp only [loop, gSet, wp_bind, wp_pure, List.set_cons_succ, List.set_cons_zero]
    unfold lrB sSeq
    rw [wp_bind]
    unfold sAsg
    rw [wp_bind]
    unfold calF
    simp only [wp_bind, aCons, b2, vget, List.getElem?_cons_succ, List.getElem?_cons_zero, wp_pure, wp_ixLs, wp_ixL hx]
    show Wp (m__law_line [.str l, .lst (al.map D.str)]) _ _
    refine (lawline_ok (hw l (by simp)) fun y hy => ent_kt y (ha y hy)).mono ?_
    rintro v S1 ⟨⟨T2, rfl⟩, h⟩
    rw [lsapp] at h ⊢
    simp only [gSet, wp_bind, wp_pure, List.set_cons_succ, List.set_cons_zero]
    cases hp : pL al (Txt.split l SPC) with
    | error n =>
      rw [hp] at h
      have h : v = .int (n : Int) := h
      subst h
      simp only [runE, hp]
      unfold lrT
      simp only [orV, sDrop, ifV, metM_eq, metK_eq, wp_noE, gPutD, wp_lenDT, sSeq, sIf, sAsg, sRet, sNil, gSet, gPut, tst, b2, b1, cal, on1, aCons, vget, mkL, mkT, calF, andT, orT, notT, andV, notV, wp_bind, wp_pure, wp_if, List.map, List.length, List.replicate, List.append, List.cons_append, List.nil_append, Nat.reduceSub, Nat.reduceAdd, Nat.reduceLeDiff, List.getElem?_cons_zero, List.getElem?_cons_succ, List.set_cons_zero, List.set_cons_succ, wp_int, wp_intb, wp_int20, wp_toB, wp_add, wp_abs, wp_neg, wp_lenL, pen0, pen1, pen2, put1, put2, decide_true, decide_false, if_true, if_false, Bool.false_eq_true, Nat.zero_le, exists_eq_left, and_true, true_and, Bool.not_true, Bool.not_false, reduceCtorEq, reduceIte, isi_intLL]
      exact ⟨_, rfl⟩
    | ok q =>
      rw [hp] at h
      obtain ⟨r, rfl, c⟩ := h
      obtain ⟨q1, ks, q2, q3, _⟩ := pL_ok hp
      have hx := ha _ q1
      simp only [runE, hp]
      unfold lrT
      simp only [sSeq, sIf, wp_bind, notT, tst, b1, vget, List.getElem?_cons_succ, List.getElem?_cons_zero, wp_pure, isi_LC c, wp_toB, wp_if, Bool.not_true, Bool.false_eq_true, if_false, sNil]
      refine (lrU_ok (a0 := a0) (a1 := some (.lst (LL.map D.str))) (a2 := a2) (a5 := some (.int (j : Int))) (o7 := o7) hx q1 (by rw [q3]; exact kt_ent1 hx q2) ⟨by omega, by omega, by omega⟩ c).mono ?_
      rintro _ _ ⟨⟨p7, rfl⟩, rfl⟩
      obtain ⟨g1, g2, g3⟩ := addE_len st q.1 (valE q.1 q.2)
      exact lr_loop ls (j + 1) (dropTo q.1 al) _ (T ++ T2) _ _ _ hd2 (fun z hz => hw z (by simp [hz])) (fun y hy => ha y (dropTo_mem hy)) (by omega) (by omega) (by omega)
theorem lrE_ok {st : St3} {T : Sto} {a1 a3 a5 a6 a7 : Option D} : Wp (lrE [a0, a1, a2, a3, some (.ref S.length), a5, a6, a7]) (LS S st T) fun r S' => S' = LS S st T ∧ r.1 = .rt (.lst [paperD st]) := by
  unfold lrE
  simp only [orV, sDrop, ifV, metM_eq, metK_eq, wp_noE, gPutD, wp_lenDT, sSeq, sIf, sAsg, sRet, sNil, gSet, gPut, tst, b2, b1, cal, on1, aCons, vget, mkL, mkT, calF, andT, orT, notT, andV, notV, wp_bind, wp_pure, wp_if, List.map, List.length, List.replicate, List.append, List.cons_append, List.nil_append, Nat.reduceSub, Nat.reduceAdd, Nat.reduceLeDiff, List.getElem?_cons_zero, List.getElem?_cons_succ, List.set_cons_zero, List.set_cons_succ, wp_int, wp_intb, wp_int20, wp_toB, wp_add, wp_abs, wp_neg, wp_lenL, pen0, pen1, pen2, put1, put2, decide_true, decide_false, if_true, if_false, Bool.false_eq_true, Nat.zero_le, exists_eq_left, and_true, true_and, Bool.not_true, Bool.not_false, reduceCtorEq, reduceIte, wp_ixKS ls0 (ld_view _), wp_ixKS ls0 (ld_stay _), wp_ixKS ls0 (ld_apart _)]
  rfl
theorem lrG_ok {l0 : Str} {ls : List Str} (hw : ∀ l ∈ ls, WT l) (hl : ls.length ≤ 50000) : Wp (lrG [a0, some (.lst ((l0 :: ls).map D.str)), a2, none, none, none, none, none]) S fun r S' => (∃ T, S' = S ++ T) ∧ r.1 = .rt (match runE ls 1 ENT ⟨[], [], []⟩ with
    | .ok st => .lst [paperD st]
    | .error e => .tup [.int (e.1 : Int), .int (e.2 : Int)]) := by
  have e2 : ((ls.length : Int) + 1 - 1).toNat = ls.length := by omega
  have rg : ∀ {S : Sto} {P : List D → Sto → Prop}, Wp (rngOf [.int 1, .int ((ls.length : Int) + 1)]) S P ↔ P (rgD ((1 : Nat) : Int) ls.length) S := fun {S P} => wp_of (by
    show (if (-100000 : Int) ≤ 1 ∧ (1 : Int) ≤ 100000 ∧ (-100000 : Int) ≤ (ls.length : Int) + 1 ∧ (ls.length : Int) + 1 ≤ 100000 then M.pure (rgD 1 ((ls.length : Int) + 1 - 1).toNat) else bad) S = _
    rw [if_pos (by omega), e2]
    rfl)
  have el : ((D.str l0 :: List.map D.str ls).length : Int) = (ls.length : Int) + 1 := by simp
  unfold lrG
  simp only [orV, sDrop, ifV, metM_eq, metK_eq, wp_noE, gPutD, wp_lenDT, sSeq, sIf, sAsg, sRet, sNil, gSet, gPut, tst, b2, b1, cal, on1, aCons, vget, mkL, mkT, calF, andT, orT, notT, andV, notV, wp_bind, wp_pure, wp_if, List.map, List.length, List.replicate, List.append, List.cons_append, List.nil_append, Nat.reduceSub, Nat.reduceAdd, Nat.reduceLeDiff, List.getElem?_cons_zero, List.getElem?_cons_succ, List.set_cons_zero, List.set_cons_succ, wp_int, wp_intb, wp_int20, wp_toB, wp_add, wp_abs, wp_neg, wp_lenL, pen0, pen1, pen2, put1, put2, decide_true, decide_false, if_true, if_false, Bool.false_eq_true, Nat.zero_le, exists_eq_left, and_true, true_and, Bool.not_true, Bool.not_false, reduceCtorEq, reduceIte, sPar, wp_dispDP, sFor, len1, wp_lenDL, el]
  rw [show (((List.map D.str ls).length + 1 : Nat) : Int) = (ls.length : Int) + 1 by simp]
  refine rg.2 ?_
  refine (lr_loop (S := S) (LL := l0 :: ls) ls 1 ENT ⟨[], [], []⟩ [] none none none rfl hw (fun y h => h) (by simp; omega) (by simp; omega) (by simp; omega)).mono ?_
  rintro ⟨f, ρ⟩ S' h
  cases hr : runE ls 1 ENT ⟨[], [], []⟩ with
  | error e =>
    rw [hr] at h
    obtain ⟨h, T', rfl⟩ := h
    have h : f = _ := h
    subst h
    exact wp_pure.2 ⟨⟨_, rfl⟩, rfl⟩
  | ok st =>
    rw [hr] at h
    obtain ⟨⟨p3, p5, p6, p7, e⟩, T', rfl⟩ := h
    cases e
    refine lrE_ok.mono ?_
    rintro ⟨f, ρ⟩ S2 ⟨rfl, h⟩
    exact ⟨⟨_, rfl⟩, h⟩
theorem lawread_ok (ht : WT t) : Wp (m__law_read [.str t]) S fun v S' => v = dueP t ∧ ∃ T, S' = S ++ T := by
  obtain ⟨l0, ls, hs⟩ := spl_cons (y := NLS) t
  have hw : ∀ l ∈ l0 :: ls, WT l := fun l hl => nls_wt ht (by rw [hs]; exact hl)
  have few : (l0 :: ls).length ≤ 50000 := by rw [← hs]; exact split_few ht
  have hd : dueP t = dueW l0 ls := by unfold dueP; rw [hs]
  have h0 : ((l0 :: ls).map D.str)[0]? = some (D.str l0) := rfl
  have ix0 : ∀ {S : Sto} {Q : D → Sto → Prop}, Wp (ixM (.lst ((l0 :: ls).map D.str)) (.int 0)) S Q ↔ Q (.str l0) S := fun {S Q} => wp_ixL (k := 0) h0
  rw [hd]
  unfold m__law_read
  refine wp_run ?_
  rw [lr_eq]
  simp only [orV, sDrop, ifV, metM_eq, metK_eq, wp_noE, gPutD, wp_lenDT, sSeq, sIf, sAsg, sRet, sNil, gSet, gPut, tst, b2, b1, cal, on1, aCons, vget, mkL, mkT, calF, andT, orT, notT, andV, notV, wp_bind, wp_pure, wp_if, List.map, List.length, List.replicate, List.append, List.cons_append, List.nil_append, Nat.reduceSub, Nat.reduceAdd, Nat.reduceLeDiff, List.getElem?_cons_zero, List.getElem?_cons_succ, List.set_cons_zero, List.set_cons_succ, wp_int, wp_intb, wp_int20, wp_toB, wp_add, wp_abs, wp_neg, wp_lenL, pen0, pen1, pen2, put1, put2, decide_true, decide_false, if_true, if_false, Bool.false_eq_true, Nat.zero_le, exists_eq_left, and_true, true_and, Bool.not_true, Bool.not_false, reduceCtorEq, reduceIte, mth, wp_chkS, wp_splitM nls_len0 ht, hs, wp_ixLs]
  rw [show (D.str l0 :: List.map D.str ls) = (l0 :: ls).map D.str from rfl, ix0]
  show Wp (m__law_line [.str l0, .lst (FST.map D.str)]) _ _
  refine (lawline_ok (hw l0 (by simp)) fst_kt).mono ?_
  rintro v S1 ⟨⟨T, rfl⟩, h⟩
  cases hp : pL FST (Txt.split l0 SPC) with
  | error n =>
    rw [hp] at h
    have h : v = .int (n : Int) := h
    subst h
    have e : dueW l0 ls = .tup [.int 0, .int (n : Int)] := by unfold dueW runW; rw [hp]; rfl
    rw [e]
    unfold lrF
    simp only [orV, sDrop, ifV, metM_eq, metK_eq, wp_noE, gPutD, wp_lenDT, sSeq, sIf, sAsg, sRet, sNil, gSet, gPut, tst, b2, b1, cal, on1, aCons, vget, mkL, mkT, calF, andT, orT, notT, andV, notV, wp_bind, wp_pure, wp_if, List.map, List.length, List.replicate, List.append, List.cons_append, List.nil_append, Nat.reduceSub, Nat.reduceAdd, Nat.reduceLeDiff, List.getElem?_cons_zero, List.getElem?_cons_succ, List.set_cons_zero, List.set_cons_succ, wp_int, wp_intb, wp_int20, wp_toB, wp_add, wp_abs, wp_neg, wp_lenL, pen0, pen1, pen2, put1, put2, decide_true, decide_false, if_true, if_false, Bool.false_eq_true, Nat.zero_le, exists_eq_left, and_true, true_and, Bool.not_true, Bool.not_false, reduceCtorEq, reduceIte, isi_intLL]
    exact ⟨_, rfl, rfl, _, rfl⟩
  | ok q =>
    rw [hp] at h
    obtain ⟨r, rfl, c⟩ := h
    obtain ⟨q1, ks, q2, q3, _⟩ := pL_ok hp
    have hk := (kt_at q2).2.2
    have i0 : ∀ {Q : D → Sto → Prop}, Wp (ixD (.ref r) (.int 0)) (S ++ T) Q ↔ Q (.str q.1) (S ++ T) := fun {Q} => wp_ixLC (k := 0) c rfl
    unfold lrF
    simp only [sSeq, sIf, wp_bind, notT, tst, b1, b2, vget, List.getElem?_cons_succ, List.getElem?_cons_zero, wp_pure, isi_LC c, wp_toB, wp_if, Bool.not_true, Bool.false_eq_true, if_false, sNil, i0, neSS hk readers_ok]
    by_cases e : q.1 = "readers"
    · rw [if_neg (by simp [e])]
      refine (lrG_ok (fun l hl => hw l (by simp [hl])) (by simp at few; omega)).mono ?_
      rintro ⟨f, ρ⟩ S' ⟨⟨T2, rfl⟩, h⟩
      refine ⟨_, h, ?_, _, List.append_assoc _ _ _⟩
      unfold dueW runW
      rw [hp]
      simp only [e, if_true]
      cases runE ls 1 ENT ⟨[], [], []⟩ <;> rfl
    · rw [if_pos (by simpa using e)]
      have el : (((l0 :: ls).map D.str).length : Int) = (ls.length : Int) + 1 := by simp
      have e3 : dueW l0 ls = if ls = [] then .lst [.tup (.str q.1 :: q.2)] else .tup [.int 1, .int 0] := by
        unfold dueW runW
        rw [hp]
        simp only [e, if_false]
        by_cases z : ls = []
        · rw [if_pos z, if_pos z]
        · rw [if_neg z, if_neg z]
          rfl
      rw [e3]
      cases ls with
      | nil =>
        simp only [orV, sDrop, ifV, metM_eq, metK_eq, wp_noE, gPutD, wp_lenDT, sSeq, sIf, sAsg, sRet, sNil, gSet, gPut, tst, b2, b1, cal, on1, aCons, vget, mkL, mkT, calF, andT, orT, notT, andV, notV, wp_bind, wp_pure, wp_if, List.map, List.length, List.replicate, List.append, List.cons_append, List.nil_append, Nat.reduceSub, Nat.reduceAdd, Nat.reduceLeDiff, List.getElem?_cons_zero, List.getElem?_cons_succ, List.set_cons_zero, List.set_cons_succ, wp_int, wp_intb, wp_int20, wp_toB, wp_add, wp_abs, wp_neg, wp_lenL, pen0, pen1, pen2, put1, put2, decide_true, decide_false, if_true, if_false, Bool.false_eq_true, Nat.zero_le, exists_eq_left, and_true, true_and, Bool.not_true, Bool.not_false, reduceCtorEq, reduceIte, wp_lenDL, wp_eqI, wp_tupC c]
        exact ⟨_, rfl, rfl, _, rfl⟩
      | cons l ls =>
        have e4 : ((((l0 :: l :: ls).map D.str).length : Int) == 1) = false := by
          rw [el, beq_eq_false_iff_ne]
          simp
          omega
        rw [if_neg (by simp)]
        simp only [sRet, ifV, tst, b2, cal, on1, aCons, vget, wp_bind, wp_pure, List.getElem?_cons_succ, List.getElem?_cons_zero, wp_lenDL, wp_eqI, e4, wp_toB, wp_if, Bool.false_eq_true, if_false, mkT, wp_tupC c]
        exact ⟨_, rfl, rfl, _, rfl⟩
end
end Mi
namespace Mi
open PySem PySem.Spec PyProof.Rows L2
noncomputable def isNat (d : D) : Prop := ∃ n : Nat, n ≤ 999999 ∧ d = .int (n : Int)
theorem fit_int {k w : Str} (hk : kB k = true) (h : fitK k (rdI w) .non = true) : isNat (rdI w) := by
  obtain ⟨f1, f2⟩ := fit_low (k := k) (w := w) hk
  rw [f1] at h
  have h := of_decide_eq_true h
  unfold rdI lwI at *
  cases hc : cint w with
  | none =>
    rw [hc] at h
    exfalso
    have h : lowI k ≤ -1 := h
    unfold lowI at h
    split at h <;> omega
  | some n => exact ⟨n, cint_le hc, rfl⟩
theorem pF_int : ∀ (ks ws : List Str) (l ps : List D), (∀ k ∈ ks, kB k = true) → (∀ d ∈ l, isNat d) → pF ks ws l = .ok ps → ∀ d ∈ ps, isNat d
  | [], ws, l, ps, _, hl, h => by simp [pF] at h; subst h; exact hl
  | k :: ks, [], l, ps, _, hl, h => by simp [pF] at h; subst h; exact hl
  | k :: ks, w :: ws, l, ps, hk, hl, h => by
    simp only [pF] at h
    split at h
    · rename_i hf
      refine pF_int ks ws _ ps (fun z hz => hk z (by simp [hz])) (fun d hd => ?_) h
      rcases List.mem_append.1 hd with hd | hd
      · exact hl d hd
      · rw [List.mem_singleton.1 hd]
        exact fit_int (hk k (by simp)) hf
    · cases h
theorem pF_err : ∀ (ks ws : List Str) (l : List D) (n : Nat), pF ks ws l = .error n → n ≤ l.length + ks.length
  | [], ws, l, n, h => by simp [pF] at h
  | k :: ks, [], l, n, h => by simp [pF] at h
  | k :: ks, w :: ws, l, n, h => by
    simp only [pF] at h
    split at h
    · have := pF_err ks ws _ n h
      simp at this ⊢
      omega
    · cases h
      simp only [List.length_cons]
      omega
theorem pL_err {al ws : List Str} {n : Nat} (h : pL al ws = .error n) : n ≤ 4 := by
  unfold pL at h
  split at h
  · cases h; omega
  · rename_i x r
    split at h
    · split at h
      · cases h; omega
      · rename_i ks hk
        obtain ⟨_, k2, _⟩ := kt_at hk
        split at h
        · rename_i m hp
          cases h
          have := pF_err _ _ _ _ hp
          simp at this
          omega
        · rename_i ps hp
          have := pF_len _ _ _ _ hp
          simp at this
          split at h
          · cases h
          · cases h
            omega
    · cases h; omega
theorem pL_int {al ws : List Str} {q : Str × List D} (h : pL al ws = .ok q) : ∀ d ∈ q.2, isNat d := by
  obtain ⟨q1, ks, q2, q3, r, e, hp, _⟩ := pL_ok h
  exact pF_int _ _ _ _ (kt_at q2).1 (fun _ z => by cases z) hp
noncomputable def Vg (d : D) : Prop := Tw 1 19 d ∧ eqs 3 d
theorem isNat_vg {d : D} (h : isNat d) : Tw 0 6 d ∧ eqs 1 d := by
  obtain ⟨n, h1, rfl⟩ := h
  exact ⟨tw_num h1, (eqs_int _).mono (by omega)⟩
theorem val_vg {x : Str} {ps : List D} (hx : x ∈ ENT) (hp : ∀ d ∈ ps, isNat d) (h1 : 1 ≤ ps.length) (h2 : ps.length ≤ 2) : Vg (valE x ps) := by
  unfold valE
  split
  · obtain ⟨d, r, rfl⟩ := ps_cons h1
    obtain ⟨a, b⟩ := isNat_vg (hp d (by simp))
    exact ⟨a.mono (by omega) (by omega), b.mono (by omega)⟩
  · refine ⟨(tw_tup fun d hd => (isNat_vg (hp d hd)).1).mono (by omega) (by omega), (eqs_tup (n := 1) fun d hd => (isNat_vg (hp d hd)).2).mono (by omega)⟩
theorem kt_ent2 {x : Str} {ks : List Str} (hx : x ∈ ENT) (h : KT.lookup x = some ks) : ks.length ≤ 2 := by
  rcases ent_cases hx with rfl | rfl | rfl
  · cases h; decide
  · cases h; decide
  · cases h; decide
structure G3 (n : Nat) (st : St3) : Prop where
  l1 : st.vs.length ≤ n
  l2 : st.ss.length ≤ n
  l3 : st.as.length ≤ n
  g1 : ∀ d ∈ st.vs, Vg d
  g2 : ∀ d ∈ st.ss, Vg d
  g3 : ∀ d ∈ st.as, Vg d
theorem G3.add {n : Nat} {st : St3} (g : G3 n st) {x : Str} {v : D} (hv : Vg v) : G3 (n + 1) (addE x v st) := by
  obtain ⟨a, b, c⟩ := addE_len st x v
  have := g.l1; have := g.l2; have := g.l3
  have ap : ∀ {l : List D}, (∀ d ∈ l, Vg d) → ∀ d ∈ l ++ [v], Vg d := fun h d hd => by
    rcases List.mem_append.1 hd with hd | hd
    · exact h d hd
    · rw [List.mem_singleton.1 hd]; exact hv
  refine ⟨by omega, by omega, by omega, ?_, ?_, ?_⟩ <;> (unfold addE; split <;> try split) <;> first | exact g.g1 | exact g.g2 | exact g.g3 | exact ap g.g1 | exact ap g.g2 | exact ap g.g3
theorem line_long {l : Str} {al : List Str} {q : Str × List D} (ha : ∀ y ∈ al, y ∈ ENT) (h : pL al (Txt.split l SPC) = .ok q) : 4 ≤ l.length := by
  obtain ⟨q1, ks, q2, q3, r, e, _⟩ := pL_ok h
  have w := words_w l
  rw [e] at w
  simp only [List.map_cons, List.sum_cons, List.length_cons] at w
  have : 4 ≤ q.1.length := by
    rcases ent_cases (ha _ q1) with z | z | z <;> rw [z] <;> decide +kernel
  omega
theorem runE_ok : ∀ (ls : List Str) (i : Nat) (al : List Str) (st st' : St3) (n : Nat), (∀ y ∈ al, y ∈ ENT) → G3 n st → runE ls i al st = .ok st' → G3 (n + ls.length) st' ∧ ∀ l ∈ ls, 4 ≤ l.length
  | [], i, al, st, st', n, ha, g, h => by
    simp only [runE] at h
    cases h
    exact ⟨g, fun _ z => by cases z⟩
  | l :: ls, i, al, st, st', n, ha, g, h => by
    simp only [runE] at h
    cases hp : pL al (Txt.split l SPC) with
    | error m => rw [hp] at h; cases h
    | ok q =>
      rw [hp] at h
      obtain ⟨q1, ks, q2, q3, _⟩ := pL_ok hp
      have hx := ha _ q1
      have hv := val_vg hx (pL_int hp) (by rw [q3]; exact kt_ent1 hx q2) (by rw [q3]; exact kt_ent2 hx q2)
      obtain ⟨a, b⟩ := runE_ok ls (i + 1) (dropTo q.1 al) _ st' (n + 1) (fun y hy => ha y (dropTo_mem hy)) (g.add hv) h
      refine ⟨by rw [show n + (l :: ls).length = n + 1 + ls.length by simp; omega]; exact a, fun z hz => ?_⟩
      rcases List.mem_cons.1 hz with rfl | hz
      · exact line_long ha hp
      · exact b z hz
theorem runE_err : ∀ (ls : List Str) (i : Nat) (al : List Str) (st : St3) (e : Nat × Nat), runE ls i al st = .error e → e.1 ≤ i + ls.length ∧ e.2 ≤ 4
  | [], i, al, st, e, h => by simp [runE] at h
  | l :: ls, i, al, st, e, h => by
    simp only [runE] at h
    cases hp : pL al (Txt.split l SPC) with
    | error m =>
      rw [hp] at h
      cases h
      exact ⟨by simp, pL_err hp⟩
    | ok q =>
      rw [hp] at h
      obtain ⟨a, b⟩ := runE_err ls (i + 1) _ _ e h
      exact ⟨by simp; omega, b⟩
theorem sum_four : ∀ {ls : List Str}, (∀ l ∈ ls, 4 ≤ l.length) → 5 * ls.length ≤ (ls.map (·.length)).sum + ls.length
  | [], _ => by simp
  | l :: ls, h => by
    have := sum_four (ls := ls) fun z hz => h z (by simp [hz])
    have := h l (by simp)
    simp only [List.map_cons, List.sum_cons, List.length_cons]
    omega
theorem nl_w (a : Str) : ((Txt.split a NLS).map (·.length)).sum + (Txt.split a NLS).length ≤ a.length + 1 := PyProof.Rows.split_weight a NLS (by decide +kernel)
theorem wl_readers : WL 9 ("readers" : Str) := ⟨fun c hc => by
  have : ("readers" : Str).cps.toList.all (fun c => decide (c < 128)) = true := by decide +kernel
  exact of_decide_eq_true (List.all_eq_true.1 this c hc), by decide +kernel⟩
theorem paper_tw {n : Nat} {st : St3} (g : G3 n st) (hn : 5 ≤ n) : Tw 3 (4 * (n * 21 + 3 + 2) + 3) (paperD st) ∧ eqs 8 (paperD st) := by
  have one : ∀ {l : List D}, l.length ≤ n → (∀ d ∈ l, Vg d) → Tw 2 (n * 21 + 3) (.tup l) ∧ eqs 6 (.tup l) := fun {l} hl h => by
    refine ⟨(tw_tup fun d hd => (h d hd).1).mono (by omega) ?_, (eqs_tup (n := 3) fun d hd => (h d hd).2).mono (by omega)⟩
    have := Nat.mul_le_mul_right 21 hl
    omega
  have k1 := one g.l1 g.g1
  have k2 := one g.l2 g.g2
  have k3 := one g.l3 g.g3
  have k0 : Tw 2 (n * 21 + 3) (.str "readers") ∧ eqs 6 (.str "readers") := ⟨(tw_str wl_readers).mono (by omega) (by omega), (eqs_str readers_ok).mono (by omega)⟩
  have all : ∀ d ∈ [D.str "readers", .tup st.vs, .tup st.ss, .tup st.as], Tw 2 (n * 21 + 3) d ∧ eqs 6 d := fun d hd => by
    simp only [List.mem_cons, List.not_mem_nil, or_false] at hd
    rcases hd with rfl | rfl | rfl | rfl
    · exact k0
    · exact k1
    · exact k2
    · exact k3
  exact ⟨tw_tup (ds := [D.str "readers", .tup st.vs, .tup st.ss, .tup st.as]) fun d hd => (all d hd).1, (eqs_tup (n := 6) fun d hd => (all d hd).2).mono (by omega)⟩
end Mi
namespace Mi
open PySem PySem.Spec PyProof.Rows L2
theorem G3.mono {n m : Nat} {st : St3} (g : G3 n st) (h : n ≤ m) : G3 m st := ⟨Nat.le_trans g.l1 h, Nat.le_trans g.l2 h, Nat.le_trans g.l3 h, g.g1, g.g2, g.g3⟩
theorem fst_wl : ∀ x ∈ FST, x.cps.toList.all (fun c => decide (c < 128)) = true ∧ x.length ≤ 9 := by decide +kernel
theorem fst_ok {x : Str} (h : x ∈ FST) : WL 9 x := ⟨fun c hc => of_decide_eq_true (List.all_eq_true.1 (fst_wl x h).1 c hc), (fst_wl x h).2⟩
theorem pair_tw {a b : Nat} (ha : a ≤ 999999) (hb : b ≤ 999999) : Tw 4 33712 (.tup [.int (a : Int), .int (b : Int)]) ∧ eqs 64 (.tup [.int (a : Int), .int (b : Int)]) := by
  have all : ∀ d ∈ [D.int (a : Int), .int (b : Int)], Tw 0 6 d ∧ eqs 1 d := fun d hd => by
    simp only [List.mem_cons, List.not_mem_nil, or_false] at hd
    rcases hd with rfl | rfl
    · exact ⟨tw_num ha, eqs_int _⟩
    · exact ⟨tw_num hb, eqs_int _⟩
  exact ⟨(tw_tup fun d hd => (all d hd).1).mono (by omega) (by simp), (eqs_tup fun d hd => (all d hd).2).mono (by omega)⟩
theorem bar_tw {q : Str × List D} (h1 : q.1 ∈ FST) (h2 : ∀ d ∈ q.2, isNat d) (h3 : q.2.length ≤ 3) : Tw 3 33707 (.tup (.str q.1 :: q.2)) ∧ eqs 60 (.tup (.str q.1 :: q.2)) := by
  have all : ∀ d ∈ D.str q.1 :: q.2, Tw 0 92 d ∧ eqs 1 d := fun d hd => by
    rcases List.mem_cons.1 hd with rfl | hd
    · exact ⟨tw_str (fst_ok h1), eqs_str (small_ok (fst_ok h1).sm)⟩
    · obtain ⟨a, b⟩ := isNat_vg (h2 d hd)
      exact ⟨a.mono (by omega) (by omega), b⟩
  refine ⟨(tw_tup fun d hd => (all d hd).1).mono (by omega) ?_, (eqs_tup fun d hd => (all d hd).2).mono (by omega)⟩
  simp only [List.length_cons]
  omega
theorem due_tw {t : Str} (hl : t.length ≤ 2000) : Tw 4 33712 (dueP t) ∧ eqs 64 (dueP t) := by
  obtain ⟨l0, ls, hs⟩ := spl_cons (y := NLS) t
  have hd : dueP t = dueW l0 ls := by unfold dueP; rw [hs]
  have hw := nl_w t
  rw [hs] at hw
  simp only [List.map_cons, List.sum_cons, List.length_cons] at hw
  rw [hd]
  have one : ∀ {d : D}, Tw 3 33707 d ∧ eqs 60 d → Tw 4 33712 (.lst [d]) ∧ eqs 64 (.lst [d]) := fun {d} h =>
    ⟨(tw_lst (ds := [d]) fun z hz => by rw [List.mem_singleton.1 hz]; exact h.1).mono (by omega) (by simp), (eqs_lst (ds := [d]) fun z hz => by rw [List.mem_singleton.1 hz]; exact h.2).mono (by omega)⟩
  unfold dueW runW
  cases hp : pL FST (Txt.split l0 SPC) with
  | error n => exact pair_tw (by omega) (by have := pL_err hp; omega)
  | ok q =>
    obtain ⟨q1, ks, q2, q3, _⟩ := pL_ok hp
    simp only
    by_cases e : q.1 = "readers"
    · rw [if_pos e]
      cases hr : runE ls 1 ENT ⟨[], [], []⟩ with
      | error z =>
        obtain ⟨a, b⟩ := runE_err _ _ _ _ _ hr
        exact pair_tw (by omega) (by omega)
      | ok st =>
        obtain ⟨a, b⟩ := runE_ok ls 1 ENT _ st 0 (fun _ h => h) ⟨by simp, by simp, by simp, fun _ h => (by cases h), fun _ h => (by cases h), fun _ h => (by cases h)⟩ hr
        have := sum_four b
        obtain ⟨c1, c2⟩ := paper_tw (n := 401) (a.mono (by omega)) (by omega)
        exact one ⟨c1.mono (by omega) (by omega), c2.mono (by omega)⟩
    · rw [if_neg e]
      by_cases z : ls = []
      · rw [if_pos z]
        exact one (bar_tw q1 (pL_int hp) (by rw [q3]; exact (kt_at q2).2.1))
      · rw [if_neg z]
        exact pair_tw (by omega) (by omega)
noncomputable def hA : Env → M D := fun ρ => noErr (h__law_heard ((calF 1 m_read_paper (noE (aCons (vget 0) (fun _ => M.pure [])))) ρ))
noncomputable def hB : Env → M D := fun ρ => noErr (h__law_heard ((calK 1 [0] m_read_paper (aCons (vget 0) (fun _ => M.pure []))) ρ))
theorem hA_is {d : D} {ρ : Env} : hA (some d :: ρ) = noErr (h__law_heard (m_read_paper [d])) := rfl
theorem hB_is {d : D} {ρ : Env} : hB (some d :: ρ) = noErr (h__law_heard (m_read_paper [d])) := rfl
noncomputable def trR : Env → M (Fl × Env) := (sSeq (sAsg (mkC (aCons hA (fun _ => M.pure []))) (gSet 2))
    (sSeq (sDrop (mth chkL appM (vget 2) (aCons hB (fun _ => M.pure []))))
    (sSeq (sRet (b2 eqM (cal (on1 reprM) (aCons (vget 2) (fun _ => M.pure []))) (cal (on1 reprM) (aCons (mkL (aCons (vget 1) (aCons (vget 1) (fun _ => M.pure [])))) (fun _ => M.pure [])))))
    sNil)))
theorem rt_eq : b__law_right = (sSeq (sAsg (calF 1 m__law_read (aCons (vget 0) (fun _ => M.pure []))) (gSet 1)) trR) := rfl
section
variable {S : Sto} {t : Str}
theorem two_tw (hl : t.length ≤ 2000) : Tw 5 90000 (.lst [dueP t, dueP t]) := by
  refine (tw_lst (h := 4) (w := 33712) fun d hd => ?_).mono (by omega) (by simp)
  simp only [List.mem_cons, List.not_mem_nil, or_false, or_self] at hd
  rw [hd]
  exact (due_tw hl).1
theorem trR_ok (ht : WT t) (hl : t.length ≤ 2000) : Wp (trR [some (.str t), some (dueP t), none]) S fun r S' => (∃ T, S' = S ++ T) ∧ r.1 = .rt (.bl true) := by
  obtain ⟨T, e⟩ := heardP (S := S) (t := t) ht rfl
  have hg := two_tw (t := t) hl
  unfold trR
  simp only [orV, sDrop, ifV, metM_eq, metK_eq, wp_noE, gPutD, wp_lenDT, sSeq, sIf, sAsg, sRet, sNil, gSet, gPut, tst, b2, b1, cal, on1, aCons, vget, mkL, mkT, calF, andT, orT, notT, andV, notV, wp_bind, wp_pure, wp_if, List.map, List.length, List.replicate, List.append, List.cons_append, List.nil_append, Nat.reduceSub, Nat.reduceAdd, Nat.reduceLeDiff, List.getElem?_cons_zero, List.getElem?_cons_succ, List.set_cons_zero, List.set_cons_succ, wp_int, wp_intb, wp_int20, wp_toB, wp_add, wp_abs, wp_neg, wp_lenL, pen0, pen1, pen2, put1, put2, decide_true, decide_false, if_true, if_false, Bool.false_eq_true, Nat.zero_le, exists_eq_left, and_true, true_and, Bool.not_true, Bool.not_false, reduceCtorEq, reduceIte, mkC, hA_is, wp_noErrI]
  rw [wp_of e]
  obtain ⟨T2, e2⟩ := heardP (S := S ++ T ++ [.lst [dueP t]]) (t := t) ht rfl
  have c : (S ++ T ++ [Cell.lst [dueP t]])[(S ++ T).length]? = some (.lst [dueP t]) := cell_last _ _
  have c2 : (S ++ T ++ [Cell.lst [dueP t]] ++ T2)[(S ++ T).length]? = some (.lst [dueP t]) := by
    rw [List.getElem?_append_left (by simp)]
    exact c
  simp only [orV, sDrop, ifV, metM_eq, metK_eq, wp_noE, gPutD, wp_lenDT, sSeq, sIf, sAsg, sRet, sNil, gSet, gPut, tst, b2, b1, cal, on1, aCons, vget, mkL, mkT, calF, andT, orT, notT, andV, notV, wp_bind, wp_pure, wp_if, List.map, List.length, List.replicate, List.append, List.cons_append, List.nil_append, Nat.reduceSub, Nat.reduceAdd, Nat.reduceLeDiff, List.getElem?_cons_zero, List.getElem?_cons_succ, List.set_cons_zero, List.set_cons_succ, wp_int, wp_intb, wp_int20, wp_toB, wp_add, wp_abs, wp_neg, wp_lenL, pen0, pen1, pen2, put1, put2, decide_true, decide_false, if_true, if_false, Bool.false_eq_true, Nat.zero_le, exists_eq_left, and_true, true_and, Bool.not_true, Bool.not_false, reduceCtorEq, reduceIte, wp_newLs2, mth, chkL_ref c, hB_is, wp_noErrI]
  rw [wp_of e2]
  simp only [orV, sDrop, ifV, metM_eq, metK_eq, wp_noE, gPutD, wp_lenDT, sSeq, sIf, sAsg, sRet, sNil, gSet, gPut, tst, b2, b1, cal, on1, aCons, vget, mkL, mkT, calF, andT, orT, notT, andV, notV, wp_bind, wp_pure, wp_if, List.map, List.length, List.replicate, List.append, List.cons_append, List.nil_append, Nat.reduceSub, Nat.reduceAdd, Nat.reduceLeDiff, List.getElem?_cons_zero, List.getElem?_cons_succ, List.set_cons_zero, List.set_cons_succ, wp_int, wp_intb, wp_int20, wp_toB, wp_add, wp_abs, wp_neg, wp_lenL, pen0, pen1, pen2, put1, put2, decide_true, decide_false, if_true, if_false, Bool.false_eq_true, Nat.zero_le, exists_eq_left, and_true, true_and, Bool.not_true, Bool.not_false, reduceCtorEq, reduceIte, wp_app c2 (by simp)]
  have c3 : ((S ++ T ++ [Cell.lst [dueP t]] ++ T2).set (S ++ T).length (Cell.lst [dueP t, dueP t]))[(S ++ T).length]? = some (.lst [dueP t, dueP t]) := by
    rw [List.getElem?_set_self (by simp)]
  have c4 : ∃ T3, (S ++ T ++ [Cell.lst [dueP t]] ++ T2).set (S ++ T).length (Cell.lst [dueP t, dueP t]) = S ++ T3 := by
    refine ⟨T ++ [Cell.lst [dueP t, dueP t]] ++ T2, ?_⟩
    rw [List.append_assoc (S ++ T), List.set_append_right _ _ (Nat.le_refl _), Nat.sub_self, List.cons_append, List.set_cons_zero]
    simp
  rw [rep_wc c3 hg (by omega) (by omega), rep_w hg (by omega) (by omega), eqNN (tw_ok hg) (tw_ok hg)]
  exact ⟨c4, by simp⟩
theorem right_ok (ht : WT t) (hl : t.length ≤ 2000) : Wp (m__law_right [.str t]) S fun v S' => v = .bl true ∧ ∃ T, S' = S ++ T := by
  unfold m__law_right
  refine wp_run ?_
  rw [rt_eq]
  unfold sSeq
  rw [wp_bind]
  unfold sAsg
  rw [wp_bind]
  show Wp (m__law_read [.str t]) S _
  refine (lawread_ok ht).mono ?_
  rintro _ _ ⟨rfl, T, rfl⟩
  simp only [gSet, wp_bind, wp_pure, List.map, List.length, List.replicate, List.append, List.cons_append, List.nil_append, Nat.reduceSub, List.set_cons_succ, List.set_cons_zero]
  refine (trR_ok ht hl).mono ?_
  rintro ⟨f, ρ⟩ S' ⟨⟨T2, rfl⟩, h⟩
  exact ⟨_, h, rfl, _, List.append_assoc _ _ _⟩
end
end Mi
namespace Mi
open PySem PySem.Spec PyProof.Rows L2
section
variable {cells : List Int} {S : Sto} {A : Int}
theorem index_d (hc : cells.length ≤ 63) (hA : A ≤ 90000) (hp : PenB cells A S) : Wp (m__law_index [.ref 0]) S fun v S' => isNat v ∧ PenB cells (A + 3) S' ∧ Out0 S S' := by
  unfold m__law_index
  refine wp_run ?_
  unfold b__law_index
  simp only [orV, sDrop, ifV, metM_eq, metK_eq, wp_noE, gPutD, wp_lenDT, sSeq, sIf, sAsg, sRet, sNil, gSet, gPut, tst, b2, b1, cal, on1, aCons, vget, mkL, mkT, calF, andT, orT, notT, andV, notV, wp_bind, wp_pure, wp_if, List.map, List.length, List.replicate, List.append, List.cons_append, List.nil_append, Nat.reduceSub, Nat.reduceAdd, Nat.reduceLeDiff, List.getElem?_cons_zero, List.getElem?_cons_succ, List.set_cons_zero, List.set_cons_succ, wp_int, wp_intb, wp_int20, wp_toB, wp_add, wp_abs, wp_neg, wp_lenL, pen0, pen1, pen2, put1, put2, decide_true, decide_false, if_true, if_false, Bool.false_eq_true, Nat.zero_le, exists_eq_left, and_true, true_and, Bool.not_true, Bool.not_false, reduceCtorEq, reduceIte]
  refine (draw_okB hc (by omega) hp (c := 12) (by omega) (by omega)).mono ?_
  rintro v S1 ⟨i, rfl, hi, hp1, o1⟩
  try simp only [orV, sDrop, ifV, metM_eq, metK_eq, wp_noE, gPutD, wp_lenDT, sSeq, sIf, sAsg, sRet, sNil, gSet, gPut, tst, b2, b1, cal, on1, aCons, vget, mkL, mkT, calF, andT, orT, notT, andV, notV, wp_bind, wp_pure, wp_if, List.map, List.length, List.replicate, List.append, List.cons_append, List.nil_append, Nat.reduceSub, Nat.reduceAdd, Nat.reduceLeDiff, List.getElem?_cons_zero, List.getElem?_cons_succ, List.set_cons_zero, List.set_cons_succ, wp_int, wp_intb, wp_int20, wp_toB, wp_add, wp_abs, wp_neg, wp_lenL, pen0, pen1, pen2, put1, put2, decide_true, decide_false, if_true, if_false, Bool.false_eq_true, Nat.zero_le, exists_eq_left, and_true, true_and, Bool.not_true, Bool.not_false, reduceCtorEq, reduceIte]
  refine (draw_okB hc (by omega) hp1 (c := 1000000) (by omega) (by omega)).mono ?_
  rintro v S2 ⟨j, rfl, hj, hp2, o2⟩
  try simp only [orV, sDrop, ifV, metM_eq, metK_eq, wp_noE, gPutD, wp_lenDT, sSeq, sIf, sAsg, sRet, sNil, gSet, gPut, tst, b2, b1, cal, on1, aCons, vget, mkL, mkT, calF, andT, orT, notT, andV, notV, wp_bind, wp_pure, wp_if, List.map, List.length, List.replicate, List.append, List.cons_append, List.nil_append, Nat.reduceSub, Nat.reduceAdd, Nat.reduceLeDiff, List.getElem?_cons_zero, List.getElem?_cons_succ, List.set_cons_zero, List.set_cons_succ, wp_int, wp_intb, wp_int20, wp_toB, wp_add, wp_abs, wp_neg, wp_lenL, pen0, pen1, pen2, put1, put2, decide_true, decide_false, if_true, if_false, Bool.false_eq_true, Nat.zero_le, exists_eq_left, and_true, true_and, Bool.not_true, Bool.not_false, reduceCtorEq, reduceIte]
  refine (pick_ok hc (by omega) hp2 (by simp) (by simp)).mono ?_
  rintro v S3 ⟨hv, hp3, o3⟩
  refine ⟨_, rfl, ?_⟩
  simp only [List.mem_cons, List.not_mem_nil, or_false] at hv
  have o := (o1.trans o2).trans o3
  have hp4 : PenB cells (A + 3) S3 := by rw [show A + 3 = A + 1 + 1 + 1 by omega]; exact hp3
  rcases hv with rfl | rfl | rfl | rfl | rfl
  · exact ⟨⟨0, by omega, rfl⟩, hp4, o⟩
  · exact ⟨⟨1, by omega, rfl⟩, hp4, o⟩
  · exact ⟨⟨999999, by omega, rfl⟩, hp4, o⟩
  · exact ⟨⟨i, by omega, rfl⟩, hp4, o⟩
  · exact ⟨⟨j, by omega, rfl⟩, hp4, o⟩
theorem lcd {P : D → Prop} {e : Env → M D} (he : ∀ (ρ : Env) (S : Sto) (A : Int), A ≤ 80000 → ρ[0]? = some (some (.ref 0)) → PenB cells A S → Wp (e ρ) S fun v S' => P v ∧ PenB cells (A + 6) S' ∧ Out0 S S') : ∀ (xs : List D) (ρ : Env) (S : Sto) (A : Int), ρ[0]? = some (some (.ref 0)) → A + 6 * (xs.length : Int) ≤ 80000 → PenB cells A S →
    Wp (lcGo (gSet 5) (fun _ => M.pure true) e ρ xs) S fun ys S' => ys.length = xs.length ∧ (∀ d ∈ ys, P d) ∧ PenB cells (A + 6 * (xs.length : Int)) S' ∧ Out0 S S'
  | [], ρ, S, A, h0, hA, hp => wp_pure.2 ⟨rfl, fun _ z => (by cases z), by simpa using hp, Out0.refl S⟩
  | x :: xs, ρ, S, A, h0, hA, hp => by
    simp only [List.length_cons] at hA ⊢
    have h1 : (ρ.set 5 (some x))[0]? = some (some (.ref 0)) := by rw [List.getElem?_set_ne (by omega)]; exact h0
    simp only [lcGo, gSet, wp_bind, wp_pure, if_true]
    refine (he _ S A (by omega) h1 hp).mono ?_
    rintro v S1 ⟨hv, hp1, o1⟩
    refine (lcd he xs ρ S1 (A + 6) h0 (by omega) hp1).mono ?_
    rintro ys S2 ⟨hl, hy, hp2, o2⟩
    refine ⟨by simp [hl], fun d hd => ?_, hp2.mono (by omega), o1.trans o2⟩
    rcases List.mem_cons.1 hd with rfl | hd
    · exact hv
    · exact hy d hd
end
end Mi
namespace Mi
open PySem PySem.Spec PyProof.Rows L2
noncomputable def lcE (mn : Env → M D) (e : Env → M D) : Env → M D := eLc (len1 rngOf 1 (aCons mn (fun _ => M.pure []))) (gSet 5) (fun _ => M.pure true) e [5]
noncomputable def eI : Env → M D := calF 1 m__law_index (aCons (vget 0) (fun _ => M.pure []))
noncomputable def eM : Env → M D := cal maxM (aCons (fun _ => M.pure (.int 1)) (aCons eI (fun _ => M.pure [])))
noncomputable def eV : Env → M D := mkT (aCons eM (aCons eI (fun _ => M.pure [])))
noncomputable def eS : Env → M D := mkT (aCons eI (aCons eI (fun _ => M.pure [])))
noncomputable def dr (k : Int) : Env → M D := calF 2 m__law_draw (aCons (vget 0) (aCons (fun _ => M.pure (.int k)) (fun _ => M.pure [])))
noncomputable def paT3 : Env → M (Fl × Env) := (sSeq (sRet (mkT (aCons (fun _ => M.pure (.str "readers")) (aCons (vget 3) (aCons (vget 4) (aCons (cal (on1 tupleM) (aCons (lcE (dr 4) eI) (fun _ => M.pure []))) (fun _ => M.pure [])))))))
    sNil)
noncomputable def paT2 : Env → M (Fl × Env) := (sSeq (sAsg (cal (on1 tupleM) (aCons (lcE (dr 4) eS) (fun _ => M.pure []))) (gSet 4)) paT3)
noncomputable def paT1 : Env → M (Fl × Env) := (sSeq (sAsg (cal (on1 tupleM) (aCons (lcE (dr 5) eV) (fun _ => M.pure []))) (gSet 3)) paT2)
noncomputable def paB : Env → M (Fl × Env) := (sSeq (sIf (tst (b2 eqM (vget 1) (fun _ => M.pure (.int 1)))) (sSeq (sRet (mkT (aCons (calF 2 m__law_pick (aCons (vget 0) (aCons (mkL (aCons (fun _ => M.pure (.str "word")) (aCons (fun _ => M.pure (.str "span")) (fun _ => M.pure [])))) (fun _ => M.pure [])))) (aCons (b2 ixD (vget 2) (fun _ => M.pure (.int 1))) (aCons (b2 ixD (vget 2) (fun _ => M.pure (.int 2))) (fun _ => M.pure []))))))
    sNil) sNil) paT1)
noncomputable def paA : Env → M (Fl × Env) := (sSeq (sIf (tst (b2 eqM (vget 1) (fun _ => M.pure (.int 0)))) (sSeq (sRet (mkT (aCons (fun _ => M.pure (.str "range")) (aCons (cal maxM (aCons (fun _ => M.pure (.int 1)) (aCons (b2 ixD (vget 2) (fun _ => M.pure (.int 0))) (fun _ => M.pure [])))) (aCons (b2 ixD (vget 2) (fun _ => M.pure (.int 1))) (aCons (b2 ixD (vget 2) (fun _ => M.pure (.int 2))) (fun _ => M.pure [])))))))
    sNil) sNil) paB)
theorem pa_eq : b__law_paper = (sSeq (sAsg (dr 5) (gSet 1)) (sSeq (sAsg (lcE (fun _ => M.pure (.int 4)) eI) (gSet 2)) paA)) := rfl
noncomputable def nD (n : Nat) : D := .int (n : Int)
noncomputable def pD (p : Nat × Nat) : D := .tup [.int (p.1 : Int), .int (p.2 : Int)]
noncomputable def OneF (x : Str) (ns : List Nat) : Prop := (x = "range" ∧ ∃ a b c : Nat, ns = [a, b, c] ∧ 1 ≤ a ∧ a ≤ 999999 ∧ b ≤ 999999 ∧ c ≤ 999999) ∨ ((x = "word" ∨ x = "span") ∧ ∃ a b : Nat, ns = [a, b] ∧ a ≤ 999999 ∧ b ≤ 999999)
structure RdF (vs ss : List (Nat × Nat)) (as : List Nat) : Prop where
  l1 : vs.length ≤ 4
  l2 : ss.length ≤ 3
  l3 : as.length ≤ 3
  h1 : ∀ p ∈ vs, 1 ≤ p.1 ∧ p.1 ≤ 999999 ∧ p.2 ≤ 999999
  h2 : ∀ p ∈ ss, p.1 ≤ 999999 ∧ p.2 ≤ 999999
  h3 : ∀ n ∈ as, n ≤ 999999
noncomputable def PapF (d : D) : Prop := (∃ x ns, OneF x ns ∧ d = .tup (.str x :: ns.map nD)) ∨ ∃ vs ss as, RdF vs ss as ∧ d = .tup [.str "readers", .tup (vs.map pD), .tup (ss.map pD), .tup (as.map nD)]
theorem lift {α : Type} {f : α → D} {P : α → Prop} : ∀ {ds : List D}, (∀ d ∈ ds, ∃ a, P a ∧ d = f a) → ∃ as : List α, ds = as.map f ∧ ∀ a ∈ as, P a
  | [], _ => ⟨[], rfl, fun _ z => (by cases z)⟩
  | d :: ds, h => by
    obtain ⟨a, ha, e⟩ := h d (by simp)
    obtain ⟨as, e2, h2⟩ := lift (ds := ds) fun z hz => h z (by simp [hz])
    refine ⟨a :: as, by rw [e, e2]; rfl, fun z hz => ?_⟩
    rcases List.mem_cons.1 hz with rfl | hz
    · exact ha
    · exact h2 z hz
section
variable {cells : List Int} {S : Sto} {A : Int} {ρ : Env}
theorem eI_ok (hc : cells.length ≤ 63) (hA : A ≤ 90000) (h0 : ρ[0]? = some (some (.ref 0))) (hp : PenB cells A S) : Wp (eI ρ) S fun v S' => isNat v ∧ PenB cells (A + 3) S' ∧ Out0 S S' := by
  unfold eI calF
  simp only [wp_bind, aCons, vget, h0, wp_pure]
  exact index_d hc hA hp
theorem max_1 {n : Nat} (h : n ≤ 999999) : ∃ m : Nat, (1 ≤ m ∧ m ≤ 999999) ∧ ∀ {S : Sto} {Q : D → Sto → Prop}, Wp (maxM [.int 1, .int (n : Int)]) S Q ↔ Q (.int (m : Int)) S := by
  by_cases e : (n : Int) > 1
  · exact ⟨n, ⟨by omega, h⟩, fun {S Q} => wp_of (by show M.pure (D.int (if (n : Int) > 1 then (n : Int) else 1)) S = _; rw [if_pos e]; rfl)⟩
  · exact ⟨1, ⟨by omega, by omega⟩, fun {S Q} => wp_of (by show M.pure (D.int (if (n : Int) > 1 then (n : Int) else 1)) S = _; rw [if_neg e]; rfl)⟩
theorem eM_ok (hc : cells.length ≤ 63) (hA : A ≤ 90000) (h0 : ρ[0]? = some (some (.ref 0))) (hp : PenB cells A S) : Wp (eM ρ) S fun v S' => (∃ n : Nat, 1 ≤ n ∧ n ≤ 999999 ∧ v = .int (n : Int)) ∧ PenB cells (A + 3) S' ∧ Out0 S S' := by
  unfold eM
  simp only [orV, sDrop, ifV, metM_eq, metK_eq, wp_noE, gPutD, wp_lenDT, sSeq, sIf, sAsg, sRet, sNil, gSet, gPut, tst, b2, b1, cal, on1, aCons, vget, mkL, mkT, calF, andT, orT, notT, andV, notV, wp_bind, wp_pure, wp_if, List.map, List.length, List.replicate, List.append, List.cons_append, List.nil_append, Nat.reduceSub, Nat.reduceAdd, Nat.reduceLeDiff, List.getElem?_cons_zero, List.getElem?_cons_succ, List.set_cons_zero, List.set_cons_succ, wp_int, wp_intb, wp_int20, wp_toB, wp_add, wp_abs, wp_neg, wp_lenL, pen0, pen1, pen2, put1, put2, decide_true, decide_false, if_true, if_false, Bool.false_eq_true, Nat.zero_le, exists_eq_left, and_true, true_and, Bool.not_true, Bool.not_false, reduceCtorEq, reduceIte]
  refine (eI_ok hc hA h0 hp).mono ?_
  rintro v S' ⟨⟨n, hn, rfl⟩, hp1, o⟩
  obtain ⟨m, hm, w⟩ := max_1 hn
  simp only [orV, sDrop, ifV, metM_eq, metK_eq, wp_noE, gPutD, wp_lenDT, sSeq, sIf, sAsg, sRet, sNil, gSet, gPut, tst, b2, b1, cal, on1, aCons, vget, mkL, mkT, calF, andT, orT, notT, andV, notV, wp_bind, wp_pure, wp_if, List.map, List.length, List.replicate, List.append, List.cons_append, List.nil_append, Nat.reduceSub, Nat.reduceAdd, Nat.reduceLeDiff, List.getElem?_cons_zero, List.getElem?_cons_succ, List.set_cons_zero, List.set_cons_succ, wp_int, wp_intb, wp_int20, wp_toB, wp_add, wp_abs, wp_neg, wp_lenL, pen0, pen1, pen2, put1, put2, decide_true, decide_false, if_true, if_false, Bool.false_eq_true, Nat.zero_le, exists_eq_left, and_true, true_and, Bool.not_true, Bool.not_false, reduceCtorEq, reduceIte, w]
  exact ⟨⟨m, hm.1, hm.2, rfl⟩, hp1, o⟩
theorem eV_ok (hc : cells.length ≤ 63) (hA : A ≤ 80000) (h0 : ρ[0]? = some (some (.ref 0))) (hp : PenB cells A S) : Wp (eV ρ) S fun v S' => (∃ p : Nat × Nat, (1 ≤ p.1 ∧ p.1 ≤ 999999 ∧ p.2 ≤ 999999) ∧ v = pD p) ∧ PenB cells (A + 6) S' ∧ Out0 S S' := by
  unfold eV
  simp only [orV, sDrop, ifV, metM_eq, metK_eq, wp_noE, gPutD, wp_lenDT, sSeq, sIf, sAsg, sRet, sNil, gSet, gPut, tst, b2, b1, cal, on1, aCons, vget, mkL, mkT, calF, andT, orT, notT, andV, notV, wp_bind, wp_pure, wp_if, List.map, List.length, List.replicate, List.append, List.cons_append, List.nil_append, Nat.reduceSub, Nat.reduceAdd, Nat.reduceLeDiff, List.getElem?_cons_zero, List.getElem?_cons_succ, List.set_cons_zero, List.set_cons_succ, wp_int, wp_intb, wp_int20, wp_toB, wp_add, wp_abs, wp_neg, wp_lenL, pen0, pen1, pen2, put1, put2, decide_true, decide_false, if_true, if_false, Bool.false_eq_true, Nat.zero_le, exists_eq_left, and_true, true_and, Bool.not_true, Bool.not_false, reduceCtorEq, reduceIte]
  refine (eM_ok hc (by omega) h0 hp).mono ?_
  rintro v S1 ⟨⟨m, h1, h2, rfl⟩, hp1, o1⟩
  try simp only [orV, sDrop, ifV, metM_eq, metK_eq, wp_noE, gPutD, wp_lenDT, sSeq, sIf, sAsg, sRet, sNil, gSet, gPut, tst, b2, b1, cal, on1, aCons, vget, mkL, mkT, calF, andT, orT, notT, andV, notV, wp_bind, wp_pure, wp_if, List.map, List.length, List.replicate, List.append, List.cons_append, List.nil_append, Nat.reduceSub, Nat.reduceAdd, Nat.reduceLeDiff, List.getElem?_cons_zero, List.getElem?_cons_succ, List.set_cons_zero, List.set_cons_succ, wp_int, wp_intb, wp_int20, wp_toB, wp_add, wp_abs, wp_neg, wp_lenL, pen0, pen1, pen2, put1, put2, decide_true, decide_false, if_true, if_false, Bool.false_eq_true, Nat.zero_le, exists_eq_left, and_true, true_and, Bool.not_true, Bool.not_false, reduceCtorEq, reduceIte]
  refine (eI_ok hc (by omega) h0 hp1).mono ?_
  rintro v S2 ⟨⟨n, hn, rfl⟩, hp2, o2⟩
  try simp only [orV, sDrop, ifV, metM_eq, metK_eq, wp_noE, gPutD, wp_lenDT, sSeq, sIf, sAsg, sRet, sNil, gSet, gPut, tst, b2, b1, cal, on1, aCons, vget, mkL, mkT, calF, andT, orT, notT, andV, notV, wp_bind, wp_pure, wp_if, List.map, List.length, List.replicate, List.append, List.cons_append, List.nil_append, Nat.reduceSub, Nat.reduceAdd, Nat.reduceLeDiff, List.getElem?_cons_zero, List.getElem?_cons_succ, List.set_cons_zero, List.set_cons_succ, wp_int, wp_intb, wp_int20, wp_toB, wp_add, wp_abs, wp_neg, wp_lenL, pen0, pen1, pen2, put1, put2, decide_true, decide_false, if_true, if_false, Bool.false_eq_true, Nat.zero_le, exists_eq_left, and_true, true_and, Bool.not_true, Bool.not_false, reduceCtorEq, reduceIte]
  exact ⟨⟨(m, n), ⟨h1, h2, hn⟩, rfl⟩, hp2.mono (by omega), o1.trans o2⟩
theorem eS_ok (hc : cells.length ≤ 63) (hA : A ≤ 80000) (h0 : ρ[0]? = some (some (.ref 0))) (hp : PenB cells A S) : Wp (eS ρ) S fun v S' => (∃ p : Nat × Nat, (p.1 ≤ 999999 ∧ p.2 ≤ 999999) ∧ v = pD p) ∧ PenB cells (A + 6) S' ∧ Out0 S S' := by
  unfold eS
  simp only [orV, sDrop, ifV, metM_eq, metK_eq, wp_noE, gPutD, wp_lenDT, sSeq, sIf, sAsg, sRet, sNil, gSet, gPut, tst, b2, b1, cal, on1, aCons, vget, mkL, mkT, calF, andT, orT, notT, andV, notV, wp_bind, wp_pure, wp_if, List.map, List.length, List.replicate, List.append, List.cons_append, List.nil_append, Nat.reduceSub, Nat.reduceAdd, Nat.reduceLeDiff, List.getElem?_cons_zero, List.getElem?_cons_succ, List.set_cons_zero, List.set_cons_succ, wp_int, wp_intb, wp_int20, wp_toB, wp_add, wp_abs, wp_neg, wp_lenL, pen0, pen1, pen2, put1, put2, decide_true, decide_false, if_true, if_false, Bool.false_eq_true, Nat.zero_le, exists_eq_left, and_true, true_and, Bool.not_true, Bool.not_false, reduceCtorEq, reduceIte]
  refine (eI_ok hc (by omega) h0 hp).mono ?_
  rintro v S1 ⟨⟨m, h1, rfl⟩, hp1, o1⟩
  try simp only [orV, sDrop, ifV, metM_eq, metK_eq, wp_noE, gPutD, wp_lenDT, sSeq, sIf, sAsg, sRet, sNil, gSet, gPut, tst, b2, b1, cal, on1, aCons, vget, mkL, mkT, calF, andT, orT, notT, andV, notV, wp_bind, wp_pure, wp_if, List.map, List.length, List.replicate, List.append, List.cons_append, List.nil_append, Nat.reduceSub, Nat.reduceAdd, Nat.reduceLeDiff, List.getElem?_cons_zero, List.getElem?_cons_succ, List.set_cons_zero, List.set_cons_succ, wp_int, wp_intb, wp_int20, wp_toB, wp_add, wp_abs, wp_neg, wp_lenL, pen0, pen1, pen2, put1, put2, decide_true, decide_false, if_true, if_false, Bool.false_eq_true, Nat.zero_le, exists_eq_left, and_true, true_and, Bool.not_true, Bool.not_false, reduceCtorEq, reduceIte]
  refine (eI_ok hc (by omega) h0 hp1).mono ?_
  rintro v S2 ⟨⟨n, hn, rfl⟩, hp2, o2⟩
  try simp only [orV, sDrop, ifV, metM_eq, metK_eq, wp_noE, gPutD, wp_lenDT, sSeq, sIf, sAsg, sRet, sNil, gSet, gPut, tst, b2, b1, cal, on1, aCons, vget, mkL, mkT, calF, andT, orT, notT, andV, notV, wp_bind, wp_pure, wp_if, List.map, List.length, List.replicate, List.append, List.cons_append, List.nil_append, Nat.reduceSub, Nat.reduceAdd, Nat.reduceLeDiff, List.getElem?_cons_zero, List.getElem?_cons_succ, List.set_cons_zero, List.set_cons_succ, wp_int, wp_intb, wp_int20, wp_toB, wp_add, wp_abs, wp_neg, wp_lenL, pen0, pen1, pen2, put1, put2, decide_true, decide_false, if_true, if_false, Bool.false_eq_true, Nat.zero_le, exists_eq_left, and_true, true_and, Bool.not_true, Bool.not_false, reduceCtorEq, reduceIte]
  exact ⟨⟨(m, n), ⟨h1, hn⟩, rfl⟩, hp2.mono (by omega), o1.trans o2⟩
theorem eI6 (hc : cells.length ≤ 63) (hA : A ≤ 80000) (h0 : ρ[0]? = some (some (.ref 0))) (hp : PenB cells A S) : Wp (eI ρ) S fun v S' => (∃ n : Nat, n ≤ 999999 ∧ v = nD n) ∧ PenB cells (A + 6) S' ∧ Out0 S S' := by
  refine (eI_ok hc (by omega) h0 hp).mono ?_
  rintro v S' ⟨h, hp1, o⟩
  exact ⟨h, hp1.mono (by omega), o⟩
theorem lcE_ok {P : D → Prop} {mn e : Env → M D} {R : Nat → Prop} (he : ∀ (ρ : Env) (S : Sto) (A : Int), A ≤ 80000 → ρ[0]? = some (some (.ref 0)) → PenB cells A S → Wp (e ρ) S fun v S' => P v ∧ PenB cells (A + 6) S' ∧ Out0 S S')
    (h0 : ρ[0]? = some (some (.ref 0))) (hA : A ≤ 70000) (hm : Wp (mn ρ) S fun v S' => ∃ n : Nat, v = .int (n : Int) ∧ R n ∧ n ≤ 4 ∧ PenB cells (A + 1) S' ∧ Out0 S S') :
    Wp (lcE mn e ρ) S fun v S' => ∃ ys, v = .lst ys ∧ R ys.length ∧ (∀ d ∈ ys, P d) ∧ PenB cells (A + 25) S' ∧ Out0 S S' := by
  unfold lcE eLc len1
  simp only [orV, sDrop, ifV, metM_eq, metK_eq, wp_noE, gPutD, wp_lenDT, sSeq, sIf, sAsg, sRet, sNil, gSet, gPut, tst, b2, b1, cal, on1, aCons, vget, mkL, mkT, calF, andT, orT, notT, andV, notV, wp_bind, wp_pure, wp_if, List.map, List.length, List.replicate, List.append, List.cons_append, List.nil_append, Nat.reduceSub, Nat.reduceAdd, Nat.reduceLeDiff, List.getElem?_cons_zero, List.getElem?_cons_succ, List.set_cons_zero, List.set_cons_succ, wp_int, wp_intb, wp_int20, wp_toB, wp_add, wp_abs, wp_neg, wp_lenL, pen0, pen1, pen2, put1, put2, decide_true, decide_false, if_true, if_false, Bool.false_eq_true, Nat.zero_le, exists_eq_left, and_true, true_and, Bool.not_true, Bool.not_false, reduceCtorEq, reduceIte]
  refine hm.mono ?_
  rintro v S1 ⟨n, rfl, hR, hn, hp1, o1⟩
  try simp only [orV, sDrop, ifV, metM_eq, metK_eq, wp_noE, gPutD, wp_lenDT, sSeq, sIf, sAsg, sRet, sNil, gSet, gPut, tst, b2, b1, cal, on1, aCons, vget, mkL, mkT, calF, andT, orT, notT, andV, notV, wp_bind, wp_pure, wp_if, List.map, List.length, List.replicate, List.append, List.cons_append, List.nil_append, Nat.reduceSub, Nat.reduceAdd, Nat.reduceLeDiff, List.getElem?_cons_zero, List.getElem?_cons_succ, List.set_cons_zero, List.set_cons_succ, wp_int, wp_intb, wp_int20, wp_toB, wp_add, wp_abs, wp_neg, wp_lenL, pen0, pen1, pen2, put1, put2, decide_true, decide_false, if_true, if_false, Bool.false_eq_true, Nat.zero_le, exists_eq_left, and_true, true_and, Bool.not_true, Bool.not_false, reduceCtorEq, reduceIte]
  rw [wp_rng1 (by omega)]
  have hl : (rgD 0 n).length = n := by simp [rgD]
  simp only [hl, show n ≤ 50000 by omega, if_true, wp_bind, wp_noErrI]
  have h0w : (wipeE [5] ρ)[0]? = some (some (.ref 0)) := by
    simp only [wipeE, List.foldr]
    rw [List.getElem?_set_ne (by omega)]
    exact h0
  refine (lcd he (rgD 0 n) (wipeE [5] ρ) S1 (A + 1) h0w (by rw [hl]; omega) hp1).mono ?_
  rintro ys S2 ⟨e1, e2, hp2, o2⟩
  rw [hl] at e1 hp2
  exact ⟨ys, rfl, by rw [e1]; exact hR, e2, hp2.mono (by omega), o1.trans o2⟩
theorem dr_ok {k : Nat} (hc : cells.length ≤ 63) (hA : A ≤ 90000) (h0 : ρ[0]? = some (some (.ref 0))) (hp : PenB cells A S) (h1 : 1 ≤ k) (h2 : k ≤ 5) : Wp (dr (k : Int) ρ) S fun v S' => ∃ n : Nat, v = .int (n : Int) ∧ n < k ∧ n ≤ 4 ∧ PenB cells (A + 1) S' ∧ Out0 S S' := by
  unfold dr calF
  simp only [wp_bind, aCons, vget, h0, wp_pure]
  refine (draw_okB hc (by omega) hp (c := (k : Int)) (by omega) (by omega)).mono ?_
  rintro v S1 ⟨i, rfl, hi, hp1, o1⟩
  exact ⟨i, rfl, by omega, by omega, hp1, o1⟩
theorem paper_d (hc : cells.length ≤ 63) (hA : A ≤ 40000) (hp : PenB cells A S) : Wp (m__law_paper [.ref 0]) S fun v S' => PapF v ∧ PenB cells (A + 150) S' ∧ Out0 S S' := by
  have cI : ∀ (ρ : Env) (S : Sto) (A : Int), A ≤ 80000 → ρ[0]? = some (some (.ref 0)) → PenB cells A S → Wp (eI ρ) S fun v S' => (∃ n : Nat, n ≤ 999999 ∧ v = nD n) ∧ PenB cells (A + 6) S' ∧ Out0 S S' := fun ρ S A hA h0 hp => eI6 hc hA h0 hp
  have cV : ∀ (ρ : Env) (S : Sto) (A : Int), A ≤ 80000 → ρ[0]? = some (some (.ref 0)) → PenB cells A S → Wp (eV ρ) S fun v S' => (∃ p : Nat × Nat, (1 ≤ p.1 ∧ p.1 ≤ 999999 ∧ p.2 ≤ 999999) ∧ v = pD p) ∧ PenB cells (A + 6) S' ∧ Out0 S S' := fun ρ S A hA h0 hp => eV_ok hc hA h0 hp
  have cS : ∀ (ρ : Env) (S : Sto) (A : Int), A ≤ 80000 → ρ[0]? = some (some (.ref 0)) → PenB cells A S → Wp (eS ρ) S fun v S' => (∃ p : Nat × Nat, (p.1 ≤ 999999 ∧ p.2 ≤ 999999) ∧ v = pD p) ∧ PenB cells (A + 6) S' ∧ Out0 S S' := fun ρ S A hA h0 hp => eS_ok hc hA h0 hp
  unfold m__law_paper
  refine wp_run ?_
  rw [pa_eq]
  simp only [orV, sDrop, ifV, metM_eq, metK_eq, wp_noE, gPutD, wp_lenDT, sSeq, sIf, sAsg, sRet, sNil, gSet, gPut, tst, b2, b1, cal, on1, aCons, vget, mkL, mkT, calF, andT, orT, notT, andV, notV, wp_bind, wp_pure, wp_if, List.map, List.length, List.replicate, List.append, List.cons_append, List.nil_append, Nat.reduceSub, Nat.reduceAdd, Nat.reduceLeDiff, List.getElem?_cons_zero, List.getElem?_cons_succ, List.set_cons_zero, List.set_cons_succ, wp_int, wp_intb, wp_int20, wp_toB, wp_add, wp_abs, wp_neg, wp_lenL, pen0, pen1, pen2, put1, put2, decide_true, decide_false, if_true, if_false, Bool.false_eq_true, Nat.zero_le, exists_eq_left, and_true, true_and, Bool.not_true, Bool.not_false, reduceCtorEq, reduceIte]
  refine (dr_ok (k := 5) hc (by omega) rfl hp (by omega) (by omega)).mono ?_
  rintro v S1 ⟨way, rfl, _, _, hp1, o1⟩
  try simp only [orV, sDrop, ifV, metM_eq, metK_eq, wp_noE, gPutD, wp_lenDT, sSeq, sIf, sAsg, sRet, sNil, gSet, gPut, tst, b2, b1, cal, on1, aCons, vget, mkL, mkT, calF, andT, orT, notT, andV, notV, wp_bind, wp_pure, wp_if, List.map, List.length, List.replicate, List.append, List.cons_append, List.nil_append, Nat.reduceSub, Nat.reduceAdd, Nat.reduceLeDiff, List.getElem?_cons_zero, List.getElem?_cons_succ, List.set_cons_zero, List.set_cons_succ, wp_int, wp_intb, wp_int20, wp_toB, wp_add, wp_abs, wp_neg, wp_lenL, pen0, pen1, pen2, put1, put2, decide_true, decide_false, if_true, if_false, Bool.false_eq_true, Nat.zero_le, exists_eq_left, and_true, true_and, Bool.not_true, Bool.not_false, reduceCtorEq, reduceIte]
  refine (lcE_ok (A := A + 1) (P := fun v => ∃ n : Nat, n ≤ 999999 ∧ v = nD n) (R := fun n => n = 4) cI rfl (by omega) (wp_pure.2 ⟨4, rfl, rfl, by omega, hp1.mono (by omega), Out0.refl _⟩)).mono ?_
  rintro v S2 ⟨ys, rfl, hl, hy, hp2, o2⟩
  obtain ⟨ns, rfl, hn⟩ := lift (f := nD) (P := fun n => n ≤ 999999) hy
  rw [List.length_map] at hl
  obtain ⟨a, b, c, e, rfl⟩ : ∃ a b c e : Nat, ns = [a, b, c, e] := by
    match ns, hl with
    | [a, b, c, e], _ => exact ⟨a, b, c, e, rfl⟩
  have ha := hn a (by simp)
  have hb := hn b (by simp)
  have hcc := hn c (by simp)
  have i0 : ∀ {S : Sto} {Q : D → Sto → Prop}, Wp (ixM (.lst [nD a, nD b, nD c, nD e]) (.int 0)) S Q ↔ Q (.int (a : Int)) S := fun {S Q} => wp_ixL (k := 0) rfl
  have i1 : ∀ {S : Sto} {Q : D → Sto → Prop}, Wp (ixM (.lst [nD a, nD b, nD c, nD e]) (.int 1)) S Q ↔ Q (.int (b : Int)) S := fun {S Q} => wp_ixL (k := 1) rfl
  have i2 : ∀ {S : Sto} {Q : D → Sto → Prop}, Wp (ixM (.lst [nD a, nD b, nD c, nD e]) (.int 2)) S Q ↔ Q (.int (c : Int)) S := fun {S Q} => wp_ixL (k := 2) rfl
  have o := o1.trans o2
  unfold paA
  simp only [orV, sDrop, ifV, metM_eq, metK_eq, wp_noE, gPutD, wp_lenDT, sSeq, sIf, sAsg, sRet, sNil, gSet, gPut, tst, b2, b1, cal, on1, aCons, vget, mkL, mkT, calF, andT, orT, notT, andV, notV, wp_bind, wp_pure, wp_if, List.map, List.length, List.replicate, List.append, List.cons_append, List.nil_append, Nat.reduceSub, Nat.reduceAdd, Nat.reduceLeDiff, List.getElem?_cons_zero, List.getElem?_cons_succ, List.set_cons_zero, List.set_cons_succ, wp_int, wp_intb, wp_int20, wp_toB, wp_add, wp_abs, wp_neg, wp_lenL, pen0, pen1, pen2, put1, put2, decide_true, decide_false, if_true, if_false, Bool.false_eq_true, Nat.zero_le, exists_eq_left, and_true, true_and, Bool.not_true, Bool.not_false, reduceCtorEq, reduceIte, wp_eqI]
  by_cases w0 : way = 0
  · have b0 : ((way : Int) == 0) = true := by subst w0; rfl
    obtain ⟨m, hm, wm⟩ := max_1 ha
    simp only [orV, sDrop, ifV, metM_eq, metK_eq, wp_noE, gPutD, wp_lenDT, sSeq, sIf, sAsg, sRet, sNil, gSet, gPut, tst, b2, b1, cal, on1, aCons, vget, mkL, mkT, calF, andT, orT, notT, andV, notV, wp_bind, wp_pure, wp_if, List.map, List.length, List.replicate, List.append, List.cons_append, List.nil_append, Nat.reduceSub, Nat.reduceAdd, Nat.reduceLeDiff, List.getElem?_cons_zero, List.getElem?_cons_succ, List.set_cons_zero, List.set_cons_succ, wp_int, wp_intb, wp_int20, wp_toB, wp_add, wp_abs, wp_neg, wp_lenL, pen0, pen1, pen2, put1, put2, decide_true, decide_false, if_true, if_false, Bool.false_eq_true, Nat.zero_le, exists_eq_left, and_true, true_and, Bool.not_true, Bool.not_false, reduceCtorEq, reduceIte, b0, wp_ixLs, i0, i1, i2, wm]
    exact ⟨_, rfl, .inl ⟨"range", [m, b, c], .inl ⟨rfl, m, b, c, rfl, hm.1, hm.2, hb, hcc⟩, rfl⟩, hp2.mono (by omega), o⟩
  have b0 : ((way : Int) == 0) = false := by rw [beq_eq_false_iff_ne]; omega
  simp only [orV, sDrop, ifV, metM_eq, metK_eq, wp_noE, gPutD, wp_lenDT, sSeq, sIf, sAsg, sRet, sNil, gSet, gPut, tst, b2, b1, cal, on1, aCons, vget, mkL, mkT, calF, andT, orT, notT, andV, notV, wp_bind, wp_pure, wp_if, List.map, List.length, List.replicate, List.append, List.cons_append, List.nil_append, Nat.reduceSub, Nat.reduceAdd, Nat.reduceLeDiff, List.getElem?_cons_zero, List.getElem?_cons_succ, List.set_cons_zero, List.set_cons_succ, wp_int, wp_intb, wp_int20, wp_toB, wp_add, wp_abs, wp_neg, wp_lenL, pen0, pen1, pen2, put1, put2, decide_true, decide_false, if_true, if_false, Bool.false_eq_true, Nat.zero_le, exists_eq_left, and_true, true_and, Bool.not_true, Bool.not_false, reduceCtorEq, reduceIte, b0]
  unfold paB
  simp only [orV, sDrop, ifV, metM_eq, metK_eq, wp_noE, gPutD, wp_lenDT, sSeq, sIf, sAsg, sRet, sNil, gSet, gPut, tst, b2, b1, cal, on1, aCons, vget, mkL, mkT, calF, andT, orT, notT, andV, notV, wp_bind, wp_pure, wp_if, List.map, List.length, List.replicate, List.append, List.cons_append, List.nil_append, Nat.reduceSub, Nat.reduceAdd, Nat.reduceLeDiff, List.getElem?_cons_zero, List.getElem?_cons_succ, List.set_cons_zero, List.set_cons_succ, wp_int, wp_intb, wp_int20, wp_toB, wp_add, wp_abs, wp_neg, wp_lenL, pen0, pen1, pen2, put1, put2, decide_true, decide_false, if_true, if_false, Bool.false_eq_true, Nat.zero_le, exists_eq_left, and_true, true_and, Bool.not_true, Bool.not_false, reduceCtorEq, reduceIte, wp_eqI]
  by_cases w1 : way = 1
  · have b1' : ((way : Int) == 1) = true := by subst w1; rfl
    simp only [orV, sDrop, ifV, metM_eq, metK_eq, wp_noE, gPutD, wp_lenDT, sSeq, sIf, sAsg, sRet, sNil, gSet, gPut, tst, b2, b1, cal, on1, aCons, vget, mkL, mkT, calF, andT, orT, notT, andV, notV, wp_bind, wp_pure, wp_if, List.map, List.length, List.replicate, List.append, List.cons_append, List.nil_append, Nat.reduceSub, Nat.reduceAdd, Nat.reduceLeDiff, List.getElem?_cons_zero, List.getElem?_cons_succ, List.set_cons_zero, List.set_cons_succ, wp_int, wp_intb, wp_int20, wp_toB, wp_add, wp_abs, wp_neg, wp_lenL, pen0, pen1, pen2, put1, put2, decide_true, decide_false, if_true, if_false, Bool.false_eq_true, Nat.zero_le, exists_eq_left, and_true, true_and, Bool.not_true, Bool.not_false, reduceCtorEq, reduceIte, b1']
    refine (pick_ok hc (by omega) hp2 (by simp) (by simp)).mono ?_
    rintro v S3 ⟨hv, hp3, o3⟩
    simp only [orV, sDrop, ifV, metM_eq, metK_eq, wp_noE, gPutD, wp_lenDT, sSeq, sIf, sAsg, sRet, sNil, gSet, gPut, tst, b2, b1, cal, on1, aCons, vget, mkL, mkT, calF, andT, orT, notT, andV, notV, wp_bind, wp_pure, wp_if, List.map, List.length, List.replicate, List.append, List.cons_append, List.nil_append, Nat.reduceSub, Nat.reduceAdd, Nat.reduceLeDiff, List.getElem?_cons_zero, List.getElem?_cons_succ, List.set_cons_zero, List.set_cons_succ, wp_int, wp_intb, wp_int20, wp_toB, wp_add, wp_abs, wp_neg, wp_lenL, pen0, pen1, pen2, put1, put2, decide_true, decide_false, if_true, if_false, Bool.false_eq_true, Nat.zero_le, exists_eq_left, and_true, true_and, Bool.not_true, Bool.not_false, reduceCtorEq, reduceIte, wp_ixLs, i1, i2]
    simp only [List.mem_cons, List.not_mem_nil, or_false] at hv
    rcases hv with rfl | rfl
    · exact ⟨_, rfl, .inl ⟨"word", [b, c], .inr ⟨.inl rfl, b, c, rfl, hb, hcc⟩, rfl⟩, hp3.mono (by omega), o.trans o3⟩
    · exact ⟨_, rfl, .inl ⟨"span", [b, c], .inr ⟨.inr rfl, b, c, rfl, hb, hcc⟩, rfl⟩, hp3.mono (by omega), o.trans o3⟩
  have b1' : ((way : Int) == 1) = false := by rw [beq_eq_false_iff_ne]; omega
  simp only [orV, sDrop, ifV, metM_eq, metK_eq, wp_noE, gPutD, wp_lenDT, sSeq, sIf, sAsg, sRet, sNil, gSet, gPut, tst, b2, b1, cal, on1, aCons, vget, mkL, mkT, calF, andT, orT, notT, andV, notV, wp_bind, wp_pure, wp_if, List.map, List.length, List.replicate, List.append, List.cons_append, List.nil_append, Nat.reduceSub, Nat.reduceAdd, Nat.reduceLeDiff, List.getElem?_cons_zero, List.getElem?_cons_succ, List.set_cons_zero, List.set_cons_succ, wp_int, wp_intb, wp_int20, wp_toB, wp_add, wp_abs, wp_neg, wp_lenL, pen0, pen1, pen2, put1, put2, decide_true, decide_false, if_true, if_false, Bool.false_eq_true, Nat.zero_le, exists_eq_left, and_true, true_and, Bool.not_true, Bool.not_false, reduceCtorEq, reduceIte, b1']
  unfold paT1
  simp only [orV, sDrop, ifV, metM_eq, metK_eq, wp_noE, gPutD, wp_lenDT, sSeq, sIf, sAsg, sRet, sNil, gSet, gPut, tst, b2, b1, cal, on1, aCons, vget, mkL, mkT, calF, andT, orT, notT, andV, notV, wp_bind, wp_pure, wp_if, List.map, List.length, List.replicate, List.append, List.cons_append, List.nil_append, Nat.reduceSub, Nat.reduceAdd, Nat.reduceLeDiff, List.getElem?_cons_zero, List.getElem?_cons_succ, List.set_cons_zero, List.set_cons_succ, wp_int, wp_intb, wp_int20, wp_toB, wp_add, wp_abs, wp_neg, wp_lenL, pen0, pen1, pen2, put1, put2, decide_true, decide_false, if_true, if_false, Bool.false_eq_true, Nat.zero_le, exists_eq_left, and_true, true_and, Bool.not_true, Bool.not_false, reduceCtorEq, reduceIte]
  refine (lcE_ok (A := A + 26) (P := fun v => ∃ p : Nat × Nat, (1 ≤ p.1 ∧ p.1 ≤ 999999 ∧ p.2 ≤ 999999) ∧ v = pD p) (R := fun n => n < 5) cV rfl (by omega) (dr_ok (k := 5) hc (by omega) rfl (hp2.mono (by omega)) (by omega) (by omega))).mono ?_
  rintro v S3 ⟨ys, rfl, hl1, hy1, hp3, o3⟩
  obtain ⟨vs, rfl, hvs⟩ := lift (f := pD) (P := fun p : Nat × Nat => 1 ≤ p.1 ∧ p.1 ≤ 999999 ∧ p.2 ≤ 999999) hy1
  simp only [orV, sDrop, ifV, metM_eq, metK_eq, wp_noE, gPutD, wp_lenDT, sSeq, sIf, sAsg, sRet, sNil, gSet, gPut, tst, b2, b1, cal, on1, aCons, vget, mkL, mkT, calF, andT, orT, notT, andV, notV, wp_bind, wp_pure, wp_if, List.map, List.length, List.replicate, List.append, List.cons_append, List.nil_append, Nat.reduceSub, Nat.reduceAdd, Nat.reduceLeDiff, List.getElem?_cons_zero, List.getElem?_cons_succ, List.set_cons_zero, List.set_cons_succ, wp_int, wp_intb, wp_int20, wp_toB, wp_add, wp_abs, wp_neg, wp_lenL, pen0, pen1, pen2, put1, put2, decide_true, decide_false, if_true, if_false, Bool.false_eq_true, Nat.zero_le, exists_eq_left, and_true, true_and, Bool.not_true, Bool.not_false, reduceCtorEq, reduceIte, wp_tupL]
  unfold paT2
  simp only [orV, sDrop, ifV, metM_eq, metK_eq, wp_noE, gPutD, wp_lenDT, sSeq, sIf, sAsg, sRet, sNil, gSet, gPut, tst, b2, b1, cal, on1, aCons, vget, mkL, mkT, calF, andT, orT, notT, andV, notV, wp_bind, wp_pure, wp_if, List.map, List.length, List.replicate, List.append, List.cons_append, List.nil_append, Nat.reduceSub, Nat.reduceAdd, Nat.reduceLeDiff, List.getElem?_cons_zero, List.getElem?_cons_succ, List.set_cons_zero, List.set_cons_succ, wp_int, wp_intb, wp_int20, wp_toB, wp_add, wp_abs, wp_neg, wp_lenL, pen0, pen1, pen2, put1, put2, decide_true, decide_false, if_true, if_false, Bool.false_eq_true, Nat.zero_le, exists_eq_left, and_true, true_and, Bool.not_true, Bool.not_false, reduceCtorEq, reduceIte]
  refine (lcE_ok (P := fun v => ∃ p : Nat × Nat, (p.1 ≤ 999999 ∧ p.2 ≤ 999999) ∧ v = pD p) (R := fun n => n < 4) cS rfl (by omega) (dr_ok (k := 4) hc (by omega) rfl hp3 (by omega) (by omega))).mono ?_
  rintro v S4 ⟨ys, rfl, hl2, hy2, hp4, o4⟩
  obtain ⟨ss, rfl, hss⟩ := lift (f := pD) (P := fun p : Nat × Nat => p.1 ≤ 999999 ∧ p.2 ≤ 999999) hy2
  simp only [orV, sDrop, ifV, metM_eq, metK_eq, wp_noE, gPutD, wp_lenDT, sSeq, sIf, sAsg, sRet, sNil, gSet, gPut, tst, b2, b1, cal, on1, aCons, vget, mkL, mkT, calF, andT, orT, notT, andV, notV, wp_bind, wp_pure, wp_if, List.map, List.length, List.replicate, List.append, List.cons_append, List.nil_append, Nat.reduceSub, Nat.reduceAdd, Nat.reduceLeDiff, List.getElem?_cons_zero, List.getElem?_cons_succ, List.set_cons_zero, List.set_cons_succ, wp_int, wp_intb, wp_int20, wp_toB, wp_add, wp_abs, wp_neg, wp_lenL, pen0, pen1, pen2, put1, put2, decide_true, decide_false, if_true, if_false, Bool.false_eq_true, Nat.zero_le, exists_eq_left, and_true, true_and, Bool.not_true, Bool.not_false, reduceCtorEq, reduceIte, wp_tupL]
  unfold paT3
  simp only [orV, sDrop, ifV, metM_eq, metK_eq, wp_noE, gPutD, wp_lenDT, sSeq, sIf, sAsg, sRet, sNil, gSet, gPut, tst, b2, b1, cal, on1, aCons, vget, mkL, mkT, calF, andT, orT, notT, andV, notV, wp_bind, wp_pure, wp_if, List.map, List.length, List.replicate, List.append, List.cons_append, List.nil_append, Nat.reduceSub, Nat.reduceAdd, Nat.reduceLeDiff, List.getElem?_cons_zero, List.getElem?_cons_succ, List.set_cons_zero, List.set_cons_succ, wp_int, wp_intb, wp_int20, wp_toB, wp_add, wp_abs, wp_neg, wp_lenL, pen0, pen1, pen2, put1, put2, decide_true, decide_false, if_true, if_false, Bool.false_eq_true, Nat.zero_le, exists_eq_left, and_true, true_and, Bool.not_true, Bool.not_false, reduceCtorEq, reduceIte]
  refine (lcE_ok (P := fun v => ∃ n : Nat, n ≤ 999999 ∧ v = nD n) (R := fun n => n < 4) cI rfl (by omega) (dr_ok (k := 4) hc (by omega) rfl hp4 (by omega) (by omega))).mono ?_
  rintro v S5 ⟨ys, rfl, hl3, hy3, hp5, o5⟩
  obtain ⟨as, rfl, has⟩ := lift (f := nD) (P := fun n => n ≤ 999999) hy3
  simp only [orV, sDrop, ifV, metM_eq, metK_eq, wp_noE, gPutD, wp_lenDT, sSeq, sIf, sAsg, sRet, sNil, gSet, gPut, tst, b2, b1, cal, on1, aCons, vget, mkL, mkT, calF, andT, orT, notT, andV, notV, wp_bind, wp_pure, wp_if, List.map, List.length, List.replicate, List.append, List.cons_append, List.nil_append, Nat.reduceSub, Nat.reduceAdd, Nat.reduceLeDiff, List.getElem?_cons_zero, List.getElem?_cons_succ, List.set_cons_zero, List.set_cons_succ, wp_int, wp_intb, wp_int20, wp_toB, wp_add, wp_abs, wp_neg, wp_lenL, pen0, pen1, pen2, put1, put2, decide_true, decide_false, if_true, if_false, Bool.false_eq_true, Nat.zero_le, exists_eq_left, and_true, true_and, Bool.not_true, Bool.not_false, reduceCtorEq, reduceIte, wp_tupL]
  rw [List.length_map] at hl1 hl2 hl3
  exact ⟨_, rfl, .inr ⟨vs, ss, as, ⟨by omega, by omega, by omega, hvs, hss, has⟩, rfl⟩, hp5.mono (by omega), ((o.trans o3).trans o4).trans o5⟩
end
end Mi
namespace Mi
open PySem PySem.Spec PyProof.Rows L2
noncomputable def vT (p : Nat × Nat) : Str := Txt.join SPC ["view", num p.1, num p.2]
noncomputable def sT (p : Nat × Nat) : Str := Txt.join SPC ["stay", num p.1, num p.2]
noncomputable def aT (n : Nat) : Str := Txt.join SPC ["apart", num n]
noncomputable def linesT (vs ss : List (Nat × Nat)) (as : List Nat) : List Str := "readers" :: (vs.map vT ++ (ss.map sT ++ as.map aT))
noncomputable def rdT (vs ss : List (Nat × Nat)) (as : List Nat) : Str := Txt.join NLS (linesT vs ss as)
noncomputable def HEADS : List Str := ["readers", "view", "stay", "apart", "range", "word", "span"]
theorem heads_free : HEADS.all (fun x => (x.cps.toList.all fun c => decide (c < 128) && (!(c == 32) && !(c == 10))) && decide (x.length ≤ 7)) = true := by decide +kernel
theorem head_wl {x : Str} (h : x ∈ HEADS) : WL 7 x ∧ ∀ c, c = 32 ∨ c = 10 → c ∉ x.cps.toList := by
  have h := List.all_eq_true.1 heads_free x h
  simp only [Bool.and_eq_true, decide_eq_true_eq] at h
  refine ⟨⟨fun c hc => ?_, h.2⟩, fun c hc hm => ?_⟩
  · have := List.all_eq_true.1 h.1 c hc
    simp only [Bool.and_eq_true, decide_eq_true_eq] at this
    exact this.1
  · have := List.all_eq_true.1 h.1 c hm
    rcases hc with rfl | rfl <;> simp at this
theorem num_fr (n : Nat) : ∀ c, c = 32 ∨ c = 10 → c ∉ (num n).cps.toList := fun c hc => num_free n (by omega)
/-- a line: a head, then numbers -/
noncomputable def lnT (x : Str) (ns : List Nat) : Str := Txt.join SPC (x :: ns.map num)
theorem lnT_split {x : Str} {ns : List Nat} (hx : x ∈ HEADS) : Txt.split (lnT x ns) SPC = x :: ns.map num :=
  split_join spc_is (by omega) (by simp) fun p hp => by
    rcases List.mem_cons.1 hp with rfl | hp
    · exact (head_wl hx).2 32 (.inl rfl)
    · obtain ⟨n, _, rfl⟩ := List.mem_map.1 hp
      exact num_fr n 32 (.inl rfl)
theorem sum7 : ∀ {ns : List Nat}, (∀ n ∈ ns, n ≤ 999999) → ((ns.map num).map (·.length)).sum + (ns.map num).length ≤ 7 * ns.length
  | [], _ => by simp
  | n :: ns, h => by
    have := sum7 (ns := ns) fun z hz => h z (by simp [hz])
    have := (num_wl (h n (by simp))).ln
    simp only [List.map_cons, List.sum_cons, List.length_cons]
    omega
theorem lnT_wl {x : Str} {ns : List Nat} (hx : x ∈ HEADS) (hn : ∀ n ∈ ns, n ≤ 999999) : WL (8 + 7 * ns.length) (lnT x ns) := by
  refine WL.join (fun p hp => ?_) ?_
  · rcases List.mem_cons.1 hp with rfl | hp
    · exact (head_wl hx).1.sm
    · obtain ⟨n, h, rfl⟩ := List.mem_map.1 hp
      exact (num_wl (hn n h)).sm
  · have := sum7 hn
    have := (head_wl hx).1.ln
    simp only [List.map_cons, List.sum_cons, List.length_cons]
    omega
theorem lnT_nl {x : Str} {ns : List Nat} (hx : x ∈ HEADS) : 10 ∉ (lnT x ns).cps.toList := fun h => by
  unfold lnT at h
  rw [join_eq] at h
  rcases join_sub _ _ h with h2 | ⟨p, hp, h2⟩
  · rw [spc_is] at h2
    simp at h2
  · rcases List.mem_cons.1 hp with e | hp
    · rw [e] at h2
      exact (head_wl hx).2 10 (.inr rfl) h2
    · obtain ⟨n, _, rfl⟩ := List.mem_map.1 hp
      exact num_fr n 10 (.inr rfl) h2
theorem nls_sm : Small NLS := fun c hc => by
  rw [nls_is] at hc
  simp at hc
  omega
theorem WL.joinN {ps : List Str} {n : Nat} (h : ∀ p ∈ ps, Small p) (hl : (ps.map (·.length)).sum + ps.length ≤ n) : WL n (Txt.join NLS ps) := by
  rw [join_eq]
  refine ⟨fun c hc => ?_, ?_⟩
  · rcases join_sub ps c hc with h1 | ⟨p, hp, h1⟩
    · exact nls_sm c h1
    · exact h p hp c h1
  · have := StrLaws.join_length_le NLS ps
    rw [nls_len] at this
    omega
theorem fitN {n : Nat} (h1 : 1 ≤ n) (h2 : n ≤ 999999) : fitK "number" (.int (n : Int)) .non = true := by
  simp [fitK, betw]
  omega
theorem fitV {n : Nat} (h2 : n ≤ 999999) : fitK "view" (.int (n : Int)) .non = true := by
  simp [fitK, kn_view, betw]
  omega
theorem pL_two {al : List Str} {x : Str} {a b : Nat} (hx : x ∈ HEADS) (ha : x ∈ al) {k : Str} (hk : KT.lookup x = some ([k, "view"] : List Str)) (h1 : fitK k (.int (a : Int)) .non = true) (h3 : a ≤ 999999) (h2 : b ≤ 999999) : pL al (Txt.split (lnT x [a, b]) SPC) = .ok (x, [nD a, nD b]) := by
  rw [lnT_split hx]
  have hc : al.contains x = true := by simpa using ha
  simp only [pL, hc, hk, if_true, List.map, pF, h1, fitV h2, num_rd h3, num_rd h2, List.nil_append, List.cons_append, List.length_cons, List.length_nil, and_self]
  rfl
theorem pL_one {al : List Str} {x : Str} {a : Nat} (hx : x ∈ HEADS) (ha : x ∈ al) (hk : KT.lookup x = some (["view"] : List Str)) (h2 : a ≤ 999999) : pL al (Txt.split (lnT x [a]) SPC) = .ok (x, [nD a]) := by
  rw [lnT_split hx]
  have hc : al.contains x = true := by simpa using ha
  simp only [pL, hc, hk, if_true, List.map, pF, fitV h2, num_rd h2, List.nil_append, List.cons_append, List.length_cons, List.length_nil, and_self]
  rfl
theorem pL_three {al : List Str} {x : Str} {a b c : Nat} (hx : x ∈ HEADS) (ha : x ∈ al) (hk : KT.lookup x = some (["number", "view", "view"] : List Str)) (h1 : 1 ≤ a) (h3 : a ≤ 999999) (h2 : b ≤ 999999) (h4 : c ≤ 999999) : pL al (Txt.split (lnT x [a, b, c]) SPC) = .ok (x, [nD a, nD b, nD c]) := by
  rw [lnT_split hx]
  have hc : al.contains x = true := by simpa using ha
  simp only [pL, hc, hk, if_true, List.map, pF, fitN h1 h3, fitV h2, fitV h4, num_rd h3, num_rd h2, num_rd h4, List.nil_append, List.cons_append, List.length_cons, List.length_nil, and_self]
  rfl
theorem hd_mem : ("readers" : Str) ∈ HEADS ∧ ("view" : Str) ∈ HEADS ∧ ("stay" : Str) ∈ HEADS ∧ ("apart" : Str) ∈ HEADS ∧ ("range" : Str) ∈ HEADS ∧ ("word" : Str) ∈ HEADS ∧ ("span" : Str) ∈ HEADS := by decide +kernel
theorem kt_all : KT.lookup ("view" : Str) = some (["number", "view"] : List Str) ∧ KT.lookup ("stay" : Str) = some (["view", "view"] : List Str) ∧ KT.lookup ("apart" : Str) = some (["view"] : List Str) ∧ KT.lookup ("range" : Str) = some (["number", "view", "view"] : List Str) ∧ KT.lookup ("word" : Str) = some (["view", "view"] : List Str) ∧ KT.lookup ("span" : Str) = some (["view", "view"] : List Str) ∧ KT.lookup ("readers" : Str) = some ([] : List Str) := by decide +kernel
noncomputable def EN2 : List Str := ["stay", "apart"]
noncomputable def EN3 : List Str := ["apart"]
theorem drops : dropTo "view" ENT = ENT ∧ dropTo "stay" ENT = EN2 ∧ dropTo "stay" EN2 = EN2 ∧ dropTo "apart" ENT = EN3 ∧ dropTo "apart" EN2 = EN3 ∧ dropTo "apart" EN3 = EN3 := by decide +kernel
theorem mems : ("view" : Str) ∈ ENT ∧ ("stay" : Str) ∈ ENT ∧ ("stay" : Str) ∈ EN2 ∧ ("apart" : Str) ∈ ENT ∧ ("apart" : Str) ∈ EN2 ∧ ("apart" : Str) ∈ EN3 := by decide +kernel
theorem run_as : ∀ (as : List Nat) (i : Nat) (al : List Str) (st : St3), (al = ENT ∨ al = EN2 ∨ al = EN3) → (∀ n ∈ as, n ≤ 999999) → runE (as.map aT) i al st = .ok ⟨st.vs, st.ss, st.as ++ as.map nD⟩
  | [], i, al, st, _, _ => by simp [runE]
  | n :: as, i, al, st, ha, h => by
    have hm : ("apart" : Str) ∈ al := by rcases ha with rfl | rfl | rfl <;> first | exact mems.2.2.2.1 | exact mems.2.2.2.2.1 | exact mems.2.2.2.2.2
    have hd : dropTo "apart" al = EN3 := by rcases ha with rfl | rfl | rfl <;> first | exact drops.2.2.2.1 | exact drops.2.2.2.2.1 | exact drops.2.2.2.2.2
    have hn := h n (by simp)
    have e : pL al (Txt.split (aT n) SPC) = .ok ("apart", [nD n]) := pL_one hd_mem.2.2.2.1 hm kt_all.2.2.1 hn
    simp only [List.map_cons, runE, e, hd]
    rw [run_as as (i + 1) EN3 _ (.inr (.inr rfl)) fun z hz => h z (by simp [hz])]
    simp only [addE, ke.2.2.2.1, ke.2.2.2.2.1, if_false, valE, if_true, List.append_assoc]
    rfl
theorem run_ss : ∀ (ss : List (Nat × Nat)) (as : List Nat) (i : Nat) (al : List Str) (st : St3), (al = ENT ∨ al = EN2) → (∀ p ∈ ss, p.1 ≤ 999999 ∧ p.2 ≤ 999999) → (∀ n ∈ as, n ≤ 999999) → runE (ss.map sT ++ as.map aT) i al st = .ok ⟨st.vs, st.ss ++ ss.map pD, st.as ++ as.map nD⟩
  | [], as, i, al, st, ha, _, h => by
    rw [List.map_nil, List.nil_append, run_as as i al st (by rcases ha with rfl | rfl <;> first | exact .inl rfl | exact .inr (.inl rfl)) h]
    simp
  | p :: ss, as, i, al, st, ha, hs, h => by
    have hm : ("stay" : Str) ∈ al := by rcases ha with rfl | rfl <;> first | exact mems.2.1 | exact mems.2.2.1
    have hd : dropTo "stay" al = EN2 := by rcases ha with rfl | rfl <;> first | exact drops.2.1 | exact drops.2.2.1
    have hn := hs p (by simp)
    have e : pL al (Txt.split (sT p) SPC) = .ok ("stay", [nD p.1, nD p.2]) := pL_two hd_mem.2.2.1 hm kt_all.2.1 (fitV hn.1) hn.1 hn.2
    simp only [List.map_cons, List.cons_append, runE, e, hd]
    rw [run_ss ss as (i + 1) EN2 _ (.inr rfl) (fun z hz => hs z (by simp [hz])) h]
    simp only [addE, ke.2.2.1, if_false, valE, ke.2.1, if_true, List.append_assoc]
    rfl
theorem run_vs : ∀ (vs ss : List (Nat × Nat)) (as : List Nat) (i : Nat) (st : St3), (∀ p ∈ vs, 1 ≤ p.1 ∧ p.1 ≤ 999999 ∧ p.2 ≤ 999999) → (∀ p ∈ ss, p.1 ≤ 999999 ∧ p.2 ≤ 999999) → (∀ n ∈ as, n ≤ 999999) → runE (vs.map vT ++ (ss.map sT ++ as.map aT)) i ENT st = .ok ⟨st.vs ++ vs.map pD, st.ss ++ ss.map pD, st.as ++ as.map nD⟩
  | [], ss, as, i, st, _, hs, h => by
    rw [List.map_nil, List.nil_append, run_ss ss as i ENT st (.inl rfl) hs h]
    simp
  | p :: vs, ss, as, i, st, hv, hs, h => by
    have hn := hv p (by simp)
    have e : pL ENT (Txt.split (vT p) SPC) = .ok ("view", [nD p.1, nD p.2]) := pL_two hd_mem.2.1 mems.1 kt_all.1 (fitN hn.1 hn.2.1) hn.2.1 hn.2.2
    simp only [List.map_cons, List.cons_append, runE, e, drops.1]
    rw [run_vs vs ss as (i + 1) _ (fun z hz => hv z (by simp [hz])) hs h]
    simp only [addE, if_true, valE, ke.1, if_false, List.append_assoc]
    rfl
end Mi
namespace Mi
open PySem PySem.Spec PyProof.Rows L2
theorem rdr_join : lnT "readers" [] = "readers" := by
  unfold lnT
  rw [join_eq]
  rfl
theorem lines_free {vs ss : List (Nat × Nat)} {as : List Nat} : ∀ l ∈ linesT vs ss as, 10 ∉ l.cps.toList := fun l hl => by
  unfold linesT at hl
  rcases List.mem_cons.1 hl with rfl | hl
  · exact (head_wl hd_mem.1).2 10 (.inr rfl)
  · rcases List.mem_append.1 hl with hl | hl
    · obtain ⟨p, _, rfl⟩ := List.mem_map.1 hl
      exact lnT_nl (ns := [p.1, p.2]) hd_mem.2.1
    · rcases List.mem_append.1 hl with hl | hl
      · obtain ⟨p, _, rfl⟩ := List.mem_map.1 hl
        exact lnT_nl (ns := [p.1, p.2]) hd_mem.2.2.1
      · obtain ⟨p, _, rfl⟩ := List.mem_map.1 hl
        exact lnT_nl (ns := [p]) hd_mem.2.2.2.1
theorem lines_wl {vs ss : List (Nat × Nat)} {as : List Nat} (h : RdF vs ss as) : ∀ l ∈ linesT vs ss as, WL 22 l := fun l hl => by
  unfold linesT at hl
  rcases List.mem_cons.1 hl with rfl | hl
  · exact (head_wl hd_mem.1).1.mono (by omega)
  · rcases List.mem_append.1 hl with hl | hl
    · obtain ⟨p, hp, rfl⟩ := List.mem_map.1 hl
      have := h.h1 p hp
      exact lnT_wl (ns := [p.1, p.2]) hd_mem.2.1 fun n hn => by simp at hn; omega
    · rcases List.mem_append.1 hl with hl | hl
      · obtain ⟨p, hp, rfl⟩ := List.mem_map.1 hl
        have := h.h2 p hp
        exact lnT_wl (ns := [p.1, p.2]) hd_mem.2.2.1 fun n hn => by simp at hn; omega
      · obtain ⟨p, hp, rfl⟩ := List.mem_map.1 hl
        have := h.h3 p hp
        exact (lnT_wl (ns := [p]) hd_mem.2.2.2.1 fun n hn => by simp at hn; omega).mono (by simp)
theorem sum22 : ∀ {ls : List Str}, (∀ l ∈ ls, WL 22 l) → (ls.map (·.length)).sum + ls.length ≤ 23 * ls.length
  | [], _ => by simp
  | l :: ls, h => by
    have := sum22 (ls := ls) fun z hz => h z (by simp [hz])
    have := (h l (by simp)).ln
    simp only [List.map_cons, List.sum_cons, List.length_cons]
    omega
theorem rd_sum {vs ss : List (Nat × Nat)} {as : List Nat} (h : RdF vs ss as) : ((linesT vs ss as).map (·.length)).sum + (linesT vs ss as).length ≤ 300 := by
  have := sum22 (lines_wl h)
  have := h.l1; have := h.l2; have := h.l3
  have : (linesT vs ss as).length ≤ 11 := by simp [linesT]; omega
  omega
theorem rd_wl {vs ss : List (Nat × Nat)} {as : List Nat} (h : RdF vs ss as) : WL 300 (rdT vs ss as) := WL.joinN (fun p hp => (lines_wl h p hp).sm) (rd_sum h)
theorem pL_rdr : pL FST ["readers"] = .ok ("readers", []) := by with_unfolding_all rfl
theorem due_rd {vs ss : List (Nat × Nat)} {as : List Nat} (h : RdF vs ss as) : dueP (rdT vs ss as) = .lst [.tup [.str "readers", .tup (vs.map pD), .tup (ss.map pD), .tup (as.map nD)]] := by
  have hs : Txt.split (rdT vs ss as) NLS = linesT vs ss as := split_join nls_is (by omega) (by simp [linesT]) fun p hp => lines_free p hp
  have e : pL FST (Txt.split ("readers" : Str) SPC) = .ok ("readers", []) := by
    rw [← rdr_join, lnT_split hd_mem.1]
    exact pL_rdr
  unfold dueP
  rw [hs]
  unfold linesT dueW runW
  simp only [e, if_true]
  rw [run_vs vs ss as 1 _ h.h1 h.h2 h.h3]
  rfl
theorem one_split {t : Str} (h : 10 ∉ t.cps.toList) : Txt.split t NLS = [t] := by
  have := split_join (y := NLS) nls_is (by omega) (ws := [t]) (by simp) fun p hp => by rw [List.mem_singleton.1 hp]; exact h
  rw [join_eq] at this
  exact this
theorem one_head {x : Str} {ns : List Nat} (h : OneF x ns) : x ∈ HEADS ∧ (∀ n ∈ ns, n ≤ 999999) ∧ ns.length ≤ 3 ∧ ¬ x = "readers" ∧ PyData.strOk x = true := by
  have k : ¬ (("range" : Str) = "readers") ∧ ¬ (("word" : Str) = "readers") ∧ ¬ (("span" : Str) = "readers") ∧ PyData.strOk ("range" : Str) = true ∧ PyData.strOk ("word" : Str) = true ∧ PyData.strOk ("span" : Str) = true := by decide +kernel
  rcases h with ⟨rfl, a, b, c, rfl, _, h1, h2, h3⟩ | ⟨rfl | rfl, a, b, rfl, h1, h2⟩
  · exact ⟨hd_mem.2.2.2.2.1, fun n hn => by simp at hn; omega, by simp, k.1, k.2.2.2.1⟩
  · exact ⟨hd_mem.2.2.2.2.2.1, fun n hn => by simp at hn; omega, by simp, k.2.1, k.2.2.2.2.1⟩
  · exact ⟨hd_mem.2.2.2.2.2.2, fun n hn => by simp at hn; omega, by simp, k.2.2.1, k.2.2.2.2.2⟩
theorem fst_mem : ("range" : Str) ∈ FST ∧ ("word" : Str) ∈ FST ∧ ("span" : Str) ∈ FST := by decide +kernel
theorem due_one {x : Str} {ns : List Nat} (h : OneF x ns) : dueP (lnT x ns) = .lst [.tup (.str x :: ns.map nD)] := by
  obtain ⟨hx, hn, _, hr, _⟩ := one_head h
  have e : pL FST (Txt.split (lnT x ns) SPC) = .ok (x, ns.map nD) := by
    rcases h with ⟨rfl, a, b, c, rfl, h0, h1, h2, h3⟩ | ⟨rfl | rfl, a, b, rfl, h1, h2⟩
    · exact pL_three hx fst_mem.1 kt_all.2.2.2.1 h0 h1 h2 h3
    · exact pL_two hx fst_mem.2.1 kt_all.2.2.2.2.1 (fitV h1) h1 h2
    · exact pL_two hx fst_mem.2.2 kt_all.2.2.2.2.2.1 (fitV h1) h1 h2
  unfold dueP
  rw [one_split (lnT_nl hx)]
  unfold dueW runW
  simp only [e, hr, if_false, if_true]
theorem vT_app (x : Str) (a b y : Str) (h : y.cps.toList = x.cps.toList ++ SPC.cps.toList) : ((y ++ a) ++ SPC) ++ b = Txt.join SPC [x, a, b] := by
  rw [join_eq]
  refine str_ext ?_
  show ((((y.cps ++ a.cps) ++ SPC.cps) ++ b.cps).toList) = (((x.cps ++ SPC.cps) ++ ((a.cps ++ SPC.cps) ++ b.cps)).toList)
  simp only [Array.toList_append, h, List.append_assoc]
theorem aT_app (x : Str) (a y : Str) (h : y.cps.toList = x.cps.toList ++ SPC.cps.toList) : y ++ a = Txt.join SPC [x, a] := by
  rw [join_eq]
  refine str_ext ?_
  show (y.cps ++ a.cps).toList = ((x.cps ++ SPC.cps) ++ a.cps).toList
  simp only [Array.toList_append, h, List.append_assoc]
theorem blanks : ("view " : Str).cps.toList = ("view" : Str).cps.toList ++ SPC.cps.toList ∧ ("stay " : Str).cps.toList = ("stay" : Str).cps.toList ++ SPC.cps.toList ∧ ("apart " : Str).cps.toList = ("apart" : Str).cps.toList ++ SPC.cps.toList := by decide +kernel
theorem lc_pure {α : Type} {g : D → Env → M Env} {e : Env → M D} {f h : α → D} {ρ : Env} : ∀ (as : List α) {S : Sto} {Q : List D → Sto → Prop}, (∀ a ∈ as, ∃ ρ1, (∀ S, g (f a) ρ S = some (.ok ρ1, S)) ∧ ∀ S, e ρ1 S = some (.ok (h a), S)) → (Wp (lcGo g (fun _ => M.pure true) e ρ (as.map f)) S Q ↔ Q (as.map h) S)
  | [], S, Q, _ => wp_of rfl
  | a :: as, S, Q, hh => by
    obtain ⟨ρ1, h1, h2⟩ := hh a (by simp)
    rw [List.map_cons]
    simp only [lcGo, wp_bind, wp_of (h1 S), wp_pure, if_true, wp_of (h2 S)]
    rw [lc_pure as fun z hz => hh z (by simp [hz])]
    rfl
theorem eLc_pure {α : Type} {mi : Env → M (List D)} {g : D → Env → M Env} {e : Env → M D} {f h : α → D} {ρ : Env} {vs : List Nat} {as : List α} {S : Sto} {Q : D → Sto → Prop} (hm : mi ρ S = some (.ok (as.map f), S)) (hl : as.length ≤ 50000)
    (hh : ∀ a ∈ as, ∃ ρ1, (∀ S, g (f a) (wipeE vs ρ) S = some (.ok ρ1, S)) ∧ ∀ S, e ρ1 S = some (.ok (h a), S)) : Wp (eLc mi g (fun _ => M.pure true) e vs ρ) S Q ↔ Q (.lst (as.map h)) S := by
  unfold eLc
  rw [wp_bind, wp_of hm]
  show Wp (if (as.map f).length ≤ 50000 then _ else _) S Q ↔ _
  rw [if_pos (by rw [List.length_map]; exact hl), wp_bind, wp_noErrI, lc_pure as hh, wp_pure]
end Mi
namespace Mi
open PySem PySem.Spec PyProof.Rows L2
noncomputable def zsW (x : Str) (ns : List Nat) : List (D × Str) := (.str x, x) :: ns.map fun n => (nD n, num n)
theorem zs_fst (x : Str) (ns : List Nat) : (zsW x ns).map Prod.fst = .str x :: ns.map nD := by simp [zsW, Function.comp_def]
theorem zs_snd (x : Str) (ns : List Nat) : (zsW x ns).map (fun z => D.str z.2) = (x :: ns.map num).map D.str := by simp [zsW, Function.comp_def]
theorem zs_str {x : Str} {ns : List Nat} (h : ∀ n ∈ ns, n ≤ 999999) : ∀ z ∈ zsW x ns, ∀ S, strM z.1 S = some (.ok (.str z.2), S) := fun z hz S => by
  rcases List.mem_cons.1 hz with rfl | hz
  · rfl
  · obtain ⟨n, hn, rfl⟩ := List.mem_map.1 hz
    exact eq_of_wp ((strI (n := n) (by have := h n hn; omega)).2 ⟨rfl, rfl⟩)
section
variable {S : Sto} {Q : D → Sto → Prop} {x : Str} {ns : List Nat} {i : Nat} {ρ : Env} {mi : Env → M (List D)}
theorem words_lc (hn : ∀ n ∈ ns, n ≤ 999999) (hl : ns.length ≤ 1000) (hi : i < ρ.length) (hm : mi ρ S = some (.ok (.str x :: ns.map nD), S)) :
    Wp (eLc mi (gSet i) (fun _ => M.pure true) (cal (on1 strM) (aCons (vget i) (fun _ => M.pure []))) [i] ρ) S Q ↔ Q (.lst ((x :: ns.map num).map D.str)) S := by
  rw [eLc_pure (f := Prod.fst) (h := fun z : D × Str => .str z.2) (as := zsW x ns) (by rw [zs_fst]; exact hm) (by simp [zsW]; omega) fun z hz => ?_, zs_snd]
  refine ⟨(wipeE [i] ρ).set i (some z.1), fun S => rfl, fun S => eq_of_wp ?_⟩
  have hl2 : i < (wipeE [i] ρ).length := by simpa [wipeE] using hi
  have e : ((wipeE [i] ρ).set i (some z.1))[i]? = some (some z.1) := by simp [hl2]
  simp only [cal, on1, aCons, vget, wp_bind, e, wp_pure]
  exact (wp_of (zs_str hn z hz S)).2 ⟨rfl, rfl⟩
theorem words_sum (hx : x ∈ HEADS) (hn : ∀ n ∈ ns, n ≤ 999999) (hl : ns.length ≤ 1000) : ((x :: ns.map num).map (·.length)).sum + (x :: ns.map num).length ≤ 90000 := by
  have := sum7 hn
  have := (head_wl hx).1.ln
  simp only [List.map_cons, List.sum_cons, List.length_cons]
  omega
theorem writeline_ok (hx : x ∈ HEADS) (hn : ∀ n ∈ ns, n ≤ 999999) (hl : ns.length ≤ 1000) : m__write_line [.tup (.str x :: ns.map nD)] S = some (.ok (.str (lnT x ns)), S) := by
  refine eq_of_wp ?_
  unfold m__write_line
  refine wp_run ?_
  show Wp (b__write_line [some (.tup (.str x :: ns.map nD)), none]) S _
  unfold b__write_line
  rw [show (" " : Str) = SPC from rfl]
  simp only [sSeq, sRet, mth, aCons, wp_bind, wp_pure, wp_chkS]
  rw [words_lc (x := x) (ns := ns) hn hl (by simp) rfl, wp_joinL (words_sum hx hn hl)]
  exact ⟨_, rfl, rfl, rfl⟩
theorem written_one (h : OneF x ns) : m__law_written [.tup (.str x :: ns.map nD)] S = some (.ok (.str (lnT x ns)), S) := by
  obtain ⟨hx, hn, hl, hr, hk⟩ := one_head h
  have i0 : ∀ {S : Sto} {Q : D → Sto → Prop}, Wp (ixD (.tup (.str x :: ns.map nD)) (.int 0)) S Q ↔ Q (.str x) S := ixT (k := 0) rfl
  have ne : (!(x == ("readers" : Str))) = true := by simpa using hr
  refine eq_of_wp ?_
  unfold m__law_written
  refine wp_run ?_
  show Wp (b__law_written [some (.tup (.str x :: ns.map nD)), none, none, none, none]) S _
  unfold b__law_written
  rw [show (" " : Str) = SPC from rfl]
  simp only [sSeq, sIf, sRet, tst, b2, vget, mth, aCons, wp_bind, wp_pure, wp_chkS, List.getElem?_cons_zero, i0, neSS hk readers_ok, wp_toB, wp_if, ne, if_true]
  rw [words_lc (x := x) (ns := ns) hn (by omega) (by simp) rfl, wp_joinL (words_sum hx hn (by omega))]
  exact ⟨_, rfl, rfl, rfl⟩
theorem write_one (h : OneF x ns) : m_write_paper [.tup (.str x :: ns.map nD)] S = some (.ok (.str (lnT x ns)), S) := by
  obtain ⟨hx, hn, hl, hr, hk⟩ := one_head h
  have i0 : ∀ {S : Sto} {Q : D → Sto → Prop}, Wp (ixD (.tup (.str x :: ns.map nD)) (.int 0)) S Q ↔ Q (.str x) S := ixT (k := 0) rfl
  have ne : (!(x == ("readers" : Str))) = true := by simpa using hr
  refine eq_of_wp ?_
  unfold m_write_paper
  refine wp_run ?_
  show Wp (b_write_paper [some (.tup (.str x :: ns.map nD)), none, none, none, none, none, none, none, none, none, none]) S _
  unfold b_write_paper
  simp only [sSeq, sIf, sRet, tst, b2, vget, calF, aCons, wp_bind, wp_pure, List.getElem?_cons_zero, i0, neSS hk readers_ok, wp_toB, wp_if, ne, if_true]
  show Wp (m__write_line [.tup (.str x :: ns.map nD)]) S _
  rw [wp_of (writeline_ok (S := S) hx hn (by omega))]
  exact ⟨_, rfl, rfl, rfl⟩
end
end Mi
namespace Mi
open PySem PySem.Spec PyProof.Rows L2
theorem wp_joinNN {S : Sto} {ys : List Str} {Q : D → Sto → Prop} (h : (ys.map (·.length)).sum + ys.length ≤ 90000) : Wp (joinM (.str NLS) [.lst (ys.map D.str)]) S Q ↔ Q (.str (Txt.join NLS ys)) S := wp_of (by
  simp only [joinM, asQ, asR, asC, strs_map, nls_len, Nat.mul_one]
  rw [if_pos (by omega)])
noncomputable def rdD (vs ss : List (Nat × Nat)) (as : List Nat) : D := .tup [.str "readers", .tup (vs.map pD), .tup (ss.map pD), .tup (as.map nD)]
section
variable {S : Sto} {Q : D → Sto → Prop} {vs ss : List (Nat × Nat)} {as : List Nat}
theorem ix_rd {k : Nat} {d : D} (h : [D.str "readers", .tup (vs.map pD), .tup (ss.map pD), .tup (as.map nD)][k]? = some d) : Wp (ixD (rdD vs ss as) (.int (k : Int))) S Q ↔ Q d S := ixT h
noncomputable def wrV : Env → M D := (b2 addM (b2 addM (b2 addM (fun _ => M.pure (.str "view ")) (cal (on1 strM) (aCons (vget 2) (fun _ => M.pure [])))) (fun _ => M.pure (.str SPC))) (cal (on1 strM) (aCons (vget 3) (fun _ => M.pure []))))
noncomputable def wrS : Env → M D := (b2 addM (b2 addM (b2 addM (fun _ => M.pure (.str "stay ")) (cal (on1 strM) (aCons (vget 2) (fun _ => M.pure [])))) (fun _ => M.pure (.str SPC))) (cal (on1 strM) (aCons (vget 3) (fun _ => M.pure []))))
noncomputable def wrA : Env → M D := (b2 addM (fun _ => M.pure (.str "apart ")) (cal (on1 strM) (aCons (vget 2) (fun _ => M.pure []))))
noncomputable def cV : Env → M D := (eLc (iSeq (b2 ixD (vget 0) (fun _ => M.pure (.int 1)))) (gTwo 2 3) (fun _ => M.pure true) wrV [2, 3])
noncomputable def cS : Env → M D := (eLc (iSeq (b2 ixD (vget 0) (fun _ => M.pure (.int 2)))) (gTwo 2 3) (fun _ => M.pure true) wrS [2, 3])
noncomputable def cA : Env → M D := (eLc (iSeq (b2 ixD (vget 0) (fun _ => M.pure (.int 3)))) (gSet 2) (fun _ => M.pure true) wrA [2])
theorem wr_eq : b__law_written = (sSeq (sIf (tst (b2 neM (b2 ixD (vget 0) (fun _ => M.pure (.int 0))) (fun _ => M.pure (.str "readers")))) (sSeq (sRet (mth chkS joinM (fun _ => M.pure (.str SPC)) (aCons (eLc (iSeq (vget 0)) (gSet 4) (fun _ => M.pure true) (cal (on1 strM) (aCons (vget 4) (fun _ => M.pure []))) [4]) (fun _ => M.pure []))))
    sNil) sNil)
    (sSeq (sAsg cV (gSet 1))
    (sSeq (sAsg (b2 addM (vget 1) cS) (gSet 1))
    (sSeq (sRet (mth chkS joinM (fun _ => M.pure (.str NLS)) (aCons (b2 addM (b2 addM (mkL (aCons (fun _ => M.pure (.str "readers")) (fun _ => M.pure []))) (vget 1)) cA) (fun _ => M.pure []))))
    sNil)))) := rfl
theorem num_len {n : Nat} (h : n ≤ 999999) : (num n).length ≤ 6 := (num_wl h).ln
theorem lits : ("view " : Str).length ≤ 10 ∧ ("stay " : Str).length ≤ 10 ∧ ("apart " : Str).length ≤ 10 ∧ SPC.length = 1 := by decide +kernel
theorem cV_ok {a1 a2 a3 a4 : Option D} (h : RdF vs ss as) : Wp (cV [some (rdD vs ss as), a1, a2, a3, a4]) S Q ↔ Q (.lst ((vs.map vT).map D.str)) S := by
  unfold cV
  rw [eLc_pure (f := pD) (h := fun p => .str (vT p)) (as := vs) (eq_of_wp (by simp only [iSeq, b2, vget, wp_bind, wp_pure, List.getElem?_cons_zero]; rw [show (1 : Int) = ((1 : Nat) : Int) from rfl, ix_rd (k := 1) rfl]; exact wp_of_eq rfl ⟨rfl, rfl⟩)) (by have := h.l1; omega) fun p hp => ?_]
  · rw [List.map_map]; rfl
  have hp := h.h1 p hp
  have n1 := num_len hp.2.1; have n2 := num_len hp.2.2
  obtain ⟨l1, l2, l3, l4⟩ := lits
  refine ⟨[some (rdD vs ss as), a1, some (nD p.1), some (nD p.2), a4], fun S => rfl, fun S => eq_of_wp ?_⟩
  unfold wrV
  simp only [orV, sDrop, ifV, metM_eq, metK_eq, wp_noE, gPutD, wp_lenDT, sSeq, sIf, sAsg, sRet, sNil, gSet, gPut, tst, b2, b1, cal, on1, aCons, vget, mkL, mkT, calF, andT, orT, notT, andV, notV, wp_bind, wp_pure, wp_if, List.map, List.length, List.replicate, List.append, List.cons_append, List.nil_append, Nat.reduceSub, Nat.reduceAdd, Nat.reduceLeDiff, List.getElem?_cons_zero, List.getElem?_cons_succ, List.set_cons_zero, List.set_cons_succ, wp_int, wp_intb, wp_int20, wp_toB, wp_add, wp_abs, wp_neg, wp_lenL, pen0, pen1, pen2, put1, put2, decide_true, decide_false, if_true, if_false, Bool.false_eq_true, Nat.zero_le, exists_eq_left, and_true, true_and, Bool.not_true, Bool.not_false, reduceCtorEq, reduceIte, nD, strI (show p.1 ≤ 1000000 by omega), strI (show p.2 ≤ 1000000 by omega)]
  rw [addS (by omega)]
  rw [addS (by rw [Str.length_append]; omega), addS (by rw [Str.length_append, Str.length_append]; omega), vT_app "view" (num p.1) (num p.2) "view " blanks.1]
  exact ⟨rfl, rfl⟩
theorem cS_ok {a1 a2 a3 a4 : Option D} (h : RdF vs ss as) : Wp (cS [some (rdD vs ss as), a1, a2, a3, a4]) S Q ↔ Q (.lst ((ss.map sT).map D.str)) S := by
  unfold cS
  rw [eLc_pure (f := pD) (h := fun p => .str (sT p)) (as := ss) (eq_of_wp (by simp only [iSeq, b2, vget, wp_bind, wp_pure, List.getElem?_cons_zero]; rw [show (2 : Int) = ((2 : Nat) : Int) from rfl, ix_rd (k := 2) rfl]; exact wp_of_eq rfl ⟨rfl, rfl⟩)) (by have := h.l2; omega) fun p hp => ?_]
  · rw [List.map_map]; rfl
  have hp := h.h2 p hp
  have n1 := num_len hp.1; have n2 := num_len hp.2
  obtain ⟨l1, l2, l3, l4⟩ := lits
  refine ⟨[some (rdD vs ss as), a1, some (nD p.1), some (nD p.2), a4], fun S => rfl, fun S => eq_of_wp ?_⟩
  unfold wrS
  simp only [orV, sDrop, ifV, metM_eq, metK_eq, wp_noE, gPutD, wp_lenDT, sSeq, sIf, sAsg, sRet, sNil, gSet, gPut, tst, b2, b1, cal, on1, aCons, vget, mkL, mkT, calF, andT, orT, notT, andV, notV, wp_bind, wp_pure, wp_if, List.map, List.length, List.replicate, List.append, List.cons_append, List.nil_append, Nat.reduceSub, Nat.reduceAdd, Nat.reduceLeDiff, List.getElem?_cons_zero, List.getElem?_cons_succ, List.set_cons_zero, List.set_cons_succ, wp_int, wp_intb, wp_int20, wp_toB, wp_add, wp_abs, wp_neg, wp_lenL, pen0, pen1, pen2, put1, put2, decide_true, decide_false, if_true, if_false, Bool.false_eq_true, Nat.zero_le, exists_eq_left, and_true, true_and, Bool.not_true, Bool.not_false, reduceCtorEq, reduceIte, nD, strI (show p.1 ≤ 1000000 by omega), strI (show p.2 ≤ 1000000 by omega)]
  rw [addS (by omega)]
  rw [addS (by rw [Str.length_append]; omega), addS (by rw [Str.length_append, Str.length_append]; omega), vT_app "stay" (num p.1) (num p.2) "stay " blanks.2.1]
  exact ⟨rfl, rfl⟩
theorem cA_ok {a1 a2 a3 a4 : Option D} (h : RdF vs ss as) : Wp (cA [some (rdD vs ss as), a1, a2, a3, a4]) S Q ↔ Q (.lst ((as.map aT).map D.str)) S := by
  unfold cA
  rw [eLc_pure (f := nD) (h := fun p => .str (aT p)) (as := as) (eq_of_wp (by simp only [iSeq, b2, vget, wp_bind, wp_pure, List.getElem?_cons_zero]; rw [show (3 : Int) = ((3 : Nat) : Int) from rfl, ix_rd (k := 3) rfl]; exact wp_of_eq rfl ⟨rfl, rfl⟩)) (by have := h.l3; omega) fun p hp => ?_]
  · rw [List.map_map]; rfl
  have hp := h.h3 p hp
  have n1 := num_len hp
  obtain ⟨l1, l2, l3, l4⟩ := lits
  refine ⟨[some (rdD vs ss as), a1, some (nD p), a3, a4], fun S => rfl, fun S => eq_of_wp ?_⟩
  unfold wrA
  simp only [orV, sDrop, ifV, metM_eq, metK_eq, wp_noE, gPutD, wp_lenDT, sSeq, sIf, sAsg, sRet, sNil, gSet, gPut, tst, b2, b1, cal, on1, aCons, vget, mkL, mkT, calF, andT, orT, notT, andV, notV, wp_bind, wp_pure, wp_if, List.map, List.length, List.replicate, List.append, List.cons_append, List.nil_append, Nat.reduceSub, Nat.reduceAdd, Nat.reduceLeDiff, List.getElem?_cons_zero, List.getElem?_cons_succ, List.set_cons_zero, List.set_cons_succ, wp_int, wp_intb, wp_int20, wp_toB, wp_add, wp_abs, wp_neg, wp_lenL, pen0, pen1, pen2, put1, put2, decide_true, decide_false, if_true, if_false, Bool.false_eq_true, Nat.zero_le, exists_eq_left, and_true, true_and, Bool.not_true, Bool.not_false, reduceCtorEq, reduceIte, nD, strI (show p ≤ 1000000 by omega)]
  rw [addS (by omega), aT_app "apart" (num p) "apart " blanks.2.2]
  exact ⟨rfl, rfl⟩
theorem lines_is : (([D.str "readers"] ++ ((vs.map vT).map D.str ++ (ss.map sT).map D.str)) ++ (as.map aT).map D.str) = (linesT vs ss as).map D.str := by
  simp [linesT]
theorem written_rd (h : RdF vs ss as) : m__law_written [rdD vs ss as] S = some (.ok (.str (rdT vs ss as)), S) := by
  have i0 : ∀ {S : Sto} {Q : D → Sto → Prop}, Wp (ixD (rdD vs ss as) (.int 0)) S Q ↔ Q (.str "readers") S := fun {S Q} => ix_rd (k := 0) rfl
  have ne : (!(("readers" : Str) == ("readers" : Str))) = false := by decide +kernel
  have := h.l1; have := h.l2; have := h.l3
  refine eq_of_wp ?_
  unfold m__law_written
  refine wp_run ?_
  show Wp (b__law_written [some (rdD vs ss as), none, none, none, none]) S _
  rw [wr_eq]
  simp only [orV, sDrop, ifV, metM_eq, metK_eq, wp_noE, gPutD, wp_lenDT, sSeq, sIf, sAsg, sRet, sNil, gSet, gPut, tst, b2, b1, cal, on1, aCons, vget, mkL, mkT, calF, andT, orT, notT, andV, notV, wp_bind, wp_pure, wp_if, List.map, List.length, List.replicate, List.append, List.cons_append, List.nil_append, Nat.reduceSub, Nat.reduceAdd, Nat.reduceLeDiff, List.getElem?_cons_zero, List.getElem?_cons_succ, List.set_cons_zero, List.set_cons_succ, wp_int, wp_intb, wp_int20, wp_toB, wp_add, wp_abs, wp_neg, wp_lenL, pen0, pen1, pen2, put1, put2, decide_true, decide_false, if_true, if_false, Bool.false_eq_true, Nat.zero_le, exists_eq_left, and_true, true_and, Bool.not_true, Bool.not_false, reduceCtorEq, reduceIte, i0, neSS readers_ok readers_ok, ne]
  rw [cV_ok h]
  try simp only [orV, sDrop, ifV, metM_eq, metK_eq, wp_noE, gPutD, wp_lenDT, sSeq, sIf, sAsg, sRet, sNil, gSet, gPut, tst, b2, b1, cal, on1, aCons, vget, mkL, mkT, calF, andT, orT, notT, andV, notV, wp_bind, wp_pure, wp_if, List.map, List.length, List.replicate, List.append, List.cons_append, List.nil_append, Nat.reduceSub, Nat.reduceAdd, Nat.reduceLeDiff, List.getElem?_cons_zero, List.getElem?_cons_succ, List.set_cons_zero, List.set_cons_succ, wp_int, wp_intb, wp_int20, wp_toB, wp_add, wp_abs, wp_neg, wp_lenL, pen0, pen1, pen2, put1, put2, decide_true, decide_false, if_true, if_false, Bool.false_eq_true, Nat.zero_le, exists_eq_left, and_true, true_and, Bool.not_true, Bool.not_false, reduceCtorEq, reduceIte]
  rw [cS_ok h, wp_addL (by simp; omega)]
  try simp only [orV, sDrop, ifV, metM_eq, metK_eq, wp_noE, gPutD, wp_lenDT, sSeq, sIf, sAsg, sRet, sNil, gSet, gPut, tst, b2, b1, cal, on1, aCons, vget, mkL, mkT, calF, andT, orT, notT, andV, notV, wp_bind, wp_pure, wp_if, List.map, List.length, List.replicate, List.append, List.cons_append, List.nil_append, Nat.reduceSub, Nat.reduceAdd, Nat.reduceLeDiff, List.getElem?_cons_zero, List.getElem?_cons_succ, List.set_cons_zero, List.set_cons_succ, wp_int, wp_intb, wp_int20, wp_toB, wp_add, wp_abs, wp_neg, wp_lenL, pen0, pen1, pen2, put1, put2, decide_true, decide_false, if_true, if_false, Bool.false_eq_true, Nat.zero_le, exists_eq_left, and_true, true_and, Bool.not_true, Bool.not_false, reduceCtorEq, reduceIte, mth, wp_chkS]
  rw [wp_addL (by simp; omega)]
  rw [cA_ok h, wp_addL (by simp; omega), lines_is, wp_joinNN (by have := rd_sum h; omega)]
  exact ⟨_, rfl, rfl, rfl⟩
noncomputable def L3 (vs ss : List (Nat × Nat)) (as : List Nat) : List (Str × List Nat) := ("readers", []) :: (vs.map (fun p => (("view" : Str), [p.1, p.2])) ++ (ss.map (fun p => (("stay" : Str), [p.1, p.2])) ++ as.map fun n => (("apart" : Str), [n])))
noncomputable def lD (z : Str × List Nat) : D := .tup (.str z.1 :: z.2.map nD)
theorem l3_lines : (L3 vs ss as).map (fun z => lnT z.1 z.2) = linesT vs ss as := by
  simp only [L3, List.map_cons, List.map_append, List.map_map, rdr_join, linesT]
  rfl
theorem l3_ok (h : RdF vs ss as) : ∀ z ∈ L3 vs ss as, z.1 ∈ HEADS ∧ (∀ n ∈ z.2, n ≤ 999999) ∧ z.2.length ≤ 3 := fun z hz => by
  unfold L3 at hz
  rcases List.mem_cons.1 hz with rfl | hz
  · exact ⟨hd_mem.1, fun _ z => (by cases z), by simp⟩
  · rcases List.mem_append.1 hz with hz | hz
    · obtain ⟨p, hp, rfl⟩ := List.mem_map.1 hz
      have := h.h1 p hp
      exact ⟨hd_mem.2.1, fun n hn => by simp at hn; omega, by simp⟩
    · rcases List.mem_append.1 hz with hz | hz
      · obtain ⟨p, hp, rfl⟩ := List.mem_map.1 hz
        have := h.h2 p hp
        exact ⟨hd_mem.2.2.1, fun n hn => by simp at hn; omega, by simp⟩
      · obtain ⟨p, hp, rfl⟩ := List.mem_map.1 hz
        have := h.h3 p hp
        exact ⟨hd_mem.2.2.2.1, fun n hn => by simp at hn; omega, by simp⟩
noncomputable def kV : Env → M D := (eLc (iSeq (vget 2)) (gTwo 6 7) (fun _ => M.pure true) (mkT (aCons (fun _ => M.pure (.str "view")) (aCons (vget 6) (aCons (vget 7) (fun _ => M.pure []))))) [6, 7])
noncomputable def kS : Env → M D := (eLc (iSeq (vget 3)) (gTwo 7 8) (fun _ => M.pure true) (mkT (aCons (fun _ => M.pure (.str "stay")) (aCons (vget 7) (aCons (vget 8) (fun _ => M.pure []))))) [7, 8])
noncomputable def kA : Env → M D := (eLc (iSeq (vget 4)) (gSet 9) (fun _ => M.pure true) (mkT (aCons (fun _ => M.pure (.str "apart")) (aCons (vget 9) (fun _ => M.pure [])))) [9])
noncomputable def kL : Env → M D := (eLc (iSeq (vget 5)) (gSet 10) (fun _ => M.pure true) (calF 1 m__write_line (aCons (vget 10) (fun _ => M.pure []))) [10])
theorem wp_eq2 : b_write_paper = (sSeq (sIf (tst (b2 neM (b2 ixD (vget 0) (fun _ => M.pure (.int 0))) (fun _ => M.pure (.str "readers")))) (sSeq (sRet (calF 1 m__write_line (aCons (vget 0) (fun _ => M.pure []))))
    sNil) sNil)
    (sSeq (sAsg (vget 0) (gMany [1, 2, 3, 4]))
    (sSeq (sAsg (mkL (aCons (mkT (aCons (fun _ => M.pure (.str "readers")) (fun _ => M.pure []))) (fun _ => M.pure []))) (gSet 5))
    (sSeq (sAsg (b2 addM (vget 5) kV) (gSet 5))
    (sSeq (sAsg (b2 addM (vget 5) kS) (gSet 5))
    (sSeq (sAsg (b2 addM (vget 5) kA) (gSet 5))
    (sSeq (sRet (mth chkS joinM (fun _ => M.pure (.str NLS)) (aCons kL (fun _ => M.pure []))))
    sNil))))))) := rfl
noncomputable def wE (vs ss : List (Nat × Nat)) (as : List Nat) (d5 : Option D) : Env := [some (rdD vs ss as), some (.str "readers"), some (.tup (vs.map pD)), some (.tup (ss.map pD)), some (.tup (as.map nD)), d5, none, none, none, none, none]
theorem kV_ok {d5 : Option D} (h : RdF vs ss as) : Wp (kV (wE vs ss as d5)) S Q ↔ Q (.lst ((vs.map (fun p => (("view" : Str), [p.1, p.2]))).map lD)) S := by
  unfold kV
  rw [eLc_pure (f := pD) (h := fun p => lD ("view", [p.1, p.2])) (as := vs) rfl (by have := h.l1; omega) fun p hp => ?_]
  · rw [List.map_map]; rfl
  exact ⟨_, fun S => rfl, fun S => rfl⟩
theorem kS_ok {d5 : Option D} (h : RdF vs ss as) : Wp (kS (wE vs ss as d5)) S Q ↔ Q (.lst ((ss.map (fun p => (("stay" : Str), [p.1, p.2]))).map lD)) S := by
  unfold kS
  rw [eLc_pure (f := pD) (h := fun p => lD ("stay", [p.1, p.2])) (as := ss) rfl (by have := h.l2; omega) fun p hp => ?_]
  · rw [List.map_map]; rfl
  exact ⟨_, fun S => rfl, fun S => rfl⟩
theorem kA_ok {d5 : Option D} (h : RdF vs ss as) : Wp (kA (wE vs ss as d5)) S Q ↔ Q (.lst ((as.map (fun p => (("apart" : Str), [p]))).map lD)) S := by
  unfold kA
  rw [eLc_pure (f := nD) (h := fun p => lD ("apart", [p])) (as := as) rfl (by have := h.l3; omega) fun p hp => ?_]
  · rw [List.map_map]; rfl
  exact ⟨_, fun S => rfl, fun S => rfl⟩
theorem kL_ok (h : RdF vs ss as) : Wp (kL (wE vs ss as (some (.lst ((L3 vs ss as).map lD))))) S Q ↔ Q (.lst ((linesT vs ss as).map D.str)) S := by
  have := h.l1; have := h.l2; have := h.l3
  unfold kL
  rw [eLc_pure (f := lD) (h := fun z => .str (lnT z.1 z.2)) (as := L3 vs ss as) rfl (by simp [L3]; omega) fun z hz => ?_]
  · rw [← l3_lines, List.map_map]; rfl
  obtain ⟨h1, h2, h3⟩ := l3_ok h z hz
  exact ⟨_, fun S => rfl, fun S => writeline_ok (S := S) h1 h2 (by omega)⟩
theorem l3_is : ((([lD ("readers", [])] ++ (vs.map (fun p => (("view" : Str), [p.1, p.2]))).map lD) ++ (ss.map (fun p => (("stay" : Str), [p.1, p.2]))).map lD) ++ (as.map (fun p => (("apart" : Str), [p]))).map lD) = (L3 vs ss as).map lD := by
  simp [L3]
theorem write_rd (h : RdF vs ss as) : m_write_paper [rdD vs ss as] S = some (.ok (.str (rdT vs ss as)), S) := by
  have i0 : ∀ {S : Sto} {Q : D → Sto → Prop}, Wp (ixD (rdD vs ss as) (.int 0)) S Q ↔ Q (.str "readers") S := fun {S Q} => ix_rd (k := 0) rfl
  have ne : (!(("readers" : Str) == ("readers" : Str))) = false := by decide +kernel
  have := h.l1; have := h.l2; have := h.l3
  refine eq_of_wp ?_
  unfold m_write_paper
  refine wp_run ?_
  show Wp (b_write_paper [some (rdD vs ss as), none, none, none, none, none, none, none, none, none, none]) S _
  rw [wp_eq2]
  have g : ∀ {S : Sto} {Q : Env → Sto → Prop}, Wp (gMany [1, 2, 3, 4] (rdD vs ss as) [some (rdD vs ss as), none, none, none, none, none, none, none, none, none, none]) S Q ↔ Q (wE vs ss as none) S := fun {S Q} => wp_of rfl
  simp only [orV, sDrop, ifV, metM_eq, metK_eq, wp_noE, gPutD, wp_lenDT, sSeq, sIf, sAsg, sRet, sNil, gSet, gPut, tst, b2, b1, cal, on1, aCons, vget, mkL, mkT, calF, andT, orT, notT, andV, notV, wp_bind, wp_pure, wp_if, List.map, List.length, List.replicate, List.append, List.cons_append, List.nil_append, Nat.reduceSub, Nat.reduceAdd, Nat.reduceLeDiff, List.getElem?_cons_zero, List.getElem?_cons_succ, List.set_cons_zero, List.set_cons_succ, wp_int, wp_intb, wp_int20, wp_toB, wp_add, wp_abs, wp_neg, wp_lenL, pen0, pen1, pen2, put1, put2, decide_true, decide_false, if_true, if_false, Bool.false_eq_true, Nat.zero_le, exists_eq_left, and_true, true_and, Bool.not_true, Bool.not_false, reduceCtorEq, reduceIte, i0, neSS readers_ok readers_ok, ne]
  rw [g]
  simp only [wE, List.set_cons_succ, List.set_cons_zero, List.getElem?_cons_succ, List.getElem?_cons_zero, wp_pure]
  rw [show [some (rdD vs ss as), some (.str "readers"), some (.tup (vs.map pD)), some (.tup (ss.map pD)), some (.tup (as.map nD)), some (.lst [.tup [.str "readers"]]), none, none, none, none, none] = wE vs ss as (some (.lst [.tup [.str "readers"]])) from rfl, kV_ok h, wp_addL (by simp; omega)]
  refine (kS_ok (d5 := some _) h).2 ?_
  rw [wp_addL (by simp; omega)]
  refine (kA_ok (d5 := some _) h).2 ?_
  rw [wp_addL (by simp; omega)]
  simp only [mth, aCons, wp_bind, wp_pure, wp_chkS]
  rw [show D.tup [D.str "readers"] = lD ("readers", []) from rfl, l3_is]
  refine (kL_ok h).2 ?_
  rw [wp_joinNN (by have := rd_sum h; omega)]
  exact ⟨_, rfl, rfl, rfl⟩
structure PapT (d : D) (t : Str) : Prop where
  wr : ∀ S, m__law_written [d] S = some (.ok (.str t), S)
  wp : ∀ S, m_write_paper [d] S = some (.ok (.str t), S)
  due : dueP t = .lst [d]
  wl : WL 300 t
theorem pap_t {d : D} (h : PapF d) : ∃ t, PapT d t := by
  rcases h with ⟨x, ns, h, rfl⟩ | ⟨vs, ss, as, h, rfl⟩
  · obtain ⟨hx, hn, hl, _⟩ := one_head h
    exact ⟨_, fun S => written_one h, fun S => write_one h, due_one h, (lnT_wl hx hn).mono (by omega)⟩
  · exact ⟨_, fun S => written_rd h, fun S => write_rd h, due_rd h, rd_wl h⟩
end
end Mi
namespace Mi
open PySem PySem.Spec PyProof.Rows L2
section
variable {S S0 : Sto} {v : D} {cells : List Int} {A : Int}
theorem odd_ok (hc : cells.length ≤ 63) (hA : A ≤ 100000) (hp : PenB cells A S) : Wp (m__law_odd [.ref 0]) S fun v S' => v ∈ ODD ∧ PenB cells (A + 1) S' ∧ Out0 S S' := by
  unfold m__law_odd
  refine wp_run ?_
  unfold b__law_odd
  simp only [orV, sDrop, ifV, metM_eq, metK_eq, wp_noE, gPutD, wp_lenDT, sSeq, sIf, sAsg, sRet, sNil, gSet, gPut, tst, b2, b1, cal, on1, aCons, vget, mkL, mkT, calF, andT, orT, notT, andV, notV, wp_bind, wp_pure, wp_if, List.map, List.length, List.replicate, List.append, List.cons_append, List.nil_append, Nat.reduceSub, Nat.reduceAdd, Nat.reduceLeDiff, List.getElem?_cons_zero, List.getElem?_cons_succ, List.set_cons_zero, List.set_cons_succ, wp_int, wp_intb, wp_int20, wp_toB, wp_add, wp_abs, wp_neg, wp_lenL, pen0, pen1, pen2, put1, put2, decide_true, decide_false, if_true, if_false, Bool.false_eq_true, Nat.zero_le, exists_eq_left, and_true, true_and, Bool.not_true, Bool.not_false, reduceCtorEq, reduceIte, wp_int2 cpow59, pow59]
  have hsub : ∀ {i j : Int} {Q : D → Sto → Prop}, Wp (subM (.int i) (.int j)) S Q ↔ Q (.int (i - j)) S := fun {i j Q} => wp_of rfl
  try simp only [orV, sDrop, ifV, metM_eq, metK_eq, wp_noE, gPutD, wp_lenDT, sSeq, sIf, sAsg, sRet, sNil, gSet, gPut, tst, b2, b1, cal, on1, aCons, vget, mkL, mkT, calF, andT, orT, notT, andV, notV, wp_bind, wp_pure, wp_if, List.map, List.length, List.replicate, List.append, List.cons_append, List.nil_append, Nat.reduceSub, Nat.reduceAdd, Nat.reduceLeDiff, List.getElem?_cons_zero, List.getElem?_cons_succ, List.set_cons_zero, List.set_cons_succ, wp_int, wp_intb, wp_int20, wp_toB, wp_add, wp_abs, wp_neg, wp_lenL, pen0, pen1, pen2, put1, put2, decide_true, decide_false, if_true, if_false, Bool.false_eq_true, Nat.zero_le, exists_eq_left, and_true, true_and, Bool.not_true, Bool.not_false, reduceCtorEq, reduceIte, hsub]
  rw [wp_addL (by simp)]
  try simp only [orV, sDrop, ifV, metM_eq, metK_eq, wp_noE, gPutD, wp_lenDT, sSeq, sIf, sAsg, sRet, sNil, gSet, gPut, tst, b2, b1, cal, on1, aCons, vget, mkL, mkT, calF, andT, orT, notT, andV, notV, wp_bind, wp_pure, wp_if, List.map, List.length, List.replicate, List.append, List.cons_append, List.nil_append, Nat.reduceSub, Nat.reduceAdd, Nat.reduceLeDiff, List.getElem?_cons_zero, List.getElem?_cons_succ, List.set_cons_zero, List.set_cons_succ, wp_int, wp_intb, wp_int20, wp_toB, wp_add, wp_abs, wp_neg, wp_lenL, pen0, pen1, pen2, put1, put2, decide_true, decide_false, if_true, if_false, Bool.false_eq_true, Nat.zero_le, exists_eq_left, and_true, true_and, Bool.not_true, Bool.not_false, reduceCtorEq, reduceIte]
  rw [wp_addL (by simp)]
  try simp only [orV, sDrop, ifV, metM_eq, metK_eq, wp_noE, gPutD, wp_lenDT, sSeq, sIf, sAsg, sRet, sNil, gSet, gPut, tst, b2, b1, cal, on1, aCons, vget, mkL, mkT, calF, andT, orT, notT, andV, notV, wp_bind, wp_pure, wp_if, List.map, List.length, List.replicate, List.append, List.cons_append, List.nil_append, Nat.reduceSub, Nat.reduceAdd, Nat.reduceLeDiff, List.getElem?_cons_zero, List.getElem?_cons_succ, List.set_cons_zero, List.set_cons_succ, wp_int, wp_intb, wp_int20, wp_toB, wp_add, wp_abs, wp_neg, wp_lenL, pen0, pen1, pen2, put1, put2, decide_true, decide_false, if_true, if_false, Bool.false_eq_true, Nat.zero_le, exists_eq_left, and_true, true_and, Bool.not_true, Bool.not_false, reduceCtorEq, reduceIte]
  rw [wp_addL (by simp)]
  try simp only [orV, sDrop, ifV, metM_eq, metK_eq, wp_noE, gPutD, wp_lenDT, sSeq, sIf, sAsg, sRet, sNil, gSet, gPut, tst, b2, b1, cal, on1, aCons, vget, mkL, mkT, calF, andT, orT, notT, andV, notV, wp_bind, wp_pure, wp_if, List.map, List.length, List.replicate, List.append, List.cons_append, List.nil_append, Nat.reduceSub, Nat.reduceAdd, Nat.reduceLeDiff, List.getElem?_cons_zero, List.getElem?_cons_succ, List.set_cons_zero, List.set_cons_succ, wp_int, wp_intb, wp_int20, wp_toB, wp_add, wp_abs, wp_neg, wp_lenL, pen0, pen1, pen2, put1, put2, decide_true, decide_false, if_true, if_false, Bool.false_eq_true, Nat.zero_le, exists_eq_left, and_true, true_and, Bool.not_true, Bool.not_false, reduceCtorEq, reduceIte]
  refine (pick_ok hc hA hp (by simp) (by simp)).mono ?_
  rintro v S' ⟨h1, h2, h3⟩
  exact ⟨_, rfl, h1, h2, h3⟩
end
end Mi
namespace Mi
open PySem PySem.Spec PyProof.Rows L2
section
variable {S S0 : Sto} {cells : List Int} {A : Int} {t s w x : Str} {L k m : Nat} {ws ls : List Str} {ds : List D}
theorem cut_from (ls : List Str) (j : Nat) : cutD (ls.map D.str) (some (j : Int)) none = (ls.drop j).map D.str := by
  unfold cutD
  rw [HT.sIx_nat, HT.sIx_none, List.length_map, ← List.map_drop]
  by_cases h : j ≤ ls.length
  · rw [Nat.min_eq_left h, List.take_of_length_le (by simp)]
  · rw [Nat.min_eq_right (by omega), Nat.sub_self, List.take_zero, List.drop_eq_nil_of_le (by omega)]
    rfl
theorem cut_two (ls : List Str) (m : Nat) (h : m < ls.length) : cutD (ls.map D.str) (some (m : Int)) (some ((m : Int) + 2)) = ((ls.drop m).take 2).map D.str := by
  have e1 : min m ls.length = m := Nat.min_eq_left (by omega)
  unfold cutD
  rw [show ((m : Int) + 2) = ((m + 2 : Nat) : Int) from rfl, HT.sIx_nat, HT.sIx_nat, List.length_map, ← List.map_drop, ← List.map_take, e1]
  congr 1
  by_cases h2 : m + 2 ≤ ls.length
  · rw [Nat.min_eq_left h2, show m + 2 - m = 2 by omega]
  · rw [Nat.min_eq_right (show ls.length ≤ m + 2 by omega), List.take_of_length_le (by simp), List.take_of_length_le (by simp; omega)]
theorem addLS {a b : List Str} {Q : D → Sto → Prop} (h : a.length + b.length ≤ 90000) : Wp (addM (.lst (a.map D.str)) (.lst (b.map D.str))) S Q ↔ Q (.lst ((a ++ b).map D.str)) S := by
  rw [wp_addL (by simp; omega), List.map_append]
theorem app_step {e : Env → M D} {ρ : Env} {Q : Fl × Env → Sto → Prop} (h10 : ρ[10]? = some (some (.ref S0.length))) (hl : ds.length < 1000) (he : ∀ {Q : D → Sto → Prop}, Wp (e ρ) (S0 ++ [.lst ds]) Q ↔ Q (.str x) (S0 ++ [.lst ds])) :
    Wp (sDrop (mth chkL appM (vget 10) (aCons e (fun _ => M.pure []))) ρ) (S0 ++ [.lst ds]) Q ↔ Q (.nx, ρ) (S0 ++ [.lst (ds ++ [.str x])]) := by
  have c := cell_last S0 ds
  simp only [sDrop, mth, aCons, vget, wp_bind, h10, wp_pure, chkL_ref c, he, wp_app c (show ds.length < 100000 by omega), set_last]
noncomputable def EB (t w : Str) (ws ls : List Str) (k m : Nat) (o2 o3 o8 o10 o11 : Option D) : Env := [some (.ref 0), some (.str t), o2, o3, some (.lst (ws.map D.str)), some (.lst (ls.map D.str)), some (.int (k : Int)), some (.int (m : Int)), o8, some (.str w), o10, o11]
noncomputable def j1 : Env → M D := (mth chkS joinM (fun _ => M.pure (.str SPC)) (aCons (b2 addM (b2 addM (slc (vget 4) none (some (vget 6))) (mkL (aCons (vget 9) (fun _ => M.pure [])))) (slc (vget 4) (some (vget 6)) none)) (fun _ => M.pure [])))
noncomputable def j2 : Env → M D := (mth chkS joinM (fun _ => M.pure (.str SPC)) (aCons (b2 addM (b2 addM (slc (vget 4) none (some (vget 6))) (mkL (aCons (vget 9) (fun _ => M.pure [])))) (slc (vget 4) (some (b2 addM (vget 6) (fun _ => M.pure (.int 1)))) none)) (fun _ => M.pure [])))
noncomputable def j3 : Env → M D := (mth chkS joinM (fun _ => M.pure (.str SPC)) (aCons (b2 addM (slc (vget 4) none (some (vget 6))) (slc (vget 4) (some (b2 addM (vget 6) (fun _ => M.pure (.int 1)))) none)) (fun _ => M.pure [])))
noncomputable def j4 : Env → M D := (mth chkS joinM (fun _ => M.pure (.str NLS)) (aCons (b2 addM (slc (vget 5) none (some (vget 7))) (slc (vget 5) (some (b2 addM (vget 7) (fun _ => M.pure (.int 1)))) none)) (fun _ => M.pure [])))
noncomputable def j5 : Env → M D := (mth chkS joinM (fun _ => M.pure (.str NLS)) (aCons (b2 addM (slc (vget 5) none (some (b2 addM (vget 7) (fun _ => M.pure (.int 1))))) (slc (vget 5) (some (vget 7)) none)) (fun _ => M.pure [])))
noncomputable def j6 : Env → M D := (mth chkS joinM (fun _ => M.pure (.str NLS)) (aCons (b2 addM (b2 addM (slc (vget 5) none (some (vget 7))) (vget 11)) (slc (vget 5) (some (b2 addM (vget 7) (fun _ => M.pure (.int 2)))) none)) (fun _ => M.pure [])))
variable {o2 o3 o8 o10 o11 : Option D} {Q : D → Sto → Prop}
theorem add3 {a b c : List Str} (h : wt (a ++ b ++ c) ≤ 80000) : ((a ++ b ++ c).map (·.length)).sum + (a ++ b ++ c).length ≤ 90000 := by unfold wt at h; omega
theorem j1_ok (hk : k ≤ ws.length) (h : wt (ws.take k ++ [w] ++ ws.drop k) ≤ 80000) : Wp (j1 (EB t w ws ls k m o2 o3 o8 o10 o11)) S Q ↔ Q (.str (Txt.join SPC (ws.take k ++ [w] ++ ws.drop k))) S := by
  have h1 := wt_len (ws.take k ++ [w] ++ ws.drop k)
  simp only [List.length_append] at h1
  unfold j1 EB
  simp only [orV, sDrop, ifV, metM_eq, metK_eq, wp_noE, gPutD, wp_lenDT, sSeq, sIf, sAsg, sRet, sNil, gSet, gPut, tst, b2, b1, cal, on1, aCons, vget, mkL, mkT, calF, andT, orT, notT, andV, notV, wp_bind, wp_pure, wp_if, List.map, List.length, List.replicate, List.append, List.cons_append, List.nil_append, Nat.reduceSub, Nat.reduceAdd, Nat.reduceLeDiff, List.getElem?_cons_zero, List.getElem?_cons_succ, List.set_cons_zero, List.set_cons_succ, wp_int, wp_intb, wp_int20, wp_toB, wp_add, wp_abs, wp_neg, wp_lenL, pen0, pen1, pen2, put1, put2, decide_true, decide_false, if_true, if_false, Bool.false_eq_true, Nat.zero_le, exists_eq_left, and_true, true_and, Bool.not_true, Bool.not_false, reduceCtorEq, reduceIte, mth, wp_chkS, slc, parts, optI, slc_Ls, take_S hk, drop_S hk]
  rw [show [D.str w] = List.map D.str [w] from rfl, addLS (by omega), addLS (by rw [List.length_append]; omega), wp_joinL (add3 h)]
theorem j2_ok (hk : k < ws.length) (h : wt (ws.take k ++ [w] ++ ws.drop (k + 1)) ≤ 80000) : Wp (j2 (EB t w ws ls k m o2 o3 o8 o10 o11)) S Q ↔ Q (.str (Txt.join SPC (ws.take k ++ [w] ++ ws.drop (k + 1)))) S := by
  have h1 := wt_len (ws.take k ++ [w] ++ ws.drop (k + 1))
  simp only [List.length_append] at h1
  have c1 : cutD (ws.map D.str) (some ((k : Int) + 1)) none = (ws.drop (k + 1)).map D.str := cut_from ws (k + 1)
  unfold j2 EB
  simp only [orV, sDrop, ifV, metM_eq, metK_eq, wp_noE, gPutD, wp_lenDT, sSeq, sIf, sAsg, sRet, sNil, gSet, gPut, tst, b2, b1, cal, on1, aCons, vget, mkL, mkT, calF, andT, orT, notT, andV, notV, wp_bind, wp_pure, wp_if, List.map, List.length, List.replicate, List.append, List.cons_append, List.nil_append, Nat.reduceSub, Nat.reduceAdd, Nat.reduceLeDiff, List.getElem?_cons_zero, List.getElem?_cons_succ, List.set_cons_zero, List.set_cons_succ, wp_int, wp_intb, wp_int20, wp_toB, wp_add, wp_abs, wp_neg, wp_lenL, pen0, pen1, pen2, put1, put2, decide_true, decide_false, if_true, if_false, Bool.false_eq_true, Nat.zero_le, exists_eq_left, and_true, true_and, Bool.not_true, Bool.not_false, reduceCtorEq, reduceIte, mth, wp_chkS, slc, parts, optI, slc_Ls, take_S (Nat.le_of_lt hk), c1]
  rw [show [D.str w] = List.map D.str [w] from rfl, addLS (by omega)]
  try simp only [orV, sDrop, ifV, metM_eq, metK_eq, wp_noE, gPutD, wp_lenDT, sSeq, sIf, sAsg, sRet, sNil, gSet, gPut, tst, b2, b1, cal, on1, aCons, vget, mkL, mkT, calF, andT, orT, notT, andV, notV, wp_bind, wp_pure, wp_if, List.map, List.length, List.replicate, List.append, List.cons_append, List.nil_append, Nat.reduceSub, Nat.reduceAdd, Nat.reduceLeDiff, List.getElem?_cons_zero, List.getElem?_cons_succ, List.set_cons_zero, List.set_cons_succ, wp_int, wp_intb, wp_int20, wp_toB, wp_add, wp_abs, wp_neg, wp_lenL, pen0, pen1, pen2, put1, put2, decide_true, decide_false, if_true, if_false, Bool.false_eq_true, Nat.zero_le, exists_eq_left, and_true, true_and, Bool.not_true, Bool.not_false, reduceCtorEq, reduceIte, optI, slc_Ls, c1]
  rw [addLS (by rw [List.length_append]; omega), wp_joinL (add3 h)]
theorem j3_ok (hk : k < ws.length) (h : wt (ws.take k ++ ws.drop (k + 1)) ≤ 80000) : Wp (j3 (EB t w ws ls k m o2 o3 o8 o10 o11)) S Q ↔ Q (.str (Txt.join SPC (ws.take k ++ ws.drop (k + 1)))) S := by
  have h1 := wt_len (ws.take k ++ ws.drop (k + 1))
  simp only [List.length_append] at h1
  have c1 : cutD (ws.map D.str) (some ((k : Int) + 1)) none = (ws.drop (k + 1)).map D.str := cut_from ws (k + 1)
  unfold j3 EB
  simp only [orV, sDrop, ifV, metM_eq, metK_eq, wp_noE, gPutD, wp_lenDT, sSeq, sIf, sAsg, sRet, sNil, gSet, gPut, tst, b2, b1, cal, on1, aCons, vget, mkL, mkT, calF, andT, orT, notT, andV, notV, wp_bind, wp_pure, wp_if, List.map, List.length, List.replicate, List.append, List.cons_append, List.nil_append, Nat.reduceSub, Nat.reduceAdd, Nat.reduceLeDiff, List.getElem?_cons_zero, List.getElem?_cons_succ, List.set_cons_zero, List.set_cons_succ, wp_int, wp_intb, wp_int20, wp_toB, wp_add, wp_abs, wp_neg, wp_lenL, pen0, pen1, pen2, put1, put2, decide_true, decide_false, if_true, if_false, Bool.false_eq_true, Nat.zero_le, exists_eq_left, and_true, true_and, Bool.not_true, Bool.not_false, reduceCtorEq, reduceIte, mth, wp_chkS, slc, parts, optI, slc_Ls, take_S (Nat.le_of_lt hk), c1]
  rw [addLS (by omega), wp_joinL (by unfold wt at h; omega)]
theorem j4_ok (hk : m < ls.length) (h : wt (ls.take m ++ ls.drop (m + 1)) ≤ 80000) : Wp (j4 (EB t w ws ls k m o2 o3 o8 o10 o11)) S Q ↔ Q (.str (Txt.join NLS (ls.take m ++ ls.drop (m + 1)))) S := by
  have h1 := wt_len (ls.take m ++ ls.drop (m + 1))
  simp only [List.length_append] at h1
  have c1 : cutD (ls.map D.str) (some ((m : Int) + 1)) none = (ls.drop (m + 1)).map D.str := cut_from ls (m + 1)
  unfold j4 EB
  simp only [orV, sDrop, ifV, metM_eq, metK_eq, wp_noE, gPutD, wp_lenDT, sSeq, sIf, sAsg, sRet, sNil, gSet, gPut, tst, b2, b1, cal, on1, aCons, vget, mkL, mkT, calF, andT, orT, notT, andV, notV, wp_bind, wp_pure, wp_if, List.map, List.length, List.replicate, List.append, List.cons_append, List.nil_append, Nat.reduceSub, Nat.reduceAdd, Nat.reduceLeDiff, List.getElem?_cons_zero, List.getElem?_cons_succ, List.set_cons_zero, List.set_cons_succ, wp_int, wp_intb, wp_int20, wp_toB, wp_add, wp_abs, wp_neg, wp_lenL, pen0, pen1, pen2, put1, put2, decide_true, decide_false, if_true, if_false, Bool.false_eq_true, Nat.zero_le, exists_eq_left, and_true, true_and, Bool.not_true, Bool.not_false, reduceCtorEq, reduceIte, mth, wp_chkS, slc, parts, optI, slc_Ls, take_S (Nat.le_of_lt hk), c1]
  rw [addLS (by omega), wp_joinNN (by unfold wt at h; omega)]
theorem j5_ok (hk : m < ls.length) (h : wt (ls.take (m + 1) ++ ls.drop m) ≤ 80000) : Wp (j5 (EB t w ws ls k m o2 o3 o8 o10 o11)) S Q ↔ Q (.str (Txt.join NLS (ls.take (m + 1) ++ ls.drop m))) S := by
  have h1 := wt_len (ls.take (m + 1) ++ ls.drop m)
  simp only [List.length_append] at h1
  have c1 : cutD (ls.map D.str) none (some ((m : Int) + 1)) = (ls.take (m + 1)).map D.str := take_S (k := m + 1) hk
  unfold j5 EB
  simp only [orV, sDrop, ifV, metM_eq, metK_eq, wp_noE, gPutD, wp_lenDT, sSeq, sIf, sAsg, sRet, sNil, gSet, gPut, tst, b2, b1, cal, on1, aCons, vget, mkL, mkT, calF, andT, orT, notT, andV, notV, wp_bind, wp_pure, wp_if, List.map, List.length, List.replicate, List.append, List.cons_append, List.nil_append, Nat.reduceSub, Nat.reduceAdd, Nat.reduceLeDiff, List.getElem?_cons_zero, List.getElem?_cons_succ, List.set_cons_zero, List.set_cons_succ, wp_int, wp_intb, wp_int20, wp_toB, wp_add, wp_abs, wp_neg, wp_lenL, pen0, pen1, pen2, put1, put2, decide_true, decide_false, if_true, if_false, Bool.false_eq_true, Nat.zero_le, exists_eq_left, and_true, true_and, Bool.not_true, Bool.not_false, reduceCtorEq, reduceIte, mth, wp_chkS, slc, parts, optI, slc_Ls, cut_from, c1]
  rw [addLS (by omega), wp_joinNN (by unfold wt at h; omega)]
theorem j6_ok {b : List Str} (hk : m < ls.length) (h : wt (ls.take m ++ b ++ ls.drop (m + 2)) ≤ 80000) : Wp (j6 (EB t w ws ls k m o2 o3 o8 o10 (some (.lst (b.map D.str))))) S Q ↔ Q (.str (Txt.join NLS (ls.take m ++ b ++ ls.drop (m + 2)))) S := by
  have h1 := wt_len (ls.take m ++ b ++ ls.drop (m + 2))
  simp only [List.length_append] at h1
  have c1 : cutD (ls.map D.str) (some ((m : Int) + 2)) none = (ls.drop (m + 2)).map D.str := cut_from ls (m + 2)
  unfold j6 EB
  simp only [orV, sDrop, ifV, metM_eq, metK_eq, wp_noE, gPutD, wp_lenDT, sSeq, sIf, sAsg, sRet, sNil, gSet, gPut, tst, b2, b1, cal, on1, aCons, vget, mkL, mkT, calF, andT, orT, notT, andV, notV, wp_bind, wp_pure, wp_if, List.map, List.length, List.replicate, List.append, List.cons_append, List.nil_append, Nat.reduceSub, Nat.reduceAdd, Nat.reduceLeDiff, List.getElem?_cons_zero, List.getElem?_cons_succ, List.set_cons_zero, List.set_cons_succ, wp_int, wp_intb, wp_int20, wp_toB, wp_add, wp_abs, wp_neg, wp_lenL, pen0, pen1, pen2, put1, put2, decide_true, decide_false, if_true, if_false, Bool.false_eq_true, Nat.zero_le, exists_eq_left, and_true, true_and, Bool.not_true, Bool.not_false, reduceCtorEq, reduceIte, mth, wp_chkS, slc, parts, optI, slc_Ls, take_S (Nat.le_of_lt hk), c1]
  rw [addLS (by omega)]
  try simp only [orV, sDrop, ifV, metM_eq, metK_eq, wp_noE, gPutD, wp_lenDT, sSeq, sIf, sAsg, sRet, sNil, gSet, gPut, tst, b2, b1, cal, on1, aCons, vget, mkL, mkT, calF, andT, orT, notT, andV, notV, wp_bind, wp_pure, wp_if, List.map, List.length, List.replicate, List.append, List.cons_append, List.nil_append, Nat.reduceSub, Nat.reduceAdd, Nat.reduceLeDiff, List.getElem?_cons_zero, List.getElem?_cons_succ, List.set_cons_zero, List.set_cons_succ, wp_int, wp_intb, wp_int20, wp_toB, wp_add, wp_abs, wp_neg, wp_lenL, pen0, pen1, pen2, put1, put2, decide_true, decide_false, if_true, if_false, Bool.false_eq_true, Nat.zero_le, exists_eq_left, and_true, true_and, Bool.not_true, Bool.not_false, reduceCtorEq, reduceIte, optI, slc_Ls, c1]
  rw [addLS (by rw [List.length_append]; omega), wp_joinNN (add3 h)]
end
end Mi
namespace Mi
open PySem PySem.Spec PyProof.Rows L2
section
variable {S S0 : Sto} {cells : List Int} {A : Int} {t s w x : Str} {L k m : Nat} {ws ls : List Str} {ds : List D} {o2 o3 o8 o10 o11 : Option D}
theorem app_stepM {e : Env → M D} {ρ : Env} {Q : D → Sto → Prop} (h10 : ρ[10]? = some (some (.ref S0.length))) (hl : ds.length < 1000) (he : ∀ {Q : D → Sto → Prop}, Wp (e ρ) (S0 ++ [.lst ds]) Q ↔ Q (.str x) (S0 ++ [.lst ds])) :
    Wp (mth chkL appM (vget 10) (aCons e (fun _ => M.pure [])) ρ) (S0 ++ [.lst ds]) Q ↔ Q .non (S0 ++ [.lst (ds ++ [.str x])]) := by
  have c := cell_last S0 ds
  simp only [mth, aCons, vget, wp_bind, h10, wp_pure, chkL_ref c, he, wp_app c (show ds.length < 100000 by omega), set_last]
noncomputable def ap (j : Env → M D) : Env → M (Fl × Env) := sDrop (mth chkL appM (vget 10) (aCons j (fun _ => M.pure [])))
noncomputable def beY : Env → M (Fl × Env) := (sSeq (sAsg (b1 revU (slc (vget 5) (some (vget 7)) (some (b2 addM (vget 7) (fun _ => M.pure (.int 2)))))) (gSet 11))
    (sSeq (ap j6)
    (sSeq (sRet (calF 2 m__law_pick (aCons (vget 0) (aCons (vget 10) (fun _ => M.pure [])))))
    sNil)))
noncomputable def beZ : Env → M (Fl × Env) := (sSeq (ap j1) (sSeq (ap j2) (sSeq (ap j3) (sSeq (ap j4) (sSeq (ap j5) beY)))))
structure BB (L : Nat) (w : Str) (ws ls : List Str) (k m : Nat) : Prop where
  w : WL 30 w
  s1 : ∀ p ∈ ws, Small p
  s2 : ∀ p ∈ ls, Small p
  w1 : wt ws ≤ L + 1
  w2 : wt ls ≤ L + 1
  k : k < ws.length
  m : m < ls.length
  L : L ≤ 1500
theorem wt_rev (ls : List Str) : wt ls.reverse = wt ls := by
  unfold wt
  rw [List.map_reverse, List.sum_reverse, List.length_reverse]
theorem pen_pos (h : PenB cells A S) : 1 ≤ S.length := by
  obtain ⟨T, a, r, _, _, rfl⟩ := h
  simp [penS]
theorem pick_C (hc : cells.length ≤ 63) (hA : A ≤ 100000) (hp : PenB cells A S) (h : S[k]? = some (.lst ds)) (hk : 1 ≤ k) (h1 : 0 < ds.length) (h2 : ds.length < 1000) :
    Wp (m__law_pick [.ref 0, .ref k]) S fun v S' => v ∈ ds ∧ PenB cells (A + 1) S' := by
  unfold m__law_pick
  refine wp_run ?_
  unfold b__law_pick
  simp only [orV, sDrop, ifV, metM_eq, metK_eq, wp_noE, gPutD, wp_lenDT, sSeq, sIf, sAsg, sRet, sNil, gSet, gPut, tst, b2, b1, cal, on1, aCons, vget, mkL, mkT, calF, andT, orT, notT, andV, notV, wp_bind, wp_pure, wp_if, List.map, List.length, List.replicate, List.append, List.cons_append, List.nil_append, Nat.reduceSub, Nat.reduceAdd, Nat.reduceLeDiff, List.getElem?_cons_zero, List.getElem?_cons_succ, List.set_cons_zero, List.set_cons_succ, wp_int, wp_intb, wp_int20, wp_toB, wp_add, wp_abs, wp_neg, wp_lenL, pen0, pen1, pen2, put1, put2, decide_true, decide_false, if_true, if_false, Bool.false_eq_true, Nat.zero_le, exists_eq_left, and_true, true_and, Bool.not_true, Bool.not_false, reduceCtorEq, reduceIte, wp_lenC h]
  refine (draw_okB hc hA hp (c := (ds.length : Int)) (by omega) (by omega)).mono ?_
  rintro v S' ⟨z, rfl, g, hp', o⟩
  have hz : z < ds.length := by omega
  have h' : S'[k]? = some (.lst ds) := by rw [o.at' k hk]; exact h
  try simp only [orV, sDrop, ifV, metM_eq, metK_eq, wp_noE, gPutD, wp_lenDT, sSeq, sIf, sAsg, sRet, sNil, gSet, gPut, tst, b2, b1, cal, on1, aCons, vget, mkL, mkT, calF, andT, orT, notT, andV, notV, wp_bind, wp_pure, wp_if, List.map, List.length, List.replicate, List.append, List.cons_append, List.nil_append, Nat.reduceSub, Nat.reduceAdd, Nat.reduceLeDiff, List.getElem?_cons_zero, List.getElem?_cons_succ, List.set_cons_zero, List.set_cons_succ, wp_int, wp_intb, wp_int20, wp_toB, wp_add, wp_abs, wp_neg, wp_lenL, pen0, pen1, pen2, put1, put2, decide_true, decide_false, if_true, if_false, Bool.false_eq_true, Nat.zero_le, exists_eq_left, and_true, true_and, Bool.not_true, Bool.not_false, reduceCtorEq, reduceIte]
  rw [wp_ixLC h' (List.getElem?_eq_getElem hz)]
  exact ⟨_, rfl, List.getElem_mem hz, hp'⟩
theorem beZ_ok (B : BB L w ws ls k m) (hc : cells.length ≤ 63) (hA : A ≤ 90000) (hp : ∀ X, PenB cells A (S0 ++ X)) (hl : ds.length ≤ 50) (hd : ∀ d ∈ ds, TX (2 * L + 40) d) :
    Wp (beZ (EB t w ws ls k m o2 o3 o8 (some (.ref S0.length)) o11)) (S0 ++ [.lst ds]) fun r S' => PenB cells (A + 1) S' ∧ ∃ x, r.1 = .rt (.str x) ∧ WL (2 * L + 40) x := by
  have hL := B.L
  have hk := B.k
  have hm := B.m
  have w0 := B.w.ln
  have w1 := B.w1
  have w2 := B.w2
  have a1 := wt_cut ws k
  have a2 := wt_drop ws k
  have a3 := wt_cut ls m
  have a4 := wt_drop ls m
  have a5 := wt_cut ls (m + 1)
  have a6 := wt_cut (ls.drop m) 2
  rw [List.drop_drop] at a6
  have e1 : wt (ws.take k ++ [w] ++ ws.drop k) ≤ 2 * L + 40 := by rw [wt_app, wt_app, wt_one]; omega
  have e2 : wt (ws.take k ++ [w] ++ ws.drop (k + 1)) ≤ 2 * L + 40 := by rw [wt_app, wt_app, wt_one]; omega
  have e3 : wt (ws.take k ++ ws.drop (k + 1)) ≤ 2 * L + 40 := by rw [wt_app]; omega
  have e4 : wt (ls.take m ++ ls.drop (m + 1)) ≤ 2 * L + 40 := by rw [wt_app]; omega
  have e5 : wt (ls.take (m + 1) ++ ls.drop m) ≤ 2 * L + 40 := by rw [wt_app]; omega
  have e6 : wt (ls.take m ++ ((ls.drop m).take 2).reverse ++ ls.drop (m + 2)) ≤ 2 * L + 40 := by rw [wt_app, wt_app, wt_rev]; omega
  have sT : ∀ {l : List Str} {j : Nat}, (∀ p ∈ l, Small p) → ∀ p ∈ l.take j, Small p := fun h p hp => h p (List.mem_of_mem_take hp)
  have sD : ∀ {l : List Str} {j : Nat}, (∀ p ∈ l, Small p) → ∀ p ∈ l.drop j, Small p := fun h p hp => h p (List.mem_of_mem_drop hp)
  have sA : ∀ {a b : List Str}, (∀ p ∈ a, Small p) → (∀ p ∈ b, Small p) → ∀ p ∈ a ++ b, Small p := fun h1 h2 p hp => (List.mem_append.1 hp).elim (h1 p) (h2 p)
  have sW : ∀ p ∈ [w], Small p := fun p hp => by rw [List.mem_singleton.1 hp]; exact B.w.sm
  have sR : ∀ {a : List Str}, (∀ p ∈ a, Small p) → ∀ p ∈ a.reverse, Small p := fun h p hp => h p (List.mem_reverse.1 hp)
  have t1 : WL (2 * L + 40) (Txt.join SPC (ws.take k ++ [w] ++ ws.drop k)) := WL.join (sA (sA (sT B.s1) sW) (sD B.s1)) e1
  have t2 : WL (2 * L + 40) (Txt.join SPC (ws.take k ++ [w] ++ ws.drop (k + 1))) := WL.join (sA (sA (sT B.s1) sW) (sD B.s1)) e2
  have t3 : WL (2 * L + 40) (Txt.join SPC (ws.take k ++ ws.drop (k + 1))) := WL.join (sA (sT B.s1) (sD B.s1)) e3
  have t4 : WL (2 * L + 40) (Txt.join NLS (ls.take m ++ ls.drop (m + 1))) := WL.joinN (sA (sT B.s2) (sD B.s2)) e4
  have t5 : WL (2 * L + 40) (Txt.join NLS (ls.take (m + 1) ++ ls.drop m)) := WL.joinN (sA (sT B.s2) (sD B.s2)) e5
  have t6 : WL (2 * L + 40) (Txt.join NLS (ls.take m ++ ((ls.drop m).take 2).reverse ++ ls.drop (m + 2))) := WL.joinN (sA (sA (sT B.s2) (sR (sT (sD B.s2)))) (sD B.s2)) e6
  unfold beZ ap
  simp only [sSeq, wp_bind]
  rw [app_step (S0 := S0) rfl (by omega) (fun {Q} => j1_ok (Nat.le_of_lt hk) (by omega))]
  simp only
  rw [wp_bind, app_step (S0 := S0) rfl (by simp; omega) (fun {Q} => j2_ok hk (by omega))]
  simp only
  rw [wp_bind, app_step (S0 := S0) rfl (by simp; omega) (fun {Q} => j3_ok hk (by omega))]
  simp only
  rw [wp_bind, app_step (S0 := S0) rfl (by simp; omega) (fun {Q} => j4_ok hm (by omega))]
  simp only
  rw [wp_bind, app_step (S0 := S0) rfl (by simp; omega) (fun {Q} => j5_ok hm (by omega))]
  have p0 : 1 ≤ S0.length := pen_pos (by simpa using hp [])
  simp only
  unfold beY ap EB
  have rv : ∀ {S : Sto} {ds : List D} {Q : D → Sto → Prop}, Wp (revU (.lst ds)) S Q ↔ Q (.lst ds.reverse) S := fun {S ds Q} => wp_of rfl
  simp only [orV, sDrop, ifV, metM_eq, metK_eq, wp_noE, gPutD, wp_lenDT, sSeq, sIf, sAsg, sRet, sNil, gSet, gPut, tst, b2, b1, cal, on1, aCons, vget, mkL, mkT, calF, andT, orT, notT, andV, notV, wp_bind, wp_pure, wp_if, List.map, List.length, List.replicate, List.append, List.cons_append, List.nil_append, Nat.reduceSub, Nat.reduceAdd, Nat.reduceLeDiff, List.getElem?_cons_zero, List.getElem?_cons_succ, List.set_cons_zero, List.set_cons_succ, wp_int, wp_intb, wp_int20, wp_toB, wp_add, wp_abs, wp_neg, wp_lenL, pen0, pen1, pen2, put1, put2, decide_true, decide_false, if_true, if_false, Bool.false_eq_true, Nat.zero_le, exists_eq_left, and_true, true_and, Bool.not_true, Bool.not_false, reduceCtorEq, reduceIte, slc, parts, optI, slc_Ls, cut_two ls m hm, rv]
  rw [← List.map_reverse]
  refine (app_stepM (S0 := S0) (e := j6) (ρ := EB t w ws ls k m o2 o3 o8 (some (.ref S0.length)) (some (.lst (((ls.drop m).take 2).reverse.map D.str)))) rfl (by simp; omega) (fun {Q} => j6_ok hm (by omega))).2 ?_
  refine (pick_C hc (by omega) (hp _) (cell_last _ _) p0 (by simp) (by simp; omega)).mono ?_
  rintro v S' ⟨hv, hp'⟩
  have tx : TX (2 * L + 40) v := by
    simp only [List.mem_append, List.mem_singleton] at hv
    rcases hv with (((((hv | rfl) | rfl) | rfl) | rfl) | rfl) | rfl
    · exact hd v hv
    · exact ⟨_, rfl, t1⟩
    · exact ⟨_, rfl, t2⟩
    · exact ⟨_, rfl, t3⟩
    · exact ⟨_, rfl, t4⟩
    · exact ⟨_, rfl, t5⟩
    · exact ⟨_, rfl, t6⟩
  obtain ⟨x, rfl, hx⟩ := tx
  exact ⟨hp', x, rfl, hx⟩
end
end Mi
namespace Mi
open PySem PySem.Spec PyProof.Rows L2
noncomputable def OD3 : List Str := ["", "-", "0", "00", "01", "7", "999999", "1000000", "view", "stay", "apart", "readers", "range", "word", "span", "bar", "-1", "+1", Txt.mul "1" 30]
theorem od3_small : OD3.all (fun x => (x.cps.toList.all (fun c => decide (c < 128)) && decide (x.length ≤ 30))) = true := by decide +kernel
theorem od3_wl : ∀ x ∈ OD3, WL 30 x := fun x hx => wl_lit (List.all_eq_true.1 od3_small x hx)
noncomputable def SG3 : Str := " -,0123456789ab\nA~"
theorem sg3_all : SG3.cps.toList.all (fun c => decide (c < 128)) = true := by decide +kernel
theorem sg3_len : SG3.length = 18 := by decide +kernel
section
variable {S : Sto} {cells : List Int} {A : Int} {t s w x : Str} {L k m i : Nat} {ws ls : List Str} {ds : List D} {o2 o3 o8 o10 o11 : Option D}
theorem slc_ST {lo hi : Option Int} {z : Str} {S : Sto} {Q : D → Sto → Prop} (h : z.length ≤ 100000) : Wp (slcM lo hi (.str z)) S Q ↔ Q (.str (cutS z lo hi)) S := wp_of (by
  simp only [slcM, h, if_true])
noncomputable def beM : Env → M (Fl × Env) := (sSeq (sAsg (mkC (aCons (b2 addM (b2 addM (slc (vget 1) none (some (vget 2))) (vget 3)) (slc (vget 1) (some (vget 2)) none)) (aCons (b2 addM (slc (vget 1) none (some (vget 2))) (slc (vget 1) (some (b2 addM (vget 2) (fun _ => M.pure (.int 1)))) none)) (aCons (b2 addM (vget 1) (fun _ => M.pure (.str SPC))) (aCons (b2 addM (fun _ => M.pure (.str SPC)) (vget 1)) (aCons (b2 addM (vget 1) (fun _ => M.pure (.str NLS))) (fun _ => M.pure []))))))) (gSet 10)) beZ)
noncomputable def beO : Env → M (Fl × Env) := (sSeq (sAsg (mkL (aCons (fun _ => M.pure (.str "")) (aCons (fun _ => M.pure (.str "-")) (aCons (fun _ => M.pure (.str "0")) (aCons (fun _ => M.pure (.str "00")) (aCons (fun _ => M.pure (.str "01")) (aCons (fun _ => M.pure (.str "7")) (aCons (fun _ => M.pure (.str "999999")) (aCons (fun _ => M.pure (.str "1000000")) (aCons (fun _ => M.pure (.str "view")) (aCons (fun _ => M.pure (.str "stay")) (aCons (fun _ => M.pure (.str "apart")) (aCons (fun _ => M.pure (.str "readers")) (aCons (fun _ => M.pure (.str "range")) (aCons (fun _ => M.pure (.str "word")) (fun _ => M.pure [])))))))))))))))) (gSet 8))
    (sSeq (sAsg (calF 2 m__law_pick (aCons (vget 0) (aCons (b2 addM (vget 8) (mkL (aCons (fun _ => M.pure (.str "span")) (aCons (fun _ => M.pure (.str "bar")) (aCons (fun _ => M.pure (.str "-1")) (aCons (fun _ => M.pure (.str "+1")) (aCons (b2 mulT (fun _ => M.pure (.str "1")) (fun _ => M.pure (.int 30))) (fun _ => M.pure [])))))))) (fun _ => M.pure [])))) (gSet 9)) beM))
theorem be_eq : b__law_bent = (sSeq (sAsg (calF 2 m__law_draw (aCons (vget 0) (aCons (b2 addM (cal (on1 lenD) (aCons (vget 1) (fun _ => M.pure []))) (fun _ => M.pure (.int 1))) (fun _ => M.pure [])))) (gSet 2))
    (sSeq (sAsg (b2 ixD (fun _ => M.pure (.str SG3)) (calF 2 m__law_draw (aCons (vget 0) (aCons (fun _ => M.pure (.int 18)) (fun _ => M.pure []))))) (gSet 3))
    (sSeq (sPar 4 5 (mth chkS splitM (vget 1) (aCons (fun _ => M.pure (.str SPC)) (fun _ => M.pure []))) (mth chkS splitM (vget 1) (aCons (fun _ => M.pure (.str NLS)) (fun _ => M.pure []))))
    (sSeq (sPar 6 7 (calF 2 m__law_draw (aCons (vget 0) (aCons (cal (on1 lenD) (aCons (vget 4) (fun _ => M.pure []))) (fun _ => M.pure [])))) (calF 2 m__law_draw (aCons (vget 0) (aCons (cal (on1 lenD) (aCons (vget 5) (fun _ => M.pure []))) (fun _ => M.pure []))))) beO)))) := rfl
theorem beM_ok (B : BB L w ws ls k m) (ht : WL L t) (hs : WL 1 s) (hc : cells.length ≤ 63) (hA : A ≤ 90000) (hp : PenB cells A S) :
    Wp (beM (EB t w ws ls k m (some (.int (i : Int))) (some (.str s)) o8 none none)) S fun r S' => PenB cells (A + 1) S' ∧ ∃ x, r.1 = .rt (.str x) ∧ WL (2 * L + 40) x := by
  have hL := B.L
  have ht5 : t.length ≤ 100000 := by have := ht.ln; omega
  have x1 : WL L (cutS t none (some (i : Int))) := ht.cut
  have x2 : WL L (cutS t (some (i : Int)) none) := ht.cut
  have x3 : WL L (cutS t (some ((i : Int) + 1)) none) := ht.cut
  have n1 := x1.ln
  have n2 := x2.ln
  have n3 := x3.ln
  have n4 := hs.ln
  have n6 := ht.ln
  have y1 := x1.app hs
  have n5 := y1.ln
  have sp1 : SPC.length = 1 := by decide +kernel
  have np : WL 1 NLS := nl_wl
  have e1 : (cutS t none (some (i : Int))).length + s.length ≤ 100000 := by omega
  have e2 : (cutS t none (some (i : Int)) ++ s).length + (cutS t (some (i : Int)) none).length ≤ 100000 := by omega
  have e3 : (cutS t none (some (i : Int))).length + (cutS t (some ((i : Int) + 1)) none).length ≤ 100000 := by omega
  have e4 : t.length + SPC.length ≤ 100000 := by omega
  have e5 : SPC.length + t.length ≤ 100000 := by omega
  have e6 : t.length + NLS.length ≤ 100000 := by rw [nls_len]; omega
  unfold beM EB
  simp only [orV, sDrop, ifV, metM_eq, metK_eq, wp_noE, gPutD, wp_lenDT, sSeq, sIf, sAsg, sRet, sNil, gSet, gPut, tst, b2, b1, cal, on1, aCons, vget, mkL, mkT, calF, andT, orT, notT, andV, notV, wp_bind, wp_pure, wp_if, List.map, List.length, List.replicate, List.append, List.cons_append, List.nil_append, Nat.reduceSub, Nat.reduceAdd, Nat.reduceLeDiff, List.getElem?_cons_zero, List.getElem?_cons_succ, List.set_cons_zero, List.set_cons_succ, wp_int, wp_intb, wp_int20, wp_toB, wp_add, wp_abs, wp_neg, wp_lenL, pen0, pen1, pen2, put1, put2, decide_true, decide_false, if_true, if_false, Bool.false_eq_true, Nat.zero_le, exists_eq_left, and_true, true_and, Bool.not_true, Bool.not_false, reduceCtorEq, reduceIte, mkC, slc, parts, optI, slc_ST ht5, addS e1, addS e2, addS e3, addS e4, addS e5, addS e6, wp_newLs]
  refine beZ_ok (S0 := S) B hc hA (fun X => hp.app X) (by simp) fun d hm => ?_
  simp only [List.mem_cons, List.not_mem_nil, or_false] at hm
  rcases hm with rfl | rfl | rfl | rfl | rfl
  · exact ⟨_, rfl, (y1.app x2).mono (by omega)⟩
  · exact ⟨_, rfl, (x1.app x3).mono (by omega)⟩
  · exact ⟨_, rfl, (ht.app sp_wl).mono (by omega)⟩
  · exact ⟨_, rfl, (sp_wl.app ht).mono (by omega)⟩
  · exact ⟨_, rfl, (ht.app np).mono (by omega)⟩
theorem bent_ok (ht : WL L t) (hL : L ≤ 1500) (hc : cells.length ≤ 63) (hA : A ≤ 80000) (hp : PenB cells A S) :
    Wp (m__law_bent [.ref 0, .str t]) S fun v S' => PenB cells (A + 6) S' ∧ ∃ x, v = .str x ∧ WL (2 * L + 40) x := by
  have hl := ht.ln
  have hwt : WT t := ht.wt (by omega)
  unfold m__law_bent
  refine wp_run ?_
  rw [be_eq]
  simp only [orV, sDrop, ifV, metM_eq, metK_eq, wp_noE, gPutD, wp_lenDT, sSeq, sIf, sAsg, sRet, sNil, gSet, gPut, tst, b2, b1, cal, on1, aCons, vget, mkL, mkT, calF, andT, orT, notT, andV, notV, wp_bind, wp_pure, wp_if, List.map, List.length, List.replicate, List.append, List.cons_append, List.nil_append, Nat.reduceSub, Nat.reduceAdd, Nat.reduceLeDiff, List.getElem?_cons_zero, List.getElem?_cons_succ, List.set_cons_zero, List.set_cons_succ, wp_int, wp_intb, wp_int20, wp_toB, wp_add, wp_abs, wp_neg, wp_lenL, pen0, pen1, pen2, put1, put2, decide_true, decide_false, if_true, if_false, Bool.false_eq_true, Nat.zero_le, exists_eq_left, and_true, true_and, Bool.not_true, Bool.not_false, reduceCtorEq, reduceIte, wp_lenDS hwt.l5]
  refine (draw_okB hc (by omega) hp (c := (t.length : Int) + 1) (by omega) (by omega)).mono ?_
  rintro v S1 ⟨i, rfl, hi, hp1, _⟩
  try simp only [orV, sDrop, ifV, metM_eq, metK_eq, wp_noE, gPutD, wp_lenDT, sSeq, sIf, sAsg, sRet, sNil, gSet, gPut, tst, b2, b1, cal, on1, aCons, vget, mkL, mkT, calF, andT, orT, notT, andV, notV, wp_bind, wp_pure, wp_if, List.map, List.length, List.replicate, List.append, List.cons_append, List.nil_append, Nat.reduceSub, Nat.reduceAdd, Nat.reduceLeDiff, List.getElem?_cons_zero, List.getElem?_cons_succ, List.set_cons_zero, List.set_cons_succ, wp_int, wp_intb, wp_int20, wp_toB, wp_add, wp_abs, wp_neg, wp_lenL, pen0, pen1, pen2, put1, put2, decide_true, decide_false, if_true, if_false, Bool.false_eq_true, Nat.zero_le, exists_eq_left, and_true, true_and, Bool.not_true, Bool.not_false, reduceCtorEq, reduceIte]
  refine (draw_okB hc (by omega) hp1 (c := 18) (by omega) (by omega)).mono ?_
  rintro v S2 ⟨j, rfl, hj, hp2, _⟩
  have hj2 : j < SG3.cps.toList.length := by rw [len_w, sg3_len]; omega
  have hcj : SG3.cps.toList[j]? = some (SG3.cps.toList[j]) := List.getElem?_eq_getElem hj2
  have h128 : SG3.cps.toList[j] < 128 := of_decide_eq_true (List.all_eq_true.1 sg3_all _ (List.getElem_mem hj2))
  have hs : WL 1 (⟨#[SG3.cps.toList[j]]⟩ : Str) := ⟨fun c hc => by
    have hc : c ∈ [SG3.cps.toList[j]] := hc
    rw [List.mem_singleton] at hc
    omega, by show (1 : Nat) ≤ 1; omega⟩
  have e1 : ∀ {Q : D → Sto → Prop}, Wp (ixD (.str SG3) (.int (j : Int))) S2 Q ↔ Q (.str ⟨#[SG3.cps.toList[j]]⟩) S2 := fun {Q} => ixS_at (t := SG3) (by rw [sg3_len]; omega) hcj
  rw [e1]
  try simp only [orV, sDrop, ifV, metM_eq, metK_eq, wp_noE, gPutD, wp_lenDT, sSeq, sIf, sAsg, sRet, sNil, gSet, gPut, tst, b2, b1, cal, on1, aCons, vget, mkL, mkT, calF, andT, orT, notT, andV, notV, wp_bind, wp_pure, wp_if, List.map, List.length, List.replicate, List.append, List.cons_append, List.nil_append, Nat.reduceSub, Nat.reduceAdd, Nat.reduceLeDiff, List.getElem?_cons_zero, List.getElem?_cons_succ, List.set_cons_zero, List.set_cons_succ, wp_int, wp_intb, wp_int20, wp_toB, wp_add, wp_abs, wp_neg, wp_lenL, pen0, pen1, pen2, put1, put2, decide_true, decide_false, if_true, if_false, Bool.false_eq_true, Nat.zero_le, exists_eq_left, and_true, true_and, Bool.not_true, Bool.not_false, reduceCtorEq, reduceIte, sPar, mth, wp_chkS, wp_splitM spc_len hwt, wp_splitM nls_len0 hwt]
  have hpos : 1 ≤ (Txt.split t SPC).length := PyProof.Rows.split_pos t SPC
  have hfew := split_few (y := SPC) hwt
  have hww := words_w t
  have el : (((Txt.split t SPC).map D.str).length : Int) = ((Txt.split t SPC).length : Int) := by rw [List.length_map]
  have hpos2 : 1 ≤ (Txt.split t NLS).length := PyProof.Rows.split_pos t NLS
  have hfew2 := split_few (y := NLS) hwt
  have hww2 := nl_w t
  have el2 : (((Txt.split t NLS).map D.str).length : Int) = ((Txt.split t NLS).length : Int) := by rw [List.length_map]
  simp only [orV, sDrop, ifV, metM_eq, metK_eq, wp_noE, gPutD, wp_lenDT, sSeq, sIf, sAsg, sRet, sNil, gSet, gPut, tst, b2, b1, cal, on1, aCons, vget, mkL, mkT, calF, andT, orT, notT, andV, notV, wp_bind, wp_pure, wp_if, List.map, List.length, List.replicate, List.append, List.cons_append, List.nil_append, Nat.reduceSub, Nat.reduceAdd, Nat.reduceLeDiff, List.getElem?_cons_zero, List.getElem?_cons_succ, List.set_cons_zero, List.set_cons_succ, wp_int, wp_intb, wp_int20, wp_toB, wp_add, wp_abs, wp_neg, wp_lenL, pen0, pen1, pen2, put1, put2, decide_true, decide_false, if_true, if_false, Bool.false_eq_true, Nat.zero_le, exists_eq_left, and_true, true_and, Bool.not_true, Bool.not_false, reduceCtorEq, reduceIte, wp_lenDLs, el]
  refine (draw_okB hc (by omega) hp2 (c := ((Txt.split t SPC).length : Int)) (by omega) (by omega)).mono ?_
  rintro v S3 ⟨k, rfl, hk, hp3, _⟩
  try simp only [orV, sDrop, ifV, metM_eq, metK_eq, wp_noE, gPutD, wp_lenDT, sSeq, sIf, sAsg, sRet, sNil, gSet, gPut, tst, b2, b1, cal, on1, aCons, vget, mkL, mkT, calF, andT, orT, notT, andV, notV, wp_bind, wp_pure, wp_if, List.map, List.length, List.replicate, List.append, List.cons_append, List.nil_append, Nat.reduceSub, Nat.reduceAdd, Nat.reduceLeDiff, List.getElem?_cons_zero, List.getElem?_cons_succ, List.set_cons_zero, List.set_cons_succ, wp_int, wp_intb, wp_int20, wp_toB, wp_add, wp_abs, wp_neg, wp_lenL, pen0, pen1, pen2, put1, put2, decide_true, decide_false, if_true, if_false, Bool.false_eq_true, Nat.zero_le, exists_eq_left, and_true, true_and, Bool.not_true, Bool.not_false, reduceCtorEq, reduceIte, wp_lenDLs, el2]
  refine (draw_okB hc (by omega) hp3 (c := ((Txt.split t NLS).length : Int)) (by omega) (by omega)).mono ?_
  rintro v S4 ⟨m, rfl, hm, hp4, _⟩
  try simp only [orV, sDrop, ifV, metM_eq, metK_eq, wp_noE, gPutD, wp_lenDT, sSeq, sIf, sAsg, sRet, sNil, gSet, gPut, tst, b2, b1, cal, on1, aCons, vget, mkL, mkT, calF, andT, orT, notT, andV, notV, wp_bind, wp_pure, wp_if, List.map, List.length, List.replicate, List.append, List.cons_append, List.nil_append, Nat.reduceSub, Nat.reduceAdd, Nat.reduceLeDiff, List.getElem?_cons_zero, List.getElem?_cons_succ, List.set_cons_zero, List.set_cons_succ, wp_int, wp_intb, wp_int20, wp_toB, wp_add, wp_abs, wp_neg, wp_lenL, pen0, pen1, pen2, put1, put2, decide_true, decide_false, if_true, if_false, Bool.false_eq_true, Nat.zero_le, exists_eq_left, and_true, true_and, Bool.not_true, Bool.not_false, reduceCtorEq, reduceIte]
  unfold beO
  simp only [orV, sDrop, ifV, metM_eq, metK_eq, wp_noE, gPutD, wp_lenDT, sSeq, sIf, sAsg, sRet, sNil, gSet, gPut, tst, b2, b1, cal, on1, aCons, vget, mkL, mkT, calF, andT, orT, notT, andV, notV, wp_bind, wp_pure, wp_if, List.map, List.length, List.replicate, List.append, List.cons_append, List.nil_append, Nat.reduceSub, Nat.reduceAdd, Nat.reduceLeDiff, List.getElem?_cons_zero, List.getElem?_cons_succ, List.set_cons_zero, List.set_cons_succ, wp_int, wp_intb, wp_int20, wp_toB, wp_add, wp_abs, wp_neg, wp_lenL, pen0, pen1, pen2, put1, put2, decide_true, decide_false, if_true, if_false, Bool.false_eq_true, Nat.zero_le, exists_eq_left, and_true, true_and, Bool.not_true, Bool.not_false, reduceCtorEq, reduceIte]
  rw [mul30]
  try simp only [orV, sDrop, ifV, metM_eq, metK_eq, wp_noE, gPutD, wp_lenDT, sSeq, sIf, sAsg, sRet, sNil, gSet, gPut, tst, b2, b1, cal, on1, aCons, vget, mkL, mkT, calF, andT, orT, notT, andV, notV, wp_bind, wp_pure, wp_if, List.map, List.length, List.replicate, List.append, List.cons_append, List.nil_append, Nat.reduceSub, Nat.reduceAdd, Nat.reduceLeDiff, List.getElem?_cons_zero, List.getElem?_cons_succ, List.set_cons_zero, List.set_cons_succ, wp_int, wp_intb, wp_int20, wp_toB, wp_add, wp_abs, wp_neg, wp_lenL, pen0, pen1, pen2, put1, put2, decide_true, decide_false, if_true, if_false, Bool.false_eq_true, Nat.zero_le, exists_eq_left, and_true, true_and, Bool.not_true, Bool.not_false, reduceCtorEq, reduceIte]
  rw [wp_addL (by simp)]
  try simp only [orV, sDrop, ifV, metM_eq, metK_eq, wp_noE, gPutD, wp_lenDT, sSeq, sIf, sAsg, sRet, sNil, gSet, gPut, tst, b2, b1, cal, on1, aCons, vget, mkL, mkT, calF, andT, orT, notT, andV, notV, wp_bind, wp_pure, wp_if, List.map, List.length, List.replicate, List.append, List.cons_append, List.nil_append, Nat.reduceSub, Nat.reduceAdd, Nat.reduceLeDiff, List.getElem?_cons_zero, List.getElem?_cons_succ, List.set_cons_zero, List.set_cons_succ, wp_int, wp_intb, wp_int20, wp_toB, wp_add, wp_abs, wp_neg, wp_lenL, pen0, pen1, pen2, put1, put2, decide_true, decide_false, if_true, if_false, Bool.false_eq_true, Nat.zero_le, exists_eq_left, and_true, true_and, Bool.not_true, Bool.not_false, reduceCtorEq, reduceIte]
  refine (pick_ok (ds := OD3.map D.str) hc (by omega) hp4 (by simp [OD3]) (by simp [OD3])).mono ?_
  rintro v S5 ⟨hv, hp5, _⟩
  obtain ⟨w, hw1, rfl⟩ := List.mem_map.1 hv
  refine (beM_ok (L := L) (t := t) (w := w) (ws := Txt.split t SPC) (ls := Txt.split t NLS) (k := k) (m := m) (i := i) ⟨od3_wl w hw1, fun p hp => (piece_ok hwt hp).sm, fun p hp => (piece_ok hwt hp).sm, by unfold wt; omega, by unfold wt; omega, by omega, by omega, hL⟩ ht hs hc (by omega) hp5).mono ?_
  rintro ⟨fl, ρ⟩ S6 ⟨hp6, x, h, hx⟩
  have h : fl = _ := h
  subst h
  refine ⟨_, rfl, hp6.mono (by omega), x, rfl, hx⟩
end
end Mi
namespace Mi
open PySem PySem.Spec PyProof.Rows L2
noncomputable def lwR : Env → M (Fl × Env) := (sSeq (sIf (notT (tst (calF 1 m__law_right (aCons (vget 6) (fun _ => M.pure []))))) (sSeq (sRet (fun _ => M.pure (.bl false)))
    sNil) sNil)
    sNil)
noncomputable def lwO : Env → M (Fl × Env) := (sSeq (sAsg (calF 1 m__law_odd (aCons (vget 1) (fun _ => M.pure []))) (gSet 8))
    (sSeq (sIf (andT (notT (tst (b1 (isiM "str") (vget 8)))) (tst (b2 neM (fun ρ => noErr (h__law_heard ((calF 1 m_read_paper (noE (aCons (vget 8) (fun _ => M.pure [])))) ρ))) (mkT (aCons (fun _ => M.pure (.int 0)) (aCons (fun _ => M.pure (.int 0)) (fun _ => M.pure []))))))) (sSeq (sRet (fun _ => M.pure (.bl false)))
    sNil) sNil)
    sNil))
noncomputable def lwF : Env → M (Fl × Env) := (sSeq (sFor (iSeq (mkL (aCons (vget 4) (aCons (vget 5) (aCons (calF 2 m__law_bent (aCons (vget 1) (aCons (vget 4) (fun _ => M.pure [])))) (aCons (calF 2 m__law_bent (aCons (vget 1) (aCons (vget 5) (fun _ => M.pure [])))) (fun _ => M.pure []))))))) (gSet 6) lwR) lwO)
noncomputable def lwE : Env → M (Fl × Env) := (sSeq (sAsg (calF 2 m__law_bent (aCons (vget 1) (aCons (vget 4) (fun _ => M.pure [])))) (gSet 5)) lwF)
noncomputable def lwD : Env → M (Fl × Env) := (sSeq (sIf (tst (b2 neM (calF 1 m__law_read (aCons (vget 4) (fun _ => M.pure []))) (mkL (aCons (vget 3) (fun _ => M.pure []))))) (sSeq (sRet (fun _ => M.pure (.bl false)))
    sNil) sNil) lwE)
noncomputable def lwC : Env → M (Fl × Env) := (sSeq (sIf (tst (b2 neM (mkL (aCons (calF 1 m_write_paper (aCons (vget 3) (fun _ => M.pure []))) (aCons (calK 1 [0] m_write_paper (aCons (vget 3) (fun _ => M.pure []))) (fun _ => M.pure [])))) (mkL (aCons (vget 4) (aCons (vget 4) (fun _ => M.pure [])))))) (sSeq (sRet (fun _ => M.pure (.bl false)))
    sNil) sNil) lwD)
noncomputable def lwB : Env → M (Fl × Env) := (sSeq (sAsg (calF 1 m__law_paper (aCons (vget 1) (fun _ => M.pure []))) (gSet 3))
    (sSeq (sAsg (calF 1 m__law_written (aCons (vget 3) (fun _ => M.pure []))) (gSet 4)) lwC))
noncomputable def TX8 : List Str := ["", "-", "readers", "readers x", "range 0 1 2", "span 1", "word 1 2 3", "readers\napart 1\nstay 1 2"]
noncomputable def lwZ : Env → M (Fl × Env) := (sSeq (sRet (b2 eqM (eLc (iSeq (vget 7)) (gSet 6) (notT (tst (calF 1 m__law_right (aCons (vget 6) (fun _ => M.pure []))))) (vget 6) [6]) (mkL (fun _ => M.pure []))))
    sNil)
theorem law_eq : b_law = (sSeq (sAsg (calF 1 m__law_pen (aCons (vget 0) (fun _ => M.pure []))) (gSet 1))
    (sSeq (sFor (len1 rngOf 1 (aCons (fun _ => M.pure (.int 14)) (fun _ => M.pure []))) (gSet 2) lwB)
    (sSeq (sAsg (mkL (aCons (fun _ => M.pure (.str "")) (aCons (fun _ => M.pure (.str "-")) (aCons (fun _ => M.pure (.str "readers")) (aCons (fun _ => M.pure (.str "readers x")) (aCons (fun _ => M.pure (.str "range 0 1 2")) (aCons (fun _ => M.pure (.str "span 1")) (aCons (fun _ => M.pure (.str "word 1 2 3")) (aCons (fun _ => M.pure (.str "readers\napart 1\nstay 1 2")) (fun _ => M.pure [])))))))))) (gSet 7)) lwZ))) := rfl
section
variable {S : Sto} {cells : List Int} {A : Int} {t u : Str} {d : D} {o0 o2 o3 o4 o5 o6 o7 o8 : Option D}
theorem odd_str {v : D} (h : isStr v = true) : ∃ x, v = .str x := by
  cases v <;> first | exact ⟨_, rfl⟩ | cases h
noncomputable def pair0 : D := .tup [.int 0, .int 0]
theorem pair0_es : eqs 2 pair0 := eqs_tup fun d hd => by
  have : d = .int 0 := by simpa using hd
  rw [this]
  exact eqs_int 0
theorem lwO_ok (hc : cells.length ≤ 63) (hA : A ≤ 80000) (hp : PenB cells A S) : Wp (lwO [o0, some (.ref 0), o2, o3, o4, o5, o6, o7, o8]) S fun r S' => ∃ p, r = (.nx, [o0, some (.ref 0), o2, o3, o4, o5, o6, o7, p]) ∧ PenB cells (A + 1) S' := by
  unfold lwO
  simp only [orV, sDrop, ifV, metM_eq, metK_eq, wp_noE, gPutD, wp_lenDT, sSeq, sIf, sAsg, sRet, sNil, gSet, gPut, tst, b2, b1, cal, on1, aCons, vget, mkL, mkT, calF, andT, orT, notT, andV, notV, wp_bind, wp_pure, wp_if, List.map, List.length, List.replicate, List.append, List.cons_append, List.nil_append, Nat.reduceSub, Nat.reduceAdd, Nat.reduceLeDiff, List.getElem?_cons_zero, List.getElem?_cons_succ, List.set_cons_zero, List.set_cons_succ, wp_int, wp_intb, wp_int20, wp_toB, wp_add, wp_abs, wp_neg, wp_lenL, pen0, pen1, pen2, put1, put2, decide_true, decide_false, if_true, if_false, Bool.false_eq_true, Nat.zero_le, exists_eq_left, and_true, true_and, Bool.not_true, Bool.not_false, reduceCtorEq, reduceIte]
  refine (odd_ok hc (by omega) hp).mono ?_
  rintro v S1 ⟨hv, hp1, _⟩
  try simp only [orV, sDrop, ifV, metM_eq, metK_eq, wp_noE, gPutD, wp_lenDT, sSeq, sIf, sAsg, sRet, sNil, gSet, gPut, tst, b2, b1, cal, on1, aCons, vget, mkL, mkT, calF, andT, orT, notT, andV, notV, wp_bind, wp_pure, wp_if, List.map, List.length, List.replicate, List.append, List.cons_append, List.nil_append, Nat.reduceSub, Nat.reduceAdd, Nat.reduceLeDiff, List.getElem?_cons_zero, List.getElem?_cons_succ, List.set_cons_zero, List.set_cons_succ, wp_int, wp_intb, wp_int20, wp_toB, wp_add, wp_abs, wp_neg, wp_lenL, pen0, pen1, pen2, put1, put2, decide_true, decide_false, if_true, if_false, Bool.false_eq_true, Nat.zero_le, exists_eq_left, and_true, true_and, Bool.not_true, Bool.not_false, reduceCtorEq, reduceIte]
  rcases odd_isi hv with h | h
  · obtain ⟨x, rfl⟩ := odd_str h
    simp only [orV, sDrop, ifV, metM_eq, metK_eq, wp_noE, gPutD, wp_lenDT, sSeq, sIf, sAsg, sRet, sNil, gSet, gPut, tst, b2, b1, cal, on1, aCons, vget, mkL, mkT, calF, andT, orT, notT, andV, notV, wp_bind, wp_pure, wp_if, List.map, List.length, List.replicate, List.append, List.cons_append, List.nil_append, Nat.reduceSub, Nat.reduceAdd, Nat.reduceLeDiff, List.getElem?_cons_zero, List.getElem?_cons_succ, List.set_cons_zero, List.set_cons_succ, wp_int, wp_intb, wp_int20, wp_toB, wp_add, wp_abs, wp_neg, wp_lenL, pen0, pen1, pen2, put1, put2, decide_true, decide_false, if_true, if_false, Bool.false_eq_true, Nat.zero_le, exists_eq_left, and_true, true_and, Bool.not_true, Bool.not_false, reduceCtorEq, reduceIte, isi_strS]
    exact ⟨_, rfl, hp1⟩
  · refine (h (S := S1)).mono ?_
    rintro b S2 ⟨rfl, rfl⟩
    simp only [orV, sDrop, ifV, metM_eq, metK_eq, wp_noE, gPutD, wp_lenDT, sSeq, sIf, sAsg, sRet, sNil, gSet, gPut, tst, b2, b1, cal, on1, aCons, vget, mkL, mkT, calF, andT, orT, notT, andV, notV, wp_bind, wp_pure, wp_if, List.map, List.length, List.replicate, List.append, List.cons_append, List.nil_append, Nat.reduceSub, Nat.reduceAdd, Nat.reduceLeDiff, List.getElem?_cons_zero, List.getElem?_cons_succ, List.set_cons_zero, List.set_cons_succ, wp_int, wp_intb, wp_int20, wp_toB, wp_add, wp_abs, wp_neg, wp_lenL, pen0, pen1, pen2, put1, put2, decide_true, decide_false, if_true, if_false, Bool.false_eq_true, Nat.zero_le, exists_eq_left, and_true, true_and, Bool.not_true, Bool.not_false, reduceCtorEq, reduceIte, wp_noErrI]
    have e : h__law_heard (m_read_paper [v]) S2 = some (.ok pair0, S2) := heard_bad (n := 0) (ln := 0) (paper_odd (S := S2) h)
    show Wp (h__law_heard (m_read_paper [v])) S2 _
    rw [wp_of e]
    show Wp (neM pair0 pair0) S2 _
    rw [ne_self (pair0_es.mono (by omega))]
    try simp only [orV, sDrop, ifV, metM_eq, metK_eq, wp_noE, gPutD, wp_lenDT, sSeq, sIf, sAsg, sRet, sNil, gSet, gPut, tst, b2, b1, cal, on1, aCons, vget, mkL, mkT, calF, andT, orT, notT, andV, notV, wp_bind, wp_pure, wp_if, List.map, List.length, List.replicate, List.append, List.cons_append, List.nil_append, Nat.reduceSub, Nat.reduceAdd, Nat.reduceLeDiff, List.getElem?_cons_zero, List.getElem?_cons_succ, List.set_cons_zero, List.set_cons_succ, wp_int, wp_intb, wp_int20, wp_toB, wp_add, wp_abs, wp_neg, wp_lenL, pen0, pen1, pen2, put1, put2, decide_true, decide_false, if_true, if_false, Bool.false_eq_true, Nat.zero_le, exists_eq_left, and_true, true_and, Bool.not_true, Bool.not_false, reduceCtorEq, reduceIte]
    exact ⟨_, rfl, hp1⟩
theorem rightLoop {ρ0 : Option D → Env} (hρ : ρ0 = fun o6 => [o0, some (.ref 0), o2, o3, o4, o5, o6, o7, o8]) : ∀ (ts : List Str) (S : Sto) (o6 : Option D), (∀ t ∈ ts, WT t ∧ t.length ≤ 2000) → PenB cells A S →
    Wp (loop (gSet 6) lwR (ts.map D.str) (ρ0 o6)) S fun r S' => ∃ p, r = (.nx, ρ0 p) ∧ PenB cells A S'
  | [], S, o6, _, hp => wp_pure.2 ⟨_, rfl, hp⟩
  | t :: ts, S, o6, hw, hp => by
    subst hρ
    rw [List.map_cons]
    simp only [loop, gSet, wp_bind, wp_pure, List.set_cons_succ, List.set_cons_zero]
    unfold lwR
    try simp only [orV, sDrop, ifV, metM_eq, metK_eq, wp_noE, gPutD, wp_lenDT, sSeq, sIf, sAsg, sRet, sNil, gSet, gPut, tst, b2, b1, cal, on1, aCons, vget, mkL, mkT, calF, andT, orT, notT, andV, notV, wp_bind, wp_pure, wp_if, List.map, List.length, List.replicate, List.append, List.cons_append, List.nil_append, Nat.reduceSub, Nat.reduceAdd, Nat.reduceLeDiff, List.getElem?_cons_zero, List.getElem?_cons_succ, List.set_cons_zero, List.set_cons_succ, wp_int, wp_intb, wp_int20, wp_toB, wp_add, wp_abs, wp_neg, wp_lenL, pen0, pen1, pen2, put1, put2, decide_true, decide_false, if_true, if_false, Bool.false_eq_true, Nat.zero_le, exists_eq_left, and_true, true_and, Bool.not_true, Bool.not_false, reduceCtorEq, reduceIte]
    refine (right_ok (hw t (by simp)).1 (hw t (by simp)).2).mono ?_
    rintro v S1 ⟨rfl, T, rfl⟩
    try simp only [orV, sDrop, ifV, metM_eq, metK_eq, wp_noE, gPutD, wp_lenDT, sSeq, sIf, sAsg, sRet, sNil, gSet, gPut, tst, b2, b1, cal, on1, aCons, vget, mkL, mkT, calF, andT, orT, notT, andV, notV, wp_bind, wp_pure, wp_if, List.map, List.length, List.replicate, List.append, List.cons_append, List.nil_append, Nat.reduceSub, Nat.reduceAdd, Nat.reduceLeDiff, List.getElem?_cons_zero, List.getElem?_cons_succ, List.set_cons_zero, List.set_cons_succ, wp_int, wp_intb, wp_int20, wp_toB, wp_add, wp_abs, wp_neg, wp_lenL, pen0, pen1, pen2, put1, put2, decide_true, decide_false, if_true, if_false, Bool.false_eq_true, Nat.zero_le, exists_eq_left, and_true, true_and, Bool.not_true, Bool.not_false, reduceCtorEq, reduceIte]
    exact rightLoop rfl ts _ _ (fun z hz => hw z (by simp [hz])) (hp.app T)
theorem lwF_ok (hc : cells.length ≤ 63) (hA : A ≤ 70000) (hp : PenB cells A S) (ht : WL 300 t) (hu : WL 640 u) : Wp (lwF [o0, some (.ref 0), o2, o3, some (.str t), some (.str u), o6, o7, o8]) S fun r S' => ∃ p6 p8, r = (.nx, [o0, some (.ref 0), o2, o3, some (.str t), some (.str u), p6, o7, p8]) ∧ PenB cells (A + 20) S' := by
  unfold lwF
  simp only [orV, sDrop, ifV, metM_eq, metK_eq, wp_noE, gPutD, wp_lenDT, sSeq, sIf, sAsg, sRet, sNil, gSet, gPut, tst, b2, b1, cal, on1, aCons, vget, mkL, mkT, calF, andT, orT, notT, andV, notV, wp_bind, wp_pure, wp_if, List.map, List.length, List.replicate, List.append, List.cons_append, List.nil_append, Nat.reduceSub, Nat.reduceAdd, Nat.reduceLeDiff, List.getElem?_cons_zero, List.getElem?_cons_succ, List.set_cons_zero, List.set_cons_succ, wp_int, wp_intb, wp_int20, wp_toB, wp_add, wp_abs, wp_neg, wp_lenL, pen0, pen1, pen2, put1, put2, decide_true, decide_false, if_true, if_false, Bool.false_eq_true, Nat.zero_le, exists_eq_left, and_true, true_and, Bool.not_true, Bool.not_false, reduceCtorEq, reduceIte, iSeq, sFor]
  refine (bent_ok ht (by omega) hc (by omega) hp).mono ?_
  rintro v S1 ⟨hp1, x, rfl, hx⟩
  try simp only [orV, sDrop, ifV, metM_eq, metK_eq, wp_noE, gPutD, wp_lenDT, sSeq, sIf, sAsg, sRet, sNil, gSet, gPut, tst, b2, b1, cal, on1, aCons, vget, mkL, mkT, calF, andT, orT, notT, andV, notV, wp_bind, wp_pure, wp_if, List.map, List.length, List.replicate, List.append, List.cons_append, List.nil_append, Nat.reduceSub, Nat.reduceAdd, Nat.reduceLeDiff, List.getElem?_cons_zero, List.getElem?_cons_succ, List.set_cons_zero, List.set_cons_succ, wp_int, wp_intb, wp_int20, wp_toB, wp_add, wp_abs, wp_neg, wp_lenL, pen0, pen1, pen2, put1, put2, decide_true, decide_false, if_true, if_false, Bool.false_eq_true, Nat.zero_le, exists_eq_left, and_true, true_and, Bool.not_true, Bool.not_false, reduceCtorEq, reduceIte]
  refine (bent_ok hu (by omega) hc (by omega) hp1).mono ?_
  rintro v S2 ⟨hp2, y, rfl, hy⟩
  try simp only [orV, sDrop, ifV, metM_eq, metK_eq, wp_noE, gPutD, wp_lenDT, sSeq, sIf, sAsg, sRet, sNil, gSet, gPut, tst, b2, b1, cal, on1, aCons, vget, mkL, mkT, calF, andT, orT, notT, andV, notV, wp_bind, wp_pure, wp_if, List.map, List.length, List.replicate, List.append, List.cons_append, List.nil_append, Nat.reduceSub, Nat.reduceAdd, Nat.reduceLeDiff, List.getElem?_cons_zero, List.getElem?_cons_succ, List.set_cons_zero, List.set_cons_succ, wp_int, wp_intb, wp_int20, wp_toB, wp_add, wp_abs, wp_neg, wp_lenL, pen0, pen1, pen2, put1, put2, decide_true, decide_false, if_true, if_false, Bool.false_eq_true, Nat.zero_le, exists_eq_left, and_true, true_and, Bool.not_true, Bool.not_false, reduceCtorEq, reduceIte]
  have e : ∀ {ds : List D} {S : Sto} {Q : List D → Sto → Prop}, Wp (itemsOf (.lst ds)) S Q ↔ Q ds S := fun {ds S Q} => wp_of rfl
  rw [e]
  have wt : ∀ {n : Nat} {z : Str}, WL n z → n ≤ 2000 → WT z ∧ z.length ≤ 2000 := fun h hn => ⟨h.wt (by omega), Nat.le_trans h.ln hn⟩
  refine (rightLoop (A := A + 6 + 6) rfl [t, u, x, y] S2 o6 (fun w hw => ?_) hp2).mono ?_
  · simp only [List.mem_cons, List.not_mem_nil, or_false] at hw
    rcases hw with rfl | rfl | rfl | rfl
    · exact wt ht (by omega)
    · exact wt hu (by omega)
    · exact wt hx (by omega)
    · exact wt hy (by omega)
  rintro r S4 ⟨p, rfl, hp4⟩
  try simp only [orV, sDrop, ifV, metM_eq, metK_eq, wp_noE, gPutD, wp_lenDT, sSeq, sIf, sAsg, sRet, sNil, gSet, gPut, tst, b2, b1, cal, on1, aCons, vget, mkL, mkT, calF, andT, orT, notT, andV, notV, wp_bind, wp_pure, wp_if, List.map, List.length, List.replicate, List.append, List.cons_append, List.nil_append, Nat.reduceSub, Nat.reduceAdd, Nat.reduceLeDiff, List.getElem?_cons_zero, List.getElem?_cons_succ, List.set_cons_zero, List.set_cons_succ, wp_int, wp_intb, wp_int20, wp_toB, wp_add, wp_abs, wp_neg, wp_lenL, pen0, pen1, pen2, put1, put2, decide_true, decide_false, if_true, if_false, Bool.false_eq_true, Nat.zero_le, exists_eq_left, and_true, true_and, Bool.not_true, Bool.not_false, reduceCtorEq, reduceIte]
  refine (lwO_ok hc (by omega) hp4).mono ?_
  rintro r S5 ⟨p8, rfl, hp5⟩
  exact ⟨_, _, rfl, hp5.mono (by omega)⟩
theorem lwB_ok (hc : cells.length ≤ 63) (hA : A ≤ 30000) (hp : PenB cells A S) : Wp (lwB [o0, some (.ref 0), o2, o3, o4, o5, o6, o7, o8]) S fun r S' => ∃ p3 p4 p5 p6 p8, r = (.nx, [o0, some (.ref 0), o2, p3, p4, p5, p6, o7, p8]) ∧ PenB cells (A + 200) S' := by
  unfold lwB
  simp only [orV, sDrop, ifV, metM_eq, metK_eq, wp_noE, gPutD, wp_lenDT, sSeq, sIf, sAsg, sRet, sNil, gSet, gPut, tst, b2, b1, cal, on1, aCons, vget, mkL, mkT, calF, andT, orT, notT, andV, notV, wp_bind, wp_pure, wp_if, List.map, List.length, List.replicate, List.append, List.cons_append, List.nil_append, Nat.reduceSub, Nat.reduceAdd, Nat.reduceLeDiff, List.getElem?_cons_zero, List.getElem?_cons_succ, List.set_cons_zero, List.set_cons_succ, wp_int, wp_intb, wp_int20, wp_toB, wp_add, wp_abs, wp_neg, wp_lenL, pen0, pen1, pen2, put1, put2, decide_true, decide_false, if_true, if_false, Bool.false_eq_true, Nat.zero_le, exists_eq_left, and_true, true_and, Bool.not_true, Bool.not_false, reduceCtorEq, reduceIte]
  refine (paper_d hc (by omega) hp).mono ?_
  rintro v S1 ⟨hv, hp1, _⟩
  obtain ⟨t, P⟩ := pap_t hv
  try simp only [orV, sDrop, ifV, metM_eq, metK_eq, wp_noE, gPutD, wp_lenDT, sSeq, sIf, sAsg, sRet, sNil, gSet, gPut, tst, b2, b1, cal, on1, aCons, vget, mkL, mkT, calF, andT, orT, notT, andV, notV, wp_bind, wp_pure, wp_if, List.map, List.length, List.replicate, List.append, List.cons_append, List.nil_append, Nat.reduceSub, Nat.reduceAdd, Nat.reduceLeDiff, List.getElem?_cons_zero, List.getElem?_cons_succ, List.set_cons_zero, List.set_cons_succ, wp_int, wp_intb, wp_int20, wp_toB, wp_add, wp_abs, wp_neg, wp_lenL, pen0, pen1, pen2, put1, put2, decide_true, decide_false, if_true, if_false, Bool.false_eq_true, Nat.zero_le, exists_eq_left, and_true, true_and, Bool.not_true, Bool.not_false, reduceCtorEq, reduceIte]
  rw [wp_of (P.wr S1)]
  have st : PyData.strOk t = true := (P.wl.wt (by omega)).ok
  have es2 : eqs 64 (.lst [.str t, .str t]) := (eqs_lst (n := 1) fun d hd => by
    have : d = .str t := by simpa using hd
    rw [this]
    exact eqs_str st).mono (by omega)
  unfold lwC
  simp only [orV, sDrop, ifV, metM_eq, metK_eq, wp_noE, gPutD, wp_lenDT, sSeq, sIf, sAsg, sRet, sNil, gSet, gPut, tst, b2, b1, cal, on1, aCons, vget, mkL, mkT, calF, andT, orT, notT, andV, notV, wp_bind, wp_pure, wp_if, List.map, List.length, List.replicate, List.append, List.cons_append, List.nil_append, Nat.reduceSub, Nat.reduceAdd, Nat.reduceLeDiff, List.getElem?_cons_zero, List.getElem?_cons_succ, List.set_cons_zero, List.set_cons_succ, wp_int, wp_intb, wp_int20, wp_toB, wp_add, wp_abs, wp_neg, wp_lenL, pen0, pen1, pen2, put1, put2, decide_true, decide_false, if_true, if_false, Bool.false_eq_true, Nat.zero_le, exists_eq_left, and_true, true_and, Bool.not_true, Bool.not_false, reduceCtorEq, reduceIte, calK, permL]
  rw [wp_of (P.wp S1)]
  rw [if_pos (show (List.filterMap (fun i => [v][i]?) [0]).length = 1 from rfl)]
  show Wp (m_write_paper [v]) S1 _
  rw [wp_of (P.wp S1), ne_self es2]
  try simp only [orV, sDrop, ifV, metM_eq, metK_eq, wp_noE, gPutD, wp_lenDT, sSeq, sIf, sAsg, sRet, sNil, gSet, gPut, tst, b2, b1, cal, on1, aCons, vget, mkL, mkT, calF, andT, orT, notT, andV, notV, wp_bind, wp_pure, wp_if, List.map, List.length, List.replicate, List.append, List.cons_append, List.nil_append, Nat.reduceSub, Nat.reduceAdd, Nat.reduceLeDiff, List.getElem?_cons_zero, List.getElem?_cons_succ, List.set_cons_zero, List.set_cons_succ, wp_int, wp_intb, wp_int20, wp_toB, wp_add, wp_abs, wp_neg, wp_lenL, pen0, pen1, pen2, put1, put2, decide_true, decide_false, if_true, if_false, Bool.false_eq_true, Nat.zero_le, exists_eq_left, and_true, true_and, Bool.not_true, Bool.not_false, reduceCtorEq, reduceIte]
  unfold lwD
  simp only [orV, sDrop, ifV, metM_eq, metK_eq, wp_noE, gPutD, wp_lenDT, sSeq, sIf, sAsg, sRet, sNil, gSet, gPut, tst, b2, b1, cal, on1, aCons, vget, mkL, mkT, calF, andT, orT, notT, andV, notV, wp_bind, wp_pure, wp_if, List.map, List.length, List.replicate, List.append, List.cons_append, List.nil_append, Nat.reduceSub, Nat.reduceAdd, Nat.reduceLeDiff, List.getElem?_cons_zero, List.getElem?_cons_succ, List.set_cons_zero, List.set_cons_succ, wp_int, wp_intb, wp_int20, wp_toB, wp_add, wp_abs, wp_neg, wp_lenL, pen0, pen1, pen2, put1, put2, decide_true, decide_false, if_true, if_false, Bool.false_eq_true, Nat.zero_le, exists_eq_left, and_true, true_and, Bool.not_true, Bool.not_false, reduceCtorEq, reduceIte]
  refine (lawread_ok (P.wl.wt (by omega))).mono ?_
  rintro d S2 ⟨rfl, T, rfl⟩
  try simp only [orV, sDrop, ifV, metM_eq, metK_eq, wp_noE, gPutD, wp_lenDT, sSeq, sIf, sAsg, sRet, sNil, gSet, gPut, tst, b2, b1, cal, on1, aCons, vget, mkL, mkT, calF, andT, orT, notT, andV, notV, wp_bind, wp_pure, wp_if, List.map, List.length, List.replicate, List.append, List.cons_append, List.nil_append, Nat.reduceSub, Nat.reduceAdd, Nat.reduceLeDiff, List.getElem?_cons_zero, List.getElem?_cons_succ, List.set_cons_zero, List.set_cons_succ, wp_int, wp_intb, wp_int20, wp_toB, wp_add, wp_abs, wp_neg, wp_lenL, pen0, pen1, pen2, put1, put2, decide_true, decide_false, if_true, if_false, Bool.false_eq_true, Nat.zero_le, exists_eq_left, and_true, true_and, Bool.not_true, Bool.not_false, reduceCtorEq, reduceIte]
  rw [← P.due, ne_self (due_tw (t := t) (by have := P.wl.ln; omega)).2]
  try simp only [orV, sDrop, ifV, metM_eq, metK_eq, wp_noE, gPutD, wp_lenDT, sSeq, sIf, sAsg, sRet, sNil, gSet, gPut, tst, b2, b1, cal, on1, aCons, vget, mkL, mkT, calF, andT, orT, notT, andV, notV, wp_bind, wp_pure, wp_if, List.map, List.length, List.replicate, List.append, List.cons_append, List.nil_append, Nat.reduceSub, Nat.reduceAdd, Nat.reduceLeDiff, List.getElem?_cons_zero, List.getElem?_cons_succ, List.set_cons_zero, List.set_cons_succ, wp_int, wp_intb, wp_int20, wp_toB, wp_add, wp_abs, wp_neg, wp_lenL, pen0, pen1, pen2, put1, put2, decide_true, decide_false, if_true, if_false, Bool.false_eq_true, Nat.zero_le, exists_eq_left, and_true, true_and, Bool.not_true, Bool.not_false, reduceCtorEq, reduceIte]
  unfold lwE
  simp only [orV, sDrop, ifV, metM_eq, metK_eq, wp_noE, gPutD, wp_lenDT, sSeq, sIf, sAsg, sRet, sNil, gSet, gPut, tst, b2, b1, cal, on1, aCons, vget, mkL, mkT, calF, andT, orT, notT, andV, notV, wp_bind, wp_pure, wp_if, List.map, List.length, List.replicate, List.append, List.cons_append, List.nil_append, Nat.reduceSub, Nat.reduceAdd, Nat.reduceLeDiff, List.getElem?_cons_zero, List.getElem?_cons_succ, List.set_cons_zero, List.set_cons_succ, wp_int, wp_intb, wp_int20, wp_toB, wp_add, wp_abs, wp_neg, wp_lenL, pen0, pen1, pen2, put1, put2, decide_true, decide_false, if_true, if_false, Bool.false_eq_true, Nat.zero_le, exists_eq_left, and_true, true_and, Bool.not_true, Bool.not_false, reduceCtorEq, reduceIte]
  refine (bent_ok P.wl (by omega) hc (by omega) (hp1.app T)).mono ?_
  rintro w S3 ⟨hp3, u, rfl, hu⟩
  try simp only [orV, sDrop, ifV, metM_eq, metK_eq, wp_noE, gPutD, wp_lenDT, sSeq, sIf, sAsg, sRet, sNil, gSet, gPut, tst, b2, b1, cal, on1, aCons, vget, mkL, mkT, calF, andT, orT, notT, andV, notV, wp_bind, wp_pure, wp_if, List.map, List.length, List.replicate, List.append, List.cons_append, List.nil_append, Nat.reduceSub, Nat.reduceAdd, Nat.reduceLeDiff, List.getElem?_cons_zero, List.getElem?_cons_succ, List.set_cons_zero, List.set_cons_succ, wp_int, wp_intb, wp_int20, wp_toB, wp_add, wp_abs, wp_neg, wp_lenL, pen0, pen1, pen2, put1, put2, decide_true, decide_false, if_true, if_false, Bool.false_eq_true, Nat.zero_le, exists_eq_left, and_true, true_and, Bool.not_true, Bool.not_false, reduceCtorEq, reduceIte]
  refine (lwF_ok hc (by omega) hp3 P.wl hu).mono ?_
  rintro r S4 ⟨p6, p8, rfl, hp4⟩
  exact ⟨_, _, _, _, _, rfl, hp4.mono (by omega)⟩
theorem turnsLoop (hc : cells.length ≤ 63) : ∀ (xs : List D) (S : Sto) (A : Int) (o2 o3 o4 o5 o6 o8 : Option D), PenB cells A S → A + 200 * (xs.length : Int) ≤ 30000 →
    Wp (loop (gSet 2) lwB xs [o0, some (.ref 0), o2, o3, o4, o5, o6, o7, o8]) S fun r S' => ∃ p2 p3 p4 p5 p6 p8, r = (.nx, [o0, some (.ref 0), p2, p3, p4, p5, p6, o7, p8])
  | [], S, A, o2, o3, o4, o5, o6, o8, hp, hA => wp_pure.2 ⟨_, _, _, _, _, _, rfl⟩
  | x :: xs, S, A, o2, o3, o4, o5, o6, o8, hp, hA => by
    rw [List.length_cons] at hA
    simp only [loop, gSet, wp_bind, wp_pure, List.set_cons_succ, List.set_cons_zero]
    refine (lwB_ok hc (by omega) hp).mono ?_
    rintro r S1 ⟨p3, p4, p5, p6, p8, rfl, hp1⟩
    exact turnsLoop hc xs S1 (A + 200) _ _ _ _ _ _ hp1 (by omega)
theorem tx8_small : TX8.all (fun t => (t.cps.toList.all fun c => decide (c < 128)) && decide (t.length ≤ 2000)) = true := by decide +kernel
theorem tx8_wt : ∀ t ∈ TX8, WT t ∧ t.length ≤ 2000 := fun t ht => by
  have h := List.all_eq_true.1 tx8_small t ht
  simp only [Bool.and_eq_true, decide_eq_true_eq] at h
  exact ⟨⟨fun c hc => of_decide_eq_true (List.all_eq_true.1 h.1 c hc), by omega⟩, h.2⟩
theorem all_right : ∀ (ts : List Str) (ρ : Env) (S : Sto), 6 < ρ.length → (∀ t ∈ ts, WT t ∧ t.length ≤ 2000) →
    Wp (lcGo (gSet 6) (notT (tst (calF 1 m__law_right (aCons (vget 6) (fun _ => M.pure []))))) (vget 6) ρ (ts.map D.str)) S fun ds S' => ds = []
  | [], ρ, S, _, _ => wp_pure.2 rfl
  | t :: ts, ρ, S, hl, hw => by
    have h6 : (ρ.set 6 (some (D.str t)))[6]? = some (some (D.str t)) := by simp [hl]
    rw [List.map_cons]
    simp only [lcGo, gSet, wp_bind, wp_pure, notT, tst, calF, aCons, vget, h6]
    show Wp (m__law_right [.str t]) S _
    refine (right_ok (hw t (by simp)).1 (hw t (by simp)).2).mono ?_
    rintro v S1 ⟨rfl, T, rfl⟩
    simp only [wp_toB, wp_pure, Bool.not_true, Bool.false_eq_true, if_false, wp_if]
    exact all_right ts ρ _ hl fun z hz => hw z (by simp [hz])
theorem lwZ_ok : Wp (lwZ [o0, o2, o3, o4, o5, o6, o8, some (.lst (TX8.map D.str)), d8]) S fun r S' => r.1 = .rt (.bl true) := by
  unfold lwZ eLc
  simp only [orV, sDrop, ifV, metM_eq, metK_eq, wp_noE, gPutD, wp_lenDT, sSeq, sIf, sAsg, sRet, sNil, gSet, gPut, tst, b2, b1, cal, on1, aCons, vget, mkL, mkT, calF, andT, orT, notT, andV, notV, wp_bind, wp_pure, wp_if, List.map, List.length, List.replicate, List.append, List.cons_append, List.nil_append, Nat.reduceSub, Nat.reduceAdd, Nat.reduceLeDiff, List.getElem?_cons_zero, List.getElem?_cons_succ, List.set_cons_zero, List.set_cons_succ, wp_int, wp_intb, wp_int20, wp_toB, wp_add, wp_abs, wp_neg, wp_lenL, pen0, pen1, pen2, put1, put2, decide_true, decide_false, if_true, if_false, Bool.false_eq_true, Nat.zero_le, exists_eq_left, and_true, true_and, Bool.not_true, Bool.not_false, reduceCtorEq, reduceIte, iSeq]
  have e : ∀ {ds : List D} {S : Sto} {Q : List D → Sto → Prop}, Wp (itemsOf (.lst ds)) S Q ↔ Q ds S := fun {ds S Q} => wp_of rfl
  rw [e]
  rw [if_pos (by simp [TX8])]
  rw [wp_noErrI]
  refine (all_right TX8 _ S (by simp [wipeE]) tx8_wt).mono ?_
  rintro ds S' rfl
  try simp only [orV, sDrop, ifV, metM_eq, metK_eq, wp_noE, gPutD, wp_lenDT, sSeq, sIf, sAsg, sRet, sNil, gSet, gPut, tst, b2, b1, cal, on1, aCons, vget, mkL, mkT, calF, andT, orT, notT, andV, notV, wp_bind, wp_pure, wp_if, List.map, List.length, List.replicate, List.append, List.cons_append, List.nil_append, Nat.reduceSub, Nat.reduceAdd, Nat.reduceLeDiff, List.getElem?_cons_zero, List.getElem?_cons_succ, List.set_cons_zero, List.set_cons_succ, wp_int, wp_intb, wp_int20, wp_toB, wp_add, wp_abs, wp_neg, wp_lenL, pen0, pen1, pen2, put1, put2, decide_true, decide_false, if_true, if_false, Bool.false_eq_true, Nat.zero_le, exists_eq_left, and_true, true_and, Bool.not_true, Bool.not_false, reduceCtorEq, reduceIte]
  rw [wp_eqNil0]
  try simp only [orV, sDrop, ifV, metM_eq, metK_eq, wp_noE, gPutD, wp_lenDT, sSeq, sIf, sAsg, sRet, sNil, gSet, gPut, tst, b2, b1, cal, on1, aCons, vget, mkL, mkT, calF, andT, orT, notT, andV, notV, wp_bind, wp_pure, wp_if, List.map, List.length, List.replicate, List.append, List.cons_append, List.nil_append, Nat.reduceSub, Nat.reduceAdd, Nat.reduceLeDiff, List.getElem?_cons_zero, List.getElem?_cons_succ, List.set_cons_zero, List.set_cons_succ, wp_int, wp_intb, wp_int20, wp_toB, wp_add, wp_abs, wp_neg, wp_lenL, pen0, pen1, pen2, put1, put2, decide_true, decide_false, if_true, if_false, Bool.false_eq_true, Nat.zero_le, exists_eq_left, and_true, true_and, Bool.not_true, Bool.not_false, reduceCtorEq, reduceIte]
end
theorem pen_ok (ns : List Int) (hl : ns.length ≤ 63) : ∃ cells : List Int, cells.length ≤ 63 ∧ ∀ {Q : D → Sto → Prop}, Wp (m__law_pen [.lsr (ns.map D.int)]) [] Q ↔ Q (.ref 0) (penS cells 0 0 []) := by
  have hc : ∀ lo hi : Option Int, ∃ cells : List Int, cells.length ≤ ns.length ∧ cutD (ns.map D.int) lo hi = cells.map D.int := fun lo hi => by
    unfold cutD
    rw [← List.map_drop, ← List.map_take]
    exact ⟨_, by simp; omega, rfl⟩
  obtain ⟨cells, h1, h2⟩ := hc none (some 63)
  refine ⟨cells, by omega, ?_⟩
  intro Q
  refine wp_of (eq_of_wp ?_)
  unfold m__law_pen
  refine wp_run ?_
  unfold b__law_pen
  have e1 : ∀ {S : Sto} {Q : D → Sto → Prop}, Wp (slcM none (some 63) (.lsr (ns.map D.int))) S Q ↔ Q (.lst (cells.map D.int)) S := wp_of (by
    simp only [slcM, asR, h2])
  have e2 : ∀ {S : Sto} {ds : List D} {Q : D → Sto → Prop}, Wp (listM (.lst ds)) S Q ↔ Q (.lst ds) S := wp_of rfl
  have e3 : ∀ {ds : List D} {Q : D → Sto → Prop}, Wp (newL ds) [] Q ↔ Q (.ref 0) [.lst ds] := wp_of rfl
  simp only [orV, sDrop, ifV, metM_eq, metK_eq, wp_noE, gPutD, wp_lenDT, sSeq, sIf, sAsg, sRet, sNil, gSet, gPut, tst, b2, b1, cal, on1, aCons, vget, mkL, mkT, calF, andT, orT, notT, andV, notV, wp_bind, wp_pure, wp_if, List.map, List.length, List.replicate, List.append, List.cons_append, List.nil_append, Nat.reduceSub, Nat.reduceAdd, Nat.reduceLeDiff, List.getElem?_cons_zero, List.getElem?_cons_succ, List.set_cons_zero, List.set_cons_succ, wp_int, wp_intb, wp_int20, wp_toB, wp_add, wp_abs, wp_neg, wp_lenL, pen0, pen1, pen2, put1, put2, decide_true, decide_false, if_true, if_false, Bool.false_eq_true, Nat.zero_le, exists_eq_left, and_true, true_and, Bool.not_true, Bool.not_false, reduceCtorEq, reduceIte, slc, parts, optI, e1, e2, mkC, e3]
  exact ⟨_, rfl, rfl, rfl⟩
theorem math (ns : List Int) (hl : ns.length ≤ 63) : ∃ S, m_law [.lsr (ns.map D.int)] [] = some (.ok (.bl true), S) := by
  have h : Wp (m_law [.lsr (ns.map D.int)]) [] fun v S' => v = .bl true := by
    unfold m_law
    refine wp_run ?_
    rw [law_eq]
    obtain ⟨cells, hc, hp⟩ := pen_ok ns hl
    simp only [orV, sDrop, ifV, metM_eq, metK_eq, wp_noE, gPutD, wp_lenDT, sSeq, sIf, sAsg, sRet, sNil, gSet, gPut, tst, b2, b1, cal, on1, aCons, vget, mkL, mkT, calF, andT, orT, notT, andV, notV, wp_bind, wp_pure, wp_if, List.map, List.length, List.replicate, List.append, List.cons_append, List.nil_append, Nat.reduceSub, Nat.reduceAdd, Nat.reduceLeDiff, List.getElem?_cons_zero, List.getElem?_cons_succ, List.set_cons_zero, List.set_cons_succ, wp_int, wp_intb, wp_int20, wp_toB, wp_add, wp_abs, wp_neg, wp_lenL, pen0, pen1, pen2, put1, put2, decide_true, decide_false, if_true, if_false, Bool.false_eq_true, Nat.zero_le, exists_eq_left, and_true, true_and, Bool.not_true, Bool.not_false, reduceCtorEq, reduceIte, hp, sFor, len1]
    rw [wp_rng (by decide)]
    refine (turnsLoop hc _ (penS cells 0 0 []) 0 _ _ _ _ _ _ ⟨[], 0, 0, Int.le_refl _, Int.le_refl _, rfl⟩ (by rw [rgD_len]; decide)).mono ?_
    rintro r S' ⟨p2, p3, p4, p5, p6, p8, rfl⟩
    try simp only [orV, sDrop, ifV, metM_eq, metK_eq, wp_noE, gPutD, wp_lenDT, sSeq, sIf, sAsg, sRet, sNil, gSet, gPut, tst, b2, b1, cal, on1, aCons, vget, mkL, mkT, calF, andT, orT, notT, andV, notV, wp_bind, wp_pure, wp_if, List.map, List.length, List.replicate, List.append, List.cons_append, List.nil_append, Nat.reduceSub, Nat.reduceAdd, Nat.reduceLeDiff, List.getElem?_cons_zero, List.getElem?_cons_succ, List.set_cons_zero, List.set_cons_succ, wp_int, wp_intb, wp_int20, wp_toB, wp_add, wp_abs, wp_neg, wp_lenL, pen0, pen1, pen2, put1, put2, decide_true, decide_false, if_true, if_false, Bool.false_eq_true, Nat.zero_le, exists_eq_left, and_true, true_and, Bool.not_true, Bool.not_false, reduceCtorEq, reduceIte]
    refine lwZ_ok.mono ?_
    rintro ⟨fl, ρ⟩ S2 h4
    exact ⟨_, h4, rfl⟩
  obtain ⟨x, S', e, rfl⟩ := h
  exact ⟨S', e⟩
end Mi
namespace Mi
open PySem PySem.Spec PyProof.Rows L2
theorem fin {l : PySem.W.OpenLaw} {w : World} {K : PySem.W.Frag} {h : Heap} {mg : Str → Option Value} (X : K.In h) (G : h.Ns mainGlobals mg) {t0 : Tok} {t1 : Tok} {t2 : Tok} {t3 : Tok} {t4 : Tok} {t5 : Tok} {t6 : Tok} {C_HoldError : Addr} {C_TurnError : Addr} {C_AbsentError : Addr} {C_SizeError : Addr} {C_InvalidRow : Addr} {C_InvalidText : Addr} {q0 : Addr} {qn0 : Nat} {q0r0h : Int} {q0r0t : Tok} {q0r0p : Addr} {q0r0o : Option Addr} {q0r0n : Nat} {q0r0s : Array (Option Value)}  {q0r1h : Int} {q0r1t : Tok} {q0r1p : Addr} {q0r1o : Option Addr} {q0r1n : Nat} {q0r1s : Array (Option Value)} {q0r1v0 : Tok} {q0r1v1 : Tok} {q0r2h : Int} {q0r2t : Tok} {q0r2p : Addr} {q0r2o : Option Addr} {q0r2n : Nat} {q0r2s : Array (Option Value)} {q0r2v0 : Tok} {q0r2v1 : Tok} {q0r3h : Int} {q0r3t : Tok} {q0r3p : Addr} {q0r3o : Option Addr} {q0r3n : Nat} {q0r3s : Array (Option Value)} {q0r3v0 : Tok} {q0r4h : Int} {q0r4t : Tok} {q0r4p : Addr} {q0r4o : Option Addr} {q0r4n : Nat} {q0r4s : Array (Option Value)} {q0r4v0 : Tok} {q0r4v1 : Tok} {q0r4v2 : Tok} {q0r5h : Int} {q0r5t : Tok} {q0r5p : Addr} {q0r5o : Option Addr} {q0r5n : Nat} {q0r5s : Array (Option Value)} {q0r5v0 : Tok} {q0r5v1 : Tok} {q0r6h : Int} {q0r6t : Tok} {q0r6p : Addr} {q0r6o : Option Addr} {q0r6n : Nat} {q0r6s : Array (Option Value)} {q0r6v0 : Tok} {q0r6v1 : Tok} {u0 : Addr} {u0n : Nat} {u0s : Array (Option Value)} {u0v0 : Tok} {u0v1 : Tok} {u0v2 : Tok} {u1 : Addr} {u1n : Nat} {u1s : Array (Option Value)} {u1v0 : Tok} {u1v1 : Tok} {u1v2 : Tok} {f0 : Addr} {od0 an0 : Option Addr} {sl0 : Array (Option Value)} {oc0 kV0 dc0 pm0 cd0 ct0 : Value} {f1 : Addr} {od1 an1 : Option Addr} {sl1 : Array (Option Value)} {oc1 kV1 dc1 pm1 cd1 ct1 : Value} {f2 : Addr} {od2 an2 : Option Addr} {sl2 : Array (Option Value)} {oc2 kV2 dc2 pm2 cd2 ct2 : Value} {f3 : Addr} {od3 an3 : Option Addr} {sl3 : Array (Option Value)} {oc3 kV3 dc3 pm3 cd3 ct3 : Value} {f4 : Addr} {od4 an4 : Option Addr} {sl4 : Array (Option Value)} {oc4 kV4 dc4 pm4 cd4 ct4 : Value} {f5 : Addr} {od5 an5 : Option Addr} {sl5 : Array (Option Value)} {oc5 kV5 dc5 pm5 cd5 ct5 : Value} {f6 : Addr} {od6 an6 : Option Addr} {sl6 : Array (Option Value)} {oc6 kV6 dc6 pm6 cd6 ct6 : Value} {f7 : Addr} {od7 an7 : Option Addr} {sl7 : Array (Option Value)} {oc7 kV7 dc7 pm7 cd7 ct7 : Value} {f8 : Addr} {od8 an8 : Option Addr} {sl8 : Array (Option Value)} {oc8 kV8 dc8 pm8 cd8 ct8 : Value} {f9 : Addr} {od9 an9 : Option Addr} {sl9 : Array (Option Value)} {oc9 kV9 dc9 pm9 cd9 ct9 : Value} {f10 : Addr} {od10 an10 : Option Addr} {sl10 : Array (Option Value)} {oc10 kV10 dc10 pm10 cd10 ct10 : Value} {f11 : Addr} {od11 an11 : Option Addr} {sl11 : Array (Option Value)} {oc11 kV11 dc11 pm11 cd11 ct11 : Value} {f12 : Addr} {od12 an12 : Option Addr} {sl12 : Array (Option Value)} {oc12 kV12 dc12 pm12 cd12 ct12 : Value} {f13 : Addr} {od13 an13 : Option Addr} {sl13 : Array (Option Value)} {oc13 kV13 dc13 pm13 cd13 ct13 : Value} {f14 : Addr} {od14 an14 : Option Addr} {sl14 : Array (Option Value)} {oc14 kV14 dc14 pm14 cd14 ct14 : Value} {f15 : Addr} {od15 an15 : Option Addr} {sl15 : Array (Option Value)} {oc15 kV15 dc15 pm15 cd15 ct15 : Value} {f16 : Addr} {od16 an16 : Option Addr} {sl16 : Array (Option Value)} {oc16 kV16 dc16 pm16 cd16 ct16 : Value} {f17 : Addr} {od17 an17 : Option Addr} {sl17 : Array (Option Value)} {oc17 kV17 dc17 pm17 cd17 ct17 : Value} {f18 : Addr} {od18 an18 : Option Addr} {sl18 : Array (Option Value)} {oc18 kV18 dc18 pm18 cd18 ct18 : Value} {f19 : Addr} {od19 an19 : Option Addr} {sl19 : Array (Option Value)} {oc19 kV19 dc19 pm19 cd19 ct19 : Value} {f20 : Addr} {od20 an20 : Option Addr} {sl20 : Array (Option Value)} {oc20 kV20 dc20 pm20 cd20 ct20 : Value} {f21 : Addr} {od21 an21 : Option Addr} {sl21 : Array (Option Value)} {oc21 kV21 dc21 pm21 cd21 ct21 : Value} {f22 : Addr} {od22 an22 : Option Addr} {sl22 : Array (Option Value)} {oc22 kV22 dc22 pm22 cd22 ct22 : Value} {f23 : Addr} {od23 an23 : Option Addr} {sl23 : Array (Option Value)} {oc23 kV23 dc23 pm23 cd23 ct23 : Value} {f24 : Addr} {od24 an24 : Option Addr} {sl24 : Array (Option Value)} {oc24 kV24 dc24 pm24 cd24 ct24 : Value} {f25 : Addr} {od25 an25 : Option Addr} {sl25 : Array (Option Value)} {oc25 kV25 dc25 pm25 cd25 ct25 : Value} {f26 : Addr} {od26 an26 : Option Addr} {sl26 : Array (Option Value)} {oc26 kV26 dc26 pm26 cd26 ct26 : Value} {f27 cA27 PA27 : Addr} {od27 an27 odc27 : Option Addr} {sl27 slc27 : Array (Option Value)} {vsc27 : Array Value} {oc27 kV27 dc27 pm27 ct27 ocl27 : Value} {f28 cA28 PA28 : Addr} {od28 an28 odc28 : Option Addr} {sl28 slc28 : Array (Option Value)} {vsc28 : Array Value} {oc28 kV28 dc28 pm28 ct28 ocl28 : Value}
    (z0 : PySem.W.nsIn K mainGlobals "abs" = some none)
    (z1 : PySem.W.nsIn K mainGlobals "all" = some none)
    (z2 : PySem.W.nsIn K mainGlobals "any" = some none)
    (z3 : PySem.W.nsIn K mainGlobals "bool" = some none)
    (z4 : PySem.W.nsIn K mainGlobals "enumerate" = some none)
    (z5 : PySem.W.nsIn K mainGlobals "int" = some none)
    (z6 : PySem.W.nsIn K mainGlobals "isinstance" = some none)
    (z7 : PySem.W.nsIn K mainGlobals "len" = some none)
    (z8 : PySem.W.nsIn K mainGlobals "list" = some none)
    (z9 : PySem.W.nsIn K mainGlobals "max" = some none)
    (z10 : PySem.W.nsIn K mainGlobals "range" = some none)
    (z11 : PySem.W.nsIn K mainGlobals "repr" = some none)
    (z12 : PySem.W.nsIn K mainGlobals "str" = some none)
    (z13 : PySem.W.nsIn K mainGlobals "tuple" = some none)
    (z14 : PySem.W.nsIn K mainGlobals "zip" = some none)
    (y0 : PySem.W.nsIn K mainGlobals "CHARACTERS" = some (some (.str "abcdefghijklmnopqrstuvwxyz0123456789" t0)))
    (y1 : PySem.W.nsIn K mainGlobals "DIGITS" = some (some (.str "0123456789" t1)))
    (y2 : PySem.W.nsIn K mainGlobals "LETTERS" = some (some (.str "abcdefghijklmnopqrstuvwxyz" t2)))
    (y3 : PySem.W.nsIn K mainGlobals "MOST_CHARACTERS" = some (some (.int 8 t3)))
    (y4 : PySem.W.nsIn K mainGlobals "MOST_DIGITS" = some (some (.int 6 t4)))
    (y5 : PySem.W.nsIn K mainGlobals "MOST_NUMBER" = some (some (.int 999999 t5)))
    (y6 : PySem.W.nsIn K mainGlobals "MOST_PLACES" = some (some (.int 8 t6)))
    (wn_HoldError : PySem.W.nsIn K mainGlobals "HoldError" = some (some (.ref C_HoldError)))
    (xk_HoldError : xkB K C_HoldError [.type "ValueError", .type "Exception", .type "BaseException", .type "object"] "ValueError.__new__" = true)
    (wn_TurnError : PySem.W.nsIn K mainGlobals "TurnError" = some (some (.ref C_TurnError)))
    (xk_TurnError : xkB K C_TurnError [.type "RuntimeError", .type "Exception", .type "BaseException", .type "object"] "RuntimeError.__new__" = true)
    (wn_AbsentError : PySem.W.nsIn K mainGlobals "AbsentError" = some (some (.ref C_AbsentError)))
    (xk_AbsentError : xkB K C_AbsentError [.type "LookupError", .type "Exception", .type "BaseException", .type "object"] "LookupError.__new__" = true)
    (wn_SizeError : PySem.W.nsIn K mainGlobals "SizeError" = some (some (.ref C_SizeError)))
    (xk_SizeError : xkB K C_SizeError [.type "OverflowError", .type "ArithmeticError", .type "Exception", .type "BaseException", .type "object"] "OverflowError.__new__" = true)
    (wn_InvalidRow : PySem.W.nsIn K mainGlobals "InvalidRow" = some (some (.ref C_InvalidRow)))
    (xk_InvalidRow : xkB K C_InvalidRow [.type "ValueError", .type "Exception", .type "BaseException", .type "object"] "ValueError.__new__" = true)
    (wn_InvalidText : PySem.W.nsIn K mainGlobals "InvalidText" = some (some (.ref C_InvalidText)))
    (xk_InvalidText : xkB K C_InvalidText [.type "ValueError", .type "Exception", .type "BaseException", .type "object"] "ValueError.__new__" = true)
    (x_InvalidText_line : PySem.W.findIn K (.ref C_InvalidText) "line" = some none)
    (x_InvalidText_word : PySem.W.findIn K (.ref C_InvalidText) "word" = some none)
    (ex_InvalidText : PySem.W.exmAny K (.ref C_InvalidText) [.ref C_HoldError, .ref C_TurnError, .ref C_AbsentError, .ref C_SizeError] = some true)
    (xis : xisB K [(Str.ofString "HoldError", C_HoldError), (Str.ofString "TurnError", C_TurnError), (Str.ofString "AbsentError", C_AbsentError), (Str.ofString "SizeError", C_SizeError), (Str.ofString "InvalidRow", C_InvalidRow), (Str.ofString "InvalidText", C_InvalidText)] xtb [((5, "InvalidText"), C_InvalidText), ((4, "InvalidRow"), C_InvalidRow)] xbl = true)
    (q0a : PySem.W.nsIn K mainGlobals "LINES" = some (some (.ref q0)))
    (q0b : K.lookup q0 = some ⟨.type "dict", none, .dict #[⟨q0r0h, .str "readers" q0r0t, .ref q0r0p⟩, ⟨q0r1h, .str "view" q0r1t, .ref q0r1p⟩, ⟨q0r2h, .str "stay" q0r2t, .ref q0r2p⟩, ⟨q0r3h, .str "apart" q0r3t, .ref q0r3p⟩, ⟨q0r4h, .str "range" q0r4t, .ref q0r4p⟩, ⟨q0r5h, .str "word" q0r5t, .ref q0r5p⟩, ⟨q0r6h, .str "span" q0r6t, .ref q0r6p⟩] qn0, #[]⟩)
    (q0r0l : K.lookup q0r0p = some ⟨.type "tuple", q0r0o, .seq #[] q0r0n, q0r0s⟩)
    (q0r1l : K.lookup q0r1p = some ⟨.type "tuple", q0r1o, .seq #[.str "number" q0r1v0, .str "view" q0r1v1] q0r1n, q0r1s⟩)
    (q0r2l : K.lookup q0r2p = some ⟨.type "tuple", q0r2o, .seq #[.str "view" q0r2v0, .str "view" q0r2v1] q0r2n, q0r2s⟩)
    (q0r3l : K.lookup q0r3p = some ⟨.type "tuple", q0r3o, .seq #[.str "view" q0r3v0] q0r3n, q0r3s⟩)
    (q0r4l : K.lookup q0r4p = some ⟨.type "tuple", q0r4o, .seq #[.str "number" q0r4v0, .str "view" q0r4v1, .str "view" q0r4v2] q0r4n, q0r4s⟩)
    (q0r5l : K.lookup q0r5p = some ⟨.type "tuple", q0r5o, .seq #[.str "view" q0r5v0, .str "view" q0r5v1] q0r5n, q0r5s⟩)
    (q0r6l : K.lookup q0r6p = some ⟨.type "tuple", q0r6o, .seq #[.str "view" q0r6v0, .str "view" q0r6v1] q0r6n, q0r6s⟩)
    (q0k : PySem.W.KeysLit w.params (#[⟨q0r0h, .str "readers" q0r0t, .ref q0r0p⟩, ⟨q0r1h, .str "view" q0r1t, .ref q0r1p⟩, ⟨q0r2h, .str "stay" q0r2t, .ref q0r2p⟩, ⟨q0r3h, .str "apart" q0r3t, .ref q0r3p⟩, ⟨q0r4h, .str "range" q0r4t, .ref q0r4p⟩, ⟨q0r5h, .str "word" q0r5t, .ref q0r5p⟩, ⟨q0r6h, .str "span" q0r6t, .ref q0r6p⟩] : Array DictEntry).toList) (q0s : (q0 == sysModules) = false)
    (u0a : PySem.W.nsIn K mainGlobals "BARS" = some (some (.ref u0)))
    (u0l : K.lookup u0 = some ⟨.type "tuple", none, .seq #[.str "range" u0v0, .str "word" u0v1, .str "span" u0v2] u0n, u0s⟩)
    (u1a : PySem.W.nsIn K mainGlobals "ENTRIES" = some (some (.ref u1)))
    (u1l : K.lookup u1 = some ⟨.type "tuple", none, .seq #[.str "view" u1v0, .str "stay" u1v1, .str "apart" u1v2] u1n, u1s⟩)
    (a0 : PySem.W.findIn K (.ref C_InvalidText) "__init__" = some (some (.ref f0)))
    (t0 : PySem.W.typeIn K (.ref f0) = some (.type "function"))
    (l0 : K.lookup f0 = some ⟨oc0, od0, .func (PySem.W.fnOf "__init__" "InvalidText.__init__" (defArgs s_InvalidText___init__) (defBody s_InvalidText___init__) (defScope s_InvalidText___init__) .none kV0 dc0 pm0 an0 cd0 ct0), sl0⟩)
    (c0 : PySem.W.codeIn K cd0 "InvalidText.__init__" = true)
    (k0 : PySem.W.keepIn K (.ref f0) = true)
    (a1 : PySem.W.nsIn K mainGlobals "is_key" = some (some (.ref f1)))
    (l1 : K.lookup f1 = some ⟨oc1, od1, .func (PySem.W.fnOf "is_key" "is_key" (defArgs s_is_key) (defBody s_is_key) (defScope s_is_key) .none kV1 dc1 pm1 an1 cd1 ct1), sl1⟩)
    (c1 : PySem.W.codeIn K cd1 "is_key" = true) (k1 : PySem.W.keepIn K (.ref f1) = true)
    (a2 : PySem.W.nsIn K mainGlobals "is_value" = some (some (.ref f2)))
    (l2 : K.lookup f2 = some ⟨oc2, od2, .func (PySem.W.fnOf "is_value" "is_value" (defArgs s_is_value) (defBody s_is_value) (defScope s_is_value) .none kV2 dc2 pm2 an2 cd2 ct2), sl2⟩)
    (c2 : PySem.W.codeIn K cd2 "is_value" = true) (k2 : PySem.W.keepIn K (.ref f2) = true)
    (a3 : PySem.W.nsIn K mainGlobals "is_number" = some (some (.ref f3)))
    (l3 : K.lookup f3 = some ⟨oc3, od3, .func (PySem.W.fnOf "is_number" "is_number" (defArgs s_is_number) (defBody s_is_number) (defScope s_is_number) .none kV3 dc3 pm3 an3 cd3 ct3), sl3⟩)
    (c3 : PySem.W.codeIn K cd3 "is_number" = true) (k3 : PySem.W.keepIn K (.ref f3) = true)
    (a4 : PySem.W.nsIn K mainGlobals "is_view" = some (some (.ref f4)))
    (l4 : K.lookup f4 = some ⟨oc4, od4, .func (PySem.W.fnOf "is_view" "is_view" (defArgs s_is_view) (defBody s_is_view) (defScope s_is_view) .none kV4 dc4 pm4 an4 cd4 ct4), sl4⟩)
    (c4 : PySem.W.codeIn K cd4 "is_view" = true) (k4 : PySem.W.keepIn K (.ref f4) = true)
    (a5 : PySem.W.nsIn K mainGlobals "is_place" = some (some (.ref f5)))
    (l5 : K.lookup f5 = some ⟨oc5, od5, .func (PySem.W.fnOf "is_place" "is_place" (defArgs s_is_place) (defBody s_is_place) (defScope s_is_place) .none kV5 dc5 pm5 an5 cd5 ct5), sl5⟩)
    (c5 : PySem.W.codeIn K cd5 "is_place" = true) (k5 : PySem.W.keepIn K (.ref f5) = true)
    (a6 : PySem.W.nsIn K mainGlobals "is_ascending" = some (some (.ref f6)))
    (l6 : K.lookup f6 = some ⟨oc6, od6, .func (PySem.W.fnOf "is_ascending" "is_ascending" (defArgs s_is_ascending) (defBody s_is_ascending) (defScope s_is_ascending) .none kV6 dc6 pm6 an6 cd6 ct6), sl6⟩)
    (c6 : PySem.W.codeIn K cd6 "is_ascending" = true) (k6 : PySem.W.keepIn K (.ref f6) = true)
    (a7 : PySem.W.nsIn K mainGlobals "_are_slots" = some (some (.ref f7)))
    (l7 : K.lookup f7 = some ⟨oc7, od7, .func (PySem.W.fnOf "_are_slots" "_are_slots" (defArgs s__are_slots) (defBody s__are_slots) (defScope s__are_slots) .none kV7 dc7 pm7 an7 cd7 ct7), sl7⟩)
    (c7 : PySem.W.codeIn K cd7 "_are_slots" = true) (k7 : PySem.W.keepIn K (.ref f7) = true)
    (a8 : PySem.W.nsIn K mainGlobals "part_fits" = some (some (.ref f8)))
    (l8 : K.lookup f8 = some ⟨oc8, od8, .func (PySem.W.fnOf "part_fits" "part_fits" (defArgs s_part_fits) (defBody s_part_fits) (defScope s_part_fits) .none kV8 dc8 pm8 an8 cd8 ct8), sl8⟩)
    (c8 : PySem.W.codeIn K cd8 "part_fits" = true) (k8 : PySem.W.keepIn K (.ref f8) = true)
    (a9 : PySem.W.nsIn K mainGlobals "read_integer" = some (some (.ref f9)))
    (l9 : K.lookup f9 = some ⟨oc9, od9, .func (PySem.W.fnOf "read_integer" "read_integer" (defArgs s_read_integer) (defBody s_read_integer) (defScope s_read_integer) .none kV9 dc9 pm9 an9 cd9 ct9), sl9⟩)
    (c9 : PySem.W.codeIn K cd9 "read_integer" = true) (k9 : PySem.W.keepIn K (.ref f9) = true)
    (a10 : PySem.W.nsIn K mainGlobals "_read_line" = some (some (.ref f10)))
    (l10 : K.lookup f10 = some ⟨oc10, od10, .func (PySem.W.fnOf "_read_line" "_read_line" (defArgs s__read_line) (defBody s__read_line) (defScope s__read_line) .none kV10 dc10 pm10 an10 cd10 ct10), sl10⟩)
    (c10 : PySem.W.codeIn K cd10 "_read_line" = true) (k10 : PySem.W.keepIn K (.ref f10) = true)
    (a11 : PySem.W.nsIn K mainGlobals "_write_line" = some (some (.ref f11)))
    (l11 : K.lookup f11 = some ⟨oc11, od11, .func (PySem.W.fnOf "_write_line" "_write_line" (defArgs s__write_line) (defBody s__write_line) (defScope s__write_line) .none kV11 dc11 pm11 an11 cd11 ct11), sl11⟩)
    (c11 : PySem.W.codeIn K cd11 "_write_line" = true) (k11 : PySem.W.keepIn K (.ref f11) = true)
    (a12 : PySem.W.nsIn K mainGlobals "_law_pen" = some (some (.ref f12)))
    (l12 : K.lookup f12 = some ⟨oc12, od12, .func (PySem.W.fnOf "_law_pen" "_law_pen" (defArgs s__law_pen) (defBody s__law_pen) (defScope s__law_pen) .none kV12 dc12 pm12 an12 cd12 ct12), sl12⟩)
    (c12 : PySem.W.codeIn K cd12 "_law_pen" = true) (k12 : PySem.W.keepIn K (.ref f12) = true)
    (a13 : PySem.W.nsIn K mainGlobals "_law_draw" = some (some (.ref f13)))
    (l13 : K.lookup f13 = some ⟨oc13, od13, .func (PySem.W.fnOf "_law_draw" "_law_draw" (defArgs s__law_draw) (defBody s__law_draw) (defScope s__law_draw) .none kV13 dc13 pm13 an13 cd13 ct13), sl13⟩)
    (c13 : PySem.W.codeIn K cd13 "_law_draw" = true) (k13 : PySem.W.keepIn K (.ref f13) = true)
    (a14 : PySem.W.nsIn K mainGlobals "_law_pick" = some (some (.ref f14)))
    (l14 : K.lookup f14 = some ⟨oc14, od14, .func (PySem.W.fnOf "_law_pick" "_law_pick" (defArgs s__law_pick) (defBody s__law_pick) (defScope s__law_pick) .none kV14 dc14 pm14 an14 cd14 ct14), sl14⟩)
    (c14 : PySem.W.codeIn K cd14 "_law_pick" = true) (k14 : PySem.W.keepIn K (.ref f14) = true)
    (a15 : PySem.W.nsIn K mainGlobals "_law_odd" = some (some (.ref f15)))
    (l15 : K.lookup f15 = some ⟨oc15, od15, .func (PySem.W.fnOf "_law_odd" "_law_odd" (defArgs s__law_odd) (defBody s__law_odd) (defScope s__law_odd) .none kV15 dc15 pm15 an15 cd15 ct15), sl15⟩)
    (c15 : PySem.W.codeIn K cd15 "_law_odd" = true) (k15 : PySem.W.keepIn K (.ref f15) = true)
    (a16 : PySem.W.nsIn K mainGlobals "_law_index" = some (some (.ref f16)))
    (l16 : K.lookup f16 = some ⟨oc16, od16, .func (PySem.W.fnOf "_law_index" "_law_index" (defArgs s__law_index) (defBody s__law_index) (defScope s__law_index) .none kV16 dc16 pm16 an16 cd16 ct16), sl16⟩)
    (c16 : PySem.W.codeIn K cd16 "_law_index" = true) (k16 : PySem.W.keepIn K (.ref f16) = true)
    (a17 : PySem.W.nsIn K mainGlobals "_law_paper" = some (some (.ref f17)))
    (l17 : K.lookup f17 = some ⟨oc17, od17, .func (PySem.W.fnOf "_law_paper" "_law_paper" (defArgs s__law_paper) (defBody s__law_paper) (defScope s__law_paper) .none kV17 dc17 pm17 an17 cd17 ct17), sl17⟩)
    (c17 : PySem.W.codeIn K cd17 "_law_paper" = true) (k17 : PySem.W.keepIn K (.ref f17) = true)
    (a18 : PySem.W.nsIn K mainGlobals "_law_written" = some (some (.ref f18)))
    (l18 : K.lookup f18 = some ⟨oc18, od18, .func (PySem.W.fnOf "_law_written" "_law_written" (defArgs s__law_written) (defBody s__law_written) (defScope s__law_written) .none kV18 dc18 pm18 an18 cd18 ct18), sl18⟩)
    (c18 : PySem.W.codeIn K cd18 "_law_written" = true) (k18 : PySem.W.keepIn K (.ref f18) = true)
    (a19 : PySem.W.nsIn K mainGlobals "_law_integer" = some (some (.ref f19)))
    (l19 : K.lookup f19 = some ⟨oc19, od19, .func (PySem.W.fnOf "_law_integer" "_law_integer" (defArgs s__law_integer) (defBody s__law_integer) (defScope s__law_integer) .none kV19 dc19 pm19 an19 cd19 ct19), sl19⟩)
    (c19 : PySem.W.codeIn K cd19 "_law_integer" = true) (k19 : PySem.W.keepIn K (.ref f19) = true)
    (a20 : PySem.W.nsIn K mainGlobals "_law_line" = some (some (.ref f20)))
    (l20 : K.lookup f20 = some ⟨oc20, od20, .func (PySem.W.fnOf "_law_line" "_law_line" (defArgs s__law_line) (defBody s__law_line) (defScope s__law_line) .none kV20 dc20 pm20 an20 cd20 ct20), sl20⟩)
    (c20 : PySem.W.codeIn K cd20 "_law_line" = true) (k20 : PySem.W.keepIn K (.ref f20) = true)
    (a21 : PySem.W.nsIn K mainGlobals "_law_read" = some (some (.ref f21)))
    (l21 : K.lookup f21 = some ⟨oc21, od21, .func (PySem.W.fnOf "_law_read" "_law_read" (defArgs s__law_read) (defBody s__law_read) (defScope s__law_read) .none kV21 dc21 pm21 an21 cd21 ct21), sl21⟩)
    (c21 : PySem.W.codeIn K cd21 "_law_read" = true) (k21 : PySem.W.keepIn K (.ref f21) = true)
    (a22 : PySem.W.nsIn K mainGlobals "_law_bent" = some (some (.ref f22)))
    (l22 : K.lookup f22 = some ⟨oc22, od22, .func (PySem.W.fnOf "_law_bent" "_law_bent" (defArgs s__law_bent) (defBody s__law_bent) (defScope s__law_bent) .none kV22 dc22 pm22 an22 cd22 ct22), sl22⟩)
    (c22 : PySem.W.codeIn K cd22 "_law_bent" = true) (k22 : PySem.W.keepIn K (.ref f22) = true)
    (a23 : PySem.W.nsIn K mainGlobals "_law_heard" = some (some (.ref f23)))
    (l23 : K.lookup f23 = some ⟨oc23, od23, .func (PySem.W.fnOf "_law_heard" "_law_heard" (defArgs s__law_heard) (defBody s__law_heard) (defScope s__law_heard) .none kV23 dc23 pm23 an23 cd23 ct23), sl23⟩)
    (c23 : PySem.W.codeIn K cd23 "_law_heard" = true) (k23 : PySem.W.keepIn K (.ref f23) = true)
    (a24 : PySem.W.nsIn K mainGlobals "write_paper" = some (some (.ref f24)))
    (l24 : K.lookup f24 = some ⟨oc24, od24, .func (PySem.W.fnOf "write_paper" "write_paper" (defArgs s_write_paper) (defBody s_write_paper) (defScope s_write_paper) .none kV24 dc24 pm24 an24 cd24 ct24), sl24⟩)
    (c24 : PySem.W.codeIn K cd24 "write_paper" = true) (k24 : PySem.W.keepIn K (.ref f24) = true)
    (a25 : PySem.W.nsIn K mainGlobals "_read_entries" = some (some (.ref f25)))
    (l25 : K.lookup f25 = some ⟨oc25, od25, .func (PySem.W.fnOf "_read_entries" "_read_entries" (defArgs s__read_entries) (defBody s__read_entries) (defScope s__read_entries) .none kV25 dc25 pm25 an25 cd25 ct25), sl25⟩)
    (c25 : PySem.W.codeIn K cd25 "_read_entries" = true) (k25 : PySem.W.keepIn K (.ref f25) = true)
    (a26 : PySem.W.nsIn K mainGlobals "read_paper" = some (some (.ref f26)))
    (l26 : K.lookup f26 = some ⟨oc26, od26, .func (PySem.W.fnOf "read_paper" "read_paper" (defArgs s_read_paper) (defBody s_read_paper) (defScope s_read_paper) .none kV26 dc26 pm26 an26 cd26 ct26), sl26⟩)
    (c26 : PySem.W.codeIn K cd26 "read_paper" = true) (k26 : PySem.W.keepIn K (.ref f26) = true)
    (a27 : PySem.W.nsIn K mainGlobals "_law_right" = some (some (.ref f27)))
    (l27 : K.lookup f27 = some ⟨oc27, od27, .func (PySem.W.fnOf "_law_right" "_law_right" (defArgs s__law_right) (defBody s__law_right) (defScope s__law_right) .none kV27 dc27 pm27 an27 (.ref cA27) ct27), sl27⟩)
    (c27 : PySem.W.codeIn K (.ref cA27) "_law_right" = true)
    (k27 : PySem.W.keepIn K (.ref f27) = true)
    (lm27 : K.lookup cA27 = some ⟨ocl27, odc27, .fields vsc27, slc27⟩)
    (lv27 : (vsc27[11]? : Option Value) = some (.ref PA27))
    (lh27 : PySem.W.codeHdIn K cA27 PA27 = true)
    (lp27 : K.lookup PA27 = none)
    (a28 : PySem.W.nsIn K mainGlobals "law" = some (some (.ref f28)))
    (l28 : K.lookup f28 = some ⟨oc28, od28, .func (PySem.W.fnOf "law" "law" (defArgs s_law) (defBody s_law) (defScope s_law) .none kV28 dc28 pm28 an28 (.ref cA28) ct28), sl28⟩)
    (c28 : PySem.W.codeIn K (.ref cA28) "law" = true)
    (k28 : PySem.W.keepIn K (.ref f28) = true)
    (lm28 : K.lookup cA28 = some ⟨ocl28, odc28, .fields vsc28, slc28⟩)
    (lv28 : (vsc28[11]? : Option Value) = some (.ref PA28))
    (lh28 : PySem.W.codeHdIn K cA28 PA28 = true)
    (lp28 : K.lookup PA28 = none)
    (ne27_28 : PA27 ≠ PA28) : ∀ fa, mg "law" = some (.ref fa) → (∀ x ∈ lamDefs, OwnTab K mg x h) → ∃ cs : List (Addr × Addr), (∀ p ∈ cs, h.get? p.2 = some emptyT ∧ K.lookup p.2 = none ∧ PySem.W.codeHdIn K p.1 p.2 = true) ∧ (∀ p ∈ LamTabs.T K, p.1 ∈ cs.map (·.2)) ∧ TopOk l.prog w K mg cs fa "_law_script" (spM K 1 m_law) := by
  have cx_HoldError : XCl K C_HoldError := xk_of PySem.F.excBase_ValueError PySem.F.store_ValueError xk_HoldError
  have cx_TurnError : XCl K C_TurnError := xk_of PySem.F.excBase_RuntimeError PySem.F.store_RuntimeError xk_TurnError
  have cx_AbsentError : XCl K C_AbsentError := xk_of PySem.F.excBase_LookupError PySem.F.store_LookupError xk_AbsentError
  have cx_SizeError : XCl K C_SizeError := xk_of PySem.F.excBase_OverflowError PySem.F.store_OverflowError xk_SizeError
  have cx_InvalidRow : XCl K C_InvalidRow := xk_of PySem.F.excBase_ValueError PySem.F.store_ValueError xk_InvalidRow
  have cx_InvalidText : XCl K C_InvalidText := xk_of PySem.F.excBase_ValueError PySem.F.store_ValueError xk_InvalidText
  have T : Txt w K mg := ⟨PySem.W.mg_none_of X G z0, PySem.W.mg_none_of X G z1, PySem.W.mg_none_of X G z2, PySem.W.mg_none_of X G z3, PySem.W.mg_none_of X G z4, PySem.W.mg_none_of X G z5, PySem.W.mg_none_of X G z6, PySem.W.mg_none_of X G z7, PySem.W.mg_none_of X G z8, PySem.W.mg_none_of X G z9, PySem.W.mg_none_of X G z10, PySem.W.mg_none_of X G z11, PySem.W.mg_none_of X G z12, PySem.W.mg_none_of X G z13, PySem.W.mg_none_of X G z14, ⟨_, PySem.W.mg_of X G y0⟩, ⟨_, PySem.W.mg_of X G y1⟩, ⟨_, PySem.W.mg_of X G y2⟩, ⟨_, PySem.W.mg_of X G y3⟩, ⟨_, PySem.W.mg_of X G y4⟩, ⟨_, PySem.W.mg_of X G y5⟩, ⟨_, PySem.W.mg_of X G y6⟩, (xfld_cons wn_InvalidText cx_InvalidText x_InvalidText_line xfld_nil), (xfld_cons wn_InvalidText cx_InvalidText x_InvalidText_word xfld_nil), ⟨_, _, _, _, PySem.W.mg_of X G wn_HoldError, PySem.W.mg_of X G wn_TurnError, PySem.W.mg_of X G wn_AbsentError, PySem.W.mg_of X G wn_SizeError, (List.forall_mem_cons.2 ⟨fun C hC => by cases hC.symm.trans wn_InvalidText; exact ex_InvalidText, (fun _ h => absurd h List.not_mem_nil)⟩)⟩, ⟨_, PySem.W.mg_of X G wn_InvalidText⟩, ⟨_, PySem.W.mg_of X G wn_InvalidRow⟩, xis_of (cs := [(Str.ofString "HoldError", C_HoldError), (Str.ofString "TurnError", C_TurnError), (Str.ofString "AbsentError", C_AbsentError), (Str.ofString "SizeError", C_SizeError), (Str.ofString "InvalidRow", C_InvalidRow), (Str.ofString "InvalidText", C_InvalidText)]) (ow := [((5, "InvalidText"), C_InvalidText), ((4, "InvalidRow"), C_InvalidRow)]) (List.forall_mem_cons.2 ⟨⟨wn_HoldError, cx_HoldError⟩, (List.forall_mem_cons.2 ⟨⟨wn_TurnError, cx_TurnError⟩, (List.forall_mem_cons.2 ⟨⟨wn_AbsentError, cx_AbsentError⟩, (List.forall_mem_cons.2 ⟨⟨wn_SizeError, cx_SizeError⟩, (List.forall_mem_cons.2 ⟨⟨wn_InvalidRow, cx_InvalidRow⟩, (List.forall_mem_cons.2 ⟨⟨wn_InvalidText, cx_InvalidText⟩, (fun _ h => absurd h List.not_mem_nil)⟩)⟩)⟩)⟩)⟩)⟩) rfl (List.forall_mem_cons.2 ⟨PySem.W.mg_of X G wn_InvalidText, (List.forall_mem_cons.2 ⟨PySem.W.mg_of X G wn_InvalidRow, (fun _ h => absurd h List.not_mem_nil)⟩)⟩) rfl xis, ⟨_, PySem.W.mg_of X G q0a, ktab_of ⟨q0b, q0k, q0s⟩ (⟨⟨_, rfl⟩, ⟨.ref q0r0p, rfl, rv_ktup q0r0l (by simp) ⟨[], .nil, fun _ => .nil⟩⟩, ⟨⟨_, rfl⟩, ⟨.ref q0r1p, rfl, rv_ktup q0r1l (by simp) ⟨[V.str "number", V.str "view"], .cons ⟨_, rfl⟩ (.cons ⟨_, rfl⟩ .nil), fun _ => .cons (.str _) (.cons (.str _) .nil)⟩⟩, ⟨⟨_, rfl⟩, ⟨.ref q0r2p, rfl, rv_ktup q0r2l (by simp) ⟨[V.str "view", V.str "view"], .cons ⟨_, rfl⟩ (.cons ⟨_, rfl⟩ .nil), fun _ => .cons (.str _) (.cons (.str _) .nil)⟩⟩, ⟨⟨_, rfl⟩, ⟨.ref q0r3p, rfl, rv_ktup q0r3l (by simp) ⟨[V.str "view"], .cons ⟨_, rfl⟩ .nil, fun _ => .cons (.str _) .nil⟩⟩, ⟨⟨_, rfl⟩, ⟨.ref q0r4p, rfl, rv_ktup q0r4l (by simp) ⟨[V.str "number", V.str "view", V.str "view"], .cons ⟨_, rfl⟩ (.cons ⟨_, rfl⟩ (.cons ⟨_, rfl⟩ .nil)), fun _ => .cons (.str _) (.cons (.str _) (.cons (.str _) .nil))⟩⟩, ⟨⟨_, rfl⟩, ⟨.ref q0r5p, rfl, rv_ktup q0r5l (by simp) ⟨[V.str "view", V.str "view"], .cons ⟨_, rfl⟩ (.cons ⟨_, rfl⟩ .nil), fun _ => .cons (.str _) (.cons (.str _) .nil)⟩⟩, ⟨⟨_, rfl⟩, ⟨.ref q0r6p, rfl, rv_ktup q0r6l (by simp) ⟨[V.str "view", V.str "view"], .cons ⟨_, rfl⟩ (.cons ⟨_, rfl⟩ .nil), fun _ => .cons (.str _) (.cons (.str _) .nil)⟩⟩, trivial⟩⟩⟩⟩⟩⟩⟩)⟩, ⟨_, PySem.W.mg_of X G u0a, ktup_of (vs := [V.str "range", V.str "word", V.str "span"]) u0l (by simp) (.cons ⟨_, rfl⟩ (.cons ⟨_, rfl⟩ (.cons ⟨_, rfl⟩ .nil))) fun _ => .cons (.str _) (.cons (.str _) (.cons (.str _) .nil))⟩, ⟨_, PySem.W.mg_of X G u1a, ktup_of (vs := [V.str "view", V.str "stay", V.str "apart"]) u1l (by simp) (.cons ⟨_, rfl⟩ (.cons ⟨_, rfl⟩ (.cons ⟨_, rfl⟩ .nil))) fun _ => .cons (.str _) (.cons (.str _) (.cons (.str _) .nil))⟩⟩
  have D_InvalidText___init__ : XMkAt K mg "InvalidText" "InvalidText.__init__" s_InvalidText___init__ ps_InvalidText___init__ ["line", "word"] := ⟨_, _, _, wn_InvalidText, PySem.W.mg_of X G wn_InvalidText, cx_InvalidText, (List.forall_mem_cons.2 ⟨taker_of x_InvalidText_line, (List.forall_mem_cons.2 ⟨taker_of x_InvalidText_word, (fun _ h => absurd h List.not_mem_nil)⟩)⟩), a0, t0, fun_mk (st := s_InvalidText___init__) l0 c0 k0, (fun_mk (st := s_InvalidText___init__) l0 c0 k0).binds (ps := ps_InvalidText___init__) fun _ _ _ _ _ _ us hl => match us, hl with | [_, _, _], _ => rfl, rfl⟩
  have D_is_key : DefAt K mg "is_key" s_is_key ps_is_key := ⟨⟨_, _, fun_mk (st := s_is_key) l1 c1 k1, PySem.W.mg_of X G a1, (fun_mk (st := s_is_key) l1 c1 k1).binds (ps := ps_is_key) fun _ _ _ _ _ _ us hl => match us, hl with | [_], _ => rfl⟩⟩
  have D_is_value : DefAt K mg "is_value" s_is_value ps_is_value := ⟨⟨_, _, fun_mk (st := s_is_value) l2 c2 k2, PySem.W.mg_of X G a2, (fun_mk (st := s_is_value) l2 c2 k2).binds (ps := ps_is_value) fun _ _ _ _ _ _ us hl => match us, hl with | [_], _ => rfl⟩⟩
  have D_is_number : DefAt K mg "is_number" s_is_number ps_is_number := ⟨⟨_, _, fun_mk (st := s_is_number) l3 c3 k3, PySem.W.mg_of X G a3, (fun_mk (st := s_is_number) l3 c3 k3).binds (ps := ps_is_number) fun _ _ _ _ _ _ us hl => match us, hl with | [_], _ => rfl⟩⟩
  have D_is_view : DefAt K mg "is_view" s_is_view ps_is_view := ⟨⟨_, _, fun_mk (st := s_is_view) l4 c4 k4, PySem.W.mg_of X G a4, (fun_mk (st := s_is_view) l4 c4 k4).binds (ps := ps_is_view) fun _ _ _ _ _ _ us hl => match us, hl with | [_], _ => rfl⟩⟩
  have D_is_place : DefAt K mg "is_place" s_is_place ps_is_place := ⟨⟨_, _, fun_mk (st := s_is_place) l5 c5 k5, PySem.W.mg_of X G a5, (fun_mk (st := s_is_place) l5 c5 k5).binds (ps := ps_is_place) fun _ _ _ _ _ _ us hl => match us, hl with | [_], _ => rfl⟩⟩
  have D_is_ascending : DefAt K mg "is_ascending" s_is_ascending ps_is_ascending := ⟨⟨_, _, fun_mk (st := s_is_ascending) l6 c6 k6, PySem.W.mg_of X G a6, (fun_mk (st := s_is_ascending) l6 c6 k6).binds (ps := ps_is_ascending) fun _ _ _ _ _ _ us hl => match us, hl with | [_], _ => rfl⟩⟩
  have D__are_slots : DefAt K mg "_are_slots" s__are_slots ps__are_slots := ⟨⟨_, _, fun_mk (st := s__are_slots) l7 c7 k7, PySem.W.mg_of X G a7, (fun_mk (st := s__are_slots) l7 c7 k7).binds (ps := ps__are_slots) fun _ _ _ _ _ _ us hl => match us, hl with | [_], _ => rfl⟩⟩
  have D_part_fits : DefAt K mg "part_fits" s_part_fits ps_part_fits := ⟨⟨_, _, fun_mk (st := s_part_fits) l8 c8 k8, PySem.W.mg_of X G a8, (fun_mk (st := s_part_fits) l8 c8 k8).binds (ps := ps_part_fits) fun _ _ _ _ _ _ us hl => match us, hl with | [_, _, _], _ => rfl⟩⟩
  have D_read_integer : DefAt K mg "read_integer" s_read_integer ps_read_integer := ⟨⟨_, _, fun_mk (st := s_read_integer) l9 c9 k9, PySem.W.mg_of X G a9, (fun_mk (st := s_read_integer) l9 c9 k9).binds (ps := ps_read_integer) fun _ _ _ _ _ _ us hl => match us, hl with | [_], _ => rfl⟩⟩
  have D__read_line : DefAt K mg "_read_line" s__read_line ps__read_line := ⟨⟨_, _, fun_mk (st := s__read_line) l10 c10 k10, PySem.W.mg_of X G a10, (fun_mk (st := s__read_line) l10 c10 k10).binds (ps := ps__read_line) fun _ _ _ _ _ _ us hl => match us, hl with | [_, _, _], _ => rfl⟩⟩
  have D__write_line : DefAt K mg "_write_line" s__write_line ps__write_line := ⟨⟨_, _, fun_mk (st := s__write_line) l11 c11 k11, PySem.W.mg_of X G a11, (fun_mk (st := s__write_line) l11 c11 k11).binds (ps := ps__write_line) fun _ _ _ _ _ _ us hl => match us, hl with | [_], _ => rfl⟩⟩
  have D__law_pen : DefAt K mg "_law_pen" s__law_pen ps__law_pen := ⟨⟨_, _, fun_mk (st := s__law_pen) l12 c12 k12, PySem.W.mg_of X G a12, (fun_mk (st := s__law_pen) l12 c12 k12).binds (ps := ps__law_pen) fun _ _ _ _ _ _ us hl => match us, hl with | [_], _ => rfl⟩⟩
  have D__law_draw : DefAt K mg "_law_draw" s__law_draw ps__law_draw := ⟨⟨_, _, fun_mk (st := s__law_draw) l13 c13 k13, PySem.W.mg_of X G a13, (fun_mk (st := s__law_draw) l13 c13 k13).binds (ps := ps__law_draw) fun _ _ _ _ _ _ us hl => match us, hl with | [_, _], _ => rfl⟩⟩
  have D__law_pick : DefAt K mg "_law_pick" s__law_pick ps__law_pick := ⟨⟨_, _, fun_mk (st := s__law_pick) l14 c14 k14, PySem.W.mg_of X G a14, (fun_mk (st := s__law_pick) l14 c14 k14).binds (ps := ps__law_pick) fun _ _ _ _ _ _ us hl => match us, hl with | [_, _], _ => rfl⟩⟩
  have D__law_odd : DefAt K mg "_law_odd" s__law_odd ps__law_odd := ⟨⟨_, _, fun_mk (st := s__law_odd) l15 c15 k15, PySem.W.mg_of X G a15, (fun_mk (st := s__law_odd) l15 c15 k15).binds (ps := ps__law_odd) fun _ _ _ _ _ _ us hl => match us, hl with | [_], _ => rfl⟩⟩
  have D__law_index : DefAt K mg "_law_index" s__law_index ps__law_index := ⟨⟨_, _, fun_mk (st := s__law_index) l16 c16 k16, PySem.W.mg_of X G a16, (fun_mk (st := s__law_index) l16 c16 k16).binds (ps := ps__law_index) fun _ _ _ _ _ _ us hl => match us, hl with | [_], _ => rfl⟩⟩
  have D__law_paper : DefAt K mg "_law_paper" s__law_paper ps__law_paper := ⟨⟨_, _, fun_mk (st := s__law_paper) l17 c17 k17, PySem.W.mg_of X G a17, (fun_mk (st := s__law_paper) l17 c17 k17).binds (ps := ps__law_paper) fun _ _ _ _ _ _ us hl => match us, hl with | [_], _ => rfl⟩⟩
  have D__law_written : DefAt K mg "_law_written" s__law_written ps__law_written := ⟨⟨_, _, fun_mk (st := s__law_written) l18 c18 k18, PySem.W.mg_of X G a18, (fun_mk (st := s__law_written) l18 c18 k18).binds (ps := ps__law_written) fun _ _ _ _ _ _ us hl => match us, hl with | [_], _ => rfl⟩⟩
  have D__law_integer : DefAt K mg "_law_integer" s__law_integer ps__law_integer := ⟨⟨_, _, fun_mk (st := s__law_integer) l19 c19 k19, PySem.W.mg_of X G a19, (fun_mk (st := s__law_integer) l19 c19 k19).binds (ps := ps__law_integer) fun _ _ _ _ _ _ us hl => match us, hl with | [_], _ => rfl⟩⟩
  have D__law_line : DefAt K mg "_law_line" s__law_line ps__law_line := ⟨⟨_, _, fun_mk (st := s__law_line) l20 c20 k20, PySem.W.mg_of X G a20, (fun_mk (st := s__law_line) l20 c20 k20).binds (ps := ps__law_line) fun _ _ _ _ _ _ us hl => match us, hl with | [_, _], _ => rfl⟩⟩
  have D__law_read : DefAt K mg "_law_read" s__law_read ps__law_read := ⟨⟨_, _, fun_mk (st := s__law_read) l21 c21 k21, PySem.W.mg_of X G a21, (fun_mk (st := s__law_read) l21 c21 k21).binds (ps := ps__law_read) fun _ _ _ _ _ _ us hl => match us, hl with | [_], _ => rfl⟩⟩
  have D__law_bent : DefAt K mg "_law_bent" s__law_bent ps__law_bent := ⟨⟨_, _, fun_mk (st := s__law_bent) l22 c22 k22, PySem.W.mg_of X G a22, (fun_mk (st := s__law_bent) l22 c22 k22).binds (ps := ps__law_bent) fun _ _ _ _ _ _ us hl => match us, hl with | [_, _], _ => rfl⟩⟩
  have D__law_heard : DefAt K mg "_law_heard" s__law_heard ps__law_heard := ⟨⟨_, _, fun_mk (st := s__law_heard) l23 c23 k23, PySem.W.mg_of X G a23, (fun_mk (st := s__law_heard) l23 c23 k23).binds (ps := ps__law_heard) fun _ _ _ _ _ _ us hl => match us, hl with | [_], _ => rfl⟩⟩
  have D_write_paper : DefAt K mg "write_paper" s_write_paper ps_write_paper := ⟨⟨_, _, fun_mk (st := s_write_paper) l24 c24 k24, PySem.W.mg_of X G a24, (fun_mk (st := s_write_paper) l24 c24 k24).binds (ps := ps_write_paper) fun _ _ _ _ _ _ us hl => match us, hl with | [_], _ => rfl⟩⟩
  have D__read_entries : DefAt K mg "_read_entries" s__read_entries ps__read_entries := ⟨⟨_, _, fun_mk (st := s__read_entries) l25 c25 k25, PySem.W.mg_of X G a25, (fun_mk (st := s__read_entries) l25 c25 k25).binds (ps := ps__read_entries) fun _ _ _ _ _ _ us hl => match us, hl with | [_], _ => rfl⟩⟩
  have D_read_paper : DefAt K mg "read_paper" s_read_paper ps_read_paper := ⟨⟨_, _, fun_mk (st := s_read_paper) l26 c26 k26, PySem.W.mg_of X G a26, (fun_mk (st := s_read_paper) l26 c26 k26).binds (ps := ps_read_paper) fun _ _ _ _ _ _ us hl => match us, hl with | [_], _ => rfl⟩⟩
  have D__law_right : DefC K mg "_law_right" s__law_right ps__law_right cA27 := ⟨_, _, _, _, _, _, _, _, _, l27, c27, k27, PySem.W.mg_of X G a27, (fun_mk (st := s__law_right) l27 c27 k27).binds (ps := ps__law_right) fun _ _ _ _ _ _ us hl => match us, hl with | [_], _ => rfl⟩
  have tab__law_right : tabAt K "_law_right" = PA27 := by
    unfold tabAt
    simp only [a27, l27, lm27, lv27]
  have D_law : DefC K mg "law" s_law ps_law cA28 := ⟨_, _, _, _, _, _, _, _, _, l28, c28, k28, PySem.W.mg_of X G a28, (fun_mk (st := s_law) l28 c28 k28).binds (ps := ps_law) fun _ _ _ _ _ _ us hl => match us, hl with | [_], _ => rfl⟩
  have tab_law : tabAt K "law" = PA28 := by
    unfold tabAt
    simp only [a28, l28, lm28, lv28]
  have LT : LamTabs.T K = [(PA27, (("_law_right" : Str) ++ ".<locals>.") ++ "<lambda>"), (PA28, (("law" : Str) ++ ".<locals>.") ++ "<lambda>")] := by
    show lamDefs.map (fun x => (tabAt K x, (x ++ ".<locals>.") ++ "<lambda>")) = _
    simp only [lamDefs, List.map, tab__law_right, tab_law]
  intro fa hfa OW
  have own__law_right : h.get? PA27 = some emptyT := OW "_law_right" (by simp [lamDefs]) _ _ _ _ _ _ _ _ _ (PySem.W.mg_of X G a27) l27 rfl rfl lm27 lv27
  have own_law : h.get? PA28 = some emptyT := OW "law" (by simp [lamDefs]) _ _ _ _ _ _ _ _ _ (PySem.W.mg_of X G a28) l28 rfl rfl lm28 lv28
  refine ⟨[(cA27, PA27), (cA28, PA28)], fun p hp => ?_, fun p hp => ?_, ?_⟩
  · simp only [List.mem_cons, List.not_mem_nil, or_false] at hp
    rcases hp with rfl | rfl
    · exact ⟨own__law_right, lp27, lh27⟩
    · exact ⟨own_law, lp28, lh28⟩
  · rw [LT] at hp
    simp only [List.mem_cons, List.not_mem_nil, or_false] at hp
    rcases hp with rfl | rfl <;> simp
  refine ok_law (c := cA28) (P1 := PA28) T D_law (fun base kb gb TB => ?_) fa hfa
  have LA__law_right : LamAt K base mg cA27 PA27 ((("_law_right" : Str) ++ ".<locals>.") ++ "<lambda>") := ⟨TB (cA27, PA27) (by simp), by rw [LT]; simp, fun p hp e => by
    rw [LT] at hp
    simp only [List.mem_cons, List.not_mem_nil, or_false] at hp
    rcases hp with rfl | rfl
    · rfl
    · exact absurd e.symm ne27_28
    ⟩
  have LA_law : LamAt K base mg cA28 PA28 ((("law" : Str) ++ ".<locals>.") ++ "<lambda>") := ⟨TB (cA28, PA28) (by simp), by rw [LT]; simp, fun p hp e => by
    rw [LT] at hp
    simp only [List.mem_cons, List.not_mem_nil, or_false] at hp
    rcases hp with rfl | rfl
    · exact absurd e ne27_28
    · rfl
    ⟩
  have O_InvalidText___init__ := ok_InvalidText___init__ (P := l.prog) (w := w) (base := base) T D_InvalidText___init__ 
  have O_is_key := ok_is_key (P := l.prog) (w := w) (base := base) T D_is_key 
  have O_is_value := ok_is_value (P := l.prog) (w := w) (base := base) T D_is_value 
  have O_is_number := ok_is_number (P := l.prog) (w := w) (base := base) T D_is_number 
  have O_is_view := ok_is_view (P := l.prog) (w := w) (base := base) T D_is_view 
  have O_is_place := ok_is_place (P := l.prog) (w := w) (base := base) T D_is_place 
  have O_is_ascending := ok_is_ascending (P := l.prog) (w := w) (base := base) T D_is_ascending 
  have O__are_slots := ok__are_slots (P := l.prog) (w := w) (base := base) T D__are_slots O_is_ascending O_is_place
  have O_part_fits := ok_part_fits (P := l.prog) (w := w) (base := base) T D_part_fits O__are_slots O_is_view O_is_number O_is_value O_is_key O_is_place
  have O_read_integer := ok_read_integer (P := l.prog) (w := w) (base := base) T D_read_integer 
  have O__read_line := ok__read_line (P := l.prog) (w := w) (base := base) T D__read_line O_InvalidText___init__ O_part_fits O_read_integer
  have O__write_line := ok__write_line (P := l.prog) (w := w) (base := base) T D__write_line 
  have O__law_pen := ok__law_pen (P := l.prog) (w := w) (base := base) T D__law_pen 
  have O__law_draw := ok__law_draw (P := l.prog) (w := w) (base := base) T D__law_draw 
  have O__law_pick := ok__law_pick (P := l.prog) (w := w) (base := base) T D__law_pick O__law_draw
  have O__law_odd := ok__law_odd (P := l.prog) (w := w) (base := base) T D__law_odd O__law_pick
  have O__law_index := ok__law_index (P := l.prog) (w := w) (base := base) T D__law_index O__law_pick O__law_draw
  have O__law_paper := ok__law_paper (P := l.prog) (w := w) (base := base) T D__law_paper O__law_draw O__law_index O__law_pick
  have O__law_written := ok__law_written (P := l.prog) (w := w) (base := base) T D__law_written 
  have O__law_integer := ok__law_integer (P := l.prog) (w := w) (base := base) T D__law_integer 
  have O__law_line := ok__law_line (P := l.prog) (w := w) (base := base) T D__law_line O__law_integer
  have O__law_read := ok__law_read (P := l.prog) (w := w) (base := base) T D__law_read O__law_line
  have O__law_bent := ok__law_bent (P := l.prog) (w := w) (base := base) T D__law_bent O__law_pick O__law_draw
  have O__law_heard := ok__law_heard (P := l.prog) (w := w) (base := base) T D__law_heard 
  have O_write_paper := ok_write_paper (P := l.prog) (w := w) (base := base) T D_write_paper O__write_line
  have O__read_entries := ok__read_entries (P := l.prog) (w := w) (base := base) T D__read_entries O__read_line
  have O_read_paper := ok_read_paper (P := l.prog) (w := w) (base := base) T D_read_paper O_InvalidText___init__ O__read_entries O__read_line
  have O__law_right := ok__law_right (P := l.prog) (w := w) (base := base) T D__law_right LA__law_right O__law_heard O_read_paper O__law_read
  exact ⟨LA_law, O__law_right, O__law_heard, O_read_paper, O__law_odd, O__law_bent, O__law_read, O_write_paper, O__law_written, O__law_paper, O__law_pen⟩
end Mi
open PySem PySem.W PyProof.Rows
set_option maxRecDepth 100000 in
set_option maxHeartbeats 0 in
theorem PySem.Challenge.cw_whoheld_k93_texts_of_papers_holds : PySem.Challenge.rw_whoheld_k93_texts_of_papers.Holds := by
  refine K93head ?_
  k_fill
  refine Mi.walk_top (n := 63) (xs := Mi.lamDefs) (sp := fun K => Mi.spM K 1 Mi.m_law) (x := "_law_script") rfl (by decide) rfl (fun w h Y => PySem.W.km_in_of Y) ?Himp ?Hkno ?Hrec ?F ?S
  case Himp => decide +kernel
  case Hkno => intro p; rfl
  case Hrec => decide +kernel
  case F =>
    intro w mg fa h KX G hmg OW
    refine' Mi.fin KX G ?z0 ?z1 ?z2 ?z3 ?z4 ?z5 ?z6 ?z7 ?z8 ?z9 ?z10 ?z11 ?z12 ?z13 ?z14 ?y0 ?y1 ?y2 ?y3 ?y4 ?y5 ?y6 ?wn_HoldError ?xk_HoldError ?wn_TurnError ?xk_TurnError ?wn_AbsentError ?xk_AbsentError ?wn_SizeError ?xk_SizeError ?wn_InvalidRow ?xk_InvalidRow ?wn_InvalidText ?xk_InvalidText ?x_InvalidText_line ?x_InvalidText_word ?ex_InvalidText ?xis ?q0a ?q0b ?q0r0l ?q0r1l ?q0r2l ?q0r3l ?q0r4l ?q0r5l ?q0r6l ?q0k ?q0s ?u0a ?u0l ?u1a ?u1l ?a0 ?t0 ?l0 ?c0 ?k0 ?a1 ?l1 ?c1 ?k1 ?a2 ?l2 ?c2 ?k2 ?a3 ?l3 ?c3 ?k3 ?a4 ?l4 ?c4 ?k4 ?a5 ?l5 ?c5 ?k5 ?a6 ?l6 ?c6 ?k6 ?a7 ?l7 ?c7 ?k7 ?a8 ?l8 ?c8 ?k8 ?a9 ?l9 ?c9 ?k9 ?a10 ?l10 ?c10 ?k10 ?a11 ?l11 ?c11 ?k11 ?a12 ?l12 ?c12 ?k12 ?a13 ?l13 ?c13 ?k13 ?a14 ?l14 ?c14 ?k14 ?a15 ?l15 ?c15 ?k15 ?a16 ?l16 ?c16 ?k16 ?a17 ?l17 ?c17 ?k17 ?a18 ?l18 ?c18 ?k18 ?a19 ?l19 ?c19 ?k19 ?a20 ?l20 ?c20 ?k20 ?a21 ?l21 ?c21 ?k21 ?a22 ?l22 ?c22 ?k22 ?a23 ?l23 ?c23 ?k23 ?a24 ?l24 ?c24 ?k24 ?a25 ?l25 ?c25 ?k25 ?a26 ?l26 ?c26 ?k26 ?a27 ?l27 ?c27 ?k27 ?lm27 ?lv27 ?lh27 ?lp27 ?a28 ?l28 ?c28 ?k28 ?lm28 ?lv28 ?lh28 ?lp28 ?ne27_28 _ hmg OW
    (case z0 => k_is)
    (case z1 => k_is)
    (case z2 => k_is)
    (case z3 => k_is)
    (case z4 => k_is)
    (case z5 => k_is)
    (case z6 => k_is)
    (case z7 => k_is)
    (case z8 => k_is)
    (case z9 => k_is)
    (case z10 => k_is)
    (case z11 => k_is)
    (case z12 => k_is)
    (case z13 => k_is)
    (case z14 => k_is)
    (case y0 => k_is)
    (case y1 => k_is)
    (case y2 => k_is)
    (case y3 => k_is)
    (case y4 => k_is)
    (case y5 => k_is)
    (case y6 => k_is)
    (case wn_HoldError => k_is)
    (case xk_HoldError => kernel_rfl)
    (case wn_TurnError => k_is)
    (case xk_TurnError => kernel_rfl)
    (case wn_AbsentError => k_is)
    (case xk_AbsentError => kernel_rfl)
    (case wn_SizeError => k_is)
    (case xk_SizeError => kernel_rfl)
    (case wn_InvalidRow => k_is)
    (case xk_InvalidRow => kernel_rfl)
    (case wn_InvalidText => k_is)
    (case xk_InvalidText => kernel_rfl)
    (case x_InvalidText_line => k_is)
    (case x_InvalidText_word => k_is)
    (case ex_InvalidText => kernel_rfl)
    (case xis => kernel_rfl)
    (case q0a => k_is)
    (case q0b => k_is)
    (case q0r0l => k_is)
    (case q0r1l => k_is)
    (case q0r2l => k_is)
    (case q0r3l => k_is)
    (case q0r4l => k_is)
    (case q0r5l => k_is)
    (case q0r6l => k_is)
    (case q0k => k_keys)
    (case q0s => rfl)
    (case u0a => k_is)
    (case u0l => k_is)
    (case u1a => k_is)
    (case u1l => k_is)
    (case a0 => k_is)
    (case t0 => k_is)
    (case l0 => k_is)
    (case c0 => k_is)
    (case k0 => k_is)
    (case a1 => k_is)
    (case l1 => k_is)
    (case c1 => k_is)
    (case k1 => k_is)
    (case a2 => k_is)
    (case l2 => k_is)
    (case c2 => k_is)
    (case k2 => k_is)
    (case a3 => k_is)
    (case l3 => k_is)
    (case c3 => k_is)
    (case k3 => k_is)
    (case a4 => k_is)
    (case l4 => k_is)
    (case c4 => k_is)
    (case k4 => k_is)
    (case a5 => k_is)
    (case l5 => k_is)
    (case c5 => k_is)
    (case k5 => k_is)
    (case a6 => k_is)
    (case l6 => k_is)
    (case c6 => k_is)
    (case k6 => k_is)
    (case a7 => k_is)
    (case l7 => k_is)
    (case c7 => k_is)
    (case k7 => k_is)
    (case a8 => k_is)
    (case l8 => k_is)
    (case c8 => k_is)
    (case k8 => k_is)
    (case a9 => k_is)
    (case l9 => k_is)
    (case c9 => k_is)
    (case k9 => k_is)
    (case a10 => k_is)
    (case l10 => k_is)
    (case c10 => k_is)
    (case k10 => k_is)
    (case a11 => k_is)
    (case l11 => k_is)
    (case c11 => k_is)
    (case k11 => k_is)
    (case a12 => k_is)
    (case l12 => k_is)
    (case c12 => k_is)
    (case k12 => k_is)
    (case a13 => k_is)
    (case l13 => k_is)
    (case c13 => k_is)
    (case k13 => k_is)
    (case a14 => k_is)
    (case l14 => k_is)
    (case c14 => k_is)
    (case k14 => k_is)
    (case a15 => k_is)
    (case l15 => k_is)
    (case c15 => k_is)
    (case k15 => k_is)
    (case a16 => k_is)
    (case l16 => k_is)
    (case c16 => k_is)
    (case k16 => k_is)
    (case a17 => k_is)
    (case l17 => k_is)
    (case c17 => k_is)
    (case k17 => k_is)
    (case a18 => k_is)
    (case l18 => k_is)
    (case c18 => k_is)
    (case k18 => k_is)
    (case a19 => k_is)
    (case l19 => k_is)
    (case c19 => k_is)
    (case k19 => k_is)
    (case a20 => k_is)
    (case l20 => k_is)
    (case c20 => k_is)
    (case k20 => k_is)
    (case a21 => k_is)
    (case l21 => k_is)
    (case c21 => k_is)
    (case k21 => k_is)
    (case a22 => k_is)
    (case l22 => k_is)
    (case c22 => k_is)
    (case k22 => k_is)
    (case a23 => k_is)
    (case l23 => k_is)
    (case c23 => k_is)
    (case k23 => k_is)
    (case a24 => k_is)
    (case l24 => k_is)
    (case c24 => k_is)
    (case k24 => k_is)
    (case a25 => k_is)
    (case l25 => k_is)
    (case c25 => k_is)
    (case k25 => k_is)
    (case a26 => k_is)
    (case l26 => k_is)
    (case c26 => k_is)
    (case k26 => k_is)
    (case a27 => k_is)
    (case l27 => k_is)
    (case c27 => k_is)
    (case k27 => k_is)
    (case lm27 => k_is)
    (case lv27 => rfl)
    (case lh27 => kernel_rfl)
    (case lp27 => kernel_rfl)
    (case a28 => k_is)
    (case l28 => k_is)
    (case c28 => k_is)
    (case k28 => k_is)
    (case lm28 => k_is)
    (case lv28 => rfl)
    (case lh28 => kernel_rfl)
    (case lp28 => kernel_rfl)
    (case ne27_28 => decide)
  case S =>
    intro K cs H a ns φ hl hO hT hN nt hS
    exact Mi.script_in hO hT hN nt hS (Mi.math ns hl)
