import PyProof.Rows.All
import Wide.All
import OpenK.AllK
import Wide.FinOn
import HandS.ForMost
import HandS.Walk
import HandS.IsInst
import HandS.TupAny
import HandS.Style
import HandS.Flow
import HandS.Zip
import KE.OsRunLaw
import PyProof.ReprRoads
import HandS.Text
import PyProof.ListStr
import HandS.Conv
import HandS.TupMul
import PyProof.Rows.IntBool
import PyProof.EqKinds
import PyProof.Rows.RuleB_bool
import HandS.StrMore
import HandS.SetFor
import HandS.Strs
import KE.GoesEnum
import HandS.DeepEq
import HandS.More
import HandS.CallLocal
import HandS.WordsDict
import HandS.Property
import HandS.Star
import HandS.MakeKwOnly
import HandS.Iter
import PyProof.P3In
import HandS.Deep
import HandS.SortInts
import PyProof.ReprLen
import PyProof.FitsInt
import PyProof.Rows.ReprOcc
import HandS.ExcInit
import HandS.ExcIs
import KE.KExcInit
import KE.KExcIs
import HandS.ExcValue
import PySem.Challenge.RW_whoheld_k01_errors
set_option Elab.async false
set_option linter.all false
set_option maxRecDepth 100000
set_option maxHeartbeats 4000000
section
open PySem PySem.W PyProof.Rows
local macro_rules | `(tactic| k_head) => `(tactic| k_headL)
open_top K01head for PySem.Challenge.rw_whoheld_k01_errors
end
/-! Mi: mirrors. A def of the text is walked once, by one rule a construct, into a plain function over data D and a store of cells. -/
namespace Mi
open PySem PySem.Spec L2

/-- data: what never changes is a tree; what changes is a cell, by its number. lsr: a list that is only read -/
inductive D where
  | non | bl (b : Bool) | int (i : Int) | str (x : Str)
  | tup (ds : List D) | lst (ds : List D) | lsr (ds : List D) | dct (kvs : List (D × D)) | ref (n : Nat)
  | exc (c : Str) (fs : List (Str × D))
inductive Cell where
  | lst (ds : List D)
  | dct (kvs : List (Key × D))
  | ins (x : Str) (fs : List (Str × D))
  | fdct (kvs : List (Key × D))
abbrev Sto := List Cell
structure Exn where
  cls : Nat
  args : List D
abbrev M (α : Type) := Sto → Option (Except Exn α × Sto)
def M.bind {α β : Type} (m : M α) (f : α → M β) : M β := fun S => match m S with
  | none => none
  | some (.ok a, S') => f a S'
  | some (.error x, S') => some (.error x, S')
def M.pure {α : Type} (a : α) : M α := fun S => some (.ok a, S)
instance : Monad M := { pure := M.pure, bind := M.bind }
def bad {α : Type} : M α := fun _ => none

structure Wd where
  A : List Addr
  G : Hp
  F : Hp
def kD : Key → D
  | .inl i => .int i
  | .inr x => .str x
/-- the class of the text by this name -/
abbrev ClN (K : PySem.W.Frag) (c : Str) (C : Addr) : Prop := PySem.W.nsIn K mainGlobals c = some (some (.ref C))
/-- at a: an exception of the class at C, its dict (none | at d), in whatever state it is -/
def exq (a C : Addr) (d : Option Addr) : HO := .ext fun h => ∃ (oe : Obj) (vs : Array Value), h.get? a = some oe ∧ oe.cls = .ref C ∧ oe.dict = d ∧ oe.data = .fields vs
mutual
inductive Rv (K : PySem.W.Frag) (w : Wd) : V → D → Prop
  | non : Rv K w .non .non
  | bl (b : Bool) : Rv K w (.bl b) (.bl b)
  | int (i : Int) : Rv K w (.int i) (.int i)
  | str (x : Str) : Rv K w (.str x) (.str x)
  | tup {a : Addr} {xs : List V} {ds : List D} (h : SqT K w.G a xs) (r : RvL K w xs ds) : Rv K w (.ref a) (.tup ds)
  | lst {a : Addr} {xs : List V} {ds : List D} (h : w.G a = some (.lst xs)) (r : RvL K w xs ds) : Rv K w (.ref a) (.lst ds)
  | lsr {a : Addr} {xs : List V} {ds : List D} (h : SqL K w.G a xs) (r : RvL K w xs ds) : Rv K w (.ref a) (.lsr ds)
  | dct {a : Addr} {xs : List (Key × V)} {ds : List (D × D)} (h : w.G a = some (.dK xs)) (r : RvK K w xs ds) : Rv K w (.ref a) (.dct ds)
  | ref {a : Addr} {n : Nat} (h : w.A[n]? = some a) : Rv K w (.ref a) (.ref n)
  | exn {a C : Addr} {c : Str} (hC : ClN K c C) (h : w.G a = some (exq a C none)) : Rv K w (.ref a) (.exc c [])
  | exc {a C dx : Addr} {c : Str} {xs : List (Str × V)} {fs : List (Str × D)} (hC : ClN K c C) (h : w.G a = some (exq a C (some dx))) (hd : w.G dx = some (.xd xs)) (r : RvX K w xs fs) : Rv K w (.ref a) (.exc c fs)
inductive RvL (K : PySem.W.Frag) (w : Wd) : List V → List D → Prop
  | nil : RvL K w [] []
  | cons {v : V} {d : D} {vs : List V} {ds : List D} (h : Rv K w v d) (r : RvL K w vs ds) : RvL K w (v :: vs) (d :: ds)
inductive RvK (K : PySem.W.Frag) (w : Wd) : List (Key × V) → List (D × D) → Prop
  | nil : RvK K w [] []
  | cons {k : Key} {v : V} {d : D} {vs : List (Key × V)} {ds : List (D × D)} (h : Rv K w v d) (r : RvK K w vs ds) : RvK K w ((k, v) :: vs) ((kD k, d) :: ds)
inductive RvX (K : PySem.W.Frag) (w : Wd) : List (Str × V) → List (Str × D) → Prop
  | nil : RvX K w [] []
  | cons {x : Str} {v : V} {d : D} {vs : List (Str × V)} {ds : List (Str × D)} (h : Rv K w v d) (r : RvX K w vs ds) : RvX K w ((x, v) :: vs) ((x, d) :: ds)
end
structure Lv (w w' : Wd) : Prop where
  a : ∃ more, w'.A = w.A ++ more
  g : ∀ b o, w.G b = some o → w'.G b = some o
structure Le (w w' : Wd) : Prop where
  a : ∃ more, w'.A = w.A ++ more
  g : ∀ b o, w.G b = some o → w'.G b = some o
  f : w'.F = w.F
theorem Le.v {w w' : Wd} (l : Le w w') : Lv w w' := ⟨l.a, l.g⟩
theorem Lv.refl (w : Wd) : Lv w w := ⟨⟨[], by simp⟩, fun _ _ h => h⟩
theorem Le.refl (w : Wd) : Le w w := ⟨⟨[], by simp⟩, fun _ _ h => h, rfl⟩
theorem Le.trans {w w1 w2 : Wd} (x : Le w w1) (y : Le w1 w2) : Le w w2 := by
  obtain ⟨m1, e1⟩ := x.a
  obtain ⟨m2, e2⟩ := y.a
  exact ⟨⟨m1 ++ m2, by rw [e2, e1, List.append_assoc]⟩, fun b o h => y.g b o (x.g b o h), y.f.trans x.f⟩
theorem Lv.at {w w' : Wd} (l : Lv w w') {n : Nat} {a : Addr} (h : w.A[n]? = some a) : w'.A[n]? = some a := by
  obtain ⟨m, e⟩ := l.a
  have hn := (List.getElem?_eq_some_iff.mp h).1
  rw [e, List.getElem?_append_left hn]
  exact h
section
variable {K : PySem.W.Frag} {w w' : Wd}
theorem sqT_le (l : Lv w w') {a : Addr} {xs : List V} (h : SqT K w.G a xs) : SqT K w'.G a xs := by
  rcases h with (h | ⟨o, h⟩) | h
  · exact .inl (.inl (l.g _ _ h))
  · exact .inl (.inr ⟨o, l.g _ _ h⟩)
  · exact .inr h
theorem sqL_le (l : Lv w w') {a : Addr} {xs : List V} (h : SqL K w.G a xs) : SqL K w'.G a xs := by
  rcases h with (h | ⟨o, h⟩) | h
  · exact .inl (.inl (l.g _ _ h))
  · exact .inl (.inr ⟨o, l.g _ _ h⟩)
  · exact .inr h
mutual
theorem Rv.monoV (l : Lv w w') : ∀ {v : V} {d : D}, Rv K w v d → Rv K w' v d
  | _, _, .non => .non
  | _, _, .bl b => .bl b
  | _, _, .int i => .int i
  | _, _, .str x => .str x
  | _, _, .tup h r => .tup (sqT_le l h) (RvL.monoV l r)
  | _, _, .lst h r => .lst (l.g _ _ h) (RvL.monoV l r)
  | _, _, .lsr h r => .lsr (sqL_le l h) (RvL.monoV l r)
  | _, _, .dct h r => .dct (l.g _ _ h) (RvK.monoV l r)
  | _, _, .ref h => .ref (l.at h)
  | _, _, .exn hC h => .exn hC (l.g _ _ h)
  | _, _, .exc hC h hd r => .exc hC (l.g _ _ h) (l.g _ _ hd) (RvX.monoV l r)
theorem RvL.monoV (l : Lv w w') : ∀ {v : List V} {d : List D}, RvL K w v d → RvL K w' v d
  | _, _, .nil => .nil
  | _, _, .cons h r => .cons (Rv.monoV l h) (RvL.monoV l r)
theorem RvK.monoV (l : Lv w w') : ∀ {v : List (Key × V)} {d : List (D × D)}, RvK K w v d → RvK K w' v d
  | _, _, .nil => .nil
  | _, _, .cons h r => .cons (Rv.monoV l h) (RvK.monoV l r)
theorem RvX.monoV (l : Lv w w') : ∀ {v : List (Str × V)} {d : List (Str × D)}, RvX K w v d → RvX K w' v d
  | _, _, .nil => .nil
  | _, _, .cons h r => .cons (Rv.monoV l h) (RvX.monoV l r)
end
theorem Rv.mono (l : Le w w') {v : V} {d : D} (h : Rv K w v d) : Rv K w' v d := Rv.monoV l.v h
theorem RvL.mono (l : Le w w') {v : List V} {d : List D} (h : RvL K w v d) : RvL K w' v d := RvL.monoV l.v h
theorem RvL.length : ∀ {v : List V} {d : List D}, RvL K w v d → v.length = d.length
  | _, _, .nil => rfl
  | _, _, .cons _ r => by simp [RvL.length r]
theorem RvL.append : ∀ {v v' : List V} {d d' : List D}, RvL K w v d → RvL K w v' d' → RvL K w (v ++ v') (d ++ d')
  | _, _, _, _, .nil, q => q
  | _, _, _, _, .cons h r, q => .cons h (RvL.append r q)
theorem RvL.one {v : V} {d : D} (h : Rv K w v d) : RvL K w [v] [d] := .cons h .nil
theorem RvL.get : ∀ {v : List V} {d : List D} {i : Nat} {x : D}, RvL K w v d → d[i]? = some x → ∃ y, v[i]? = some y ∧ Rv K w y x
  | _, _, _, _, .nil, e => by simp at e
  | _, _, 0, _, .cons h _, e => by
    simp at e
    subst e
    exact ⟨_, rfl, h⟩
  | _, _, i + 1, _, .cons _ r, e => by
    obtain ⟨y, h1, h2⟩ := RvL.get (i := i) r (by simpa using e)
    exact ⟨y, by simpa using h1, h2⟩
theorem RvL.getV : ∀ {v : List V} {d : List D} {i : Nat} {y : V}, RvL K w v d → v[i]? = some y → ∃ x, d[i]? = some x ∧ Rv K w y x
  | _, _, _, _, .nil, e => by simp at e
  | _, _, 0, _, .cons h _, e => by
    simp at e
    subst e
    exact ⟨_, rfl, h⟩
  | _, _, i + 1, _, .cons _ r, e => by
    obtain ⟨y, h1, h2⟩ := RvL.getV (i := i) r (by simpa using e)
    exact ⟨y, by simpa using h1, h2⟩
theorem RvL.set {x : V} {y : D} (h : Rv K w x y) : ∀ {v : List V} {d : List D} (i : Nat), RvL K w v d → RvL K w (v.set i x) (d.set i y)
  | _, _, _, .nil => .nil
  | _, _, 0, .cons _ r => .cons h r
  | _, _, i + 1, .cons q r => .cons q (RvL.set h i r)
theorem RvL.take : ∀ {v : List V} {d : List D} (n : Nat), RvL K w v d → RvL K w (v.take n) (d.take n)
  | _, _, 0, _ => .nil
  | _, _, _ + 1, .nil => .nil
  | _, _, n + 1, .cons h r => .cons h (RvL.take n r)
theorem RvL.drop : ∀ {v : List V} {d : List D} (n : Nat), RvL K w v d → RvL K w (v.drop n) (d.drop n)
  | _, _, 0, r => r
  | _, _, _ + 1, .nil => .nil
  | _, _, n + 1, .cons _ r => RvL.drop n r
theorem RvL.reverse {v : List V} {d : List D} : RvL K w v d → RvL K w v.reverse d.reverse := by
  intro r
  induction v generalizing d with
  | nil => cases r; exact .nil
  | cons x xs ih =>
    cases r with
    | cons h r =>
      rw [List.reverse_cons, List.reverse_cons]
      exact (ih r).append (.one h)
end

/-- values by names or keys -/
inductive RvP {κ : Type} (K : PySem.W.Frag) (w : Wd) : List (κ × V) → List (κ × D) → Prop
  | nil : RvP K w [] []
  | cons {x : κ} {v : V} {d : D} {vs : List (κ × V)} {ds : List (κ × D)} (h : Rv K w v d) (r : RvP K w vs ds) : RvP K w ((x, v) :: vs) ((x, d) :: ds)
theorem RvP.monoV {κ : Type} {K : PySem.W.Frag} {w w' : Wd} (l : Lv w w') : ∀ {v : List (κ × V)} {d : List (κ × D)}, RvP K w v d → RvP K w' v d
  | _, _, .nil => .nil
  | _, _, .cons h r => .cons (Rv.monoV l h) (RvP.monoV l r)
def CellR (K : PySem.W.Frag) (w : Wd) (H : Hp) (a : Addr) : Cell → Prop
  | .lst ds => ∃ xs, H a = some (.lst xs) ∧ RvL K w xs ds
  | .dct ds => ∃ xs, H a = some (.dK xs) ∧ RvP K w xs ds
  | .ins x fs => ∃ C dx xs, PySem.W.nsIn K mainGlobals x = some (some (.ref C)) ∧ H a = some (.ins C dx xs) ∧ RvP K w xs fs
  | .fdct ds => ∃ o xs, w.G a = some (.frz o (.dK xs)) ∧ H a = some (.frz o (.dK xs)) ∧ RvP K w xs ds
theorem CellR.monoV {K : PySem.W.Frag} {w w' : Wd} {H H' : Hp} {a : Addr} {c : Cell} (l : Lv w w') (e : ∀ o, H a = some o → H' a = some o) (h : CellR K w H a c) : CellR K w' H' a c := by
  cases c with
  | lst ds =>
    obtain ⟨xs, h1, h2⟩ := h
    exact ⟨xs, e _ h1, h2.monoV l⟩
  | dct ds =>
    obtain ⟨xs, h1, h2⟩ := h
    exact ⟨xs, e _ h1, h2.monoV l⟩
  | ins x fs =>
    obtain ⟨C, dx, xs, h0, h1, h2⟩ := h
    exact ⟨C, dx, xs, h0, e _ h1, h2.monoV l⟩
  | fdct ds =>
    obtain ⟨o, xs, h0, h1, h2⟩ := h
    exact ⟨o, xs, l.g _ _ h0, e _ h1, h2.monoV l⟩
theorem CellR.mono {K : PySem.W.Frag} {w w' : Wd} {H H' : Hp} {a : Addr} {c : Cell} (l : Le w w') (e : ∀ o, H a = some o → H' a = some o) (h : CellR K w H a c) : CellR K w' H' a c := h.monoV l.v e
theorem CellR.there {K : PySem.W.Frag} {w : Wd} {H : Hp} {a : Addr} {c : Cell} (h : CellR K w H a c) : ∃ o, H a = some o := by
  cases c with
  | lst ds =>
    obtain ⟨xs, h1, h2⟩ := h
    exact ⟨_, h1⟩
  | dct ds =>
    obtain ⟨xs, h1, h2⟩ := h
    exact ⟨_, h1⟩
  | ins x fs =>
    obtain ⟨C, dx, xs, h0, h1, h2⟩ := h
    exact ⟨_, h1⟩
  | fdct ds =>
    obtain ⟨o, xs, h0, h1, h2⟩ := h
    exact ⟨_, h1⟩
/-- an object of the interpreter's own is known to be there: no list of ours is it -/
def SysF (F : Hp) : Prop := ∃ φ, F sysModules = some (.ext φ)
structure Rs (K : PySem.W.Frag) (w : Wd) (S : Sto) (H : Hp) : Prop where
  g : ∀ a o, w.G a = some o → H a = some o
  f : ∀ a o, w.F a = some o → H a = some o
  gf : ∀ a o, w.F a = some o → w.G a = none
  len : w.A.length = S.length
  nd : w.A.Nodup
  ag : ∀ a, a ∈ w.A → (w.G a = none ∨ ∃ o xs, w.G a = some (.frz o (.dK xs))) ∧ w.F a = none
  cell : ∀ (n : Nat) (a : Addr) (c : Cell), w.A[n]? = some a → S[n]? = some c → CellR K w H a c
  sy : SysF w.F
section
variable {K : PySem.W.Frag} {w w' : Wd} {S S' : Sto} {H H' : Hp}
theorem Rs.fresh (r : Rs K w S H) {p : Addr} (h : H p = none) : w.G p = none ∧ w.F p = none ∧ p ∉ w.A := by
  refine ⟨?_, ?_, fun hm => ?_⟩
  · cases e : w.G p with
    | none => rfl
    | some o => rw [r.g p o e] at h; cases h
  · cases e : w.F p with
    | none => rfl
    | some o => rw [r.f p o e] at h; cases h
  · obtain ⟨n, hn, e⟩ := List.mem_iff_getElem.mp hm
    have hn' : n < S.length := by rw [← r.len]; exact hn
    obtain ⟨o, ho⟩ := (r.cell n p S[n] (by rw [List.getElem?_eq_getElem hn, e]) (by rw [List.getElem?_eq_getElem hn'])).there
    rw [ho] at h
    cases h
/-- a new object that stays as it is -/
def Wd.lay (w : Wd) (p : Addr) (o : HO) : Wd := { w with G := upd w.G p o }
theorem Rs.le_lay (r : Rs K w S H) {p : Addr} {o : HO} (h : H p = none) : Le w (w.lay p o) :=
  ⟨⟨[], by simp [Wd.lay]⟩, fun b u e => by
    show upd w.G p o b = some u
    rw [upd_ne (ne_of_none e (r.fresh h).1)]
    exact e, rfl⟩
theorem Rs.lay (r : Rs K w S H) {p : Addr} {o : HO} (h : H p = none) : Rs K (w.lay p o) S (upd H p o) := by
  obtain ⟨f1, f2, f3⟩ := r.fresh h
  refine ⟨fun a u e => ?_, fun a u e => ?_, fun a u e => ?_, r.len, r.nd, fun a ha => ⟨?_, (r.ag a ha).2⟩, fun n a c h1 h2 => ?_, r.sy⟩
  · by_cases q : a = p
    · subst q
      have e' : upd w.G a o a = some u := e
      rw [upd_same] at e' ⊢
      exact e'
    · have e' : upd w.G p o a = some u := e
      rw [upd_ne q] at e' ⊢
      exact r.g a u e'
  · rw [upd_ne (ne_of_none e f2)]
    exact r.f a u e
  · show upd w.G p o a = none
    rw [upd_ne (ne_of_none e f2)]
    exact r.gf a u e
  · have e : upd w.G p o a = w.G a := upd_ne (show a ≠ p by rintro rfl; exact f3 ha)
    show upd w.G p o a = none ∨ ∃ o' xs, upd w.G p o a = some (.frz o' (.dK xs))
    rw [e]
    exact (r.ag a ha).1
  · refine (r.cell n a c h1 h2).mono (r.le_lay h) fun u e => ?_
    rw [upd_ne (show a ≠ p by rintro rfl; exact f3 (List.mem_of_getElem? h1))]
    exact e
/-- a new cell -/
def Wd.add (w : Wd) (p : Addr) : Wd := { w with A := w.A ++ [p] }
theorem le_add {p : Addr} : Le w (w.add p) := ⟨⟨[p], rfl⟩, fun _ _ h => h, rfl⟩
theorem Rs.add (r : Rs K w S H) {p : Addr} {o : HO} {c : Cell} (h : H p = none) (hc : CellR K (w.add p) (upd H p o) p c) : Rs K (w.add p) (S ++ [c]) (upd H p o) := by
  obtain ⟨f1, f2, f3⟩ := r.fresh h
  refine ⟨fun a u e => ?_, fun a u e => ?_, r.gf, by simp [Wd.add, r.len], ?_, fun a ha => ?_, fun n a c' h1 h2 => ?_, r.sy⟩
  · rw [upd_ne (ne_of_none e f1)]
    exact r.g a u e
  · rw [upd_ne (ne_of_none e f2)]
    exact r.f a u e
  · show (w.A ++ [p]).Nodup
    refine List.nodup_append.mpr ⟨r.nd, by simp, fun a ha b hb => ?_⟩
    simp at hb
    rintro rfl
    exact f3 (hb ▸ ha)
  · have ha' : a ∈ w.A ++ [p] := ha
    rcases List.mem_append.mp ha' with z | z
    · exact r.ag a z
    · simp at z
      subst z
      exact ⟨.inl f1, f2⟩
  · have h1' : (w.A ++ [p])[n]? = some a := h1
    by_cases q : n < w.A.length
    · rw [List.getElem?_append_left q] at h1'
      rw [List.getElem?_append_left (by rw [← r.len]; exact q)] at h2
      refine (r.cell n a c' h1' h2).mono le_add fun u e => ?_
      rw [upd_ne (show a ≠ p by rintro rfl; exact f3 (List.mem_of_getElem? h1'))]
      exact e
    · have hn : n = w.A.length := by
        have := (List.getElem?_eq_some_iff.mp h1').1
        simp at this
        omega
      subst hn
      rw [List.getElem?_append_right (Nat.le_refl _)] at h1'
      rw [r.len, List.getElem?_append_right (Nat.le_refl _)] at h2
      simp at h1' h2
      subst h1' h2
      exact hc
/-- a cell is written -/
theorem Rs.ng (r : Rs K w S H) {n : Nat} {p : Addr} {o : HO} (hn : w.A[n]? = some p) (h0 : H p = some o) (hz : ∀ x u, o ≠ .frz x u) : w.G p = none := by
  rcases (r.ag p (List.mem_of_getElem? hn)).1 with h | ⟨x, xs, h⟩
  · exact h
  · have e := (r.g _ _ h).symm.trans h0
    injection e with e
    exact absurd e.symm (hz _ _)
theorem Rs.put (r : Rs K w S H) {n : Nat} {p : Addr} {o o0 : HO} {c : Cell} (hn : w.A[n]? = some p) (h0 : H p = some o0) (hz : ∀ x u, o0 ≠ .frz x u) (hc : CellR K w (upd H p o) p c) : Rs K w (S.set n c) (upd H p o) := by
  have hp : w.G p = none ∧ w.F p = none := ⟨r.ng hn h0 hz, (r.ag p (List.mem_of_getElem? hn)).2⟩
  refine ⟨fun a u e => ?_, fun a u e => ?_, r.gf, by simp [r.len], r.nd, r.ag, fun m a c' h1 h2 => ?_, r.sy⟩
  · rw [upd_ne (ne_of_none e hp.1)]
    exact r.g a u e
  · rw [upd_ne (ne_of_none e hp.2)]
    exact r.f a u e
  · by_cases q : m = n
    · subst q
      rw [hn] at h1
      cases h1
      have hl : m < S.length := by rw [← r.len]; exact (List.getElem?_eq_some_iff.mp hn).1
      rw [List.getElem?_set_self hl] at h2
      cases h2
      exact hc
    · rw [List.getElem?_set_ne (Ne.symm q)] at h2
      have hne : a ≠ p := by
        rintro rfl
        exact q ((List.getElem?_inj (List.getElem?_eq_some_iff.mp h1).1 r.nd).mp (h1.trans hn.symm))
      refine (r.cell m a c' h1 h2).mono (Le.refl w) fun u e => ?_
      rw [upd_ne hne]
      exact e
end

abbrev Env := List (Option D)
structure Rn (K : PySem.W.Frag) (w : Wd) (σ : L2.St) (ρ : Env) : Prop where
  len : σ.length = ρ.length
  at' : ∀ (i : Nat) (d : D), ρ[i]? = some (some d) → ∃ v, σ[i]? = some (some v) ∧ Rv K w v d
section
variable {K : PySem.W.Frag} {w w' : Wd} {S S' : Sto} {H H' : Hp} {σ : L2.St} {ρ : Env}
theorem Rn.mono (l : Le w w') (r : Rn K w σ ρ) : Rn K w' σ ρ := ⟨r.len, fun i d h => let ⟨v, h1, h2⟩ := r.at' i d h; ⟨v, h1, Rv.mono l h2⟩⟩
theorem Rn.v (r : Rn K w σ ρ) (l : Lv w w') : Rn K w' σ ρ := ⟨r.len, fun i d h => let ⟨v, h1, h2⟩ := r.at' i d h; ⟨v, h1, Rv.monoV l h2⟩⟩
theorem Rn.set (r : Rn K w σ ρ) {i : Nat} {v : V} {d : D} (h : Rv K w v d) : Rn K w (σ.set i (some v)) (ρ.set i (some d)) := by
  refine ⟨by simp [r.len], fun j e hj => ?_⟩
  by_cases q : j = i
  · subst q
    have hl : j < ρ.length := by
      have := (List.getElem?_eq_some_iff.mp hj).1
      simpa using this
    rw [List.getElem?_set_self hl] at hj
    cases hj
    exact ⟨v, by rw [List.getElem?_set_self (by rw [r.len]; exact hl)], h⟩
  · rw [List.getElem?_set_ne (Ne.symm q)] at hj ⊢
    exact r.at' j e hj
theorem Rn.wipe (r : Rn K w σ ρ) (vs : List Nat) : Rn K w (wipe σ vs) (vs.foldr (fun i ρ => ρ.set i none) ρ) := by
  induction vs with
  | nil => exact r
  | cons i vs ih =>
    show Rn K w ((L2.wipe σ vs).set i none) ((vs.foldr (fun i ρ => ρ.set i none) ρ).set i none)
    refine ⟨by simp [ih.len], fun j e hj => ?_⟩
    by_cases q : j = i
    · subst q
      have hl := (List.getElem?_eq_some_iff.mp hj).1
      rw [List.getElem?_set_self (by simpa using hl)] at hj
      cases hj
    · rw [List.getElem?_set_ne (Ne.symm q)] at hj ⊢
      exact ih.at' j e hj
theorem Rn.start {vs : List V} {ds : List D} (h : RvL K w vs ds) (N : List Str) : Rn K w (start N vs) (ds.map some ++ List.replicate (N.length - ds.length) none) := by
  have hl := h.length
  unfold L2.start
  refine ⟨by simp [hl], fun i d e => ?_⟩
  by_cases q : i < ds.length
  · rw [List.getElem?_append_left (by simpa using q)] at e
    rw [List.getElem?_append_left (by simpa [hl] using q)]
    rw [List.getElem?_map] at e ⊢
    obtain ⟨x, hx, e'⟩ := Option.map_eq_some_iff.mp e
    cases e'
    obtain ⟨y, hy, r⟩ := h.get hx
    exact ⟨y, by rw [hy]; rfl, r⟩
  · rw [List.getElem?_append_right (by simpa using Nat.le_of_not_lt q)] at e
    have := List.mem_of_getElem? e
    have := (List.mem_replicate.mp this).2
    cases this
end

/-- what is wanted of an exception -/
abbrev EK := Exn → Wd → Hp → Prop
def Fin {α : Type} (K : PySem.W.Frag) (E : EK) (w : Wd) (o : Option (Except Exn α × Sto)) (P : Wd → Sto → Hp → α → Prop) : Prop := match o with
  | none => False
  | some (.ok a, S') => ∀ w' H', Le w w' → Rs K w' S' H' → P w' S' H' a
  | some (.error x, S') => ∀ w' H', Le w w' → Rs K w' S' H' → E x w' H'
section
variable {α β : Type} {K : PySem.W.Frag} {E : EK} {w w' : Wd} {S S' : Sto} {o : Option (Except Exn α × Sto)} {P P' : Wd → Sto → Hp → α → Prop} {R : Wd → Sto → Hp → β → Prop} {m : M α} {f : α → M β}
theorem Fin.mono (h : Fin K E w o P) (l : Le w w') : Fin K E w' o P := by
  rcases o with _ | ⟨_ | _, S'⟩
  · exact h
  · exact fun w2 H' l2 r => h w2 H' (l.trans l2) r
  · exact fun w2 H' l2 r => h w2 H' (l.trans l2) r
theorem Fin.imp (h : Fin K E w o P) (k : ∀ w' S' H' a, Le w w' → Rs K w' S' H' → P w' S' H' a → P' w' S' H' a) : Fin K E w o P' := by
  rcases o with _ | ⟨_ | _, S'⟩
  · exact h
  · exact h
  · exact fun w2 H' l2 r => k w2 S' H' _ l2 r (h w2 H' l2 r)
theorem Fin.bind (h : Fin K E w (M.bind m f S) R) : Fin K E w (m S) fun w' S' _ a => Fin K E w' (f a S') R := by
  unfold M.bind at h
  rcases hm : m S with _ | ⟨_ | a, S1⟩
  · rw [hm] at h; exact h
  · rw [hm] at h; exact h
  · rw [hm] at h
    exact fun w2 H' l2 r => Fin.mono (show Fin K E w (f a S1) R from h) l2
theorem Fin.ok {a : α} (h : Fin K E w (some (.ok a, S)) P) {H : Hp} (r : Rs K w S H) : P w S H a := h w H (Le.refl w) r
end
end Mi
namespace Mi
open PySem PySem.Spec L2

/-! ### weaker readings -/
section
variable {X : Cx}
theorem pe_imp {e : Expr} {t t' : TE} (h : PE X e t) (k : ∀ σ H Q, t' σ H Q → t σ H Q) : PE X e t' := ⟨fun pins s σ H Q I q => h.run pins s σ H Q I (k σ H Q q)⟩
theorem pt_imp {e : Expr} {t t' : TT} (h : PT X e t) (k : ∀ σ H Q, t' σ H Q → t σ H Q) : PT X e t' := ⟨fun pins s σ H Q I q => h.run pins s σ H Q I (k σ H Q q)⟩
theorem pw_imp {e : Expr} {t t' : TT} (h : PW X e t) (k : ∀ σ H Q, t' σ H Q → t σ H Q) : PW X e t' := ⟨fun wh pins s σ H Q I q => h.run wh pins s σ H Q I (k σ H Q q)⟩
theorem pa_imp {e : List Expr} {t t' : TA} (h : PA X e t) (k : ∀ σ H Q, t' σ H Q → t σ H Q) : PA X e t' := ⟨fun pos pins s σ H Q I q => h.run pos pins s σ H Q I (k σ H Q q)⟩
theorem ps_imp {e : Stmt} {t t' : TS} (h : PS X e t) (k : ∀ D σ H, t' D σ H → t D σ H) : PS X e t' := ⟨fun pins s σ H D I q => h.run pins s σ H D I (k D σ H q)⟩
theorem pss_imp {e : List Stmt} {t t' : TS} (h : PSs X e t) (k : ∀ D σ H, t' D σ H → t D σ H) : PSs X e t' := ⟨fun pins s σ H D I q => h.run pins s σ H D I (k D σ H q)⟩
theorem pg_imp {e : Expr} {t t' : TG} (h : PG X e t) (k : ∀ v σ H Q, t' v σ H Q → t v σ H Q) : PG X e t' := ⟨fun pins s σ H v u Q I r q => h.run pins s σ H v u Q I r (k v σ H Q q)⟩
theorem pts_imp {e : List Expr} {t t' : TT} (h : PTs X e t) (k : ∀ σ H Q, t' σ H Q → t σ H Q) : PTs X e t' := ⟨fun pins s σ H Q I q => h.run pins s σ H Q I (k σ H Q q)⟩
end

/-! ### readings by mirrors -/
inductive Fl where
  | nx | bk | ct | rt (d : D)
def tM (K : PySem.W.Frag) (E : EK) (m : Env → M D) : TE := fun σ H Q => ∃ w S ρ, Rs K w S H ∧ Rn K w σ ρ ∧ Fin K E w (m ρ S) fun w' _ H' d => ∀ v, Rv K w' v d → Q v H'
def tMt (K : PySem.W.Frag) (E : EK) (m : Env → M Bool) : TT := fun σ H Q => ∃ w S ρ, Rs K w S H ∧ Rn K w σ ρ ∧ Fin K E w (m ρ S) fun _ _ H' b => Q b H'
def tMa (K : PySem.W.Frag) (E : EK) (m : Env → M (List D)) : TA := fun σ H Q => ∃ w S ρ, Rs K w S H ∧ Rn K w σ ρ ∧ Fin K E w (m ρ S) fun w' _ H' ds => ∀ vs, RvL K w' vs ds → Q vs H'
def Land (K : PySem.W.Frag) (D : Ends) : Wd → Sto → Hp → Fl × Env → Prop := fun w' _ H' r => match r with
  | (.nx, ρ') => ∀ σ', Rn K w' σ' ρ' → D.nx σ' H'
  | (.bk, ρ') => ∀ σ', Rn K w' σ' ρ' → D.bk σ' H'
  | (.ct, ρ') => ∀ σ', Rn K w' σ' ρ' → D.ct σ' H'
  | (.rt d, _) => ∀ v, Rv K w' v d → D.rt v H'
def tMs (K : PySem.W.Frag) (E : EK) (m : Env → M (Fl × Env)) : TS := fun D σ H => ∃ w S ρ, Rs K w S H ∧ Rn K w σ ρ ∧ Fin K E w (m ρ S) (Land K D)
def gM (K : PySem.W.Frag) (E : EK) (m : D → Env → M Env) : TG := fun v σ H Q => ∃ w S ρ d, Rs K w S H ∧ Rn K w σ ρ ∧ Rv K w v d ∧ Fin K E w (m d ρ S) fun w' _ H' ρ' => ∀ σ', Rn K w' σ' ρ' → Q σ' H'

/-! ### names, constants -/
def vget (i : Nat) (ρ : Env) : M D := match ρ[i]? with
  | some (some d) => M.pure d
  | _ => bad
section
variable {X : Cx} {E : EK}
theorem me_of {e : Expr} {i : Nat} (h : PE X e (tVar i)) : PE X e (tM X.K E (vget i)) := pe_imp h fun σ H Q ⟨w, S, ρ, hs, hn, h⟩ => by
  unfold vget at h
  rcases hd : ρ[i]? with _ | _ | d
  · rw [hd] at h; exact h.elim
  · rw [hd] at h; exact h.elim
  · rw [hd] at h
    obtain ⟨v, h1, h2⟩ := hn.at' i d hd
    exact ⟨v, h1, Fin.ok h hs v h2⟩
theorem me_cst {e : Expr} {v : V} {d : D} (h : PE X e (tC v)) (r : ∀ w, Rv X.K w v d) : PE X e (tM X.K E fun _ => M.pure d) := pe_imp h fun σ H Q ⟨w, S, ρ, hs, hn, h⟩ => h.ok hs v (r w)
theorem me_int {i j pos} : PE X (.Constant (.int i) j pos) (tM X.K E fun _ => M.pure (.int i)) := me_cst pe_int fun _ => .int i
theorem me_bl {i j pos} : PE X (.Constant (.bool i) j pos) (tM X.K E fun _ => M.pure (.bl i)) := me_cst pe_bl fun _ => .bl i
theorem me_non {j pos} : PE X (.Constant .none j pos) (tM X.K E fun _ => M.pure .non) := me_cst pe_non fun _ => .non
theorem me_str {i j pos} : PE X (.Constant (.str i) j pos) (tM X.K E fun _ => M.pure (.str i)) := me_cst pe_str fun _ => .str i

/-! ### operators -/
def OpM (K : PySem.W.Frag) (r : R2) (f : D → D → M D) : Prop := ∀ (E : EK) (w : Wd) (S : Sto) (H : Hp) (v u : V) (x y : D) (Q : VK), Rs K w S H → Rv K w v x → Rv K w u y →
  Fin K E w (f x y S) (fun w' _ H' d => ∀ z, Rv K w' z d → Q z H') → r v u H Q
def UnM (K : PySem.W.Frag) (r : V → Hp → VK → Prop) (f : D → M D) : Prop := ∀ (E : EK) (w : Wd) (S : Sto) (H : Hp) (v : V) (x : D) (Q : VK), Rs K w S H → Rv K w v x →
  Fin K E w (f x S) (fun w' _ H' d => ∀ z, Rv K w' z d → Q z H') → r v H Q
def CaM (K : PySem.W.Frag) (r : List V → Hp → VK → Prop) (f : List D → M D) : Prop := ∀ (E : EK) (w : Wd) (S : Sto) (H : Hp) (vs : List V) (xs : List D) (Q : VK), Rs K w S H → RvL K w vs xs →
  Fin K E w (f xs S) (fun w' _ H' d => ∀ z, Rv K w' z d → Q z H') → r vs H Q
def b2 (f : D → D → M D) (a b : Env → M D) : Env → M D := fun ρ => M.bind (a ρ) fun x => M.bind (b ρ) fun y => f x y
def b1 (f : D → M D) (a : Env → M D) : Env → M D := fun ρ => M.bind (a ρ) f
variable {a b c : Expr} {ma mb mc : Env → M D} {pos : Pos}
theorem two {r : R2} {f : D → D → M D} (hf : OpM X.K r f) {σ : L2.St} {H : Hp} {Q : VK} (h : tM X.K E (b2 f ma mb) σ H Q) : tOp r (tM X.K E ma) (tM X.K E mb) σ H Q := by
  obtain ⟨w, S, ρ, hs, hn, h⟩ := h
  refine ⟨w, S, ρ, hs, hn, h.bind.imp fun w1 S1 H1 x l1 s1 h1 v rv => ?_⟩
  refine ⟨w1, S1, ρ, s1, hn.mono l1, h1.bind.imp fun w2 S2 H2 y l2 s2 h2 u ru => ?_⟩
  exact hf E w2 S2 H2 v u x y Q s2 (rv.mono l2) ru h2
theorem me_op {op : Operator} {r : R2} {f : D → D → M D} (ho : OpR X (binaryOp op) r) (hf : OpM X.K r f) (ha : PE X a (tM X.K E ma)) (hb : PE X b (tM X.K E mb)) : PE X (.BinOp a op b pos) (tM X.K E (b2 f ma mb)) :=
  pe_imp (pe_op ho ha hb) fun _ _ _ h => two hf h
theorem me_cmp {op : CmpOp} {r : R2} {f : D → D → M D} (ho : OpR X (compareOp op) r) (hf : OpM X.K r f) (ha : PE X a (tM X.K E ma)) (hb : PE X b (tM X.K E mb)) (hm : behindInMarks op b = false) : PE X (.Compare a [op] [b] pos) (tM X.K E (b2 f ma mb)) :=
  pe_imp (pe_cmpR ho ha hb hm) fun _ _ _ h => two hf h
theorem me_ix {r : R2} {f : D → D → M D} (ho : IxR X r) (hf : OpM X.K r f) (ha : PE X a (tM X.K E ma)) (hb : PE X b (tM X.K E mb)) (hs : PlainIx b) : PE X (.Subscript a b pos) (tM X.K E (b2 f ma mb)) :=
  pe_imp (pe_ix ho ha hb hs) fun _ _ _ h => two hf h
theorem me_un {op : UnaryOp} {r : V → Hp → VK → Prop} {f : D → M D} (ho : UnR X (unaryOp op) r) (hf : UnM X.K r f) (ha : PE X a (tM X.K E ma)) : PE X (.UnaryOp op a pos) (tM X.K E (b1 f ma)) :=
  pe_imp (pe_un ho ha) fun σ H Q ⟨w, S, ρ, hs, hn, h⟩ => ⟨w, S, ρ, hs, hn, h.bind.imp fun w1 S1 H1 x l1 s1 h1 v rv => hf E w1 S1 H1 v x Q s1 rv h1⟩

/-! ### truth: bools -/
def toB : D → M Bool
  | .bl b => M.pure b
  | _ => bad
def tst (m : Env → M D) : Env → M Bool := fun ρ => M.bind (m ρ) toB
def ofB (m : Env → M Bool) : Env → M D := fun ρ => M.bind (m ρ) fun b => M.pure (.bl b)
theorem toB_go {w : Wd} {S : Sto} {H : Hp} {d : D} {v : V} {P : Bool → Hp → Prop} (h : Fin X.K E w (toB d S) fun _ _ H' b => P b H') (hs : Rs X.K w S H) (rv : Rv X.K w v d) : ∃ k, v = .bl k ∧ P k H := by
  cases rv with
  | bl k => exact ⟨k, rfl, h.ok hs⟩
  | _ => exact h.elim
theorem mt_val {e : Expr} {m : Env → M D} (h : PE X e (tM X.K E m)) (he : ∀ whole, isTrue e X.env whole = (do let v ← whole; standAt e.pos; holding [v] (truthy v)) := by intro _; rfl) : PT X e (tMt X.K E (tst m)) :=
  pt_imp (pt_val h he) fun σ H Q ⟨w, S, ρ, hs, hn, h⟩ => ⟨w, S, ρ, hs, hn, h.bind.imp fun w1 S1 H1 x l1 s1 h1 v rv => toB_go h1 s1 rv⟩
theorem mt_cmp {op : CmpOp} {r : R2} {f : D → D → M D} (ho : OpR X (compareOp op) r) (hf : OpM X.K r f) (ha : PE X a (tM X.K E ma)) (hb : PE X b (tM X.K E mb)) (hm : behindInMarks op b = false) : PT X (.Compare a [op] [b] pos) (tMt X.K E (tst (b2 f ma mb))) := by
  refine pt_imp (pt_cmpR ho ha hb hm) fun σ H Q ⟨w, S, ρ, hs, hn, h⟩ => ?_
  exact two hf ⟨w, S, ρ, hs, hn, h.bind.imp fun w1 S1 H1 x l1 s1 h1 v rv => toB_go h1 s1 rv⟩
def notT (m : Env → M Bool) : Env → M Bool := fun ρ => M.bind (m ρ) fun b => M.pure (!b)
def andT (m n : Env → M Bool) : Env → M Bool := fun ρ => M.bind (m ρ) fun b => if b = true then n ρ else M.pure false
def orT (m n : Env → M Bool) : Env → M Bool := fun ρ => M.bind (m ρ) fun b => if b = true then M.pure true else n ρ
variable {ta tb : Env → M Bool} {rest : List Expr}
theorem mt_not (ha : PT X a (tMt X.K E ta)) : PT X (.UnaryOp .Not a pos) (tMt X.K E (notT ta)) :=
  pt_imp (pt_not ha) fun σ H Q ⟨w, S, ρ, hs, hn, h⟩ => ⟨w, S, ρ, hs, hn, h.bind.imp fun w1 S1 H1 x l1 s1 h1 => h1.ok s1⟩
theorem mw_and1 (ha : PT X a (tMt X.K E ta)) : PW X (.BoolOp .And [a] pos) (tMt X.K E ta) := pw_and1 ha
theorem mw_or1 (ha : PT X a (tMt X.K E ta)) : PW X (.BoolOp .Or [a] pos) (tMt X.K E ta) := pw_or1 ha
theorem mw_and (ha : PT X a (tMt X.K E ta)) (hb : PW X (.BoolOp .And (b :: rest) pos) (tMt X.K E tb)) : PW X (.BoolOp .And (a :: b :: rest) pos) (tMt X.K E (andT ta tb)) :=
  pw_imp (pw_and ha hb) fun σ H Q ⟨w, S, ρ, hs, hn, h⟩ => ⟨w, S, ρ, hs, hn, h.bind.imp fun w1 S1 H1 x l1 s1 h1 => by
    cases x with
    | true => exact iteT ⟨w1, S1, ρ, s1, hn.mono l1, h1⟩
    | false => exact iteF (h1.ok s1)⟩
theorem mw_or (ha : PT X a (tMt X.K E ta)) (hb : PW X (.BoolOp .Or (b :: rest) pos) (tMt X.K E tb)) : PW X (.BoolOp .Or (a :: b :: rest) pos) (tMt X.K E (orT ta tb)) :=
  pw_imp (pw_or ha hb) fun σ H Q ⟨w, S, ρ, hs, hn, h⟩ => ⟨w, S, ρ, hs, hn, h.bind.imp fun w1 S1 H1 x l1 s1 h1 => by
    cases x with
    | false => exact iteF ⟨w1, S1, ρ, s1, hn.mono l1, h1⟩
    | true => exact iteT (h1.ok s1)⟩
/-- and, or, not as values -/
def andV (m n : Env → M D) : Env → M D := fun ρ => M.bind (m ρ) fun x => M.bind (toB x) fun b => if b = true then n ρ else M.pure (.bl false)
def orV (m n : Env → M D) : Env → M D := fun ρ => M.bind (m ρ) fun x => M.bind (toB x) fun b => if b = true then M.pure (.bl true) else n ρ
def notV (m : Env → M D) : Env → M D := fun ρ => M.bind (m ρ) fun x => M.bind (toB x) fun b => M.pure (.bl (!b))
theorem me_one {op} {t : TE} (h : PE X a t) : PE X (.BoolOp op [a] pos) t := pe_one h
theorem me_and (ha : PE X a (tM X.K E ma)) (hb : PE X (.BoolOp .And (b :: rest) pos) (tM X.K E mb)) : PE X (.BoolOp .And (a :: b :: rest) pos) (tM X.K E (andV ma mb)) :=
  pe_imp (pe_and ha hb) fun σ H Q ⟨w, S, ρ, hs, hn, h⟩ => ⟨w, S, ρ, hs, hn, h.bind.imp fun w1 S1 H1 x l1 s1 h1 v rv => by
    cases rv with
    | bl k =>
      refine ⟨k, rfl, ?_⟩
      cases k with
      | true => exact iteT ⟨w1, S1, ρ, s1, hn.mono l1, h1⟩
      | false => exact iteF (Fin.ok h1 s1 _ (.bl false))
    | _ => exact h1.elim⟩
theorem me_or (ha : PE X a (tM X.K E ma)) (hb : PE X (.BoolOp .Or (b :: rest) pos) (tM X.K E mb)) : PE X (.BoolOp .Or (a :: b :: rest) pos) (tM X.K E (orV ma mb)) :=
  pe_imp (pe_or ha hb) fun σ H Q ⟨w, S, ρ, hs, hn, h⟩ => ⟨w, S, ρ, hs, hn, h.bind.imp fun w1 S1 H1 x l1 s1 h1 v rv => by
    cases rv with
    | bl k =>
      refine ⟨k, rfl, ?_⟩
      cases k with
      | false => exact iteF ⟨w1, S1, ρ, s1, hn.mono l1, h1⟩
      | true => exact iteT (Fin.ok h1 s1 _ (.bl true))
    | _ => exact h1.elim⟩
theorem me_not (ha : PE X a (tM X.K E ma)) : PE X (.UnaryOp .Not a pos) (tM X.K E (notV ma)) :=
  pe_imp (pe_not ha) fun σ H Q ⟨w, S, ρ, hs, hn, h⟩ => ⟨w, S, ρ, hs, hn, h.bind.imp fun w1 S1 H1 x l1 s1 h1 v rv => by
    cases rv with
    | bl k => exact ⟨k, rfl, Fin.ok h1 s1 _ (.bl _)⟩
    | _ => exact h1.elim⟩
/-- a chain of two -/
def chn (f g : D → D → M D) (a b c : Env → M D) : Env → M D := fun ρ => M.bind (a ρ) fun x => M.bind (b ρ) fun y => M.bind (f x y) fun z => M.bind (toB z) fun k => if k = true then M.bind (c ρ) fun u => g y u else M.pure (.bl false)
theorem chn_go {r r' : R2} {f g : D → D → M D} (hf : OpM X.K r f) (hg : OpM X.K r' g) {σ : L2.St} {H : Hp} {Q : VK} (h : tM X.K E (chn f g ma mb mc) σ H Q) : tChain r r' (tM X.K E ma) (tM X.K E mb) (tM X.K E mc) σ H Q := by
  obtain ⟨w, S, ρ, hs, hn, h⟩ := h
  refine ⟨w, S, ρ, hs, hn, h.bind.imp fun w1 S1 H1 x l1 s1 h1 v rv => ?_⟩
  refine ⟨w1, S1, ρ, s1, hn.mono l1, h1.bind.imp fun w2 S2 H2 y l2 s2 h2 u ru => ?_⟩
  refine hf E w2 S2 H2 v u x y _ s2 (rv.mono l2) ru (h2.bind.imp fun w3 S3 H3 z l3 s3 h3 z' rz => ?_)
  cases rz with
  | bl k =>
    refine ⟨k, rfl, ?_⟩
    have h4 := h3.bind.ok s3
    cases k with
    | true =>
      refine iteT ⟨w3, S3, ρ, s3, hn.mono (l1.trans (l2.trans l3)), Fin.imp (Fin.bind h4) fun w4 S4 H4 t l4 s4 h5 t' rt => ?_⟩
      exact hg E w4 S4 H4 u t' y t Q s4 ((ru.mono l3).mono l4) rt h5
    | false => exact iteF (Fin.ok h4 s3 _ (.bl false))
  | _ => exact (Fin.bind h3).elim
theorem marks_two (op op' : CmpOp) (b c : Expr) : lastMarks [op, op'] [b, c] = behindInMarks op' c := by simp [lastMarks]
theorem me_chain {op op' : CmpOp} {r r' : R2} {f g : D → D → M D} (ho : OpR X (compareOp op) r) (hf : OpM X.K r f) (ho' : OpR X (compareOp op') r') (hg : OpM X.K r' g) (ha : PE X a (tM X.K E ma)) (hb : PE X b (tM X.K E mb)) (hc : PE X c (tM X.K E mc))
    (hm : behindInMarks op' c = false) : PE X (.Compare a [op, op'] [b, c] pos) (tM X.K E (chn f g ma mb mc)) := pe_imp (pe_chain ho ho' ha hb hc ((marks_two op op' b c).trans hm)) fun _ _ _ h => chn_go hf hg h
theorem mt_chain {op op' : CmpOp} {r r' : R2} {f g : D → D → M D} (ho : OpR X (compareOp op) r) (hf : OpM X.K r f) (ho' : OpR X (compareOp op') r') (hg : OpM X.K r' g) (ha : PE X a (tM X.K E ma)) (hb : PE X b (tM X.K E mb)) (hc : PE X c (tM X.K E mc))
    (hm : behindInMarks op' c = false) : PT X (.Compare a [op, op'] [b, c] pos) (tMt X.K E (tst (chn f g ma mb mc))) :=
  pt_imp (pt_chain ho ho' ha hb hc ((marks_two op op' b c).trans hm)) fun σ H Q ⟨w, S, ρ, hs, hn, h⟩ => chn_go hf hg ⟨w, S, ρ, hs, hn, h.bind.imp fun w1 S1 H1 x l1 s1 h1 v rv => toB_go h1 s1 rv⟩
/-- a if t else b -/
def ifV (t : Env → M Bool) (m n : Env → M D) : Env → M D := fun ρ => M.bind (t ρ) fun k => if k = true then m ρ else n ρ
theorem me_ife (hc : PT X c (tMt X.K E ta)) (ha : PE X a (tM X.K E ma)) (hb : PE X b (tM X.K E mb)) : PE X (.IfExp c a b pos) (tM X.K E (ifV ta ma mb)) :=
  pe_imp (pe_ifExp hc ha hb) fun σ H Q ⟨w, S, ρ, hs, hn, h⟩ => ⟨w, S, ρ, hs, hn, h.bind.imp fun w1 S1 H1 x l1 s1 h1 => by
    cases x with
    | true => exact iteT ⟨w1, S1, ρ, s1, hn.mono l1, h1⟩
    | false => exact iteF ⟨w1, S1, ρ, s1, hn.mono l1, h1⟩⟩

/-! ### arguments, displays -/
variable {es : List Expr} {mas : Env → M (List D)}
def aCons (m : Env → M D) (n : Env → M (List D)) : Env → M (List D) := fun ρ => M.bind (m ρ) fun x => M.bind (n ρ) fun xs => M.pure (x :: xs)
theorem ma_nil : PA X [] (tMa X.K E fun _ => M.pure []) := pa_imp pa_nil fun σ H Q ⟨w, S, ρ, hs, hn, h⟩ => Fin.ok h hs _ .nil
theorem ma_cons (ha : PE X a (tM X.K E ma)) (hr : PA X es (tMa X.K E mas)) (hst : starEach (a :: es) X.env = (false, eval a X.env) :: starEach es X.env := by rfl) : PA X (a :: es) (tMa X.K E (aCons ma mas)) :=
  pa_imp (pa_cons ha hr hst) fun σ H Q ⟨w, S, ρ, hs, hn, h⟩ => ⟨w, S, ρ, hs, hn, h.bind.imp fun w1 S1 H1 x l1 s1 h1 v rv =>
    ⟨w1, S1, ρ, s1, hn.mono l1, h1.bind.imp fun w2 S2 H2 xs l2 s2 h2 vs rvs => Fin.ok h2 s2 _ (.cons (rv.mono l2) rvs)⟩⟩
def mkL (m : Env → M (List D)) : Env → M D := fun ρ => M.bind (m ρ) fun xs => if xs.length ≤ 100000 then M.pure (.lst xs) else bad
def mkT (m : Env → M (List D)) : Env → M D := fun ρ => M.bind (m ρ) fun xs => if xs.length ≤ 100000 then M.pure (.tup xs) else bad
/-- a list that will be changed: a cell -/
def newL (xs : List D) : M D := fun S => some (.ok (.ref S.length), S ++ [.lst xs])
def mkC (m : Env → M (List D)) : Env → M D := fun ρ => M.bind (m ρ) fun xs => if xs.length ≤ 100000 then newL xs else bad
theorem sz_of {n : Nat} (h : n ≤ 100000) : n ≤ sizeLine := Nat.le_trans h (by decide)
theorem sz_lt {n : Nat} (h : n < 100000) : n < sizeLine := Nat.lt_of_lt_of_le h (by decide)
theorem lay_lst {w : Wd} {S : Sto} {H : Hp} {xs : List D} {vs : List V} {p : Addr} {P : Wd → Sto → Hp → D → Prop} (h : Fin X.K E w (some (.ok (.lst xs), S)) P) (hs : Rs X.K w S H) (rv : RvL X.K w vs xs) (hp : H p = none) :
    ∃ w', Le w w' ∧ Rv X.K w' (.ref p) (.lst xs) ∧ P w' S (upd H p (.lst vs)) (.lst xs) :=
  ⟨w.lay p (.lst vs), hs.le_lay hp, .lst (by show upd w.G p _ p = _; rw [upd_same]) (rv.mono (hs.le_lay hp)), h _ _ (hs.le_lay hp) (hs.lay hp)⟩
theorem lay_tup {w : Wd} {S : Sto} {H : Hp} {xs : List D} {vs : List V} {p : Addr} {P : Wd → Sto → Hp → D → Prop} (h : Fin X.K E w (some (.ok (.tup xs), S)) P) (hs : Rs X.K w S H) (rv : RvL X.K w vs xs) (hp : H p = none) :
    ∃ w', Le w w' ∧ Rv X.K w' (.ref p) (.tup xs) ∧ P w' S (upd H p (.tup vs)) (.tup xs) :=
  ⟨w.lay p (.tup vs), hs.le_lay hp, .tup (.of (by show upd w.G p _ p = _; rw [upd_same])) (rv.mono (hs.le_lay hp)), h _ _ (hs.le_lay hp) (hs.lay hp)⟩
theorem lay_new {w : Wd} {S : Sto} {H : Hp} {xs : List D} {vs : List V} {p : Addr} {P : Wd → Sto → Hp → D → Prop} (h : Fin X.K E w (newL xs S) P) (hs : Rs X.K w S H) (rv : RvL X.K w vs xs) (hp : H p = none) :
    ∃ w', Le w w' ∧ Rv X.K w' (.ref p) (.ref S.length) ∧ P w' (S ++ [.lst xs]) (upd H p (.lst vs)) (.ref S.length) :=
  ⟨w.add p, le_add, .ref (by show (w.A ++ [p])[S.length]? = some p; rw [← hs.len]; simp), h _ _ le_add (hs.add hp ⟨vs, by rw [upd_same], rv.mono le_add⟩)⟩
theorem me_lst {k} (ha : PA X es (tMa X.K E mas)) : PE X (.List es k) (tM X.K E (mkL mas)) := pe_imp (pe_lst ha) fun σ H Q ⟨w, S, ρ, hs, hn, h⟩ => ⟨w, S, ρ, hs, hn, h.bind.imp fun w1 S1 H1 xs l1 s1 h1 vs rvs => by
  by_cases hl : xs.length ≤ 100000
  · rw [if_pos hl] at h1
    refine ⟨sz_of (by rw [rvs.length]; exact hl), fun p hp => ?_⟩
    obtain ⟨w', _, r, q⟩ := lay_lst h1 s1 rvs hp
    exact q _ r
  · rw [if_neg hl] at h1
    exact h1.elim⟩
theorem me_new {k} (ha : PA X es (tMa X.K E mas)) : PE X (.List es k) (tM X.K E (mkC mas)) := pe_imp (pe_lst ha) fun σ H Q ⟨w, S, ρ, hs, hn, h⟩ => ⟨w, S, ρ, hs, hn, h.bind.imp fun w1 S1 H1 xs l1 s1 h1 vs rvs => by
  by_cases hl : xs.length ≤ 100000
  · rw [if_pos hl] at h1
    refine ⟨sz_of (by rw [rvs.length]; exact hl), fun p hp => ?_⟩
    obtain ⟨w', _, r, q⟩ := lay_new h1 s1 rvs hp
    exact q _ r
  · rw [if_neg hl] at h1
    exact h1.elim⟩
theorem me_tup {x k} (ha : PA X es (tMa X.K E mas)) : PE X (.Tuple es x k) (tM X.K E (mkT mas)) := pe_imp (pe_tup ha) fun σ H Q ⟨w, S, ρ, hs, hn, h⟩ => ⟨w, S, ρ, hs, hn, h.bind.imp fun w1 S1 H1 xs l1 s1 h1 vs rvs => by
  by_cases hl : xs.length ≤ 100000
  · rw [if_pos hl] at h1
    refine ⟨sz_of (by rw [rvs.length]; exact hl), fun p hp => ?_⟩
    obtain ⟨w', _, r, q⟩ := lay_tup h1 s1 rvs hp
    exact q _ r
  · rw [if_neg hl] at h1
    exact h1.elim⟩
/-! ### calls of built-ins -/
def cal (f : List D → M D) (m : Env → M (List D)) : Env → M D := fun ρ => M.bind (m ρ) f
variable {x : Str} {p : Pos} {id T : String} {r : List V → Hp → VK → Prop} {f : List D → M D}
theorem cal_go (hf : CaM X.K r f) {σ : L2.St} {H : Hp} {Q : VK} (h : tM X.K E (cal f mas) σ H Q) : tCB r (tMa X.K E mas) σ H Q := by
  obtain ⟨w, S, ρ, hs, hn, h⟩ := h
  exact ⟨w, S, ρ, hs, hn, h.bind.imp fun w1 S1 H1 xs l1 s1 h1 vs rvs => hf E w1 S1 H1 vs xs Q s1 rvs h1⟩
theorem me_callB (hc : CallR X (.builtin id) r) (hf : CaM X.K r f) (hg : Gl X x) (hm : X.mg x = none) (hv : bootBuiltins x = some (.builtin id)) (ha : PA X (a :: es) (tMa X.K E mas)) (hn : x ≠ "__name__" := by decide) (hdb : (x == ("__debug__" : Str)) = false := by decide)
    (he : starEach (a :: es) X.env = (false, eval a X.env) :: starEach es X.env := by rfl) (hpl : (backTo pos (starEach es X.env)).any (·.1) = false := by rfl) : PE X (.Call (.Name x p) (a :: es) [] pos) (tM X.K E (cal f mas)) :=
  pe_imp (pe_callB hc hg hm hv ha hn hdb he hpl) fun _ _ _ h => cal_go hf h
theorem me_callTy (hc : CallR X (.type T) r) (hf : CaM X.K r f) (hg : Gl X x) (hm : X.mg x = none) (hv : bootBuiltins x = some (.type T)) (ha : PA X (a :: es) (tMa X.K E mas)) (hn : x ≠ "__name__" := by decide) (hdb : (x == ("__debug__" : Str)) = false := by decide)
    (he : starEach (a :: es) X.env = (false, eval a X.env) :: starEach es X.env := by rfl) (hpl : (backTo pos (starEach es X.env)).any (·.1) = false := by rfl) : PE X (.Call (.Name x p) (a :: es) [] pos) (tM X.K E (cal f mas)) :=
  pe_imp (pe_callTy hc hg hm hv ha hn hdb he hpl) fun _ _ _ h => cal_go hf h
/-! ### calls of defs -/
def EK0 : EK := fun _ _ _ => False
def spM (K : PySem.W.Frag) (n : Nat) (f : List D → M D) : Sp := fun vs H Q _ => vs.length = n ∧ ∃ w S ds, Rs K w S H ∧ RvL K w vs ds ∧ Fin K EK0 w (f ds S) fun w' _ H' d => ∀ v, Rv K w' v d → Q v H'
variable {CX : CXT} {k : Nat} {fa : Addr} {fd : FuncData} {ps : List Str}
def calF (n : Nat) (f : List D → M D) (m : Env → M (List D)) : Env → M D := fun ρ => M.bind (m ρ) fun xs => if xs.length = n then f xs else bad
theorem me_call {n : Nat} (F : FnOk X.prog X.w X.K X.mg X.base CX k fa fd ps (spM X.K n f)) (hr : Room k X.A) (hg : Gl X x) (hm : X.mg x = some (.ref fa)) (hk : PySem.W.keepIn X.K (.ref fa) = true) (hb : Binds X.K fd ps []) {E' : XK} (hx : Passes CX X E')
    (ha : PA X (a :: es) (tMa X.K EK0 mas)) (hdb : (x == ("__debug__" : Str)) = false := by decide) (he : starEach (a :: es) X.env = (false, eval a X.env) :: starEach es X.env := by rfl) (hpl : (backTo pos (starEach es X.env)).any (·.1) = false := by rfl) :
    PE X (.Call (.Name x p) (a :: es) [] pos) (tM X.K EK0 (calF n f mas)) :=
  pe_imp (pe_call F hr hg hm hk hb .nil hx ha hdb he hpl) fun σ H Q ⟨w, S, ρ, hs, hn, h⟩ => ⟨w, S, ρ, hs, hn, h.bind.imp fun w1 S1 H1 xs l1 s1 h1 vs rvs => by
    by_cases hl : xs.length = n
    · rw [if_pos hl] at h1
      exact ⟨by rw [List.append_nil, rvs.length, hl], w1, S1, xs, s1, by rw [List.append_nil]; exact rvs, h1⟩
    · rw [if_neg hl] at h1
      exact h1.elim⟩
end
end Mi
namespace Mi
open PySem PySem.Spec L2

/-! ### statements -/
section
variable {X : Cx} {E : EK} {st : Stmt} {rest body : List Stmt} {e c o i : Expr} {pos : Pos} {m n : Env → M D} {t : Env → M Bool} {ms ns : Env → M (Fl × Env)}
def sSeq (a b : Env → M (Fl × Env)) : Env → M (Fl × Env) := fun ρ => M.bind (a ρ) fun r => match r with
  | (.nx, ρ') => b ρ'
  | r => M.pure r
def sNil : Env → M (Fl × Env) := fun ρ => M.pure (.nx, ρ)
def sRet (m : Env → M D) : Env → M (Fl × Env) := fun ρ => M.bind (m ρ) fun d => M.pure (.rt d, ρ)
def sDrop (m : Env → M D) : Env → M (Fl × Env) := fun ρ => M.bind (m ρ) fun _ => M.pure (.nx, ρ)
def sIf (t : Env → M Bool) (a b : Env → M (Fl × Env)) : Env → M (Fl × Env) := fun ρ => M.bind (t ρ) fun k => if k = true then a ρ else b ρ
def sAsg (m : Env → M D) (g : D → Env → M Env) : Env → M (Fl × Env) := fun ρ => M.bind (m ρ) fun d => M.bind (g d ρ) fun ρ' => M.pure (.nx, ρ')
def gSet (i : Nat) : D → Env → M Env := fun d ρ => M.pure (ρ.set i (some d))
theorem mss_nil : PSs X [] (tMs X.K E sNil) := pss_imp pss_nil fun D σ H ⟨w, S, ρ, hs, hn, h⟩ => Fin.ok h hs σ hn
theorem mss_cons (h1 : PS X st (tMs X.K E ms)) (h2 : PSs X rest (tMs X.K E ns)) : PSs X (st :: rest) (tMs X.K E (sSeq ms ns)) :=
  pss_imp (pss_cons h1 h2) fun D σ H ⟨w, S, ρ, hs, hn, h⟩ => ⟨w, S, ρ, hs, hn, h.bind.imp fun w1 S1 H1 r l1 s1 q => by
    obtain ⟨fl, ρ'⟩ := r
    cases fl with
    | nx => exact fun σ' hn' => ⟨w1, S1, ρ', s1, hn', q⟩
    | bk => exact Fin.ok q s1
    | ct => exact Fin.ok q s1
    | rt d => exact Fin.ok q s1⟩
theorem ms_pass : PS X (.Pass pos) (tMs X.K E sNil) := ps_imp ps_pass fun D σ H ⟨w, S, ρ, hs, hn, h⟩ => Fin.ok h hs σ hn
theorem ms_break : PS X (.Break pos) (tMs X.K E fun ρ => M.pure (.bk, ρ)) := ps_imp ps_break fun D σ H ⟨w, S, ρ, hs, hn, h⟩ => Fin.ok h hs σ hn
theorem ms_continue : PS X (.Continue pos) (tMs X.K E fun ρ => M.pure (.ct, ρ)) := ps_imp ps_continue fun D σ H ⟨w, S, ρ, hs, hn, h⟩ => Fin.ok h hs σ hn
theorem ms_ret (he : PE X e (tM X.K E m)) : PS X (.Return (some e) pos) (tMs X.K E (sRet m)) :=
  ps_imp (ps_ret he) fun D σ H ⟨w, S, ρ, hs, hn, h⟩ => ⟨w, S, ρ, hs, hn, h.bind.imp fun w1 S1 H1 d l1 s1 q v rv => Fin.ok q s1 v rv⟩
theorem ms_retN : PS X (.Return none pos) (tMs X.K E fun ρ => M.pure (.rt .non, ρ)) := ps_imp ps_retN fun D σ H ⟨w, S, ρ, hs, hn, h⟩ => Fin.ok h hs .non .non
theorem ms_expr (he : PE X e (tM X.K E m)) (hs : swapsWith e none pos.line X.env = pure false := by rfl) : PS X (.Expr e pos) (tMs X.K E (sDrop m)) :=
  ps_imp (ps_expr he hs) fun D σ H ⟨w, S, ρ, hs, hn, h⟩ => ⟨w, S, ρ, hs, hn, h.bind.imp fun w1 S1 H1 d l1 s1 q v rv => Fin.ok q s1 σ (hn.mono l1)⟩
theorem ms_if (hc : PT X c (tMt X.K E t)) (ha : PSs X body (tMs X.K E ms)) (hb : PSs X rest (tMs X.K E ns)) : PS X (.If c body rest pos) (tMs X.K E (sIf t ms ns)) :=
  ps_imp (ps_if hc ha hb) fun D σ H ⟨w, S, ρ, hs, hn, h⟩ => ⟨w, S, ρ, hs, hn, h.bind.imp fun w1 S1 H1 k l1 s1 q => by
    cases k with
    | true => exact iteT ⟨w1, S1, ρ, s1, hn.mono l1, q⟩
    | false => exact iteF ⟨w1, S1, ρ, s1, hn.mono l1, q⟩⟩
theorem mg_name {i : Nat} {x : Str} (hN : X.N.Nodup) (hi : X.N[i]? = some x) (hx : Loc X.env.scope x) (hf : X.fn x = true ∨ X.env.scope.names.lookup x = some .local := by first | exact .inl rfl | exact .inr rfl | assumption) : PG X (.Name x pos) (gM X.K E (gSet i)) :=
  pg_imp (pg_name hN hi hx hf) fun v σ H Q ⟨w, S, ρ, d, hs, hn, rv, h⟩ => Fin.ok h hs _ (hn.set rv)
theorem asg_go {g : D → Env → M Env} {D : Ends} {σ : L2.St} {H : Hp} (h : tMs X.K E (sAsg m g) D σ H) : tAsg (tM X.K E m) (gM X.K E g) D σ H := by
  obtain ⟨w, S, ρ, hs, hn, h⟩ := h
  exact ⟨w, S, ρ, hs, hn, h.bind.imp fun w1 S1 H1 d l1 s1 q v rv => ⟨w1, S1, ρ, d, s1, hn.mono l1, rv, q.bind.imp fun w2 S2 H2 ρ' l2 s2 q2 σ' hn' => Fin.ok q2 s2 σ' hn'⟩⟩
theorem ms_asg {g : D → Env → M Env} {tg : Expr} (he : PE X e (tM X.K E m)) (hg : PG X tg (gM X.K E g)) (hs : swapsWithSole [tg] e pos.line X.env = pure false := by rfl) (hw : swappedStores [tg] e X.env = pure none := by rfl)
    (h1 : (assignEach [tg] X.env).map (·.2) = [assign tg X.env] := by rfl) : PS X (.Assign [tg] e pos) (tMs X.K E (sAsg m g)) := ps_imp (ps_asg he hg hs hw h1) fun _ _ _ h => asg_go h
theorem ms_set {i : Nat} {x : Str} {pos' : Pos} (hN : X.N.Nodup) (hi : X.N[i]? = some x) (hx : Loc X.env.scope x) (he : PE X e (tM X.K E m)) (hs : swapsWith e (some (.Name x pos')) pos.line X.env = pure false := by rfl) (hf : X.fn x = true ∨ X.env.scope.names.lookup x = some .local := by first | exact .inl rfl | exact .inr rfl | assumption) :
    PS X (.Assign [.Name x pos'] e pos) (tMs X.K E (sAsg m (gSet i))) := ps_imp (ps_set hN hi hx he hs hf) fun D σ H ⟨w, S, ρ, hs, hn, h⟩ =>
  ⟨w, S, ρ, hs, hn, h.bind.imp fun w1 S1 H1 d l1 s1 q v rv => Fin.ok (Fin.bind q |>.ok s1) s1 _ ((hn.mono l1).set rv)⟩
/-- a, b = x, y -/
def sPar (i j : Nat) (m n : Env → M D) : Env → M (Fl × Env) := fun ρ => M.bind (m ρ) fun x => M.bind (n ρ) fun y => M.pure (.nx, (ρ.set i (some x)).set j (some y))
theorem ms_par {i j : Nat} {x y : Str} {a b : Expr} {px py pt : Pos} {kt k2 pt2} (hc : X.calm = true) (hN : X.N.Nodup) (hi : X.N[i]? = some x) (hj : X.N[j]? = some y) (hij : i ≠ j)
    (hx : X.env.scope.names.lookup x = some .local) (hy : X.env.scope.names.lookup y = some .local) (ha : PE X a (tM X.K E m)) (hb : PE X b (tM X.K E n)) (hst : swappedStores [.Tuple [.Name x px, .Name y py] kt pt] (.Tuple [a, b] k2 pt2) X.env = pure (some [x, y]) := by rfl)
    (h1 : starEach [a, b] X.env = (false, eval a X.env) :: starEach [b] X.env := by rfl) (h2 : starEach [b] X.env = (false, eval b X.env) :: starEach [] X.env := by rfl) :
    PS X (.Assign [.Tuple [.Name x px, .Name y py] kt pt] (.Tuple [a, b] k2 pt2) pos) (tMs X.K E (sPar i j m n)) :=
  ps_imp (ps_par hc hN hi hj hij hx hy (pa_cons ha (pa_cons hb pa_nil h2) h1) hst) fun D σ H ⟨w, S, ρ, hs, hn, h⟩ =>
    ⟨w, S, ρ, hs, hn, h.bind.imp fun w1 S1 H1 d l1 s1 q v rv => ⟨w1, S1, ρ, s1, hn.mono l1, q.bind.imp fun w2 S2 H2 d2 l2 s2 q2 v2 rv2 =>
      ⟨v, v2, rfl, Fin.ok q2 s2 _ (((hn.mono (l1.trans l2)).set (rv.mono l2)).set rv2)⟩⟩⟩
end

/-! ### what is walked -/
/-- the items of a walk, one by one; a turn may lay a new pair -/
structure Out (w : Wd) (p : Addr) : Prop where
  g : w.G p = none
  f : w.F p = none
  a : p ∉ w.A
def YM (K : PySem.W.Frag) (w : Wd) (ds : List D) (Y : Nat → Hp → V → Hp → Prop) : Prop := ∀ i H x H' w2 S2, Le w w2 → Rs K w2 S2 H → i < ds.length → Y i H x H' →
  ∃ w3 d, Le w2 w3 ∧ Rs K w3 S2 H' ∧ ds[i]? = some d ∧ Rv K w3 x d ∧ ∀ p o, H p = some o → H' p = some o ∧ (Out w2 p → Out w3 p)
def tMi (K : PySem.W.Frag) (E : EK) (m : Env → M (List D)) : TI := fun σ H R => ∃ w S ρ, Rs K w S H ∧ Rn K w σ ρ ∧ Fin K E w (m ρ S) fun w' _ H' ds =>
  ∀ J G Y, Walk J ds.length G Y → (∀ w2 S2 H2, Le w' w2 → Rs K w2 S2 H2 → G H2) → YM K w' ds Y → R J H'
section
variable {X : Cx} {E : EK} {tg iter : Expr} {body rest : List Stmt} {pos : Pos} {wi : TI} {mi : Env → M (List D)} {ms : Env → M (Fl × Env)} {g : D → Env → M Env}
theorem pi_imp {wi wi' : TI} (h : PI X tg iter wi) (k : ∀ σ H R, wi' σ H R → wi σ H R) : PI X tg iter wi' := ⟨fun pins s σ H R I q => h.run pins s σ H R I (k σ H R q)⟩
def loop (g : D → Env → M Env) (body : Env → M (Fl × Env)) : List D → Env → M (Fl × Env)
  | [], ρ => M.pure (.nx, ρ)
  | x :: xs, ρ => M.bind (g x ρ) fun ρ1 => M.bind (body ρ1) fun r => match r with
    | (.nx, ρ2) => loop g body xs ρ2
    | (.ct, ρ2) => loop g body xs ρ2
    | (.bk, ρ2) => M.pure (.nx, ρ2)
    | (.rt d, ρ2) => M.pure (.rt d, ρ2)
def sFor (mi : Env → M (List D)) (g : D → Env → M Env) (body : Env → M (Fl × Env)) : Env → M (Fl × Env) := fun ρ => M.bind (mi ρ) fun xs => loop g body xs ρ
theorem ms_for (hp : PassesOwn (model X.prog X.w) X.A X.env X.xe) (hc : X.calm = true) (hi : PI X tg iter (tMi X.K E mi)) (hg : PG X tg (gM X.K E g)) (hb : PSs X body (tMs X.K E ms)) (hfs : ∀ x, foldedSetIterable iter X.env x = pure x := by intro _; rfl) :
    PS X (.For tg iter body [] pos) (tMs X.K E (sFor mi g ms)) := ps_imp (ps_for hp hc hi hg hb hfs) fun D σ H ⟨w, S, ρ, hs, hn, h⟩ => by
  refine ⟨w, S, ρ, hs, hn, h.bind.imp fun w1 S1 H1 ds l1 s1 q J G Y W hG hY => ?_⟩
  refine for_it W (fun i σ' H' => ∃ w' S' ρ', Le w1 w' ∧ Rs X.K w' S' H' ∧ Rn X.K w' σ' ρ' ∧ Fin X.K E w' (loop g ms (ds.drop i) ρ' S') (Land X.K D)) ⟨w1, S1, ρ, Le.refl w1, s1, hn.mono l1, q⟩
    (fun i σ' H' _ ⟨w', S', ρ', l, s, _⟩ => hG w' S' H' l s) (fun i x σ' H2 H3 hi ⟨w', S', ρ', l, s, n, q⟩ y => ?_) (fun σ' H' ⟨w', S', ρ', l, s, n, q⟩ => ?_)
  · obtain ⟨w3, d, l3, s3, hd, rv, _⟩ := hY i H2 x H3 w' S' l s hi y
    have e : ds.drop i = d :: ds.drop (i + 1) := by
      rw [List.drop_eq_getElem_cons hi]
      rw [List.getElem?_eq_getElem hi] at hd
      cases hd
      rfl
    rw [e] at q
    refine ⟨w3, S', ρ', d, s3, n.mono l3, rv, (Fin.bind (Fin.mono q l3)).imp fun w4 S4 H4 ρ1 l4 s4 q4 σ4 n4 => ⟨w4, S4, ρ1, s4, n4, q4.bind.imp fun w5 S5 H5 r l5 s5 q5 => ?_⟩⟩
    have ll : Le w1 w5 := l.trans (l3.trans (l4.trans l5))
    obtain ⟨fl, ρ2⟩ := r
    cases fl with
    | nx => exact fun σ5 n5 => ⟨w5, S5, ρ2, ll, s5, n5, q5⟩
    | ct => exact fun σ5 n5 => ⟨w5, S5, ρ2, ll, s5, n5, q5⟩
    | bk => exact fun σ5 n5 => Fin.ok q5 s5 σ5 n5
    | rt d => exact fun v rv => Fin.ok q5 s5 v rv
  · rw [List.drop_length] at q
    exact Fin.ok q s σ' n

end
/-! ### a frame: an object of our own, to be kept while others run -/
def Wd.fr (w : Wd) (p : Addr) (o : HO) : Wd := { w with F := upd w.F p o }
def Wd.un (w : Wd) (F : Hp) : Wd := { w with F := F }
theorem lv_of {w w' : Wd} (a : w'.A = w.A) (g : w'.G = w.G) : Lv w w' := ⟨⟨[], by rw [a]; simp⟩, fun b o h => by rw [g]; exact h⟩
section
variable {K : PySem.W.Frag} {w w2 : Wd} {S : Sto} {H : Hp} {p : Addr} {o : HO}
theorem cell_fr {a : Addr} {c : Cell} (h : CellR K w H a c) : CellR K (w.fr p o) H a c := CellR.monoV (w := w) (w' := w.fr p o) (lv_of rfl rfl) (fun _ e => e) h
theorem cell_un {a : Addr} {c : Cell} {F : Hp} (h : CellR K w H a c) : CellR K (w.un F) H a c := CellR.monoV (w := w) (w' := w.un F) (lv_of rfl rfl) (fun _ e => e) h
theorem rv_fr {v : V} {d : D} (h : Rv K w v d) : Rv K (w.fr p o) v d := Rv.monoV (w := w) (w' := w.fr p o) (lv_of rfl rfl) h
theorem rv_un {v : V} {d : D} {F : Hp} (h : Rv K w v d) : Rv K (w.un F) v d := Rv.monoV (w := w) (w' := w.un F) (lv_of rfl rfl) h
theorem rn_fr {σ : L2.St} {ρ : Env} (h : Rn K w σ ρ) : Rn K (w.fr p o) σ ρ := Rn.v (w := w) (w' := w.fr p o) h (lv_of rfl rfl)
theorem rn_un {σ : L2.St} {ρ : Env} {F : Hp} (h : Rn K w σ ρ) : Rn K (w.un F) σ ρ := Rn.v (w := w) (w' := w.un F) h (lv_of rfl rfl)
theorem Rs.outs (r : Rs K w S H) (x : Out w p) : Rs K w S (upd H p o) := by
  refine ⟨fun a u e => ?_, fun a u e => ?_, r.gf, r.len, r.nd, r.ag, fun n a c h1 h2 => ?_, r.sy⟩
  · rw [upd_ne (ne_of_none e x.g)]
    exact r.g a u e
  · rw [upd_ne (ne_of_none e x.f)]
    exact r.f a u e
  · refine (r.cell n a c h1 h2).mono (Le.refl w) fun u e => ?_
    rw [upd_ne (show a ≠ p by rintro rfl; exact x.a (List.mem_of_getElem? h1))]
    exact e
theorem Rs.fr (r : Rs K w S H) (x : Out w p) (h : H p = some o) : Rs K (w.fr p o) S H := by
  refine ⟨r.g, fun a u e => ?_, fun a u e => ?_, r.len, r.nd, fun a ha => ⟨(r.ag a ha).1, ?_⟩, fun n a c h1 h2 => cell_fr (r.cell n a c h1 h2), ?_⟩
  · have e' : upd w.F p o a = some u := e
    by_cases q : a = p
    · subst q
      rw [upd_same] at e'
      rw [h, e']
    · rw [upd_ne q] at e'
      exact r.f a u e'
  · have e' : upd w.F p o a = some u := e
    by_cases q : a = p
    · subst q
      exact x.g
    · rw [upd_ne q] at e'
      exact r.gf a u e'
  · show upd w.F p o a = none
    rw [upd_ne (show a ≠ p by rintro rfl; exact x.a ha)]
    exact (r.ag a ha).2
  · obtain ⟨φ, hφ⟩ := r.sy
    exact ⟨φ, by
      show upd w.F p o sysModules = _
      rw [upd_ne (ne_of_none hφ x.f)]
      exact hφ⟩
theorem Rs.lay' (r : Rs K w S H) (x : Out w p) (h : H p = some o) : Le w (w.lay p o) ∧ Rs K (w.lay p o) S H := by
  have l : Le w (w.lay p o) := ⟨⟨[], by simp [Wd.lay]⟩, fun b u e => by
    show upd w.G p o b = some u
    rw [upd_ne (ne_of_none e x.g)]
    exact e, rfl⟩
  refine ⟨l, fun a u e => ?_, r.f, fun a u e => ?_, r.len, r.nd, fun a ha => ⟨?_, (r.ag a ha).2⟩, fun n a c h1 h2 => (r.cell n a c h1 h2).monoV l.v fun _ e => e, r.sy⟩
  · have e' : upd w.G p o a = some u := e
    by_cases q : a = p
    · subst q
      rw [upd_same] at e'
      rw [h, e']
    · rw [upd_ne q] at e'
      exact r.g a u e'
  · show upd w.G p o a = none
    rw [upd_ne (ne_of_none e x.f)]
    exact r.gf a u e
  · have e : upd w.G p o a = w.G a := upd_ne (show a ≠ p by rintro rfl; exact x.a ha)
    show upd w.G p o a = none ∨ ∃ o' xs, upd w.G p o a = some (.frz o' (.dK xs))
    rw [e]
    exact (r.ag a ha).1
/-- behind a framed run -/
structure Kept (K : PySem.W.Frag) (w w' : Wd) (S : Sto) (H : Hp) (p : Addr) (o : HO) : Prop where
  le : Le w w'
  rs : Rs K w' S H
  out : Out w' p
  at' : H p = some o
theorem Fin.fr {α : Type} {r : Option (Except Exn α × Sto)} {P : Wd → Sto → Hp → α → Prop} (hf : w.F p = none) (sy : SysF w.F) (h : Fin K EK0 w r P) : Fin K EK0 (w.fr p o) r fun w2 S' H' a => Kept K w (w2.un w.F) S' H' p o ∧ P (w2.un w.F) S' H' a := by
  rcases r with _ | ⟨_ | a, S'⟩
  · exact h
  · intro w2 H' l2 r2
    have hF : w2.F = upd w.F p o := l2.f
    refine h (w2.un w.F) H' ⟨l2.a, l2.g, rfl⟩ ⟨r2.g, fun b u e => ?_, fun b u e => ?_, r2.len, r2.nd, fun b hb => ⟨(r2.ag b hb).1, ?_⟩, fun n b c h1 h2 => cell_un (r2.cell n b c h1 h2), sy⟩
    · have e' : w.F b = some u := e
      refine r2.f b u ?_
      rw [hF, upd_ne (ne_of_none e' hf)]
      exact e'
    · have e' : w.F b = some u := e
      refine r2.gf b u ?_
      rw [hF, upd_ne (ne_of_none e' hf)]
      exact e'
    · have q := (r2.ag b hb).2
      rw [hF] at q
      by_cases z : b = p
      · rw [z]; exact hf
      · rw [upd_ne z] at q
        exact q
  · intro w2 H' l2 r2
    have hF : w2.F = upd w.F p o := l2.f
    have l : Le w (w2.un w.F) := ⟨l2.a, l2.g, rfl⟩
    have rr : Rs K (w2.un w.F) S' H' := ⟨r2.g, fun b u e => by
      have e' : w.F b = some u := e
      refine r2.f b u ?_
      rw [hF, upd_ne (ne_of_none e' hf)]
      exact e', fun b u e => by
      have e' : w.F b = some u := e
      refine r2.gf b u ?_
      rw [hF, upd_ne (ne_of_none e' hf)]
      exact e', r2.len, r2.nd, fun b hb => ⟨(r2.ag b hb).1, by
      have q := (r2.ag b hb).2
      rw [hF] at q
      by_cases z : b = p
      · rw [z]; exact hf
      · rw [upd_ne z] at q
        exact q⟩, fun n b c h1 h2 => cell_un (r2.cell n b c h1 h2), sy⟩
    have hp : w2.F p = some o := by rw [hF, upd_same]
    exact ⟨⟨l, rr, ⟨r2.gf p o hp, hf, fun z => by have := (r2.ag p z).2; rw [hp] at this; cases this⟩, r2.f p o hp⟩, h (w2.un w.F) H' l rr⟩
end
/-! ### comprehensions -/
def noErr {α : Type} (m : M α) : M α := fun S => match m S with
  | some (.ok a, S') => some (.ok a, S')
  | _ => none
theorem Fin.noErr {α : Type} {K : PySem.W.Frag} {E : EK} {w : Wd} {m : M α} {S : Sto} {P : Wd → Sto → Hp → α → Prop} (h : Fin K E w (noErr m S) P) : Fin K EK0 w (m S) P := by
  unfold Mi.noErr at h
  rcases hm : m S with _ | ⟨_ | a, S'⟩
  · rw [hm] at h; exact h.elim
  · rw [hm] at h; exact h.elim
  · rw [hm] at h; exact h
def lcGo (g : D → Env → M Env) (t : Env → M Bool) (e : Env → M D) (ρ : Env) : List D → M (List D)
  | [] => M.pure []
  | x :: xs => M.bind (g x ρ) fun ρ1 => M.bind (t ρ1) fun k => if k = true then M.bind (e ρ1) fun y => M.bind (lcGo g t e ρ xs) fun ys => M.pure (y :: ys) else lcGo g t e ρ xs
def wipeE (vs : List Nat) (ρ : Env) : Env := vs.foldr (fun i ρ => ρ.set i none) ρ
def eLc (mi : Env → M (List D)) (g : D → Env → M Env) (t : Env → M Bool) (e : Env → M D) (vs : List Nat) : Env → M D := fun ρ => M.bind (mi ρ) fun xs =>
  if xs.length ≤ 50000 then M.bind (noErr (lcGo g t e (wipeE vs ρ) xs)) fun ys => M.pure (.lst ys) else bad
theorem wipe_get (σ : L2.St) : ∀ (vs : List Nat) (j : Nat), (L2.wipe σ vs)[j]? = if j ∈ vs then σ[j]?.map (fun _ => none) else σ[j]?
  | [], j => by simp [L2.wipe]
  | v :: vs, j => by
    show ((L2.wipe σ vs).set v none)[j]? = _
    rw [List.getElem?_set]
    by_cases h : v = j
    · subst h
      have e := L2.wipe_length σ vs
      by_cases hl : v < σ.length
      · simp [e, hl]
      · simp [e, hl]
    · rw [if_neg h, wipe_get σ vs j]
      have : j ∈ v :: vs ↔ j ∈ vs := by simp [Ne.symm h]
      simp only [this]
theorem wipe_wipe (σ : L2.St) (vs : List Nat) : L2.wipe (L2.wipe σ vs) vs = L2.wipe σ vs := by
  apply List.ext_getElem?
  intro j
  rw [wipe_get, wipe_get]
  split
  · cases σ[j]? <;> rfl
  · rfl
theorem wipe_set {σ : L2.St} {vs : List Nat} {i : Nat} {x : Option V} (h : i ∈ vs) : L2.wipe (σ.set i x) vs = L2.wipe σ vs := by
  apply List.ext_getElem?
  intro j
  rw [wipe_get, wipe_get]
  split
  · rw [List.getElem?_set]
    split
    · rename_i e
      subst e
      split
      · rename_i hl
        simp [hl]
      · rename_i hl
        simp [hl]
    · rfl
  · rename_i hj
    rw [List.getElem?_set_ne (show i ≠ j by rintro rfl; exact hj h)]
/-- how a raw target answers a mirrored one: slots of vs alone change -/
def GW (K : PySem.W.Frag) (vs : List Nat) (g : D → Env → M Env) (raw : TG) : Prop := ∀ (w : Wd) (S : Sto) (ρ : Env) (H : Hp) (v : V) (d : D) (σ : L2.St) (Q : L2.St → Hp → Prop), Rs K w S H → Rn K w σ ρ → Rv K w v d →
  Fin K EK0 w (g d ρ S) (fun w' _ H' ρ' => ∀ σ', Rn K w' σ' ρ' → L2.wipe σ' vs = L2.wipe σ vs → Q σ' H') → raw v σ H Q
theorem gw_name {K : PySem.W.Frag} {vs : List Nat} {i : Nat} (h : i ∈ vs) : GW K vs (gSet i) (gName i) := fun w S ρ H v d σ Q hs hn rv q => Fin.ok q hs _ (hn.set rv) (wipe_set h)
section
variable {X : Cx} {E : EK} {elt tg iter : Expr} {ifs : List Expr} {scope : Scope} {own : List (Str × Nat)} {pos : Pos} {raw : TG} {mi : Env → M (List D)} {g : D → Env → M Env} {t : Env → M Bool} {m : Env → M D}
theorem lc_go (hw : GW X.K (own.map (·.2)) g raw) {σ : L2.St} {H : Hp} {Q : VK} (h : tM X.K E (eLc mi g t m (own.map (·.2))) σ H Q) :
    tLc (tMi X.K E mi) raw (tMt X.K EK0 t) (tM X.K EK0 m) (own.map (·.2)) σ H Q := by
  generalize own.map (·.2) = vs at *
  obtain ⟨w, S, ρ, hs, hn, h⟩ := h
  refine ⟨w, S, ρ, hs, hn, h.bind.imp fun w1 S1 H1 ds l1 s1 q J G Y W hG hY D hD => ?_⟩
  by_cases hz : ds.length ≤ 50000
  case neg => rw [if_neg hz] at q; exact q.elim
  rw [if_pos hz] at q
  have q := Fin.noErr (Fin.bind q)
  have hn1 : Rn X.K w1 (L2.wipe σ vs) (wipeE vs ρ) := (hn.mono l1).wipe vs
  obtain ⟨f1, f2, f3⟩ := s1.fresh hD
  refine lc_it W (fun i H' => ∃ w' S' va ys, Le w1 w' ∧ Rs X.K w' S' H' ∧ H' D = some (.lst va) ∧ Out w' D ∧ RvL X.K w' va ys ∧ ys.length ≤ i ∧ i ≤ ds.length ∧
      Fin X.K EK0 w' (lcGo g t m (wipeE vs ρ) (ds.drop i) S') fun w2 S2 H2 more => Fin X.K E w2 (M.pure (Mi.D.lst (ys ++ more)) S2) fun w3 _ H3 d => ∀ v, Rv X.K w3 v d → Q v H3)
    ⟨w1, S1, [], [], Le.refl w1, s1.outs ⟨f1, f2, f3⟩, upd_same, ⟨f1, f2, f3⟩, .nil, Nat.le_refl _, Nat.zero_le _, q⟩
    (fun i H' _ ⟨w', S', va, ys, l, s, _⟩ => hG w' S' H' l s) (fun i x H2 H3 hi ⟨w', S', va, ys, l, s, hd, ho, rv, hl, _, q⟩ y => ?_) (fun H' ⟨w', S', va, ys, l, s, hd, ho, rv, hl, _, q⟩ => ?_)
  · obtain ⟨w3, d, l3, s3, hdi, rx, hkeep⟩ := hY i H2 x H3 w' S' l s hi y
    obtain ⟨hd3, ho3⟩ := hkeep D _ hd
    have ho3 := ho3 ho
    have e : ds.drop i = d :: ds.drop (i + 1) := by
      rw [List.drop_eq_getElem_cons hi]
      rw [List.getElem?_eq_getElem hi] at hdi
      cases hdi
      rfl
    rw [e] at q
    have s3f := s3.fr (o := .lst va) ho3 hd3
    have n3 : Rn X.K (w3.fr D (.lst va)) (L2.wipe σ vs) (wipeE vs ρ) := rn_fr (hn1.mono (l.trans l3))
    have q3 := Fin.fr (p := D) (o := .lst va) ho3.f s3.sy (Fin.bind (Fin.mono q l3))
    refine hw (w3.fr D (.lst va)) S' (wipeE vs ρ) H3 x d (L2.wipe σ vs) _ s3f n3 (rv_fr rx) (q3.imp fun w4 S4 H4 ρ1 l4 s4 q4 σ4 n4 hw4 => ?_)
    rw [wipe_wipe] at hw4
    refine ⟨hw4, ?_⟩
    obtain ⟨k4, q4⟩ := q4
    have q5 := Fin.fr (p := D) (o := .lst va) k4.out.f k4.rs.sy (Fin.bind q4)
    refine ⟨(w4.un w3.F).fr D (.lst va), S4, ρ1, k4.rs.fr k4.out k4.at', rn_fr (rn_un n4), q5.imp fun w5 S5 H5 b l5 s5 q5 => ?_⟩
    obtain ⟨k5, q5⟩ := q5
    have ll : Le w1 (w5.un (w4.un w3.F).F) := l.trans (l3.trans (k4.le.trans k5.le))
    cases b with
    | false => exact iteF ⟨_, S5, va, ys, ll, k5.rs, k5.at', k5.out, rv.mono (l3.trans (k4.le.trans k5.le)), Nat.le_succ_of_le hl, hi, q5⟩
    | true =>
      refine iteT ?_
      have q6 := Fin.fr (p := D) (o := .lst va) k5.out.f k5.rs.sy (Fin.bind q5)
      refine ⟨(w5.un (w4.un w3.F).F).fr D (.lst va), S5, ρ1, k5.rs.fr k5.out k5.at', (rn_fr (rn_un (Rn.mono l5 (rn_fr (rn_un n4))))), q6.imp fun w6 S6 H6 z l6 s6 q6 v6 r6 => ?_⟩
      obtain ⟨k6, q6⟩ := q6
      refine ⟨va, k6.at', sz_lt (by rw [rv.length]; omega), _, S6, va ++ [v6], ys ++ [z], ll.trans k6.le, k6.rs.outs k6.out, upd_same, k6.out, (rv.mono (l3.trans (k4.le.trans (k5.le.trans k6.le)))).append (.one (rv_un r6)), by simp; omega, hi, ?_⟩
      refine (Fin.bind q6).imp fun w7 S7 H7 more l7 s7 q7 => ?_
      have q8 := Fin.ok q7 s7
      rw [show ys ++ [z] ++ more = ys ++ z :: more by simp]
      exact q8
  · rw [List.drop_length] at q
    have q := Fin.ok q s
    rw [List.append_nil] at q
    obtain ⟨l2, s2⟩ := s.lay' ho hd
    exact q _ _ l2 s2 _ (.lst (by show upd w'.G D _ D = _; rw [upd_same]) (rv.mono l2))
end
end Mi
namespace Mi
open PySem PySem.Spec L2
section
variable {X : Cx} {E : EK} {elt tg iter l : Expr} {ifs : List Expr} {scope : Scope} {own : List (Str × Nat)} {pos p : Pos} {raw : TG} {mi : Env → M (List D)} {g : D → Env → M Env} {t : Env → M Bool} {m : Env → M D}
theorem me_lc (hc : X.calm = true) (hN : X.N.Nodup) (hi : PI X tg iter (tMi X.K E mi)) (ok : BlkOk X.N X.env.scope scope own) (hw : GW X.K (own.map (·.2)) g raw)
    (hg : ∀ (s : Shared) (H : Hp) (C : Addr) (cl : List (Str × Addr)) (fp : List Addr), PG (X.blk s H scope (compEnvC scope cl C X.env) fp) tg raw) (ht : ∀ (s : Shared) (H : Hp) (C : Addr) (cl : List (Str × Addr)) (fp : List Addr), PTs (X.blk s H scope (compEnvC scope cl C X.env) fp) ifs (tMt X.K EK0 t))
    (he : ∀ (s : Shared) (H : Hp) (C : Addr) (cl : List (Str × Addr)) (fp : List Addr), PE (X.blk s H scope (compEnvC scope cl C X.env) fp) elt (tM X.K EK0 m)) (hs : ∀ x, foldedSetIterable iter X.env x = pure x := by intro _; rfl) :
    PE X (.ListComp elt [⟨tg, iter, ifs, 0⟩] scope pos) (tM X.K E (eLc mi g t m (own.map (·.2)))) := pe_imp (pe_lc hc hN hi ok hg ht he hs) fun _ _ _ h => lc_go hw h
theorem ms_setLc {i : Nat} {y : Str} {py spos : Pos} (hc : X.calm = true) (hN : X.N.Nodup) (hy : X.N[i]? = some y) (hyl : X.env.scope.names.lookup y = some .local)
    (hsw : swapsWith (.ListComp elt [⟨tg, iter, ifs, 0⟩] scope pos) (some (.Name y py)) spos.line X.env = pure true) (hi : PI X tg iter (tMi X.K E mi)) (ok : BlkOk X.N X.env.scope scope own) (hw : GW X.K (own.map (·.2)) g raw)
    (hg : ∀ (s : Shared) (H : Hp) (C : Addr) (cl : List (Str × Addr)) (fp : List Addr), PG (X.blk s H scope (compEnvC scope cl C X.env) fp) tg raw) (ht : ∀ (s : Shared) (H : Hp) (C : Addr) (cl : List (Str × Addr)) (fp : List Addr), PTs (X.blk s H scope (compEnvC scope cl C X.env) fp) ifs (tMt X.K EK0 t))
    (he : ∀ (s : Shared) (H : Hp) (C : Addr) (cl : List (Str × Addr)) (fp : List Addr), PE (X.blk s H scope (compEnvC scope cl C X.env) fp) elt (tM X.K EK0 m)) (hs : ∀ x, foldedSetIterable iter X.env x = pure x := by intro _; rfl) :
    PS X (.Assign [.Name y py] (.ListComp elt [⟨tg, iter, ifs, 0⟩] scope pos) spos) (tMs X.K E (sAsg (eLc mi g t m (own.map (·.2))) (gSet i))) :=
  ps_imp (ps_setLc hc hN hy hyl hsw hi ok hg ht he hs) fun D σ H ⟨w, S, ρ, hs, hn, h⟩ => lc_go hw ⟨w, S, ρ, hs, hn, h.bind.imp fun w1 S1 H1 d l1 s1 q v rv => Fin.ok (Fin.ok (Fin.bind q) s1) s1 _ ((hn.mono l1).set rv)⟩
theorem mts_nil : PTs X [] (tMt X.K E fun _ => M.pure true) := pts_imp pts_nil fun σ H Q ⟨w, S, ρ, hs, hn, h⟩ => Fin.ok h hs
theorem mts_one {c : Expr} (h : PT X c (tMt X.K E t)) : PTs X [c] (tMt X.K E t) := pts_one h

/-! ### what may be walked -/
def sgn (c : Nat) : D := .str ⟨#[c]⟩
def itemsOf : D → M (List D)
  | .lst ds => M.pure ds
  | .lsr ds => M.pure ds
  | .tup ds => M.pure ds
  | .str x => M.pure (x.cps.toList.map sgn)
  | _ => bad
def iSeq (m : Env → M D) : Env → M (List D) := fun ρ => M.bind (m ρ) itemsOf
theorem pi_or {wi wi' : TI} (h : PI X tg iter wi) (h' : PI X tg iter wi') : PI X tg iter fun σ H R => wi σ H R ∨ wi' σ H R := ⟨fun pins s σ H R I q => q.elim (h.run pins s σ H R I) (h'.run pins s σ H R I)⟩
theorem ym_at {K : PySem.W.Frag} {w : Wd} {xs : List V} {ds : List D} (r : RvL K w xs ds) : YM K w ds (YAt xs) := fun i H x H' w2 S2 l2 s2 hi y => by
  obtain ⟨rfl, e⟩ := y
  obtain ⟨d, hd, rd⟩ := (r.mono l2).getV e
  exact ⟨w2, d, Le.refl w2, s2, hd, rd, fun p o h => ⟨h, id⟩⟩
theorem sqL_up {K : PySem.W.Frag} {w w2 : Wd} {S : Sto} {H : Hp} {a : Addr} {xs : List V} (h : SqL K w.G a xs) (l : Le w w2) (s : Rs K w2 S H) : SqL K H a xs := by
  rcases h with (h | ⟨o, h⟩) | h
  · exact .inl (.inl (s.g _ _ (l.g _ _ h)))
  · exact .inl (.inr ⟨o, s.g _ _ (l.g _ _ h)⟩)
  · exact .inr h
theorem sqT_up {K : PySem.W.Frag} {w w2 : Wd} {S : Sto} {H : Hp} {a : Addr} {xs : List V} (h : SqT K w.G a xs) (l : Le w w2) (s : Rs K w2 S H) : SqT K H a xs := by
  rcases h with (h | ⟨o, h⟩) | h
  · exact .inl (.inl (s.g _ _ (l.g _ _ h)))
  · exact .inl (.inr ⟨o, s.g _ _ (l.g _ _ h)⟩)
  · exact .inr h
theorem tM_at {K : PySem.W.Frag} {σ : L2.St} {H : Hp} {w : Wd} {S : Sto} {ρ : Env} {P : Wd → Sto → Hp → D → Prop} {R : V → Hp → Prop} (hs : Rs K w S H) (hn : Rn K w σ ρ) (h : Fin K E w (m ρ S) P)
    (k : ∀ w1 S1 H1 d v, m ρ S = some (.ok d, S1) → Le w w1 → Rs K w1 S1 H1 → P w1 S1 H1 d → Rv K w1 v d → R v H1) : tM K E m σ H R := ⟨w, S, ρ, hs, hn, by
  rcases hm : m ρ S with _ | ⟨_ | d, S1⟩
  · rw [hm] at h; exact h
  · rw [hm] at h; exact h
  · rw [hm] at h
    exact fun w1 H1 l1 s1 v rv => k w1 S1 H1 d v hm l1 s1 (h w1 H1 l1 s1) rv⟩
theorem mi_seq (h : PE X l (tM X.K E m)) : PI X tg l (tMi X.K E (iSeq m)) := pi_imp (pi_or (pi_list h) (pi_or (pi_tup h) (pi_str h))) fun σ H R ⟨w, S, ρ, hs, hn, h⟩ => by
  have h := h.bind
  have err : (∀ d S1, m ρ S = some (.ok d, S1) → False) → tM X.K E m σ H (fun x H1 => ∃ a, x = .ref a ∧ (∃ xs, SqL X.K H1 a xs) ∧ R (Itl X.K a) H1) := fun no =>
    tM_at hs hn h fun w1 S1 H1 d v hm _ _ _ _ => (no d S1 hm).elim
  rcases hm : m ρ S with _ | ⟨x | d, S1⟩
  · exact .inl (err fun d S1 e => by rw [hm] at e; cases e)
  · exact .inl (err fun d S1 e => by rw [hm] at e; cases e)
  · cases d with
    | lst ds =>
      refine .inl (tM_at hs hn h fun w1 S2 H1 d v e l1 s1 q rv => ?_)
      rw [hm] at e
      cases e
      cases rv with
      | lst hG r => exact ⟨_, rfl, ⟨_, sqL_up (.of hG) (Le.refl _) s1⟩, Fin.ok q s1 _ _ _ (by rw [← r.length]; exact walk_list) (fun w2 S2 H2 l2 s2 => sqL_up (.of hG) l2 s2) (ym_at r)⟩
    | lsr ds =>
      refine .inl (tM_at hs hn h fun w1 S2 H1 d v e l1 s1 q rv => ?_)
      rw [hm] at e
      cases e
      cases rv with
      | lsr hG r => exact ⟨_, rfl, ⟨_, sqL_up hG (Le.refl _) s1⟩, Fin.ok q s1 _ _ _ (by rw [← r.length]; exact walk_list) (fun w2 S2 H2 l2 s2 => sqL_up hG l2 s2) (ym_at r)⟩
    | tup ds =>
      refine .inr (.inl (tM_at hs hn h fun w1 S2 H1 d v e l1 s1 q rv => ?_))
      rw [hm] at e
      cases e
      cases rv with
      | tup hG r => exact ⟨_, rfl, ⟨_, sqT_up hG (Le.refl _) s1⟩, Fin.ok q s1 _ _ _ (by rw [← r.length]; exact walk_tup) (fun w2 S2 H2 l2 s2 => sqT_up hG l2 s2) (ym_at r)⟩
    | str x =>
      refine .inr (.inr (tM_at hs hn h fun w1 S2 H1 d v e l1 s1 q rv => ?_))
      rw [hm] at e
      cases e
      cases rv with
      | str x =>
        refine ⟨x, rfl, Fin.ok q s1 _ _ _ (by rw [List.length_map, Array.length_toList]; exact walk_str) (fun _ _ _ _ _ => trivial) fun i H x' H' w2 S2 l2 s2 hi y => ?_⟩
        obtain ⟨rfl, c, hc, rfl⟩ := y
        exact ⟨w2, sgn c, Le.refl w2, s2, by rw [List.getElem?_map, Array.getElem?_toList, hc]; rfl, .str _, fun p o h => ⟨h, id⟩⟩
    | _ =>
      refine .inl (tM_at hs hn h fun w1 S2 H1 d v e l1 s1 q rv => ?_)
      rw [hm] at e
      cases e
      exact q.elim
/-- range(n), range(a, b) -/
def rgD (lo : Int) (n : Nat) : List D := (List.range n).map fun (i : Nat) => .int (lo + (i : Int))
theorem ym_rg {K : PySem.W.Frag} {w : Wd} {lo : Int} {n : Nat} : YM K w (rgD lo n) (YFn fun i => .int (lo + i)) := fun i H x H' w2 S2 l2 s2 hi y => by
  obtain ⟨rfl, rfl⟩ := y
  have hi' : i < n := by simpa [rgD] using hi
  exact ⟨w2, .int (lo + i), Le.refl w2, s2, by simp [rgD, hi'], .int _, fun p o h => ⟨h, id⟩⟩
def rngOf : List D → M (List D)
  | [.int n] => if -100000 ≤ n ∧ n ≤ 100000 then M.pure (rgD 0 n.toNat) else bad
  | [.int a, .int b] => if -100000 ≤ a ∧ a ≤ 100000 ∧ -100000 ≤ b ∧ b ≤ 100000 then M.pure (rgD a (b - a).toNat) else bad
  | _ => bad
def iRng (m : Env → M (List D)) : Env → M (List D) := fun ρ => M.bind (m ρ) rngOf
variable {a b : Expr} {ma : Env → M (List D)}
theorem rng1_go {w : Wd} {S : Sto} {H : Hp} {xs : List D} {vs : List V} {R : It → Hp → Prop} (hl : xs.length = 1) (hs : Rs X.K w S H) (rv : RvL X.K w vs xs)
    (q : Fin X.K E w (rngOf xs S) fun w' _ H' ds => ∀ J G Y, Walk J ds.length G Y → (∀ w2 S2 H2, Le w' w2 → Rs X.K w2 S2 H2 → G H2) → YM X.K w' ds Y → R J H') : ∃ j : Int, vs = [.int j] ∧ -(2 ^ 62) ≤ j ∧ j < 2 ^ 62 ∧ R (Itr 0 j.toNat) H := by
  cases rv with
  | nil => cases hl
  | cons r rr =>
    cases rr with
    | cons _ _ => simp at hl
    | nil =>
      cases r with
      | int n =>
        by_cases h : -100000 ≤ n ∧ n ≤ 100000
        · have q : Fin X.K E w ((if -100000 ≤ n ∧ n ≤ 100000 then M.pure (rgD 0 n.toNat) else bad) S) _ := q
          rw [if_pos h] at q
          refine ⟨n, rfl, by omega, by omega, Fin.ok q hs _ _ _ ?_ (fun _ _ _ _ _ => trivial) ym_rg⟩
          have e : (rgD 0 n.toNat).length = n.toNat := by simp [rgD]
          rw [e]
          exact walk_range
        · have q : Fin X.K E w ((if -100000 ≤ n ∧ n ≤ 100000 then M.pure (rgD 0 n.toNat) else bad) S) _ := q
          rw [if_neg h] at q
          exact q.elim
      | _ => exact q.elim
theorem rng2_go {w : Wd} {S : Sto} {H : Hp} {xs : List D} {vs : List V} {R : It → Hp → Prop} (hl : xs.length = 2) (hs : Rs X.K w S H) (rv : RvL X.K w vs xs)
    (q : Fin X.K E w (rngOf xs S) fun w' _ H' ds => ∀ J G Y, Walk J ds.length G Y → (∀ w2 S2 H2, Le w' w2 → Rs X.K w2 S2 H2 → G H2) → YM X.K w' ds Y → R J H') :
    ∃ i j : Int, vs = [.int i, .int j] ∧ (-(2 ^ 62) ≤ i ∧ i < 2 ^ 62 ∧ -(2 ^ 62) ≤ j ∧ j < 2 ^ 62) ∧ R (Itr i (j - i).toNat) H := by
  cases rv with
  | nil => cases hl
  | cons r rr =>
    cases rr with
    | nil => cases hl
    | cons r2 rr =>
      cases rr with
      | cons _ _ => simp at hl
      | nil =>
        cases r with
        | int n =>
          cases r2 with
          | int b =>
            by_cases h : -100000 ≤ n ∧ n ≤ 100000 ∧ -100000 ≤ b ∧ b ≤ 100000
            · have q : Fin X.K E w ((if -100000 ≤ n ∧ n ≤ 100000 ∧ -100000 ≤ b ∧ b ≤ 100000 then M.pure (rgD n (b - n).toNat) else bad) S) _ := q
              rw [if_pos h] at q
              refine ⟨n, b, rfl, ⟨by omega, by omega, by omega, by omega⟩, Fin.ok q hs _ _ _ ?_ (fun _ _ _ _ _ => trivial) ym_rg⟩
              have e : (rgD n (b - n).toNat).length = (b - n).toNat := by simp [rgD]
              rw [e]
              exact walk_range
            · have q : Fin X.K E w ((if -100000 ≤ n ∧ n ≤ 100000 ∧ -100000 ≤ b ∧ b ≤ 100000 then M.pure (rgD n (b - n).toNat) else bad) S) _ := q
              rw [if_neg h] at q
              exact q.elim
          | _ => exact q.elim
        | _ => exact q.elim
def len1 (f : List D → M (List D)) (n : Nat) (m : Env → M (List D)) : Env → M (List D) := fun ρ => M.bind (m ρ) fun xs => if xs.length = n then f xs else bad
theorem mi_range1 (hg : Gl X "range") (hm : X.mg "range" = none) (ha : PA X [a] (tMa X.K E ma)) (hs : starEach [a] X.env = [(false, eval a X.env)] := by rfl) : PI X tg (.Call (.Name "range" p) [a] [] pos) (tMi X.K E (len1 rngOf 1 ma)) :=
  pi_imp (pi_range1 hg hm ha hs) fun σ H R ⟨w, S, ρ, hs, hn, h⟩ => ⟨w, S, ρ, hs, hn, h.bind.imp fun w1 S1 H1 xs l1 s1 q vs rv => by
    by_cases hl : xs.length = 1
    · rw [if_pos hl] at q
      exact rng1_go hl s1 rv q
    · rw [if_neg hl] at q
      exact q.elim⟩
theorem mi_range2 (hg : Gl X "range") (hm : X.mg "range" = none) (ha : PA X [a, b] (tMa X.K E ma)) (hs : starEach [a, b] X.env = [(false, eval a X.env), (false, eval b X.env)] := by rfl) (hs2 : starEach [b] X.env = [(false, eval b X.env)] := by rfl) :
    PI X tg (.Call (.Name "range" p) [a, b] [] pos) (tMi X.K E (len1 rngOf 2 ma)) :=
  pi_imp (pi_range2 hg hm ha hs hs2) fun σ H R ⟨w, S, ρ, hs, hn, h⟩ => ⟨w, S, ρ, hs, hn, h.bind.imp fun w1 S1 H1 xs l1 s1 q vs rv => by
    by_cases hl : xs.length = 2
    · rw [if_pos hl] at q
      exact rng2_go hl s1 rv q
    · rw [if_neg hl] at q
      exact q.elim⟩
end

/-! ### a def by its body -/
def runM (N : Nat) (ms : Env → M (Fl × Env)) : List D → M D := fun ds => M.bind (ms (ds.map some ++ List.replicate (N - ds.length) none)) fun r => match r with
  | (.nx, _) => M.pure .non
  | (.rt d, _) => M.pure d
  | _ => bad
theorem body_go {K : PySem.W.Frag} {N : List Str} {n : Nat} {ms : Env → M (Fl × Env)} {vs : List V} {H : Hp} {Q : VK} {E : XK} (h : spM K n (runM N.length ms) vs H Q E) :
    tMs K EK0 ms { nx := fun _ H' => Q .non H', rt := Q } (start N vs) H := by
  obtain ⟨_, w, S, ds, hs, rv, h⟩ := h
  refine ⟨w, S, _, hs, Rn.start rv N, h.bind.imp fun w1 S1 H1 r l1 s1 q => ?_⟩
  obtain ⟨fl, ρ'⟩ := r
  cases fl with
  | nx => exact fun σ' _ => Fin.ok q s1 _ .non
  | rt d => exact fun v rv => Fin.ok q s1 v rv
  | bk => exact q.elim
  | ct => exact q.elim
theorem spM_len {K : PySem.W.Frag} {n : Nat} {f : List D → M D} {ps : List Str} (e : ps.length = n) : ∀ vs H Q E, spM K n f vs H Q E → vs.length = ps.length := fun vs H Q E h => h.1.trans e.symm
end Mi
namespace Mi
open PySem PySem.Spec L2

/-! ### lists as they stand -/
def asC (S : Sto) : D → Option (List D)
  | .lst ds => some ds
  | .ref n => match S[n]? with
    | some (.lst ds) => some ds
    | _ => none
  | _ => none
def asR (S : Sto) : D → Option (List D)
  | .lsr ds => some ds
  | d => asC S d
section
variable {K : PySem.W.Frag} {E : EK} {w : Wd} {S : Sto} {H : Hp} {v u : V} {d : D} {ds : List D}
theorem asC_go (hs : Rs K w S H) (rv : Rv K w v d) (h : asC S d = some ds) : ∃ a xs, v = .ref a ∧ H a = some (.lst xs) ∧ RvL K w xs ds := by
  cases rv with
  | lst hG r =>
    cases h
    exact ⟨_, _, rfl, hs.g _ _ hG, r⟩
  | ref hA =>
    rename_i a n
    rcases hc : S[n]? with _ | (⟨es⟩ | ⟨es⟩ | ⟨C, es⟩ | ⟨es⟩)
    · simp only [asC, hc] at h; cases h
    rotate_left
    · simp only [asC, hc] at h; cases h
    · simp only [asC, hc] at h; cases h
    · simp only [asC, hc] at h; cases h
    · simp only [asC, hc] at h
      cases h
      obtain ⟨xs, h1, h2⟩ := hs.cell n a _ hA hc
      exact ⟨_, _, rfl, h1, h2⟩
  | _ => cases h
theorem asR_go (hs : Rs K w S H) (rv : Rv K w v d) (h : asR S d = some ds) : ∃ a xs, v = .ref a ∧ SqL K H a xs ∧ RvL K w xs ds := by
  cases rv with
  | lsr hG r =>
    cases h
    exact ⟨_, _, rfl, sqL_up hG (Le.refl w) hs, r⟩
  | lst hG r =>
    obtain ⟨a, xs, e, h1, h2⟩ := asC_go hs (.lst hG r) h
    exact ⟨a, xs, e, .of h1, h2⟩
  | ref hA =>
    obtain ⟨a, xs, e, h1, h2⟩ := asC_go hs (.ref hA) h
    exact ⟨a, xs, e, .of h1, h2⟩
  | _ => cases h
theorem tup_go (hs : Rs K w S H) (rv : Rv K w v (.tup ds)) : ∃ a xs, v = .ref a ∧ SqT K H a xs ∧ RvL K w xs ds := by
  cases rv with
  | tup hG r => exact ⟨_, _, rfl, sqT_up hG (Le.refl w) hs, r⟩
end
/-! ### + -/
def addM (x y : D) : M D := fun S => match x, y with
  | .int i, .int j => some (.ok (.int (i + j)), S)
  | .int i, .bl b => some (.ok (.int (i + PyProof.Rows.b2i b)), S)
  | .str i, .str j => if i.length + j.length ≤ 100000 then some (.ok (.str (i ++ j)), S) else none
  | .tup a, .tup b => if a.length + b.length ≤ 100000 then some (.ok (.tup (a ++ b)), S) else none
  | x, y => match asC S x, asC S y with
    | some a, some b => if a.length + b.length ≤ 100000 then some (.ok (.lst (a ++ b)), S) else none
    | _, _ => none
def rAddU (K : PySem.W.Frag) : R2 := fun x y H Q => rI0 (fun i j => .int (i + j)) x y H Q ∨ (∃ i k, x = .int i ∧ y = .bl k ∧ Q (.int (i + PyProof.Rows.b2i k)) H) ∨
  (∃ i j, x = .str i ∧ y = .str j ∧ i.length + j.length ≤ sizeLine ∧ Q (.str (i ++ j)) H) ∨ rCatA K x y H Q ∨ rCat x y H Q
theorem op_addU {X : Cx} : OpR X (binaryOp .Add) (rAddU X.K) := op_add.or (op_add_ib.or (op_add_str.or (op_catA.or op_cat)))
theorem cat_list {K : PySem.W.Frag} {E : EK} {w : Wd} {S : Sto} {H : Hp} {v u : V} {x y : D} {Q : VK} (hs : Rs K w S H) (rv : Rv K w v x) (ru : Rv K w u y)
    (h : Fin K E w (match asC S x, asC S y with | some a, some b => if a.length + b.length ≤ 100000 then some (.ok (D.lst (a ++ b)), S) else none | _, _ => none) (fun w' _ H' d => ∀ z, Rv K w' z d → Q z H')) : rCat v u H Q := by
  rcases h1 : asC S x with _ | a
  · rw [h1] at h; exact h.elim
  · rcases h2 : asC S y with _ | b
    · rw [h1, h2] at h; exact h.elim
    · rw [h1, h2] at h
      obtain ⟨p, xs, rfl, hp, rx⟩ := asC_go hs rv h1
      obtain ⟨q, ys, rfl, hq, ry⟩ := asC_go hs ru h2
      by_cases hl : a.length + b.length ≤ 100000
      · simp only [if_pos hl] at h
        refine ⟨p, q, xs, ys, rfl, rfl, hp, hq, sz_of (by rw [rx.length, ry.length]; exact hl), fun l hl' => ?_⟩
        have hs' := hs.lay (o := .lst (xs ++ ys)) hl'
        exact h _ _ (hs.le_lay hl') hs' _ (.lst (by show upd w.G l _ l = _; rw [upd_same]) ((rx.append ry).mono (hs.le_lay hl')))
      · simp only [if_neg hl] at h
        exact h.elim
theorem addM_ok {K : PySem.W.Frag} : OpM K (rAddU K) addM := by
  intro E w S H v u x y Q hs rv ru h
  have lst : ∀ (h' : Fin K E w (match asC S x, asC S y with | some a, some b => if a.length + b.length ≤ 100000 then some (.ok (D.lst (a ++ b)), S) else none | _, _ => none) (fun w' _ H' d => ∀ z, Rv K w' z d → Q z H')), rAddU K v u H Q :=
    fun h' => .inr (.inr (.inr (.inr (cat_list hs rv ru h'))))
  cases x with
  | int i =>
    cases rv
    cases y with
    | int j => cases ru; exact .inl ⟨i, j, rfl, rfl, Fin.ok h hs _ (.int _)⟩
    | bl j => cases ru; exact .inr (.inl ⟨i, j, rfl, rfl, Fin.ok h hs _ (.int _)⟩)
    | _ => exact h.elim
  | str i =>
    cases rv
    cases y with
    | str j =>
      cases ru
      have h : Fin K E w (if i.length + j.length ≤ 100000 then some (.ok (D.str (i ++ j)), S) else none) _ := h
      by_cases hl : i.length + j.length ≤ 100000
      · rw [if_pos hl] at h
        exact .inr (.inr (.inl ⟨i, j, rfl, rfl, sz_of hl, Fin.ok h hs _ (.str _)⟩))
      · rw [if_neg hl] at h
        exact h.elim
    | _ => exact h.elim
  | tup a =>
    cases y with
    | tup b =>
      have h : Fin K E w (if a.length + b.length ≤ 100000 then some (.ok (D.tup (a ++ b)), S) else none) _ := h
      by_cases hl : a.length + b.length ≤ 100000
      · rw [if_pos hl] at h
        obtain ⟨p, xs, rfl, hp, rx⟩ := tup_go hs rv
        obtain ⟨q, ys, rfl, hq, ry⟩ := tup_go hs ru
        refine .inr (.inr (.inr (.inl ⟨p, q, xs, ys, rfl, rfl, hp, hq, sz_of (by rw [rx.length, ry.length]; exact hl), fun e => ?_, fun _ e => ?_, fun _ _ l hl' => ?_⟩)))
        · subst e
          cases rx
          exact Fin.ok h hs _ ru
        · subst e
          cases ry
          have h := Fin.ok h hs
          rw [List.append_nil] at h
          exact h _ rv
        · exact h _ _ (hs.le_lay hl') (hs.lay (o := .tup (xs ++ ys)) hl') _ (.tup (.of (by show upd w.G l _ l = _; rw [upd_same])) ((rx.append ry).mono (hs.le_lay hl')))
      · rw [if_neg hl] at h
        exact h.elim
    | _ => exact h.elim
  | _ => exact lst h
theorem me_add {X : Cx} {E : EK} {a b : Expr} {ma mb : Env → M D} {pos : Pos} (ha : PE X a (tM X.K E ma)) (hb : PE X b (tM X.K E mb)) : PE X (.BinOp a .Add b pos) (tM X.K E (b2 addM ma mb)) := me_op op_addU addM_ok ha hb

/-! ### ints -/
def int2 (C : Int → Int → Prop) [DecidableRel C] (g : Int → Int → D) (x y : D) : M D := match x, y with
  | .int i, .int j => if C i j then M.pure (g i j) else bad
  | _, _ => bad
theorem int2_ok {K : PySem.W.Frag} {C : Int → Int → Prop} [DecidableRel C] {g : Int → Int → D} {gv : Int → Int → V} (hg : ∀ w i j, Rv K w (gv i j) (g i j)) : OpM K (rI C gv) (int2 C g) := by
  intro E w S H v u x y Q hs rv ru h
  cases x with
  | int i =>
    cases rv
    cases y with
    | int j =>
      cases ru
      have h : Fin K E w ((if C i j then M.pure (g i j) else bad) S) _ := h
      by_cases hc : C i j
      · rw [if_pos hc] at h
        exact ⟨i, j, rfl, rfl, hc, Fin.ok h hs _ (hg w i j)⟩
      · rw [if_neg hc] at h
        exact h.elim
    | _ => exact h.elim
  | _ => exact h.elim
def int20 (g : Int → Int → D) (x y : D) : M D := match x, y with
  | .int i, .int j => M.pure (g i j)
  | _, _ => bad
theorem int20_ok {K : PySem.W.Frag} {g : Int → Int → D} {gv : Int → Int → V} (hg : ∀ w i j, Rv K w (gv i j) (g i j)) : OpM K (rI0 gv) (int20 g) := by
  intro E w S H v u x y Q hs rv ru h
  cases x with
  | int i =>
    cases rv
    cases y with
    | int j =>
      cases ru
      exact ⟨i, j, rfl, rfl, Fin.ok h hs _ (hg w i j)⟩
    | _ => exact h.elim
  | _ => exact h.elim
instance : DecidableRel CMul := fun i j => by unfold CMul; infer_instance
instance : DecidableRel CDiv := fun i j => by unfold CDiv; infer_instance
instance : DecidableRel CPow := fun i j => by unfold CPow; infer_instance
abbrev subM := int20 fun i j => .int (i - j)
abbrev mulM := int2 CMul fun i j => .int (i * j)
abbrev fdivM := int2 CDiv fun i j => .int (i / j)
abbrev modM := int2 (fun _ j => 0 < j) fun i j => .int (i % j)
abbrev powM := int2 CPow fun i j => .int (i ^ j.toNat)
abbrev ltM := int20 fun i j => .bl (decide (i < j))
abbrev leM := int20 fun i j => .bl (decide (i ≤ j))
abbrev gtM := int20 fun i j => .bl (decide (j < i))
abbrev geM := int20 fun i j => .bl (decide (j ≤ i))
section
variable {X : Cx} {E : EK} {a b c : Expr} {ma mb mc : Env → M D} {pos : Pos}
theorem me_sub (ha : PE X a (tM X.K E ma)) (hb : PE X b (tM X.K E mb)) : PE X (.BinOp a .Sub b pos) (tM X.K E (b2 subM ma mb)) := me_op op_sub (int20_ok fun _ _ _ => .int _) ha hb
theorem me_mul (ha : PE X a (tM X.K E ma)) (hb : PE X b (tM X.K E mb)) : PE X (.BinOp a .Mult b pos) (tM X.K E (b2 mulM ma mb)) := me_op op_mul (int2_ok fun _ _ _ => .int _) ha hb
theorem me_fdiv (ha : PE X a (tM X.K E ma)) (hb : PE X b (tM X.K E mb)) : PE X (.BinOp a .FloorDiv b pos) (tM X.K E (b2 fdivM ma mb)) := me_op op_fdiv (int2_ok fun _ _ _ => .int _) ha hb
theorem me_mod (ha : PE X a (tM X.K E ma)) (hb : PE X b (tM X.K E mb)) : PE X (.BinOp a .Mod b pos) (tM X.K E (b2 modM ma mb)) := me_op op_mod (int2_ok fun _ _ _ => .int _) ha hb
theorem me_pow (ha : PE X a (tM X.K E ma)) (hb : PE X b (tM X.K E mb)) : PE X (.BinOp a .Pow b pos) (tM X.K E (b2 powM ma mb)) := me_op op_pow (int2_ok fun _ _ _ => .int _) ha hb
theorem ltM_ok {K : PySem.W.Frag} : OpM K (rI0 fun i j => .bl (decide (i < j))) ltM := int20_ok fun _ _ _ => .bl _
theorem leM_ok {K : PySem.W.Frag} : OpM K (rI0 fun i j => .bl (decide (i ≤ j))) leM := int20_ok fun _ _ _ => .bl _
theorem gtM_ok {K : PySem.W.Frag} : OpM K (rI0 fun i j => .bl (decide (j < i))) gtM := int20_ok fun _ _ _ => .bl _
theorem geM_ok {K : PySem.W.Frag} : OpM K (rI0 fun i j => .bl (decide (j ≤ i))) geM := int20_ok fun _ _ _ => .bl _
def negM : D → M D
  | .int i => M.pure (.int (-i))
  | _ => bad
theorem me_neg (ha : PE X a (tM X.K E ma)) : PE X (.UnaryOp .USub a pos) (tM X.K E (b1 negM ma)) := me_un un_neg (fun E w S H v x Q hs rv h => by
  cases x with
  | int i => cases rv; exact ⟨i, rfl, Fin.ok h hs _ (.int _)⟩
  | _ => exact h.elim) ha
end
end Mi
namespace Mi
open PySem PySem.Spec L2

/-! ### data -/
def deS (S : Sto) : D → D
  | .ref n => match S[n]? with
    | some (.lst ds) => .lst ds
    | _ => .ref n
  | d => d
mutual
def toPy : D → Option PyData
  | .non => some .none
  | .bl b => some (.bool b)
  | .int i => some (.int i)
  | .str x => some (.str x)
  | .tup ds => (toPyL ds).map .tuple
  | .lst ds => (toPyL ds).map .list
  | .lsr _ => none
  | .dct kvs => (toPyK kvs).map .dict
  | .ref _ => none
  | .exc _ _ => none
def toPyL : List D → Option (List PyData)
  | [] => some []
  | d :: ds => (toPy d).bind fun p => (toPyL ds).map fun ps => p :: ps
def toPyK : List (D × D) → Option (List (PyData × PyData))
  | [] => some []
  | (k, d) :: ds => (toPy k).bind fun q => (toPy d).bind fun p => (toPyK ds).map fun ps => (q, p) :: ps
end
/-- what its repr asks: dicts of plain things -/
def plainP : PyData → Bool
  | .none => true
  | .bool _ => true
  | .int _ => true
  | .str _ => true
  | _ => false
section
variable {X : Cx} {pins : List (Addr × Obj)} {σ : L2.St} {H : Hp} {s : Shared} {w : Wd} {S : Sto}
/-- a cell read as it stands -/
inductive Rd2 (K : PySem.W.Frag) (w : Wd) (H : Hp) : V → D → Prop
  | of {v : V} {d : D} (h : Rv K w v d) : Rd2 K w H v d
  | cell {a : Addr} {xs : List V} {ds : List D} (h : H a = some (.lst xs)) (r : RvL K w xs ds) : Rd2 K w H (.ref a) (.lst ds)
theorem deS_go {K : PySem.W.Frag} {v : V} {d : D} (hs : Rs K w S H) (rv : Rv K w v d) : Rd2 K w H v (deS S d) := by
  cases rv with
  | ref hA =>
    rename_i a n
    rcases hc : S[n]? with _ | (⟨ds⟩ | ⟨ds⟩ | ⟨C, ds⟩ | ⟨ds⟩)
    · simp only [deS, hc]
      exact .of (.ref hA)
    rotate_left
    · simp only [deS, hc]
      exact .of (.ref hA)
    · simp only [deS, hc]
      exact .of (.ref hA)
    · simp only [deS, hc]
      exact .of (.ref hA)
    · simp only [deS, hc]
      obtain ⟨xs, h1, h2⟩ := hs.cell n a _ hA hc
      exact .cell h1 h2
  | non => exact .of .non
  | bl b => exact .of (.bl b)
  | int i => exact .of (.int i)
  | str x => exact .of (.str x)
  | tup h r => exact .of (.tup h r)
  | lst h r => exact .of (.lst h r)
  | lsr h r => exact .of (.lsr h r)
  | dct h r => exact .of (.dct h r)
  | exn hC h => exact .of (.exn hC h)
  | exc hC h hd r => exact .of (.exc hC h hd r)
theorem mapO {α β : Type} {f : α → β} {o : Option α} {b : β} (h : o.map f = some b) : ∃ a, o = some a ∧ f a = b := Option.map_eq_some_iff.mp h
theorem bindO {α β : Type} {f : α → Option β} {o : Option α} {b : β} (h : o.bind f = some b) : ∃ a, o = some a ∧ f a = some b := Option.bind_eq_some_iff.mp h
mutual
theorem dp_of {K : PySem.W.Frag} (hs : Rs K w S H) : ∀ {d : D} {v : V} {p : PyData}, Rv K w v d → toPy d = some p → p.canLay0 = true → Dp K H v p
  | _, _, _, .non, h, _ => by cases h; exact .non
  | _, _, _, .bl b, h, _ => by cases h; exact .bl b
  | _, _, _, .int i, h, _ => by cases h; exact .int i
  | _, _, _, .str x, h, _ => by cases h; exact .str x
  | _, _, _, .tup hG r, h, c => by
    simp only [toPy] at h
    obtain ⟨ps, h1, rfl⟩ := mapO h
    exact .tup (sqT_up hG (Le.refl w) hs) (dp_ofL hs r h1 (by simpa [PyData.canLay0] using c))
  | _, _, _, .lst hG r, h, c => by
    simp only [toPy] at h
    obtain ⟨ps, h1, rfl⟩ := mapO h
    exact .lst (.of (hs.g _ _ hG)) (dp_ofL hs r h1 (by simpa [PyData.canLay0] using c))
  | _, _, _, .lsr _ _, h, _ => by simp only [toPy] at h; cases h
  | _, _, _, .dct hG r, h, c => by
    simp only [toPy] at h
    obtain ⟨ps, h1, rfl⟩ := mapO h
    simp [PyData.canLay0] at c
  | _, _, _, .ref _, h, _ => by simp only [toPy] at h; cases h
  | _, _, _, .exn _ _, h, _ => by simp only [toPy] at h; cases h
  | _, _, _, .exc _ _ _ _, h, _ => by simp only [toPy] at h; cases h
theorem dp_ofL {K : PySem.W.Frag} (hs : Rs K w S H) : ∀ {d : List D} {v : List V} {p : List PyData}, RvL K w v d → toPyL d = some p → PyData.canLayAll0 p = true → DpAll K H v p
  | _, _, _, .nil, h, _ => by cases h; exact .nil
  | _, _, _, .cons h1 r, h, c => by
    simp only [toPyL] at h
    obtain ⟨p, e1, h⟩ := bindO h
    obtain ⟨ps, e2, rfl⟩ := mapO h
    have c' : p.canLay0 = true ∧ PyData.canLayAll0 ps = true := by simpa [PyData.canLayAll0] using c
    exact .cons (dp_of hs h1 e1 c'.1) (dp_ofL hs r e2 c'.2)
end
theorem dp_of2 {K : PySem.W.Frag} {d : D} {v : V} {p : PyData} (hs : Rs K w S H) (rv : Rd2 K w H v d) (h : toPy d = some p) (c : p.canLay0 = true) : Dp K H v p := by
  cases rv with
  | of r => exact dp_of hs r h c
  | cell hH r =>
    simp only [toPy] at h
    obtain ⟨ps, h1, rfl⟩ := mapO h
    exact .lst (.of hH) (dp_ofL hs r h1 (by simpa [PyData.canLay0] using c))
end
def lenDiff (S : Sto) (x y : D) : Bool := match asC S x, asC S y with
  | some a, some b => a.length != b.length
  | _, _ => false
def eqB (neg : Bool) (x y : D) : M D := fun S => if lenDiff S x y = true then some (.ok (.bl neg), S) else match toPy (deS S x), toPy (deS S y) with
  | some p, some q => if SeqAt.shaped p = true ∧ SeqAt.shaped q = true then some (.ok (.bl (if neg then !PyData.eqv p q else PyData.eqv p q)), S) else none
  | _, _ => none
abbrev eqM := eqB false
abbrev neM := eqB true
theorem shaped_lay {p : PyData} (h : SeqAt.shaped p = true) : p.canLay0 = true := by
  unfold SeqAt.shaped at h
  simp only [Bool.and_eq_true] at h
  exact h.1
def rLenD (neg : Bool) : R2 := fun x y H Q => ∃ a b xs ys, x = .ref a ∧ y = .ref b ∧ H a = some (.lst xs) ∧ H b = some (.lst ys) ∧ xs.length ≠ ys.length ∧ Q (.bl neg) H
theorem op_eqLen {X : Cx} (hu : X.A.units < cLine) : OpR X (compareOp .Eq) (rLenD false) := fun pins s σ H x y v u Q I rx ry ⟨a, b, xs, ys, e1, e2, h1, h2, hl, q⟩ => by
  subst e1 e2
  cases rx
  cases ry
  obtain ⟨its, r1, p1, _⟩ := I.list (.of h1)
  obtain ⟨its2, r2, p2, _⟩ := I.list (.of h2)
  have l1 := r1.length
  have l2 := r2.length
  exact SeqAt.RcAt.lists_lengths p1.isList p2.isList (by simp; omega) hu _ _ _ _ ⟨.bl false, H, I, rfl, q⟩
theorem op_neLen {X : Cx} (hu : X.A.units < cLine) : OpR X (compareOp .NotEq) (rLenD true) := fun pins s σ H x y v u Q I rx ry ⟨a, b, xs, ys, e1, e2, h1, h2, hl, q⟩ => by
  subst e1 e2
  cases rx
  cases ry
  obtain ⟨its, r1, p1, _⟩ := I.list (.of h1)
  obtain ⟨its2, r2, p2, _⟩ := I.list (.of h2)
  have l1 := r1.length
  have l2 := r2.length
  exact SeqAt.RcNeAt.lists_lengths p1.isList p2.isList (by simp; omega) hu _ _ _ _ ⟨.bl true, H, I, rfl, q⟩
def rEqU (K : PySem.W.Frag) : R2 := fun x y H Q => rLenD false x y H Q ∨ rEqD K x y H Q
def rNeU (K : PySem.W.Frag) : R2 := fun x y H Q => rLenD true x y H Q ∨ rNeD K x y H Q
theorem op_eqU {X : Cx} (hu : X.A.units + 64 < cLine) : OpR X (compareOp .Eq) (rEqU X.K) := OpR.or (op_eqLen (by omega)) (op_eqD hu)
theorem op_neU {X : Cx} (hu : X.A.units + 64 < cLine) : OpR X (compareOp .NotEq) (rNeU X.K) := OpR.or (op_neLen (by omega)) (op_neD hu)
theorem eqB_get {K : PySem.W.Frag} {E : EK} {w : Wd} {S : Sto} {H : Hp} {neg : Bool} {v u : V} {x y : D} {Q : VK} (hs : Rs K w S H) (rv : Rv K w v x) (ru : Rv K w u y) (h : Fin K E w (eqB neg x y S) fun w' _ H' d => ∀ z, Rv K w' z d → Q z H') :
    rLenD neg v u H Q ∨ ∃ p q, Dp K H v p ∧ Dp K H u q ∧ SeqAt.shaped p = true ∧ SeqAt.shaped q = true ∧ Q (.bl (if neg then !PyData.eqv p q else PyData.eqv p q)) H := by
  unfold eqB at h
  by_cases hd : lenDiff S x y = true
  · rw [if_pos hd] at h
    unfold lenDiff at hd
    rcases h1 : asC S x with _ | a
    · rw [h1] at hd; cases hd
    · rcases h2 : asC S y with _ | b
      · rw [h1, h2] at hd; cases hd
      · rw [h1, h2] at hd
        obtain ⟨p, xs, rfl, hp, rx⟩ := asC_go hs rv h1
        obtain ⟨q, ys, rfl, hq, ry⟩ := asC_go hs ru h2
        have hd : (a.length != b.length) = true := hd
        exact .inl ⟨p, q, xs, ys, rfl, rfl, hp, hq, by rw [rx.length, ry.length]; simpa using hd, Fin.ok h hs _ (.bl _)⟩
  · rw [if_neg hd] at h
    rcases h1 : toPy (deS S x) with _ | p
    · simp only [h1] at h; exact h.elim
    · rcases h2 : toPy (deS S y) with _ | q
      · simp only [h1, h2] at h; exact h.elim
      · simp only [h1, h2] at h
        by_cases hc : SeqAt.shaped p = true ∧ SeqAt.shaped q = true
        · rw [if_pos hc] at h
          exact .inr ⟨p, q, dp_of2 hs (deS_go hs rv) h1 (shaped_lay hc.1), dp_of2 hs (deS_go hs ru) h2 (shaped_lay hc.2), hc.1, hc.2, Fin.ok h hs _ (.bl _)⟩
        · rw [if_neg hc] at h
          exact h.elim
theorem eqM_ok {K : PySem.W.Frag} : OpM K (rEqU K) eqM := fun E w S H v u x y Q hs rv ru h => by
  rcases eqB_get hs rv ru h with h | ⟨p, q, h1, h2, h3, h4, h5⟩
  · exact .inl h
  · exact .inr ⟨p, q, h1, h2, h3, h4, h5⟩
theorem neM_ok {K : PySem.W.Frag} : OpM K (rNeU K) neM := fun E w S H v u x y Q hs rv ru h => by
  rcases eqB_get hs rv ru h with h | ⟨p, q, h1, h2, h3, h4, h5⟩
  · exact .inl h
  · exact .inr ⟨p, q, h1, h2, h3, h4, h5⟩
/-! ### is None -/
def isNon : D → Bool
  | .non => true
  | _ => false
def isN : D → D → M D
  | x, .non => M.pure (.bl (isNon x))
  | _, _ => bad
def notN : D → D → M D
  | x, .non => M.pure (.bl (!isNon x))
  | _, _ => bad
theorem non_iff {K : PySem.W.Frag} {w : Wd} {v : V} {x : D} (rv : Rv K w v x) : decide (v = .non) = isNon x := by
  cases rv <;> simp [isNon]
theorem isN_ok {K : PySem.W.Frag} : OpM K (fun x y H Q => y = .non ∧ Q (.bl (decide (x = .non))) H) isN := fun E w S H v u x y Q hs rv ru h => by
  cases ru with
  | non => exact ⟨rfl, by rw [non_iff rv]; exact Fin.ok h hs _ (.bl _)⟩
  | _ => cases rv <;> exact h.elim
theorem notN_ok {K : PySem.W.Frag} : OpM K (fun x y H Q => y = .non ∧ Q (.bl (!decide (x = .non))) H) notN := fun E w S H v u x y Q hs rv ru h => by
  cases ru with
  | non => exact ⟨rfl, by rw [non_iff rv]; exact Fin.ok h hs _ (.bl _)⟩
  | _ => cases rv <;> exact h.elim

/-! ### in -/
/-- flat things alone -/
def flatD : D → Option V
  | .non => some .non
  | .bl b => some (.bl b)
  | .int i => some (.int i)
  | .str x => some (.str x)
  | _ => none
def flatL : List D → Option (List V)
  | [] => some []
  | d :: ds => (flatD d).bind fun v => (flatL ds).map fun vs => v :: vs
def asQ (S : Sto) : D → Option (List D)
  | .tup ds => some ds
  | d => asR S d
def inB (neg : Bool) (x y : D) : M D := fun S => match x, y with
  | .str z, .str y => match z.cps.toList with
    | [c] => some (.ok (.bl (if neg then !decide (c ∈ y.cps.toList) else decide (c ∈ y.cps.toList))), S)
    | _ => none
  | x, y => match flatD x, asQ S y with
    | some u, some ds => match flatL ds with
      | some vs => if flatV u = true ∧ vs.all flatV = true then some (.ok (.bl (if neg then !inV u vs else inV u vs)), S) else none
      | none => none
    | _, _ => none
abbrev inM := inB false
abbrev ninM := inB true
theorem flat_go {K : PySem.W.Frag} {w : Wd} {v u : V} {d : D} (rv : Rv K w v d) (h : flatD d = some u) : v = u := by
  cases rv <;> (try cases h) <;> rfl
theorem flatL_go {K : PySem.W.Frag} {w : Wd} : ∀ {vs us : List V} {ds : List D}, RvL K w vs ds → flatL ds = some us → vs = us
  | _, _, _, .nil, h => by cases h; rfl
  | _, _, _, .cons r rr, h => by
    simp only [flatL] at h
    obtain ⟨u, e1, h⟩ := bindO h
    obtain ⟨us, e2, rfl⟩ := mapO h
    rw [flat_go r e1, flatL_go rr e2]
theorem asQ_go {K : PySem.W.Frag} {w : Wd} {S : Sto} {H : Hp} {v : V} {d : D} {ds : List D} (hs : Rs K w S H) (rv : Rv K w v d) (h : asQ S d = some ds) : ∃ a xs, v = .ref a ∧ (SqL K H a xs ∨ SqT K H a xs) ∧ RvL K w xs ds := by
  cases rv with
  | tup hG r =>
    cases h
    exact ⟨_, _, rfl, .inr (sqT_up hG (Le.refl w) hs), r⟩
  | lsr hG r => obtain ⟨a, xs, e, h1, h2⟩ := asR_go hs (.lsr hG r) h; exact ⟨a, xs, e, .inl h1, h2⟩
  | lst hG r => obtain ⟨a, xs, e, h1, h2⟩ := asR_go hs (.lst hG r) h; exact ⟨a, xs, e, .inl h1, h2⟩
  | ref hA => obtain ⟨a, xs, e, h1, h2⟩ := asR_go hs (.ref hA) h; exact ⟨a, xs, e, .inl h1, h2⟩
  | _ => cases h
def rInSg (neg : Bool) : R2 := fun x y H Q => ∃ (c : Nat) (z : Str), x = .str ⟨#[c]⟩ ∧ y = .str z ∧ Q (.bl (if neg then !decide (c ∈ z.cps.toList) else decide (c ∈ z.cps.toList))) H
def rInU (K : PySem.W.Frag) (neg : Bool) : R2 := fun x y H Q => rInSg neg x y H Q ∨ rIn K neg x y H Q
theorem inB_ok {K : PySem.W.Frag} {neg : Bool} : OpM K (rInU K neg) (inB neg) := fun E w S H v u x y Q hs rv ru h => by
  have seq : ∀ (h' : Fin K E w (match flatD x, asQ S y with
    | some u, some ds => match flatL ds with
      | some vs => if flatV u = true ∧ vs.all flatV = true then some (.ok (.bl (if neg then !inV u vs else inV u vs)), S) else none
      | none => none
    | _, _ => none) (fun w' _ H' d => ∀ z, Rv K w' z d → Q z H')), rInU K neg v u H Q := fun h' => by
    rcases h1 : flatD x with _ | f
    · simp only [h1] at h'; exact h'.elim
    · rcases h2 : asQ S y with _ | ds
      · simp only [h1, h2] at h'; exact h'.elim
      · rcases h3 : flatL ds with _ | vs
        · simp only [h1, h2, h3] at h'; exact h'.elim
        · simp only [h1, h2, h3] at h'
          by_cases hc : flatV f = true ∧ vs.all flatV = true
          · rw [if_pos hc] at h'
            obtain ⟨a, xs, rfl, hq, rx⟩ := asQ_go hs ru h2
            have e1 := flat_go rv h1
            have e2 := flatL_go rx h3
            subst e1 e2
            exact .inr ⟨a, xs, rfl, hq, hc.1, hc.2, Fin.ok h' hs _ (.bl _)⟩
          · rw [if_neg hc] at h'
            exact h'.elim
  cases x with
  | str z =>
    cases y with
    | str y =>
      cases rv
      cases ru
      rcases hz : z.cps.toList with _ | ⟨c, _ | ⟨c2, r⟩⟩
      · simp only [inB, hz] at h; exact h.elim
      · simp only [inB, hz] at h
        refine .inl ⟨c, y, ?_, rfl, Fin.ok h hs _ (.bl _)⟩
        have e : z.cps = #[c] := by rw [← Array.toList_inj, hz]
        show V.str z = V.str ⟨#[c]⟩
        rw [← e]
      · simp only [inB, hz] at h; exact h.elim
    | _ => exact seq h
  | _ => exact seq h
theorem op_inU {X : Cx} : OpR X (compareOp .In) (rInU X.K false) := OpR.or (fun pins s σ H x y v u Q I rx ry ⟨c, z, e1, e2, q⟩ => op_in_sign pins s σ H x y v u Q I rx ry ⟨c, z, e1, e2, q⟩) op_in_seq
end Mi
namespace Mi
open PySem PySem.Spec L2
theorem op_ninU {X : Cx} : OpR X (compareOp .NotIn) (rInU X.K true) := OpR.or (fun pins s σ H x y v u Q I rx ry ⟨c, z, e1, e2, q⟩ => op_notIn_sign pins s σ H x y v u Q I rx ry ⟨c, z, e1, e2, q⟩) op_notIn_seq
/-! ### an item, a slice -/
def ixM (x y : D) : M D := fun S => match y with
  | .int i => match x with
    | .str z => match atI z.cps.toList i with
      | some c => if z.length ≤ 100000 then some (.ok (sgn c), S) else none
      | none => none
    | x => match asQ S x with
      | some ds => match atI ds i with
        | some d => some (.ok d, S)
        | none => none
      | none => none
  | _ => none
theorem at_rel {K : PySem.W.Frag} {w : Wd} {xs : List V} {ds : List D} {i : Int} {d : D} (r : RvL K w xs ds) (h : atI ds i = some d) : ∃ v, atI xs i = some v ∧ Rv K w v d := by
  unfold L2.atI at h ⊢
  rw [r.length]
  rcases hj : ixN ds.length i with _ | j
  · rw [hj] at h; cases h
  · rw [hj] at h
    exact r.get h
theorem ixM_ok {K : PySem.W.Frag} : OpM K (rIx K) ixM := fun E w S H v u x y Q hs rv ru h => by
  cases y with
  | int i =>
    cases ru
    have seq : ∀ (h' : Fin K E w (match asQ S x with
      | some ds => match atI ds i with
        | some d => some (.ok d, S)
        | none => none
      | none => none) (fun w' _ H' d => ∀ z, Rv K w' z d → Q z H')), rIx K v (.int i) H Q := fun h' => by
      rcases h1 : asQ S x with _ | ds
      · simp only [h1] at h'; exact h'.elim
      · rcases h2 : atI ds i with _ | d
        · simp only [h1, h2] at h'; exact h'.elim
        · simp only [h1, h2] at h'
          obtain ⟨a, xs, rfl, hq, rx⟩ := asQ_go hs rv h1
          obtain ⟨z, e1, e2⟩ := at_rel rx h2
          have q := Fin.ok h' hs z e2
          rcases hq with hq | hq
          · exact .inl ⟨a, xs, i, z, rfl, rfl, hq, e1, q⟩
          · exact .inr (.inl ⟨a, xs, i, z, rfl, rfl, hq, e1, q⟩)
    cases x with
    | str z =>
      cases rv
      rcases hz : atI z.cps.toList i with _ | c
      · simp only [ixM, hz] at h; exact h.elim
      · simp only [ixM, hz] at h
        by_cases hl : z.length ≤ 100000
        · rw [if_pos hl] at h
          exact .inr (.inr ⟨z, i, c, rfl, rfl, sz_of hl, hz, Fin.ok h hs _ (.str _)⟩)
        · rw [if_neg hl] at h
          exact h.elim
    | _ => exact seq h
  | _ => exact h.elim
def cutD (xs : List D) (lo hi : Option Int) : List D := (xs.drop (HT.sIx xs.length 0 lo)).take (HT.sIx xs.length xs.length hi - HT.sIx xs.length 0 lo)
theorem cut_rel {K : PySem.W.Frag} {w : Wd} {xs : List V} {ds : List D} {lo hi : Option Int} (r : RvL K w xs ds) : RvL K w (cutV xs lo hi) (cutD ds lo hi) := by
  unfold L2.cutV cutD
  rw [r.length]
  exact (r.drop _).take _
def slcM (lo hi : Option Int) (x : D) : M D := fun S => match x with
  | .str z => if z.length ≤ 100000 then some (.ok (.str (cutS z lo hi)), S) else none
  | .tup ds => some (.ok (.tup (cutD ds lo hi)), S)
  | x => match asR S x with
    | some ds => some (.ok (.lst (cutD ds lo hi)), S)
    | none => none
def optI : Option D → M (Option Int)
  | none => M.pure none
  | some (.int i) => M.pure (some i)
  | _ => bad
def parts (m : Option (Env → M D)) : Env → M (Option Int) := match m with
  | none => fun _ => M.pure none
  | some m => fun ρ => M.bind (m ρ) fun d => optI (some d)
def slc (m : Env → M D) (lo hi : Option (Env → M D)) : Env → M D := fun ρ => M.bind (m ρ) fun x => M.bind (parts lo ρ) fun a => M.bind (parts hi ρ) fun b => slcM a b x
def rSlU (K : PySem.W.Frag) : V → Option Int → Option Int → Hp → VK → Prop := fun x lo hi H Q => rSlL K x lo hi H Q ∨ rSlA K x lo hi H Q ∨ rSlS x lo hi H Q
theorem slcM_ok {K : PySem.W.Frag} {E : EK} {w : Wd} {S : Sto} {H : Hp} {v : V} {x : D} {lo hi : Option Int} {Q : VK} (hs : Rs K w S H) (rv : Rv K w v x) (h : Fin K E w (slcM lo hi x S) fun w' _ H' d => ∀ z, Rv K w' z d → Q z H') : rSlU K v lo hi H Q := by
  have seq : ∀ (h' : Fin K E w (match asR S x with
    | some ds => some (.ok (D.lst (cutD ds lo hi)), S)
    | none => none) (fun w' _ H' d => ∀ z, Rv K w' z d → Q z H')), rSlU K v lo hi H Q := fun h' => by
    rcases h1 : asR S x with _ | ds
    · simp only [h1] at h'; exact h'.elim
    · simp only [h1] at h'
      obtain ⟨a, xs, rfl, hq, rx⟩ := asR_go hs rv h1
      refine .inl ⟨a, xs, rfl, hq, fun p hp => ?_⟩
      exact h' _ _ (hs.le_lay hp) (hs.lay (o := .lst (cutV xs lo hi)) hp) _ (.lst (by show upd w.G p _ p = _; rw [upd_same]) ((cut_rel rx).mono (hs.le_lay hp)))
  cases x with
  | str z =>
    cases rv
    have h : Fin K E w (if z.length ≤ 100000 then some (.ok (D.str (cutS z lo hi)), S) else none) _ := h
    by_cases hl : z.length ≤ 100000
    · rw [if_pos hl] at h
      exact .inr (.inr ⟨z, rfl, sz_of hl, Fin.ok h hs _ (.str _)⟩)
    · rw [if_neg hl] at h
      exact h.elim
  | tup ds =>
    obtain ⟨a, xs, rfl, hq, rx⟩ := tup_go hs rv
    have h : Fin K E w (some (.ok (D.tup (cutD ds lo hi)), S)) _ := h
    refine .inr (.inl ⟨a, xs, rfl, hq, fun ⟨e1, e2⟩ => ?_, fun _ p hp => ?_⟩)
    · rw [rx.length] at e1 e2
      have e : cutD ds lo hi = ds := by
        unfold cutD
        rw [e1, e2]
        simp
      rw [e] at h
      exact Fin.ok h hs _ rv
    · exact h _ _ (hs.le_lay hp) (hs.lay (o := .tup (cutV xs lo hi)) hp) _ (.tup (.of (by show upd w.G p _ p = _; rw [upd_same])) ((cut_rel rx).mono (hs.le_lay hp)))
  | _ => exact seq h
section
variable {X : Cx} {E : EK} {a b e : Expr} {ma mb m : Env → M D} {pos p2 : Pos} {lo hi : Option Expr} {ml mh : Option (Env → M D)}
theorem me_item (ha : PE X a (tM X.K E ma)) (hb : PE X b (tM X.K E mb)) (hs : PlainIx b) : PE X (.Subscript a b pos) (tM X.K E (b2 ixM ma mb)) := me_ix ix_seq ixM_ok ha hb hs
def tMo (K : PySem.W.Frag) (E : EK) (m : Env → M (Option Int)) : TO := fun σ H Q => ∃ w S ρ, Rs K w S H ∧ Rn K w σ ρ ∧ Fin K E w (m ρ S) fun _ _ H' o => Q o H'
theorem mo_none : PO X none (tMo X.K E (parts none)) := ⟨fun pins s σ H Q I ⟨w, S, ρ, hs, hn, h⟩ => po_none.run pins s σ H Q I (Fin.ok h hs)⟩
theorem mo_some (h : PE X e (tM X.K E m)) : PO X (some e) (tMo X.K E (parts (some m))) := ⟨fun pins s σ H Q I ⟨w, S, ρ, hs, hn, q⟩ => (po_some h).run pins s σ H Q I ⟨w, S, ρ, hs, hn, q.bind.imp fun w1 S1 H1 d l1 s1 q v rv => by
  cases d with
  | int i => cases rv; exact ⟨i, rfl, Fin.ok q s1⟩
  | _ => exact q.elim⟩⟩
theorem me_slice (he : PE X e (tM X.K E m)) (hl : PO X lo (tMo X.K E (parts ml))) (hh : PO X hi (tMo X.K E (parts mh))) : PE X (.Subscript e (.Slice lo hi none p2) pos) (tM X.K E (slc m ml mh)) :=
  pe_imp (pe_slice (sl_list.or (sl_tupA.or sl_str)) he hl hh) fun σ H Q ⟨w, S, ρ, hs, hn, h⟩ => ⟨w, S, ρ, hs, hn, h.bind.imp fun w1 S1 H1 x l1 s1 q v rv =>
    ⟨w1, S1, ρ, s1, hn.mono l1, q.bind.imp fun w2 S2 H2 o l2 s2 q => ⟨w2, S2, ρ, s2, hn.mono (l1.trans l2), q.bind.imp fun w3 S3 H3 o2 l3 s3 q => slcM_ok s3 (rv.mono (l2.trans l3)) q⟩⟩⟩
def revM (x : D) : M D := fun S => match asR S x with
  | some ds => some (.ok (.lst ds.reverse), S)
  | none => none
theorem me_rev {k : Nat} {p1 p3 : Pos} (he : PE X e (tM X.K E m)) : PE X (.Subscript e (.Slice none none (some (.UnaryOp .USub (.Constant (.int 1) k p1) p2)) p3) pos) (tM X.K E (b1 revM m)) :=
  pe_imp (pe_revL he) fun σ H Q ⟨w, S, ρ, hs, hn, h⟩ => ⟨w, S, ρ, hs, hn, h.bind.imp fun w1 S1 H1 x l1 s1 q v rv => by
    rcases h1 : asR S1 x with _ | ds
    · simp only [revM, h1] at q; exact q.elim
    · simp only [revM, h1] at q
      obtain ⟨a, xs, rfl, hq, rx⟩ := asR_go s1 rv h1
      exact ⟨a, xs, rfl, hq, fun p hp => q _ _ (s1.le_lay hp) (s1.lay (o := .lst xs.reverse) hp) _ (.lst (by show upd w1.G p _ p = _; rw [upd_same]) (rx.reverse.mono (s1.le_lay hp)))⟩⟩
/-! ### xs[i] = v -/
def putM (o : D) (i : D) (v : D) (ρ : Env) : M Env := fun S => match o, i with
  | .ref n, .int k => match S[n]? with
    | some (.lst ds) => match ixN ds.length k with
      | some j => some (.ok ρ, S.set n (.lst (ds.set j v)))
      | none => none
    | _ => none
  | _, _ => none
def gPut (mo mi : Env → M D) : D → Env → M Env := fun v ρ => M.bind (mo ρ) fun o => M.bind (mi ρ) fun i => putM o i v ρ
theorem mg_sub {o i : Expr} {mo mi : Env → M D} (ho : PE X o (tM X.K E mo)) (hi : PE X i (tM X.K E mi))
    (ha : ∀ v, assign (.Subscript o i pos) X.env v = (do
      let ov ← holding [v] (eval o X.env)
      let iv ← holding [v, ov] (eval i X.env)
      standAt pos
      holding [v, ov, iv] (setItem ov iv v)
      release [v, ov, iv] []) := by intro _; rfl) : PG X (.Subscript o i pos) (gM X.K E (gPut mo mi)) :=
  pg_imp (pg_sub ho hi set_list ha) fun v σ H Q ⟨w, S, ρ, d, hs, hn, rv, h⟩ => ⟨w, S, ρ, hs, hn, h.bind.imp fun w1 S1 H1 x l1 s1 q ov ro => ⟨w1, S1, ρ, s1, hn.mono l1, q.bind.imp fun w2 S2 H2 y l2 s2 q iv ri => by
    have ro2 := ro.mono l2
    cases x with
    | ref n =>
      cases y with
      | int k =>
        cases ri
        cases ro2 with
        | ref hA =>
          rcases hc : S2[n]? with _ | (⟨ds⟩ | ⟨ds⟩ | ⟨C, ds⟩ | ⟨ds⟩)
          · simp only [putM, hc] at q; exact q.elim
          rotate_left
          · simp only [putM, hc] at q; exact q.elim
          · simp only [putM, hc] at q; exact q.elim
          · simp only [putM, hc] at q; exact q.elim
          · rcases hj : ixN ds.length k with _ | j
            · simp only [putM, hc, hj] at q; exact q.elim
            · simp only [putM, hc, hj] at q
              obtain ⟨xs, h1, h2⟩ := s2.cell n _ _ hA hc
              refine ⟨_, xs, k, j, rfl, rfl, h1, by rw [h2.length]; exact hj, ?_⟩
              exact q w2 _ (Le.refl w2) (s2.put hA h1 (by intro _ _ z; cases z) ⟨_, upd_same, h2.set (rv.mono (l1.trans l2)) j⟩) σ (hn.mono (l1.trans l2))
      | _ => exact q.elim
    | _ => cases y <;> exact q.elim⟩⟩
/-! ### methods of lists and texts -/
def appM (o : D) (xs : List D) : M D := fun S => match o, xs with
  | .ref n, [d] => match S[n]? with
    | some (.lst ds) => if ds.length < 100000 then some (.ok .non, S.set n (.lst (ds ++ [d]))) else none
    | _ => none
  | _, _ => none
def extM (o : D) (xs : List D) : M D := fun S => match o, xs with
  | .ref n, [d] => match S[n]?, asC S d with
    | some (.lst ds), some es => if ds.length + es.length ≤ 100000 then some (.ok .non, S.set n (.lst (ds ++ es))) else none
    | _, _ => none
  | _, _ => none
def strsOf : List D → Option (List Str)
  | [] => some []
  | .str x :: ds => (strsOf ds).map fun xs => x :: xs
  | _ => none
def joinM (o : D) (xs : List D) : M D := fun S => match o, xs with
  | .str a, [d] => match asQ S d with
    | some ds => match strsOf ds with
      | some ys => if (ys.map (·.length)).sum + ys.length * a.length ≤ 100000 then some (.ok (.str (Txt.join a ys)), S) else none
      | none => none
    | none => none
  | _, _ => none
def chkL (o : D) : M Unit := fun S => match o with
  | .ref n => match S[n]? with
    | some (.lst _) => some (.ok (), S)
    | _ => none
  | _ => none
def chkS (o : D) : M Unit := fun S => match o with
  | .str _ => some (.ok (), S)
  | _ => none
def mth (c : D → M Unit) (f : D → List D → M D) (m : Env → M D) (ma : Env → M (List D)) : Env → M D := fun ρ => M.bind (m ρ) fun o => M.bind (c o) fun _ => M.bind (ma ρ) fun xs => f o xs
theorem strs_rel {K : PySem.W.Frag} {w : Wd} : ∀ {xs : List V} {ds : List D} {ys : List Str}, RvL K w xs ds → strsOf ds = some ys → xs = ys.map V.str
  | _, _, _, .nil, h => by cases h; rfl
  | _, _, _, .cons r rr, h => by
    cases r with
    | str x =>
      simp only [strsOf] at h
      obtain ⟨ys, h1, rfl⟩ := mapO h
      rw [strs_rel rr h1]
      rfl
    | _ => cases h
theorem ref_ty {K : PySem.W.Frag} {w : Wd} {S : Sto} {H : Hp} {v : V} {n : Nat} (hs : Rs K w S H) (rv : Rv K w v (.ref n)) (hc : ∃ ds, S[n]? = some (.lst ds)) : tyV K "list" v H := by
  obtain ⟨ds, hc⟩ := hc
  cases rv with
  | ref hA =>
    obtain ⟨xs, h1, h2⟩ := hs.cell n _ _ hA hc
    exact .inl ⟨rfl, xs, .of h1⟩
variable {o : Expr} {es : List Expr} {mo : Env → M D} {ma' : Env → M (List D)} {cpos apos : Pos}
theorem args1 {K : PySem.W.Frag} {w : Wd} {vs : List V} {d : D} (r : RvL K w vs [d]) : ∃ v, vs = [v] ∧ Rv K w v d := by
  cases r with
  | cons h r => cases r; exact ⟨_, rfl, h⟩
def ChkM (K : PySem.W.Frag) (T : String) (c : D → M Unit) : Prop := ∀ (E : EK) (w : Wd) (S : Sto) (H : Hp) (v : V) (x : D) (P : Wd → Sto → Hp → Unit → Prop), Rs K w S H → Rv K w v x → Fin K E w (c x S) P → tyV K T v H ∧ P w S H ()
theorem chkL_ok {K : PySem.W.Frag} : ChkM K "list" chkL := fun E w S H v x P hs rv h => by
  cases x with
  | ref n =>
    rcases hc : S[n]? with _ | (⟨ds⟩ | ⟨ds⟩ | ⟨C, ds⟩ | ⟨ds⟩)
    · simp only [chkL, hc] at h; exact h.elim
    rotate_left
    · simp only [chkL, hc] at h; exact h.elim
    · simp only [chkL, hc] at h; exact h.elim
    · simp only [chkL, hc] at h; exact h.elim
    · simp only [chkL, hc] at h
      exact ⟨ref_ty hs rv ⟨ds, hc⟩, Fin.ok h hs⟩
  | _ => exact h.elim
theorem chkS_ok {K : PySem.W.Frag} : ChkM K "str" chkS := fun E w S H v x P hs rv h => by
  cases x with
  | str z => cases rv; exact ⟨rfl, Fin.ok h hs⟩
  | _ => exact h.elim
/-- a method on values -/
def MeM (K : PySem.W.Frag) (r : V → List V → Hp → VK → Prop) (f : D → List D → M D) : Prop := ∀ (E : EK) (w : Wd) (S : Sto) (H : Hp) (v : V) (vs : List V) (x : D) (xs : List D) (Q : VK), Rs K w S H → Rv K w v x → RvL K w vs xs →
  Fin K E w (f x xs S) (fun w' _ H' d => ∀ z, Rv K w' z d → Q z H') → r v vs H Q
theorem mth_go {T : String} {c : D → M Unit} {r : V → List V → Hp → VK → Prop} {f : D → List D → M D} (hc : ChkM X.K T c) (hf : MeM X.K r f) {σ : L2.St} {H : Hp} {Q : VK} (h : tM X.K E (mth c f mo ma') σ H Q) : tBM X.K T r (tM X.K E mo) (tMa X.K E ma') σ H Q := by
  obtain ⟨w, S, ρ, hs, hn, h⟩ := h
  refine ⟨w, S, ρ, hs, hn, h.bind.imp fun w1 S1 H1 x l1 s1 q v rv => ?_⟩
  obtain ⟨ty, q⟩ := hc E w1 S1 H1 v x _ s1 rv q.bind
  exact ⟨ty, w1, S1, ρ, s1, hn.mono l1, q.bind.imp fun w2 S2 H2 xs l2 s2 q vs rvs => hf E w2 S2 H2 v vs x xs Q s2 (rv.mono l2) rvs q⟩
theorem appM_ok {K : PySem.W.Frag} : MeM K rAppend appM := fun E w S H v vs x xs Q hs rv rvs h => by
  cases x with
  | ref n =>
    rcases xs with _ | ⟨d, _ | ⟨d2, r⟩⟩
    · exact h.elim
    · rcases hc : S[n]? with _ | (⟨ds⟩ | ⟨ds⟩ | ⟨C, ds⟩ | ⟨ds⟩)
      · simp only [appM, hc] at h; exact h.elim
      rotate_left
      · simp only [appM, hc] at h; exact h.elim
      · simp only [appM, hc] at h; exact h.elim
      · simp only [appM, hc] at h; exact h.elim
      · simp only [appM, hc] at h
        by_cases hl : ds.length < 100000
        · rw [if_pos hl] at h
          obtain ⟨u, rfl, ru⟩ := args1 rvs
          cases rv with
          | ref hA =>
            obtain ⟨ys, h1, h2⟩ := hs.cell n _ _ hA hc
            exact ⟨_, ys, u, rfl, rfl, h1, sz_lt (by rw [h2.length]; exact hl), h w _ (Le.refl w) (hs.put hA h1 (by intro _ _ z; cases z) ⟨_, upd_same, h2.append (.one ru)⟩) _ .non⟩
        · rw [if_neg hl] at h
          exact h.elim
    · exact h.elim
  | _ => exact h.elim
theorem extM_ok {K : PySem.W.Frag} : MeM K rExtend extM := fun E w S H v vs x xs Q hs rv rvs h => by
  cases x with
  | ref n =>
    rcases xs with _ | ⟨d, _ | ⟨d2, r⟩⟩
    · exact h.elim
    · rcases hc : S[n]? with _ | (⟨ds⟩ | ⟨ds⟩ | ⟨C, ds⟩ | ⟨ds⟩)
      · simp only [extM, hc] at h; exact h.elim
      rotate_left
      · simp only [extM, hc] at h; exact h.elim
      · simp only [extM, hc] at h; exact h.elim
      · simp only [extM, hc] at h; exact h.elim
      · rcases hc2 : asC S d with _ | es
        · simp only [extM, hc, hc2] at h; exact h.elim
        · simp only [extM, hc, hc2] at h
          by_cases hl : ds.length + es.length ≤ 100000
          · rw [if_pos hl] at h
            obtain ⟨u, rfl, ru⟩ := args1 rvs
            obtain ⟨b, zs, rfl, hb, rz⟩ := asC_go hs ru hc2
            cases rv with
            | ref hA =>
              obtain ⟨ys, h1, h2⟩ := hs.cell n _ _ hA hc
              exact ⟨_, b, ys, zs, rfl, rfl, h1, hb, sz_of (by rw [h2.length, rz.length]; exact hl), h w _ (Le.refl w) (hs.put hA h1 (by intro _ _ z; cases z) ⟨_, upd_same, h2.append rz⟩) _ .non⟩
          · rw [if_neg hl] at h
            exact h.elim
    · exact h.elim
  | _ => exact h.elim
theorem joinM_ok {K : PySem.W.Frag} : MeM K (fun x xs H Q => ∃ a p, ∃ ys : List Str, x = .str a ∧ xs = [.ref p] ∧ (SqL K H p (ys.map V.str) ∨ SqT K H p (ys.map V.str)) ∧
    (ys.map (·.length)).sum + ys.length * a.length ≤ 16777216 ∧ Q (.str (Txt.join a ys)) H) joinM := fun E w S H v vs x xs Q hs rv rvs h => by
  cases x with
  | str a =>
    rcases xs with _ | ⟨d, _ | ⟨d2, r⟩⟩
    · exact h.elim
    · rcases hc : asQ S d with _ | ds
      · simp only [joinM, hc] at h; exact h.elim
      · rcases hc2 : strsOf ds with _ | ys
        · simp only [joinM, hc, hc2] at h; exact h.elim
        · simp only [joinM, hc, hc2] at h
          by_cases hl : (ys.map (·.length)).sum + ys.length * a.length ≤ 100000
          · rw [if_pos hl] at h
            obtain ⟨u, rfl, ru⟩ := args1 rvs
            obtain ⟨b, zs, rfl, hb, rz⟩ := asQ_go hs ru hc
            cases rv
            have e := strs_rel rz hc2
            subst e
            exact ⟨a, b, ys, rfl, rfl, hb, by omega, Fin.ok h hs _ (.str _)⟩
          · rw [if_neg hl] at h
            exact h.elim
    · exact h.elim
  | _ => exact h.elim
end
end Mi
namespace Mi
open PySem PySem.Spec L2
section
variable {X : Cx} {E : EK}
/-! ### len, abs, int, list, tuple, all, any -/
theorem args1V {K : PySem.W.Frag} {w : Wd} {vs : List V} {xs : List D} (h : xs.length = 1) (r : RvL K w vs xs) : ∃ v d, vs = [v] ∧ xs = [d] ∧ Rv K w v d := by
  cases r with
  | nil => cases h
  | cons r rr =>
    cases rr with
    | nil => exact ⟨_, _, rfl, rfl, r⟩
    | cons _ _ => simp at h
def on1 (f : D → M D) : List D → M D
  | [d] => f d
  | _ => bad
theorem on1_ok {K : PySem.W.Frag} {r : List V → Hp → VK → Prop} {f : D → M D} (h : UnM K (fun v H Q => r [v] H Q) f) : CaM K r (on1 f) := fun E w S H vs xs Q hs rv q => by
  rcases xs with _ | ⟨d, _ | ⟨e, t⟩⟩
  · exact q.elim
  · obtain ⟨v, rfl, r1⟩ := args1 rv
    exact h E w S H v d Q hs r1 q
  · exact q.elim
def lenM (d : D) : M D := fun S => match d with
  | .str x => if x.length ≤ 100000 then some (.ok (.int (x.length : Int)), S) else none
  | d => match asQ S d with
    | some ds => some (.ok (.int (ds.length : Int)), S)
    | none => none
theorem lenM_ok {K : PySem.W.Frag} : CaM K (fun xs H Q => ∃ x n, xs = [x] ∧ LenV K x H n ∧ Q (.int (n : Nat)) H) (on1 lenM) := on1_ok fun E w S H v x Q hs rv h => by
  have seq : ∀ (h' : Fin K E w (match asQ S x with
    | some ds => some (.ok (D.int (ds.length : Int)), S)
    | none => none) (fun w' _ H' d => ∀ z, Rv K w' z d → Q z H')), ∃ y n, [v] = [y] ∧ LenV K y H n ∧ Q (.int (n : Nat)) H := fun h' => by
    rcases h1 : asQ S x with _ | ds
    · simp only [h1] at h'; exact h'.elim
    · simp only [h1] at h'
      obtain ⟨a, xs, rfl, hq, rx⟩ := asQ_go hs rv h1
      refine ⟨_, ds.length, rfl, ?_, Fin.ok h' hs _ (.int _)⟩
      rcases hq with hq | hq
      · exact .inl ⟨xs, hq, rx.length.symm⟩
      · exact .inr ⟨xs, hq, rx.length.symm⟩
  cases x with
  | str z =>
    cases rv
    have h : Fin K E w (if z.length ≤ 100000 then some (.ok (D.int (z.length : Int)), S) else none) _ := h
    by_cases hl : z.length ≤ 100000
    · rw [if_pos hl] at h
      exact ⟨_, z.length, rfl, ⟨sz_of hl, rfl⟩, Fin.ok h hs _ (.int _)⟩
    · rw [if_neg hl] at h
      exact h.elim
  | _ => exact seq h
def absM : D → M D
  | .int i => M.pure (.int (if i < 0 then -i else i))
  | _ => bad
theorem absM_ok {K : PySem.W.Frag} : CaM K (fun xs H Q => ∃ i, xs = [.int i] ∧ Q (.int (if i < 0 then -i else i)) H) (on1 absM) := on1_ok fun E w S H v x Q hs rv h => by
  cases x with
  | int i => cases rv; exact ⟨i, rfl, Fin.ok h hs _ (.int _)⟩
  | _ => exact h.elim
def intM : D → M D
  | .int i => M.pure (.int i)
  | .bl b => M.pure (.int (if b then 1 else 0))
  | _ => bad
theorem intM_ok {K : PySem.W.Frag} : CaM K (fun xs H Q => (∃ i, xs = [.int i] ∧ Q (.int i) H) ∨ ∃ k, xs = [.bl k] ∧ Q (.int (if k then 1 else 0)) H) (on1 intM) := on1_ok fun E w S H v x Q hs rv h => by
  cases x with
  | int i => cases rv; exact .inl ⟨i, rfl, Fin.ok h hs _ (.int _)⟩
  | bl i => cases rv; exact .inr ⟨i, rfl, Fin.ok h hs _ (.int _)⟩
  | _ => exact h.elim
def listM (d : D) : M D := fun S => match d with
  | .str x => if x.cps.size ≤ 100000 then some (.ok (.lst (x.cps.toList.map sgn)), S) else none
  | d => match asQ S d with
    | some ds => some (.ok (.lst ds), S)
    | none => none
def rListS : List V → Hp → VK → Prop := fun xs H Q => ∃ x : Str, xs = [.str x] ∧ x.cps.size ≤ sizeLine ∧ ∀ l, H l = none → Q (.ref l) (upd H l (.lst (x.cps.toList.map fun c => V.str ⟨#[c]⟩)))
theorem call_listS (hc : X.calm = true) : CallR X (.type "list") rListS := by
  intro pins s σ H xs us Q I r h
  obtain ⟨x, rfl, hz, q⟩ := h
  obtain ⟨u, rfl, t, rfl⟩ := vals1 r
  refine call_list_str (I.ok.hd hc) x t (fun h' tk acc' c' hk hS hacc => ?_) hz
  refine ⟨.ref s.heap.objs.size, _, I.laid hk (Nat.le_refl _) (show ObjOk X.prog X.w _ _ _ (.lst (x.cps.toList.map fun c => V.str ⟨#[c]⟩)) from ⟨?_, acc'.toList, c', ?_, ?_⟩), rfl, q _ (I.hok.fresh (Nat.le_refl _))⟩
  · rw [List.length_map, Array.length_toList]; exact hz
  · refine vals_of_at (by rw [List.length_map, Array.length_toList, Array.length_toList, hacc.1]) fun j y v h1 h2 => ?_
    obtain ⟨c, t', e1, e2⟩ := hacc.2 j v (by rw [← Array.getElem?_toList]; exact h2)
    rw [List.getElem?_map, Array.getElem?_toList, e1] at h1
    cases h1
    exact ⟨t', e2⟩
  · rw [Array.toArray_toList]; exact hS
theorem sgn_rel {K : PySem.W.Frag} {w : Wd} : ∀ cs : List Nat, RvL K w (cs.map fun c => V.str ⟨#[c]⟩) (cs.map sgn)
  | [] => .nil
  | c :: cs => .cons (.str _) (sgn_rel cs)
def rListU (K : PySem.W.Frag) : List V → Hp → VK → Prop := fun xs H Q => rListS xs H Q ∨ ∃ p ys, xs = [.ref p] ∧ (SqL K H p ys ∨ SqT K H p ys) ∧ ∀ l, H l = none → Q (.ref l) (upd H l (.lst ys))
theorem call_listU (hc : X.calm = true) : CallR X (.type "list") (rListU X.K) := (call_listS hc).or call_list_of
theorem listM_ok {K : PySem.W.Frag} : CaM K (rListU K) (on1 listM) := on1_ok fun E w S H v x Q hs rv h => by
  have seq : ∀ (h' : Fin K E w (match asQ S x with
    | some ds => some (.ok (D.lst ds), S)
    | none => none) (fun w' _ H' d => ∀ z, Rv K w' z d → Q z H')), rListU K [v] H Q := fun h' => by
    rcases h1 : asQ S x with _ | ds
    · simp only [h1] at h'; exact h'.elim
    · simp only [h1] at h'
      obtain ⟨a, xs, rfl, hq, rx⟩ := asQ_go hs rv h1
      refine .inr ⟨a, xs, rfl, hq, fun p hp => h' _ _ (hs.le_lay hp) (hs.lay (o := .lst xs) hp) _ (.lst (by show upd w.G p _ p = _; rw [upd_same]) (rx.mono (hs.le_lay hp)))⟩
  cases x with
  | str z =>
    cases rv
    have h : Fin K E w (if z.cps.size ≤ 100000 then some (.ok (D.lst (z.cps.toList.map sgn)), S) else none) _ := h
    by_cases hl : z.cps.size ≤ 100000
    · rw [if_pos hl] at h
      exact .inl ⟨z, rfl, sz_of hl, fun p hp => h _ _ (hs.le_lay hp) (hs.lay (o := .lst _) hp) _ (.lst (by show upd w.G p _ p = _; rw [upd_same]) (sgn_rel _))⟩
    · rw [if_neg hl] at h
      exact h.elim
  | _ => exact seq h
def tupleM (d : D) : M D := fun S => match d with
  | .tup ds => some (.ok (.tup ds), S)
  | d => match asR S d with
    | some ds => some (.ok (.tup ds), S)
    | none => none
theorem tupleM_ok {K : PySem.W.Frag} : CaM K (fun xs H Q => ∃ p ys, xs = [.ref p] ∧ ((SqL K H p ys ∧ ∀ l, H l = none → Q (.ref l) (upd H l (.tup ys))) ∨ (SqT K H p ys ∧ Q (.ref p) H))) (on1 tupleM) := on1_ok fun E w S H v x Q hs rv h => by
  have seq : ∀ (h' : Fin K E w (match asR S x with
    | some ds => some (.ok (D.tup ds), S)
    | none => none) (fun w' _ H' d => ∀ z, Rv K w' z d → Q z H')), ∃ p ys, [v] = [.ref p] ∧ ((SqL K H p ys ∧ ∀ l, H l = none → Q (.ref l) (upd H l (.tup ys))) ∨ (SqT K H p ys ∧ Q (.ref p) H)) := fun h' => by
    rcases h1 : asR S x with _ | ds
    · simp only [h1] at h'; exact h'.elim
    · simp only [h1] at h'
      obtain ⟨a, xs, rfl, hq, rx⟩ := asR_go hs rv h1
      exact ⟨a, xs, rfl, .inl ⟨hq, fun p hp => h' _ _ (hs.le_lay hp) (hs.lay (o := .tup xs) hp) _ (.tup (.of (by show upd w.G p _ p = _; rw [upd_same])) (rx.mono (hs.le_lay hp)))⟩⟩
  cases x with
  | tup ds =>
    obtain ⟨a, xs, rfl, hq, rx⟩ := tup_go hs rv
    exact ⟨a, xs, rfl, .inr ⟨hq, Fin.ok (P := fun w' _ H' d => ∀ z, Rv K w' z d → Q z H') h hs _ rv⟩⟩
  | _ => exact seq h
def blsOf : List D → Option (List Bool)
  | [] => some []
  | .bl b :: ds => (blsOf ds).map fun bs => b :: bs
  | _ => none
theorem bls_rel {K : PySem.W.Frag} {w : Wd} : ∀ {xs : List V} {ds : List D} {bs : List Bool}, RvL K w xs ds → blsOf ds = some bs → xs = bs.map V.bl
  | _, _, _, .nil, h => by cases h; rfl
  | _, _, _, .cons r rr, h => by
    cases r with
    | bl x =>
      simp only [blsOf] at h
      obtain ⟨ys, h1, rfl⟩ := mapO h
      rw [bls_rel rr h1]
      rfl
    | _ => cases h
def allM (d : D) : M D := fun S => match asR S d with
  | some ds => match blsOf ds with
    | some bs => some (.ok (.bl (bs.all id)), S)
    | none => none
  | none => none
def anyM (d : D) : M D := fun S => match asR S d with
  | some ds => match blsOf ds with
    | some bs => some (.ok (.bl (bs.any id)), S)
    | none => none
  | none => none
theorem allM_ok {K : PySem.W.Frag} : CaM K (rAll K) (on1 allM) := on1_ok fun E w S H v x Q hs rv h => by
  rcases h1 : asR S x with _ | ds
  · simp only [allM, h1] at h; exact h.elim
  · rcases h2 : blsOf ds with _ | bs
    · simp only [allM, h1, h2] at h; exact h.elim
    · simp only [allM, h1, h2] at h
      obtain ⟨a, xs, rfl, hq, rx⟩ := asR_go hs rv h1
      exact ⟨a, bs, rfl, by rw [← bls_rel rx h2]; exact hq, Fin.ok h hs _ (.bl _)⟩
theorem anyM_ok {K : PySem.W.Frag} : CaM K (rAny K) (on1 anyM) := on1_ok fun E w S H v x Q hs rv h => by
  rcases h1 : asR S x with _ | ds
  · simp only [anyM, h1] at h; exact h.elim
  · rcases h2 : blsOf ds with _ | bs
    · simp only [anyM, h1, h2] at h; exact h.elim
    · simp only [anyM, h1, h2] at h
      obtain ⟨a, xs, rfl, hq, rx⟩ := asR_go hs rv h1
      exact ⟨a, bs, rfl, by rw [← bls_rel rx h2]; exact hq, Fin.ok h hs _ (.bl _)⟩

/-! ### isinstance of a built-in type -/
def tyN (S : Sto) : D → Option String
  | .non => some "NoneType"
  | .bl _ => some "bool"
  | .int _ => some "int"
  | .str _ => some "str"
  | .tup _ => some "tuple"
  | .lst _ => some "list"
  | .lsr _ => some "list"
  | .dct _ => some "dict"
  | .ref n => match S[n]? with
    | some (.lst _) => some "list"
    | some (.dct _) => some "dict"
    | _ => none
  | .exc _ _ => none
theorem tyN_go {K : PySem.W.Frag} {w : Wd} {S : Sto} {H : Hp} {v : V} {d : D} {t : String} (hs : Rs K w S H) (rv : Rv K w v d) (h : tyN S d = some t) : TyX K H v (.type t) := by
  cases rv with
  | non => cases h; exact .base .non
  | bl b => cases h; exact .base (.bl b)
  | int b => cases h; exact .base (.int b)
  | str b => cases h; exact .base (.str b)
  | tup hG r =>
    cases h
    rcases sqT_up hG (Le.refl w) hs with (e | ⟨o, e⟩) | ⟨o, its, n, e, c, _⟩
    · exact .base (.tup e)
    · exact .fTuple e
    · exact .kTuple e c
  | lst hG r => cases h; exact .base (.lst (hs.g _ _ hG))
  | lsr hG r =>
    cases h
    rcases sqL_up hG (Le.refl w) hs with (e | ⟨o, e⟩) | ⟨o, its, n, e, c, _⟩
    · exact .base (.lst e)
    · exact .base (.frz e)
    · exact .kList e c
  | dct hG r => cases h; exact .base (.dK (hs.g _ _ hG))
  | ref hA =>
    rename_i a n
    rcases hc : S[n]? with _ | (⟨ds⟩ | ⟨ds⟩ | ⟨C, ds⟩ | ⟨ds⟩)
    · simp only [tyN, hc] at h; cases h
    rotate_left
    · simp only [tyN, hc] at h
      cases h
      obtain ⟨xs, h1, _⟩ := hs.cell n a _ hA hc
      exact .base (.dK h1)
    · simp only [tyN, hc] at h; cases h
    · simp only [tyN, hc] at h; cases h
    · simp only [tyN, hc] at h
      cases h
      obtain ⟨xs, h1, _⟩ := hs.cell n a _ hA hc
      exact .base (.lst h1)
  | exn _ _ => cases h
  | exc _ _ _ _ => cases h
def isiM (T : String) (d : D) : M D := fun S => match tyN S d with
  | some t => match kitB t T with
    | some b => some (.ok (.bl b), S)
    | none => none
  | none => none
variable {a e : Expr} {m : Env → M D} {x T : Str} {p q pos : Pos} {T : String} {es : List Expr}
theorem me_isi (hg : Gl X "isinstance") (hm : X.mg "isinstance" = none) (hv : bootBuiltins "isinstance" = some (.builtin "isinstance")) (ha : PE X a (tM X.K E m)) (ht : PE X e (tC (.ty T)))
    (he : starEach [a, e] X.env = (false, eval a X.env) :: starEach [e] X.env := by rfl) (he2 : starEach [e] X.env = (false, eval e X.env) :: starEach [] X.env := by rfl) (hpl : (backTo pos (starEach [e] X.env)).any (·.1) = false := by rfl) :
    PE X (.Call (.Name "isinstance" p) [a, e] [] pos) (tM X.K E (b1 (isiM T) m)) :=
  pe_imp (pe_callB call_isi hg hm hv (pa_cons ha (pa_cons ht pa_nil he2) he) (by decide) (by decide) he hpl) fun σ H Q ⟨w, S, ρ, hs, hn, h⟩ => ⟨w, S, ρ, hs, hn, h.bind.imp fun w1 S1 H1 x l1 s1 h v rv => by
    rcases h1 : tyN S1 x with _ | t
    · simp only [isiM, h1] at h; exact h.elim
    · rcases h2 : kitB t T with _ | b
      · simp only [isiM, h1, h2] at h; exact h.elim
      · simp only [isiM, h1, h2] at h
        exact ⟨v, .ty T, .type t, .type T, b, rfl, .ty T, tyN_go s1 rv h1, kit_ty h2, Fin.ok h s1 _ (.bl _)⟩⟩
end
end Mi
namespace Mi
open PySem PySem.Spec L2
/-! ### repr of data -/
section
variable {X : Cx} {pins : List (Addr × Obj)} {σ : L2.St} {H : Hp} {s : Shared} {w : Wd} {S : Sto}
theorem lst_reads (I : Inv X pins σ H s) (hs : Rs X.K w S H) {a : Addr} {xs : List V} {ps : List PyData} (hx : H a = some (.lst xs)) (k : ∀ us, Vals xs us → ∃ as, ReadsAll s.heap us ps as ∧ sysModules ∉ as) : ∃ as, Reads s.heap (.ref a) (.list ps) as ∧ sysModules ∉ as := by
  obtain ⟨its, rv, ⟨o, n, ho, hc, _, hd⟩, _⟩ := I.list (.of hx)
  obtain ⟨as, h1, h2⟩ := k its rv
  obtain ⟨φ, hφ⟩ := hs.sy
  have hφ := hs.f _ _ hφ
  exact ⟨_, Reads.list ho hc hd h1, by
    intro z
    rcases List.mem_cons.mp z with z | z
    · rw [← z, hφ] at hx
      cases hx
    · exact h2 z⟩
mutual
theorem reads_of (I : Inv X pins σ H s) (hs : Rs X.K w S H) : ∀ {d : D} {v : V} {u : Value} {p : PyData}, Rv X.K w v d → toPy d = some p → RelV v u → ∃ as, Reads s.heap u p as ∧ sysModules ∉ as
  | _, _, _, _, .non, h, r => by cases h; cases r; exact ⟨_, Reads.none, by simp⟩
  | _, _, _, _, .bl b, h, r => by cases h; cases r; exact ⟨_, Reads.bool b, by simp⟩
  | _, _, _, _, .int i, h, r => by cases h; obtain ⟨t, rfl⟩ := r; exact ⟨_, Reads.int i t, by simp⟩
  | _, _, _, _, .str x, h, r => by cases h; obtain ⟨t, rfl⟩ := r; exact ⟨_, Reads.str x t, by simp⟩
  | _, _, _, _, .tup hG rr, h, r => by
    simp only [toPy] at h
    obtain ⟨ps, h1, rfl⟩ := mapO h
    cases r
    obtain ⟨its, rv, ⟨o, ho, hc, n, hd⟩, _⟩ := I.tuple (sqT_up hG (Le.refl w) hs)
    obtain ⟨as, e1, e2⟩ := reads_ofL I hs rr h1 rv
    exact ⟨_, Reads.tuple ho hc hd e1, e2⟩
  | _, _, _, _, .lst hG rr, h, r => by
    simp only [toPy] at h
    obtain ⟨ps, h1, rfl⟩ := mapO h
    cases r
    exact lst_reads I hs (hs.g _ _ hG) fun us rv => reads_ofL I hs rr h1 rv
  | _, _, _, _, .lsr _ _, h, _ => by simp only [toPy] at h; cases h
  | _, _, _, _, .dct hG rr, h, r => by
    simp only [toPy] at h
    obtain ⟨ps, h1, rfl⟩ := mapO h
    cases r
    rename_i a xs ds
    obtain ⟨z, lo, vs, rk, o, es, ep, ho, hx, hd, _, hp, _⟩ := (show ObjOk X.prog X.w H s.heap a (.dK xs) from I.hok a _ (hs.g _ _ hG))
    obtain ⟨as, bs, e1, e2, e3, e4⟩ := reads_ofK I hs rr h1 rk hp
    refine ⟨_, Reads.dict ho hx.1 hd e1 e2, ?_⟩
    intro z
    rcases List.mem_append.mp z with z | z
    · rcases List.mem_cons.mp z with z | z
      · rw [← z] at lo
        simp at lo
      · exact e3 z
    · exact e4 z
  | _, _, _, _, .ref _, h, _ => by simp only [toPy] at h; cases h
theorem reads_ofL (I : Inv X pins σ H s) (hs : Rs X.K w S H) : ∀ {d : List D} {v : List V} {u : List Value} {p : List PyData}, RvL X.K w v d → toPyL d = some p → Vals v u → ∃ as, ReadsAll s.heap u p as ∧ sysModules ∉ as
  | _, _, _, _, .nil, h, r => by cases h; cases r; exact ⟨_, ReadsAll.nil, by simp⟩
  | _, _, _, _, .cons h1 rr, h, r => by
    simp only [toPyL] at h
    obtain ⟨p, e1, h⟩ := bindO h
    obtain ⟨ps, e2, rfl⟩ := mapO h
    cases r with
    | cons r1 r2 =>
      obtain ⟨as, a1, a2⟩ := reads_of I hs h1 e1 r1
      obtain ⟨bs, b1, b2⟩ := reads_ofL I hs rr e2 r2
      exact ⟨_, ReadsAll.cons a1 b1, by
        intro z
        rcases List.mem_append.mp z with z | z
        · exact a2 z
        · exact b2 z⟩
theorem reads_ofK (I : Inv X pins σ H s) (hs : Rs X.K w S H) : ∀ {d : List (D × D)} {v : List (Key × V)} {u : List (Key × Value)} {es : List DictEntry} {p : List (PyData × PyData)}, RvK X.K w v d → toPyK d = some p → KV v u → Pairs (mixKind X.prog X.w) es u →
    ∃ as bs, ReadsAll s.heap (es.map (·.key)) (p.map (·.1)) as ∧ ReadsAll s.heap (es.map (·.val)) (p.map (·.2)) bs ∧ sysModules ∉ as ∧ sysModules ∉ bs
  | _, _, _, _, _, .nil, h, r, q => by cases h; cases r; cases q; exact ⟨_, _, ReadsAll.nil, ReadsAll.nil, by simp, by simp⟩
  | _, _, _, _, _, .cons (k := k) h1 rr, h, r, q => by
    simp only [toPyK] at h
    obtain ⟨pk, e0, h⟩ := bindO h
    obtain ⟨p, e1, h⟩ := bindO h
    obtain ⟨ps, e2, rfl⟩ := mapO h
    cases r with
    | cons r1 r2 =>
      cases q with
      | cons q1 q2 q3 =>
        obtain ⟨r1a, r1b⟩ := r1
        obtain ⟨as, a1, a2⟩ := reads_of I hs h1 e1 r1b
        rw [← q2] at a1
        obtain ⟨bs, cs, b1, b2, b3, b4⟩ := reads_ofK I hs rr e2 r2 q3
        rename_i kv2 tl2 en es2
        have hk : ∃ ks, Reads s.heap en.key pk ks ∧ sysModules ∉ ks := by
          rw [← r1a] at q1
          have q1' : keyIs k en.key = true := q1
          rcases keyIs_shape q1' with ⟨i, t, ek, ev⟩ | ⟨x, t, ek, ev⟩
          · subst ek
            cases e0
            exact ⟨_, by rw [ev]; exact Reads.int i t, by simp⟩
          · subst ek
            cases e0
            exact ⟨_, by rw [ev]; exact Reads.str x t, by simp⟩
        obtain ⟨ks, k1, k2⟩ := hk
        exact ⟨_, _, ReadsAll.cons k1 b1, ReadsAll.cons a1 b2, by
          intro z
          rcases List.mem_append.mp z with z | z
          · exact k2 z
          · exact b3 z, by
          intro z
          rcases List.mem_append.mp z with z | z
          · exact a2 z
          · exact b4 z⟩
end
theorem reads_of2 (I : Inv X pins σ H s) (hs : Rs X.K w S H) {d : D} {v : V} {u : Value} {p : PyData} (rv : Rd2 X.K w H v d) (h : toPy d = some p) (r : RelV v u) : ∃ as, Reads s.heap u p as ∧ sysModules ∉ as := by
  cases rv with
  | of q => exact reads_of I hs q h r
  | cell hH rr =>
    simp only [toPy] at h
    obtain ⟨ps, h1, rfl⟩ := mapO h
    cases r
    exact lst_reads I hs hH fun us rv => reads_ofL I hs rr h1 rv
end
section
variable {X : Cx} {E : EK}
/-- the text of a value, by the library -/
def rRepr (K : PySem.W.Frag) : List V → Hp → VK → Prop := fun xs H Q => ∃ (w : Wd) (S : Sto) (v : V) (d : D) (p : PyData), xs = [v] ∧ Rs K w S H ∧ Rv K w v d ∧ toPy (deS S d) = some p ∧ p.showable = true ∧ p.shown.length ≤ sizeLine ∧ p.depth ≤ 60 ∧ Q (.str p.shown) H
theorem repr_flat {p : PyData} {u : Value} {as : List Addr} {h : Heap} (r : Reads h u p as) (hn : ∀ a, u ≠ .ref a) {A : Around} {P : Program} {w : World} {E : Value → Shared → Prop} {s : Shared} {Q : Value → Shared → Prop} (hs : p.showable = true) (hz : p.shown.length ≤ sizeLine)
    (hQ : Q (.str p.shown s.toks) { s with toks := s.toks + 1 }) : wpAny (model P w) A (call (.builtin "repr") [u]) Q E s := by
  cases r with
  | none => simp only [PyData.shown] at hQ; exact PySem.P.repr_of_none hQ
  | bool b => simp only [PyData.shown] at hQ; exact PySem.P.repr_of_bool hQ
  | int i t => simp only [PyData.shown] at hQ; exact PySem.P.repr_of_int (by simpa [PyData.showable] using hs) hQ
  | str x t => simp only [PyData.shown] at hQ hz; exact PySem.P.repr_of_str hQ hz
  | list => exact absurd rfl (hn _)
  | tuple => exact absurd rfl (hn _)
  | dict => exact absurd rfl (hn _)
theorem call_reprU {k : Nat} (hr : Room k X.A) (hgd : X.A.guards = some []) : CallR X (.builtin "repr") (rRepr X.K) := by
  intro pins s σ H xs us Q I r h
  obtain ⟨w, S, v, d, p, rfl, hs, rv, hp, h1, h2, h3, q⟩ := h
  obtain ⟨u, rfl, ru⟩ := vals1 r
  obtain ⟨as, e1, e2⟩ := reads_of2 I hs (deS_go hs rv) hp ru
  by_cases hu : ∃ a, u = .ref a
  · obtain ⟨a, rfl⟩ := hu
    refine repr_of_reads' e1 h1 (fun _ => e2) hgd (by have := hr.units; omega) (fun _ _ e => e) (fun h' t tk hk => ?_) h2
    exact ⟨.str p.shown, H, I.kept hk, ⟨_, rfl⟩, q⟩
  · exact repr_flat e1 (fun a z => hu ⟨a, z⟩) h1 h2 ⟨.str p.shown, H, I.tok _, ⟨_, rfl⟩, q⟩
def reprM (d : D) : M D := fun S => match toPy (deS S d) with
  | some p => if p.showable = true ∧ p.shown.length ≤ 100000 ∧ p.depth ≤ 60 then some (.ok (.str p.shown), S) else none
  | none => none
theorem reprM_ok {K : PySem.W.Frag} : CaM K (rRepr K) (on1 reprM) := on1_ok fun E w S H v x Q hs rv h => by
  rcases h1 : toPy (deS S x) with _ | p
  · simp only [reprM, h1] at h; exact h.elim
  · simp only [reprM, h1] at h
    by_cases hc : p.showable = true ∧ p.shown.length ≤ 100000 ∧ p.depth ≤ 60
    · rw [if_pos hc] at h
      exact ⟨w, S, v, x, p, rfl, hs, rv, h1, hc.1, sz_of hc.2.1, hc.2.2, Fin.ok h hs _ (.str _)⟩
    · rw [if_neg hc] at h
      exact h.elim
end
end Mi
namespace Mi
open PySem PySem.Spec PyProof.Rows L2
/-! ### the law's own def, where no repr is under way -/
section
variable {P : Program} {w : World} {K : PySem.W.Frag} {mg : Str → Option Value}
/-- a promise kept by the outermost call alone -/
def TopOk (P : Program) (w : World) (K : PySem.W.Frag) (mg : Str → Option Value) (fa : Addr) (x : Str) (sp : Sp) : Prop :=
  ∀ (base : Heap) (s : Shared) (H : Hp) (v : V) (u : Value) (Q : VK) (E : XK), K.In base → base.Ns mainGlobals mg → Env0 P w K mg base callerA [] s H → RelV v u → sp [v] H Q E →
    codeAny (model P w) callerA (.call (.ref fa) ⟨[u], []⟩) (CR CX0 [] P w H s Q E) s
theorem guards_top (env : PySem.Env) : (callerA.deeper env).guards = some [] := rfl
theorem top_run {fa a : Addr} {x : Str} {sp : Sp} {mb : Str → Option Value} {st : Shared} {us : List Value} {zs : List Int} {oM : Obj} (T : TopOk P w K mg fa x sp)
    (kIn : K.In st.heap) (gNs : st.heap.Ns mainGlobals mg) (bNs : st.heap.Ns builtinsNs mb) (bAll : ∀ y : Str, y ≠ "__name__" → mb y = bootBuiltins y) (lim : st.heap.NoLimit) (gens : st.gens = #[])
    (kno : K.lookup sysModules = none) (sM : st.heap.get? sysModules = some oM) (sD : ∀ vs n, oM.data ≠ .seq vs n)
    (at_a : st.heap.get? a = some { cls := .type "list", data := .seq us.toArray }) (zin : IntsAre us zs) (few : zs.length ≤ sizeLine)
    (ask : ∀ (H : Hp) (φ : Heap → Prop), H sysModules = some (.ext φ) → SqL K (fun b => if b = sysModules then none else H b) a (zs.map V.int) → sp [.ref a] H (fun v H' => v = .bl true ∧ H' sysModules = some (.ext φ)) fun _ _ _ => False) :
    codeAny (model P w) callerA (.call (.ref fa) ⟨[.ref a], []⟩) (fun r s' => r = .ok (.ret (.bool true)) ∧ OldK st.heap s'.heap ∧ s'.os = st.os ∧ AllBare s'.gens) st := by
  have rel := vals_ints zin
  have same := zin.length
  have apart : a ≠ sysModules := by
    rintro rfl
    rw [sM] at at_a
    cases at_a
    exact sD _ _ rfl
  have main : ∀ H1 : Hp, (∀ b, H1 b = none ∨ ∃ o xs, H1 b = some (.frz o (.lst xs))) → H1 sysModules = none → SqL K H1 a (zs.map V.int) → HOk P w H1 st.heap → (∀ b, H1 b ≠ none → b = a) → (H1 a ≠ none → K.lookup a = none) → codeAny (model P w) callerA (.call (.ref fa) ⟨[.ref a], []⟩)
      (fun r s' => r = .ok (.ret (.bool true)) ∧ OldK st.heap s'.heap ∧ s'.os = st.os ∧ AllBare s'.gens) st := fun H1 only free seq held just unk => by
    obtain ⟨φ, eφ⟩ : ∃ φ : Heap → Prop, φ = fun h => h.get? sysModules = some oM := ⟨_, rfl⟩
    obtain ⟨H, eH⟩ : ∃ H : Hp, H = upd H1 sysModules (.ext φ) := ⟨_, rfl⟩
    have at_s : H sysModules = some (.ext φ) := by rw [eH, upd_same]
    have at_o : ∀ b, b ≠ sysModules → H b = H1 b := fun b hb => by rw [eH, upd_ne hb]
    have some_a : ∀ b, b ≠ sysModules → H b ≠ none → b = a := fun b hb z => just b (by rw [← at_o b hb]; exact z)
    have held' : HOk P w H st.heap := fun b o e => by
      by_cases hb : b = sysModules
      · subst hb
        rw [at_s] at e
        cases e
        subst eφ
        exact ⟨sM, ⟨_, sM⟩, fun h1 h2 p k => k _ p⟩
      · rw [at_o b hb] at e
        refine (held b o e).stay (fun _ _ _ q => q) (fun c q => ?_) fun c xs q => ?_
        · by_cases hc : c = sysModules
          · subst hc; rw [free] at q; cases q
          · rw [at_o c hc]; exact q
        · by_cases hc : c = sysModules
          · subst hc; rw [free] at q; cases q
          · rw [at_o c hc]; exact q
    have ns_up : ∀ {b : Addr} {m : Str → Option Value}, b ≠ sysModules → st.heap.Ns b m → (hidT st.heap H).Ns b m := fun {b m} hb ⟨o, es, ep, e, d, r⟩ => ⟨o, es, ep, hidT_get e (by
      cases hh : H b with
      | none => rfl
      | some y =>
        obtain rfl : b = a := some_a b hb (by rw [hh]; simp)
        rw [at_a] at e
        cases e
        exact absurd (show Data.seq us.toArray _ = Data.dict es ep from d) nofun), d, r⟩
    have k_up : K.In (hidT st.heap H) := fun b o e => hidT_get (kIn b o e) (by
      by_cases hb : b = sysModules
      · subst hb
        rw [kno] at e
        cases e
      · cases hh : H b with
        | none => rfl
        | some y =>
          obtain rfl : b = a := some_a b hb (by rw [hh]; simp)
          rw [unk (by rw [← at_o b hb, hh]; simp)] at e
          cases e)
    have md : Mod K mg (hidT st.heap H) := ⟨k_up, ns_up (by decide) gNs, ⟨mb, ns_up (by decide) bNs, bAll⟩, lim.imp fun _ q => ⟨ns_up (by decide) q.1, q.2⟩⟩
    have en0 : Env0 P w K mg (hidT st.heap H) callerA [] st H := ⟨rfl, md, fun b o e => of_hidT e, Nat.le_of_eq (hidT_size _ _), trivial, (fun b hb => by cases hb), held', .of_eq gens⟩
    have seq' : SqL K (fun b => if b = sysModules then none else H b) a (zs.map V.int) := by
      have e : (fun b => if b = sysModules then none else H b) = H1 := by
        funext b
        by_cases hb : b = sysModules
        · rw [if_pos hb, hb, free]
        · rw [if_neg hb, at_o b hb]
      rw [e]
      exact seq
    refine codeAny_mono (T _ st H (.ref a) (.ref a) _ _ k_up (ns_up (by decide) gNs) en0 rfl (ask H φ at_s seq')) fun r s' h => ?_
    rcases r with e | fl
    · exact (show False from h).elim
    · cases fl with
      | ret u =>
        obtain ⟨v, H', os, bare, un, hok', rv, q, qs⟩ := h
        obtain rfl : v = V.bl true := q
        obtain rfl : u = Value.bool true := rv
        refine ⟨rfl, OldK.of_keep fun b o e => ?_, os, bare⟩
        by_cases hb : b = sysModules
        · subst hb
          have z := (hok' _ _ qs).1
          subst eφ
          have z : s'.heap.get? sysModules = some oM := z
          rw [sM] at e
          cases e
          exact z
        · cases q : H b with
          | none => exact un.keep b o e q (fun z => by cases z) (fun z => by cases z)
          | some y =>
            rcases only b with z | ⟨ob, xs, z⟩
            · rw [at_o b hb, z] at q
              cases q
            · rw [← at_o b hb] at z
              obtain ⟨e2, _⟩ := hok' b _ (un.frzs b ob _ z)
              obtain ⟨e1, _⟩ := held' b _ z
              rw [e] at e1
              cases e1
              exact e2
      | next => exact (show False from h).elim
      | brk => exact (show False from h).elim
      | cont => exact (show False from h).elim
  rcases hk : K.lookup a with _ | o
  · have hit : (fun b => if b = a then some (HO.frz { cls := .type "list", data := .seq us.toArray } (.lst (zs.map V.int))) else none) a = some (HO.frz { cls := .type "list", data := .seq us.toArray } (.lst (zs.map V.int))) := if_pos rfl
    refine main (fun b => if b = a then some (.frz { cls := .type "list", data := .seq us.toArray } (.lst (zs.map V.int))) else none) (fun b => ?_) (if_neg apart.symm) (.inl (.inr ⟨_, hit⟩)) (fun b u z => ?_) (fun b z => ?_) fun _ => hk
    · by_cases hb : b = a
      · exact .inr ⟨_, _, if_pos hb⟩
      · exact .inl (if_neg hb)
    · by_cases hb : b = a
      · subst hb
        have z2 := hit.symm.trans z
        cases z2
        exact ⟨at_a, by rw [List.length_map]; exact few, us, _, rel, at_a⟩
      · have z2 := (if_neg hb).symm.trans z
        cases z2
    · by_cases hb : b = a
      · exact hb
      · exact absurd (if_neg hb) z
  · have e := kIn a o hk
    rw [at_a] at e
    cases e
    exact main (fun _ => none) (fun _ => .inl rfl) rfl (.inr ⟨_, us.toArray, _, hk, rfl, rfl, rfl, by rw [List.size_toArray, same]; exact few, by simpa using rel⟩) (fun b u z => by cases z) (fun b z => absurd rfl z) fun z => absurd rfl z
theorem top_of {fa : Addr} {x name qual : Str} {params : Arguments} {body : List Stmt} {scope : Scope} {dV kV doc pm cdv ct oc : Value} {an od : Option Addr} {osl : Array (Option Value)} {N : List Str} {sp : Sp} {k : Nat} (rm : Room (k + 1) callerA)
    (lk : K.lookup fa = some ⟨oc, od, .func (PySem.W.fnOf name qual params body scope dV kV doc pm an cdv ct), osl⟩) (code : PySem.W.codeIn K cdv qual = true) (sc : FnScope N [x] scope)
    (bind : ∀ (s : Shared) (v : Value), BindsTo s (PySem.W.fnOf name qual params body scope dV kV doc pm an cdv ct) ⟨[v], []⟩ [(x, v)])
    (walk : ∀ (base : Heap) (s : Shared) (H : Hp) (v : V) (Q : VK) (E : XK), Room k (callerA.deeper (envOfC qual scope s.heap.objs.size fa cdv)) → K.In base → base.Ns mainGlobals mg → sp [v] H Q E →
      ∃ t, PSs (cxOf CX0 P w K mg base N qual scope fa cdv callerA [] s H E).nox body t ∧ t { nx := fun _ H' => Q .non H', rt := Q } (start N [v]) H) : TopOk P w K mg fa x sp := fun base s H v u Q E kb gb e0 rv hsp => by
  have kh : K.In s.heap := e0.mod.kin.keeps fun b o e => (e0.bs b o e).1
  have lim : s.heap.NoLimit := e0.mod.nolimit.keeps fun b o e => (e0.bs b o e).1
  have rel : Vals [v] [u] := .cons rv .nil
  have kinds : ∀ y ∈ [(x, u)], scope.names.lookup y.1 = some .local ∨ (scope.names.lookup y.1 = some .cell ∧ ((cellsFrom (s.heap.objs.size + 1) scope.names []).lookup y.1).isSome = true) := fun ⟨n, z⟩ hy => (sc.par n (List.of_mem_zip (l₁ := [x]) (l₂ := [u]) hy).1).imp id fun q => ⟨q, PySem.W.cellsFrom_some _ _ _ (.inl q)⟩
  refine codeAny_call_function rm.depth (kh _ _ lk) rfl sc.co sc.gen rfl (PySem.W.codeRec_of kh code) (bind s u _ _ _ _ ?_)
  refine wpAny_newFunctionEnv_cells sc.kind kinds fun env he s1 xs => ?_
  subst he
  refine ⟨lim.keeps xs.toInCall.keep, codeAny_func ?_⟩
  obtain ⟨t, ht, hq⟩ := walk base s H v Q E (rm.deeper _) kb gb hsp
  refine wpAny_mono (ht.nox.run [] s1 (start N [v]) H _ (inv_start sc rm.hd e0 rfl rel xs) hq) (fun fl s' hs => ?_) fun e s' hs => hs
  cases fl with
  | ret z =>
    obtain ⟨y, σ', H', J, ry, q⟩ := hs
    exact ⟨y, H', J.os, J.bare, J.base, J.hok, ry, q⟩
  | next =>
    obtain ⟨σ', H', J, q⟩ := hs
    exact ⟨.non, H', J.os, J.bare, J.base, J.hok, rfl, q⟩
  | brk =>
    obtain ⟨_, _, _, q⟩ := hs
    exact q.elim
  | cont =>
    obtain ⟨_, _, _, q⟩ := hs
    exact q.elim
/-- the end of a law -/
theorem walk_top {l : PySem.W.OpenLaw} {n : Nat} {q : Program} {loose : List Str} {XP : (Str → Option Value) → Heap → Prop} {YP : World → Heap → Prop} {d : DefRec} {K : Params → PySem.W.Frag} {sp : PySem.W.Frag → Sp} {x : Str}
    (hn : l.most = some n) (hn2 : n ≤ sizeLine) (hdf : d.params.defaults = []) (hY : ∀ (w : World) (h : Heap), YP w h → (K w.params).In h) (himp : importsNone q = true) (kno : ∀ p, (K p).lookup sysModules = none)
    (F : ∀ (w : World) (mg : Str → Option Value) (fa : Addr) (h : Heap), (K w.params).In h → h.Ns mainGlobals mg → mg d.name = some (.ref fa) → TopOk l.prog w (K w.params) mg fa x (sp (K w.params)))
    (hsp : ∀ (K : PySem.W.Frag) (H : Hp) (a : Addr) (ns : List Int) (φ : Heap → Prop), ns.length ≤ n → H sysModules = some (.ext φ) → SqL K (fun b => if b = sysModules then none else H b) a (ns.map V.int) → sp K [.ref a] H (fun v H' => v = .bl true ∧ H' sysModules = some (.ext φ)) fun _ _ _ => False) :
    PySem.W.WalkO q loose XP YP l.row.toRowW d [] (fun f vs => PySem.call f vs) := by
  refine Att.attach_call hn hdf fun w s0 s1 mg mb fa o pm cd doc a us zs G Y ho hd hcd hmg hobj hz hlen hg => ?_
  obtain ⟨mm, ⟨oM, es, ep, eM, dM, _⟩, _⟩ := (G.T.seer himp).mods
  exact top_run (F w mg fa _ (hY w _ Y) G.T.g hmg) (hY w _ Y) G.T.g G.T.b G.T.builtins G.T.nolimit hg (kno _) eM (fun vs n z => by rw [dM] at z; cases z) hobj hz (Nat.le_trans hlen hn2) fun H φ hO hS => hsp (K w.params) H a zs φ hlen hO hS
end
/-! ### the script -/
theorem int_rel {K : PySem.W.Frag} {w : Wd} : ∀ ns : List Int, RvL K w (ns.map V.int) (ns.map D.int)
  | [] => .nil
  | n :: ns => .cons (.int n) (int_rel ns)
/-- what the script's promise asks, and what it hands back: the object of the interpreter's own stands as it stood -/
theorem script_in {K : PySem.W.Frag} {H : Hp} {a : Addr} {ns : List Int} {f : List D → M D} {φ : Heap → Prop} (hy : H sysModules = some (.ext φ)) (hS : SqL K (fun b => if b = sysModules then none else H b) a (ns.map V.int)) (h : ∃ S', f [.lsr (ns.map D.int)] [] = some (.ok (.bl true), S')) :
    spM K 1 f [.ref a] H (fun v H' => v = .bl true ∧ H' sysModules = some (.ext φ)) fun _ _ _ => False := by
  obtain ⟨S', h⟩ := h
  have rs : Rs K ⟨[], fun b => if b = sysModules then none else H b, fun b => if b = sysModules then some (.ext φ) else none⟩ [] H := by
    refine ⟨fun b o e => ?_, fun b o e => ?_, fun b o e => ?_, rfl, List.nodup_nil, fun a h => (by cases h), fun n a c h => (by simp at h), ⟨φ, by show (if sysModules = sysModules then some (HO.ext φ) else none) = _; exact if_pos rfl⟩⟩
    · have e' : (if b = sysModules then none else H b) = some o := e
      by_cases q : b = sysModules
      · rw [if_pos q] at e'
        cases e'
      · rw [if_neg q] at e'
        exact e'
    · have e' : (if b = sysModules then some (HO.ext φ) else none) = some o := e
      by_cases q : b = sysModules
      · rw [if_pos q] at e'
        rw [q, hy, e']
      · rw [if_neg q] at e'
        cases e'
    · have e' : (if b = sysModules then some (HO.ext φ) else none) = some o := e
      by_cases q : b = sysModules
      · exact if_pos q
      · rw [if_neg q] at e'
        cases e'
  refine ⟨rfl, _, [], [.lsr (ns.map D.int)], rs, .cons (.lsr hS (int_rel ns)) .nil, ?_⟩
  rw [h]
  intro w' H' l s v rv
  cases rv
  refine ⟨rfl, s.f _ _ ?_⟩
  rw [l.f]
  show (if sysModules = sysModules then some (HO.ext φ) else none) = _
  exact if_pos rfl
end Mi
namespace Mi
open PySem PySem.Spec PyProof.Rows L2
/-! ### calls by keywords alone -/
def permL {α : Type} (π : List Nat) (xs : List α) : List α := if xs.length = π.length then π.filterMap fun i => xs[i]? else []
def gPos {α : Type} (π : List Nat) : List α → List α → List α
  | [], ws => permL π ws
  | _, _ => []
theorem filt_rel {K : PySem.W.Frag} {w : Wd} {vs : List V} {ds : List D} (r : RvL K w vs ds) : ∀ π : List Nat, RvL K w (π.filterMap fun i => vs[i]?) (π.filterMap fun i => ds[i]?)
  | [] => .nil
  | i :: π => by
    rw [List.filterMap_cons, List.filterMap_cons]
    rcases h : ds[i]? with _ | d
    · have hv : vs[i]? = none := by
        rw [List.getElem?_eq_none_iff] at h ⊢
        rw [r.length]
        exact h
      rw [hv]
      exact filt_rel r π
    · obtain ⟨v, hv, rv⟩ := r.get h
      rw [hv]
      exact .cons rv (filt_rel r π)
theorem filt_vals {vs : List V} {us : List Value} (r : Vals vs us) : ∀ π : List Nat, Vals (π.filterMap fun i => vs[i]?) (π.filterMap fun i => us[i]?)
  | [] => .nil
  | i :: π => by
    rw [List.filterMap_cons, List.filterMap_cons]
    rcases h : vs[i]? with _ | v
    · have hu : us[i]? = none := r.none_of h
      rw [hu]
      exact filt_vals r π
    · obtain ⟨u, hu, ru⟩ := r.get h
      rw [hu]
      exact .cons ru (filt_vals r π)
theorem perm_rel {K : PySem.W.Frag} {w : Wd} {vs : List V} {ds : List D} (π : List Nat) (r : RvL K w vs ds) : RvL K w (permL π vs) (permL π ds) := by
  unfold permL
  rw [r.length]
  split
  · exact filt_rel r π
  · exact .nil
theorem perm_vals {vs : List V} {us : List Value} (π : List Nat) (r : Vals vs us) : Vals (permL π vs) (permL π us) := by
  unfold permL
  rw [r.length]
  split
  · exact filt_vals r π
  · exact .nil
/-- how a def without defaults takes keywords: h by «fun ws => match ws with | [_, _], _ => rfl» -/
theorem kb_of {K : PySem.W.Frag} {fd : FuncData} {ps ks : List Str} {π : List Nat} (h0 : ps ≠ []) (h : ∀ ws : List Value, ws.length = π.length → bindArgs fd ⟨[], ks.zip ws⟩ = pure (ps.zip (permL π ws))) : KBinds K fd ps ks (gPos π) (gPos π) where
  to := fun s us ws _ hl => by
    cases us with
    | nil =>
      have hw : ws.length = π.length := by
        have hl' : (permL π ws).length = ps.length := hl
        unfold permL at hl'
        by_cases e : ws.length = π.length
        · exact e
        · rw [if_neg e] at hl'
          exact absurd (List.length_eq_zero_iff.mp hl'.symm) h0
      exact .of_eq (h ws hw)
    | cons u us => exact absurd (List.length_eq_zero_iff.mp (show ps.length = 0 from hl.symm)) h0
  rel := fun r1 r2 => by
    cases r1 with
    | nil => exact perm_vals π r2
    | cons _ _ => exact .nil
section
variable {X : Cx} {CX : CXT} {k : Nat} {f : Addr} {fd : FuncData} {ps ks : List Str} {sp : Sp} {E : XK} {x : Str} {p pos : Pos} {kws : List Keyword} {tk : TA} {g : List Value → List Value → List Value} {gV : List V → List V → List V}
theorem pe_callK0 (F : FnOk X.prog X.w X.K X.mg X.base CX k f fd ps sp) (hr : Room k X.A) (hg : Gl X x) (hm : X.mg x = some (.ref f)) (hk : PySem.W.keepIn X.K (.ref f) = true) (hb : KBinds X.K fd ps ks g gV) (hx : Passes CX X E)
    (hkw : PK X kws tk) (hall : (backToKw pos (keywordEach kws X.env)).all (·.1.isSome) = true := by rfl) (hks : (backToKw pos (keywordEach kws X.env)).filterMap (·.1) = ks := by rfl) (hdb : (x == ("__debug__" : Str)) = false := by decide)
    (hpl : ((backTo pos (starEach [] X.env)).any (·.1) || (backToKw pos (keywordEach kws X.env)).any (·.1.isNone)) = false := by rfl) : PE X (.Call (.Name x p) [] kws pos) (tCallK sp gV E tNil tk) := by
  refine ⟨fun pins s σ H Q I h => wpAny_Call_Name_kw (ld_glob I hg hm ?_ hdb)⟩
  refine PySem.W.callWith_KW0 (h₀ := X.base) I.ok.mod.kin hk hall (thn (hkw.run pos pins s σ H _ I h) fun ws s2 ⟨zs, H2, I2, rz, q2⟩ => ⟨I2.kIn, ?_⟩) hpl
  rw [hks]
  exact run_fnk F hr hb hx I2 .nil rz q2
end
section
variable {X : Cx} {E : EK} {a : Expr} {m : Env → M D} {mk : Env → M (List D)} {kws : List Keyword} {nm : Option Str} {kpos p pos : Pos} {x : Str} {CX : CXT} {k : Nat} {fa : Addr} {fd : FuncData} {ps ks : List Str} {f : List D → M D}
theorem mk_nil : PK X [] (tMa X.K E fun _ => M.pure []) := ⟨fun pos pins s σ H Q I ⟨w, S, ρ, hs, hn, h⟩ => pk_nil.run pos pins s σ H Q I (Fin.ok h hs _ .nil)⟩
theorem mk_cons (ha : PE X a (tM X.K E m)) (hr : PK X kws (tMa X.K E mk)) : PK X (⟨nm, a, kpos⟩ :: kws) (tMa X.K E (aCons m mk)) := ⟨fun pos pins s σ H Q I ⟨w, S, ρ, hs, hn, h⟩ => (pk_cons ha hr).run pos pins s σ H Q I
  ⟨w, S, ρ, hs, hn, h.bind.imp fun w1 S1 H1 x l1 s1 h1 v rv => ⟨w1, S1, ρ, s1, hn.mono l1, h1.bind.imp fun w2 S2 H2 xs l2 s2 h2 vs rvs => Fin.ok h2 s2 _ (.cons (rv.mono l2) rvs)⟩⟩⟩
def calK (n : Nat) (π : List Nat) (f : List D → M D) (m : Env → M (List D)) : Env → M D := fun ρ => M.bind (m ρ) fun xs => if (permL π xs).length = n then f (permL π xs) else bad
theorem me_callK0 {n : Nat} {π : List Nat} (F : FnOk X.prog X.w X.K X.mg X.base CX k fa fd ps (spM X.K n f)) (hr : Room k X.A) (hg : Gl X x) (hm : X.mg x = some (.ref fa)) (hk : PySem.W.keepIn X.K (.ref fa) = true) (hb : KBinds X.K fd ps ks (gPos π) (gPos π)) {E' : XK} (hx : Passes CX X E')
    (hkw : PK X kws (tMa X.K EK0 mk)) (hall : (backToKw pos (keywordEach kws X.env)).all (·.1.isSome) = true := by rfl) (hks : (backToKw pos (keywordEach kws X.env)).filterMap (·.1) = ks := by rfl) (hdb : (x == ("__debug__" : Str)) = false := by decide)
    (hpl : ((backTo pos (starEach [] X.env)).any (·.1) || (backToKw pos (keywordEach kws X.env)).any (·.1.isNone)) = false := by rfl) : PE X (.Call (.Name x p) [] kws pos) (tM X.K EK0 (calK n π f mk)) :=
  pe_imp (pe_callK0 F hr hg hm hk hb hx hkw hall hks hdb hpl) fun σ H Q ⟨w, S, ρ, hs, hn, h⟩ => ⟨w, S, ρ, hs, hn, h.bind.imp fun w1 S1 H1 xs l1 s1 h1 vs rvs => by
    by_cases hl : (permL π xs).length = n
    · rw [if_pos hl] at h1
      exact ⟨by rw [(show RvL X.K w1 (gPos π [] vs) (permL π xs) from perm_rel π rvs).length, hl], w1, S1, permL π xs, s1, perm_rel π rvs, h1⟩
    · rw [if_neg hl] at h1
      exact h1.elim⟩
end
/-! ### a def of the text, with what it promises -/
structure DefAt (K : PySem.W.Frag) (mg : Str → Option Value) (x : Str) (st : Stmt) (ps : List Str) : Prop where
  ex : ∃ (fa : Addr) (fd : FuncData), Fun K x x st fa fd ∧ mg x = some (.ref fa) ∧ Binds K fd ps []
structure OkAt (P : Program) (w : World) (K : PySem.W.Frag) (mg : Str → Option Value) (base : Heap) (k : Nat) (x : Str) (st : Stmt) (ps : List Str) (f : List D → M D) : Prop where
  ex : ∃ (fa : Addr) (fd : FuncData), Fun K x x st fa fd ∧ mg x = some (.ref fa) ∧ Binds K fd ps [] ∧ FnOk P w K mg base CX0 k fa fd ps (spM K ps.length f)
section
variable {P : Program} {w : World} {K : PySem.W.Frag} {mg : Str → Option Value} {base : Heap} {x : Str} {st : Stmt} {ps N : List Str} {k : Nat} {ms : Env → M (Fl × Env)}
theorem OkAt.of {n : Nat} (hn : N.length = n) (D : DefAt K mg x st ps) (sc : FnScope N ps (defScope st)) (hb : ∀ (fa : Addr) (cdv : Value) (A : Around) (outer : List PySem.Env) (s : Shared) (H : Hp) (E : XK), Room k (A.deeper (envOfC x (defScope st) s.heap.objs.size fa cdv)) →
    PSs (cxOf CX0 P w K mg base N x (defScope st) fa cdv A outer s H E).nox (defBody st) (tMs K EK0 ms)) : OkAt P w K mg base (k + 1) x st ps (runM n ms) := by
  subst hn
  obtain ⟨fa, fd, F, hm, b⟩ := D.ex
  exact ⟨fa, fd, F, hm, b, F.ok sc (spM_len rfl) fun cdv A outer s H vs Q E hr h => ⟨_, hb fa cdv A outer s H E hr, body_go h⟩⟩
end
section
variable {X : Cx} {a : Expr} {es : List Expr} {mas mk : Env → M (List D)} {x : Str} {p pos : Pos} {k : Nat} {st : Stmt} {ps ks : List Str} {f : List D → M D} {π : List Nat} {kws : List Keyword} {E : EK}
theorem me_callO {n : Nat} (O : OkAt X.prog X.w X.K X.mg X.base k x st ps f) (hr : Room k X.A) (hg : Gl X x) (hn : ps.length = n) (ha : PA X (a :: es) (tMa X.K EK0 mas)) (hdb : (x == ("__debug__" : Str)) = false := by decide)
    (he : starEach (a :: es) X.env = (false, eval a X.env) :: starEach es X.env := by rfl) (hpl : (backTo pos (starEach es X.env)).any (·.1) = false := by rfl) : PE X (.Call (.Name x p) (a :: es) [] pos) (tM X.K EK0 (calF n f mas)) := by
  subst hn
  obtain ⟨fa, fd, F, hm, b, ok⟩ := O.ex
  exact me_call ok hr hg hm F.kp b (pass0) ha hdb he hpl
theorem me_callKO {n : Nat} (O : OkAt X.prog X.w X.K X.mg X.base k x st ps f) (hr : Room k X.A) (hg : Gl X x) (hn : ps.length = n) (h0 : ps ≠ []) (hkb : ∀ (kV doc pm : Value) (an : Option Addr) (cdv ct : Value) (ws : List Value), ws.length = π.length →
      bindArgs (PySem.W.fnOf x x (defArgs st) (defBody st) (defScope st) .none kV doc pm an cdv ct) ⟨[], ks.zip ws⟩ = pure (ps.zip (permL π ws)))
    (hkw : PK X kws (tMa X.K EK0 mk)) (hall : (backToKw pos (keywordEach kws X.env)).all (·.1.isSome) = true := by rfl) (hks : (backToKw pos (keywordEach kws X.env)).filterMap (·.1) = ks := by rfl) (hdb : (x == ("__debug__" : Str)) = false := by decide)
    (hpl : ((backTo pos (starEach [] X.env)).any (·.1) || (backToKw pos (keywordEach kws X.env)).any (·.1.isNone)) = false := by rfl) : PE X (.Call (.Name x p) [] kws pos) (tM X.K EK0 (calK n π f mk)) := by
  subst hn
  obtain ⟨fa, fd, F, hm, b, ok⟩ := O.ex
  obtain ⟨oc, od, kV, doc, pm, an, cdv, ct, osl, rfl, lk, hcd⟩ := F.ex
  exact me_callK0 ok hr hg hm F.kp (kb_of h0 (hkb kV doc pm an cdv ct)) pass0 hkw hall hks hdb hpl
theorem me_gint {i : Int} (hg : Gl X x) (h : ∃ t, X.mg x = some (.int i t)) (hd : (x == ("__debug__" : Str)) = false := by decide) : PE X (.Name x pos) (tM X.K E fun _ => M.pure (.int i)) := by
  obtain ⟨t, h⟩ := h
  exact me_cst (v := .int i) (pe_glob hg h ⟨t, rfl⟩ hd) fun _ => .int i
theorem me_gstr {i : Str} (hg : Gl X x) (h : ∃ t, X.mg x = some (.str i t)) (hd : (x == ("__debug__" : Str)) = false := by decide) : PE X (.Name x pos) (tM X.K E fun _ => M.pure (.str i)) := by
  obtain ⟨t, h⟩ := h
  exact me_cst (v := .str i) (pe_glob hg h ⟨t, rfl⟩ hd) fun _ => .str i
theorem me_dict0 : PE X (.Dict [] [] pos) (tM X.K E fun _ => M.pure (.dct [])) := pe_imp pe_dnewK fun σ H Q ⟨w, S, ρ, hs, hn, h⟩ p hp => h _ _ (hs.le_lay hp) (hs.lay (o := .dK []) hp) _ (.dct (by show upd w.G p _ p = _; rw [upd_same]) .nil)
theorem me_dict1 {k : Str} {i : Int} {jk jv : Nat} {pk pv : Pos} : PE X (.Dict [some (.Constant (.str k) jk pk)] [.Constant (.int i) jv pv] pos) (tM X.K E fun _ => M.pure (.dct [(.str k, .int i)])) :=
  pe_imp (pe_disp (pps_cons pe_str pe_int pps_nil) (by rfl) (by rfl) (fun z => by cases z) (by show 1 ≤ 15; decide)) fun σ H Q ⟨w, S, ρ, hs, hn, h⟩ p hp => by
    show upd H p (.dK []) p = _ ∧ _
    refine ⟨upd_same, [(Sum.inr k, .int i)], rfl, (by show 1 ≤ 15; decide), ?_⟩
    rw [upd_upd]
    exact h _ _ (hs.le_lay hp) (hs.lay (o := .dK [(Sum.inr k, .int i)]) hp) _ (.dct (by show upd w.G p _ p = _; rw [upd_same]) (.cons (k := Sum.inr k) (.int i) .nil))
end
end Mi
namespace Mi
open PySem PySem.Spec PyProof.Rows L2 HT
/-! ### t[::-1] of a tuple -/
theorem fm_congr {α β : Type} {f g : α → Option β} : ∀ {l : List α}, (∀ a ∈ l, f a = g a) → l.filterMap f = l.filterMap g
  | [], _ => rfl
  | a :: l, h => by
    have ih := fm_congr (l := l) (fun b hb => h b (List.mem_cons_of_mem a hb))
    simp only [List.filterMap_cons, h a (by simp), ih]
theorem pick_rev (xs : Array Value) : ((List.range xs.size).filterMap fun (m : Nat) => xs[(((xs.size : Int) - 1) + (m : Int) * (-1)).toNat]?).toArray = xs.toList.reverse.toArray := by
  have at' : ∀ m ∈ List.range xs.size, xs[(((xs.size : Int) - 1) + (m : Int) * (-1)).toNat]? = some (xs.toList.reverse.getD m .none) := fun m hm => by
    have hm := List.mem_range.1 hm
    rw [show (((xs.size : Int) - 1) + (m : Int) * (-1)).toNat = xs.size - 1 - m by omega]
    simp [List.getD, List.getElem?_reverse, hm, show xs.size - 1 - m < xs.size by omega]
  rw [fm_congr at', List.filterMap_eq_map']
  refine congrArg _ (List.ext_getElem? fun i => ?_)
  by_cases hi : i < xs.size <;> simp [hi, List.getD]
section
variable {M : Program} {W : World} {O : Around} {Z : Value → Shared → Prop} {c : Shared} {t z : Addr} {its : Array Value} {st : Value}
/-- the bounds of [::-1] over n items: from the last one down, n of them -/
theorem bounds_rev (n : Nat) : (Builtin.Slice.sliceAdjust none none (-1) (n : Int) = ((n : Int) - 1, -1)) ∧ Builtin.Slice.slicePlaces ((n : Int) - 1) (-1) (-1) = n := by
  constructor
  · simp [Builtin.Slice.sliceAdjust]
  · simp [Builtin.Slice.slicePlaces]; omega
theorem applied_rev {n : Nat} {R : Int × Int × Nat → Shared → Prop} (hz : c.heap.IsSliceOf z .none .none st) (hst : IsPart st (some (-1))) (k : R ((n : Int) - 1, -1, n) c) :
    wpAny (model M W) O (Builtin.Slice.sliceApplied (.ref z) (pure (n : Int))) R Z c := by
  rcases hz with ⟨ob, g, _, dat⟩
  have last : wpAny (model M W) O (match Builtin.Slice.sliceAdjust none none (-1) (n : Int) with | (lo, hi) => pure (lo, (-1 : Int), Builtin.Slice.slicePlaces lo hi (-1))) R Z c := by
    rw [(bounds_rev n).1]
    exact wpAny_pure (by simpa only [(bounds_rev n).2] using k)
  rw [Builtin.Slice.sliceApplied, Builtin.Slice.sliceFields]
  exact wpAny_bind (wpAny_bind (wpAny_field g dat (x := .none) rfl (wpAny_bind (wpAny_field g dat (x := .none) rfl (wpAny_bind (wpAny_field g dat (x := st) rfl (wpAny_pure
    (wpAny_bind (slicePart_ hst (by
      show wpAny _ _ (if ((-1 : Int) == 0) = true then _ else _) _ _ c
      exact (if_neg (show ¬ ((-1 : Int) == 0) = true by decide)) ▸ wpAny_bind (slicePart_none (wpAny_bind (slicePart_none (wpAny_bind (wpAny_pure last)))))))))))))))
theorem item_rev {R : Value → Shared → Prop} (T : IsTup c.heap t its) (hz : c.heap.IsSliceOf z .none .none st) (hst : IsPart st (some (-1))) (big : its.size ≤ sizeLine)
    (k : R (.ref c.heap.objs.size) { c with heap := c.heap.push { cls := .type "tuple", data := .seq its.toList.reverse.toArray } }) : wpAny (model M W) O (getItem (.ref t) (.ref z)) R Z c := by
  have ok : sizeOk (.seq its.toList.reverse.toArray) := (show its.toList.reverse.toArray.size ≤ sizeLine by simpa using big)
  have isS : c.TypeIs (.ref z) "slice" := by rcases hz with ⟨ob, g, cl, _⟩; exact ⟨ob, g, cl⟩
  have whole : ((((its.size : Nat) : Int) - 1) == 0 && (-1 : Int) == 1 && its.size == its.size) = false := by simp
  have new : wpAny (model M W) O (Builtin.Tuple.tupleExact its.toList.reverse.toArray) (fun v s' => R v s') Z c := wpAny_newObj_type k ok
  unfold getItem
  with_reducible refine wpAny_holding ?_
  refine wpAny_bind (wpAny_sequenceKey T.typeIs (by decide) (wpAny_bind (wpAny_callSpecial?_slot (name := Str.ofString "__getitem__") T.typeIs PyProof.Rows.slot_tuple_getitem (wpAny_call_entry PyProof.Rows.slot_tuple_getitem T.typeIs entry_tuple_getitem ?_ (args_tuple_getitem _ _)))))
  refine wpAny_bind (m := Builtin.Tuple.tupleItemsOf (.ref t)) (tupleItemsOf_ T (wpAny_bind (wpAny_typeOf isS ?_)))
  rw [if_pos (by decide)]
  refine wpAny_bind (applied_rev hz hst ?_)
  show wpAny _ _ (if (((its.size : Nat) : Int) - 1 == 0 && (-1 : Int) == 1 && its.size == its.size) = true then _ else _) _ _ c
  rw [whole, if_neg Bool.false_ne_true, pick_rev]
  exact wpAny_bind (m := Builtin.Tuple.tupleExact _) (wpAny_newObj_type (wpAny_pure ⟨.ref _, rfl, wpAny_pure k⟩) ok)
end
/-- what x[::-1] asks and gives, of a list and of a tuple -/
def tRevT (K : PySem.W.Frag) (te : TE) : TE := fun σ H Q => te σ H fun x H1 => ∃ a xs, x = .ref a ∧ SqT K H1 a xs ∧ ∀ p, H1 p = none → Q (.ref p) (upd H1 p (.tup xs.reverse))
section
variable {X : Cx} {e : Expr} {te : TE} {k : Nat} {pa pb pc pos : Pos}
theorem pe_revT (he : PE X e te) : PE X (.Subscript e (.Slice none none (some (.UnaryOp .USub (.Constant (.int 1) k pa) pb)) pc) pos) (tRevT X.K te) := ⟨fun pins s σ H Q I h => by
  have no : ∀ {s' : Shared} {H' : Hp}, Inv X pins σ H' s' → _ := fun {s' H'} I' => po_none.run pins s' σ H' (fun o G => o = none ∧ G = H') I' ⟨rfl, rfl⟩
  have neg : PO X (some (.UnaryOp .USub (.Constant (.int 1) k pa) pb)) _ := po_some (pe_un un_neg pe_int)
  refine Subscript_ (thn (he.run pins s σ H _ I h) fun v c1 ⟨x, H1, I1, rx, a, xs, ex, hx, q⟩ => wpAny_Slice (thn (no I1) fun v1 c2 ⟨_, _, I2, p1, e1, e2⟩ => ?_))
  subst e1 e2 ex
  refine thn (no I2) fun v2 c3 ⟨_, _, I3, p2, e1, e2⟩ => ?_
  subst e1 e2
  refine thn (neg.run pins c3 σ _ (fun o G => o = some (-1) ∧ G = _) I3 ⟨1, rfl, -1, rfl, rfl, rfl⟩) fun v3 c4 ⟨_, _, I4, p3, e1, e2⟩ => ?_
  subst e1 e2
  cases rx
  cases p1
  cases p2
  have I5 := I4.kept (h' := c4.heap.push { cls := .type "slice", data := .fields #[.none, .none, v3] }) (t' := c4.toks) fun b ob g => Heap.get?_push_of_some _ g
  obtain ⟨vs, rv, tup, big⟩ := I5.tuple hx
  refine tail_any (ops := [.ref a, .ref c4.heap.objs.size]) tup.typeIs PyProof.Rows.slot_tuple_getitem.lookup (item_rev tup (Heap.IsSliceOf.new c4.heap .none .none v3) p3 (by rw [List.size_toArray, ← rv.length]; exact big) ?_) (by with_unfolding_all rfl)
  refine ⟨.ref _, _, I5.laid (t' := c4.toks) (o := .tup xs.reverse) (fun b ob g => Heap.get?_push_of_some _ g) (Nat.le_refl _) ⟨by simpa using big, vs.reverse, rv.reverse, _, Heap.get?_push_size _ rfl, rfl, _, rfl⟩, rfl, q _ (I5.hok.fresh (Nat.le_refl _))⟩⟩
end
end Mi
namespace Mi
open PySem PySem.Spec PyProof.Rows L2
section
variable {X : Cx} {E : EK} {e : Expr} {m : Env → M D} {pos p2 : Pos}
/-! ### x[::-1], of lists and of tuples -/
def revU (x : D) : M D := fun S => match x with
  | .tup ds => some (.ok (.tup ds.reverse), S)
  | x => match asR S x with
    | some ds => some (.ok (.lst ds.reverse), S)
    | none => none
theorem pe_or {e : Expr} {t u : TE} (a : PE X e t) (b : PE X e u) : PE X e fun σ H Q => t σ H Q ∨ u σ H Q := ⟨fun pins s σ H Q I h => h.elim (a.run pins s σ H Q I) (b.run pins s σ H Q I)⟩
theorem tM_cases {σ : L2.St} {H : Hp} {w : Wd} {S : Sto} {ρ : Env} {P : Wd → Sto → Hp → D → Prop} (hs : Rs X.K w S H) (hn : Rn X.K w σ ρ) (h : Fin X.K E w (m ρ S) P) {R R2 : V → Hp → Prop}
    (p : D → Bool) (k1 : ∀ w1 S1 H1 d v, p d = true → Le w w1 → Rs X.K w1 S1 H1 → P w1 S1 H1 d → Rv X.K w1 v d → R v H1) (k2 : ∀ w1 S1 H1 d v, p d = false → Le w w1 → Rs X.K w1 S1 H1 → P w1 S1 H1 d → Rv X.K w1 v d → R2 v H1) :
    tM X.K E m σ H R ∨ tM X.K E m σ H R2 := by
  rcases hm : m ρ S with _ | ⟨x | d, S1⟩
  · exact .inl (tM_at hs hn h fun _ _ _ _ _ e => by rw [hm] at e; cases e)
  · exact .inl (tM_at hs hn h fun _ _ _ _ _ e => by rw [hm] at e; cases e)
  · rcases hp : p d with _ | _
    · exact .inr (tM_at hs hn h fun w1 S2 H1 d' v e l1 s1 q rv => by rw [hm] at e; cases e; exact k2 _ _ _ _ _ hp l1 s1 q rv)
    · exact .inl (tM_at hs hn h fun w1 S2 H1 d' v e l1 s1 q rv => by rw [hm] at e; cases e; exact k1 _ _ _ _ _ hp l1 s1 q rv)
def isTup : D → Bool
  | .tup _ => true
  | _ => false
theorem me_revU {k : Nat} {p1 p3 : Pos} (he : PE X e (tM X.K E m)) : PE X (.Subscript e (.Slice none none (some (.UnaryOp .USub (.Constant (.int 1) k p1) p2)) p3) pos) (tM X.K E (b1 revU m)) :=
  pe_imp (pe_or (pe_revT he) (pe_revL he)) fun σ H Q ⟨w, S, ρ, hs, hn, h⟩ => tM_cases hs hn h.bind isTup
    (fun w1 S1 H1 x v hp l1 s1 q rv => by
      cases x with
      | tup ds =>
        obtain ⟨a, xs, rfl, hq, rx⟩ := tup_go s1 rv
        have q : Fin X.K E w1 (some (.ok (D.tup ds.reverse), S1)) _ := q
        exact ⟨a, xs, rfl, hq, fun p hp => q _ _ (s1.le_lay hp) (s1.lay (o := .tup xs.reverse) hp) _ (.tup (.of (by show upd w1.G p _ p = _; rw [upd_same])) (rx.reverse.mono (s1.le_lay hp)))⟩
      | _ => cases hp)
    (fun w1 S1 H1 x v hp l1 s1 q rv => by
      have q : Fin X.K E w1 (match asR S1 x with
        | some ds => some (.ok (D.lst ds.reverse), S1)
        | none => none) (fun w' _ H' d => ∀ z, Rv X.K w' z d → Q z H') := by cases x <;> first | exact q | cases hp
      rcases h1 : asR S1 x with _ | ds
      · simp only [h1] at q; exact q.elim
      · simp only [h1] at q
        obtain ⟨a, xs, rfl, hq, rx⟩ := asR_go s1 rv h1
        exact ⟨a, xs, rfl, hq, fun p hp => q _ _ (s1.le_lay hp) (s1.lay (o := .lst xs.reverse) hp) _ (.lst (by show upd w1.G p _ p = _; rw [upd_same]) (rx.reverse.mono (s1.le_lay hp)))⟩)
/-! ### str(x) of flat things -/
def strM : D → M D
  | .int i => if i.natAbs.log2 < 1920 then M.pure (.str (Str.ofString (toString i))) else bad
  | .str x => M.pure (.str x)
  | .bl b => M.pure (.str (if b = true then "True" else "False"))
  | .non => M.pure (.str "None")
  | _ => bad
def rStrU : List V → Hp → VK → Prop := fun xs H Q => (∃ i : Int, xs = [.int i] ∧ i.natAbs.log2 < 1920 ∧ Q (.str (Str.ofString (toString i))) H) ∨ (∃ x, xs = [.str x] ∧ Q (.str x) H) ∨ (∃ b, xs = [.bl b] ∧ Q (.str (if b = true then "True" else "False")) H) ∨ (xs = [.non] ∧ Q (.str "None") H)
theorem call_strU : CallR X (.type "str") rStrU := by
  intro pins s σ H xs us Q I r h
  rcases h with ⟨i, rfl, hz, q⟩ | ⟨x, rfl, q⟩ | ⟨b, rfl, q⟩ | ⟨rfl, q⟩
  · obtain ⟨u, rfl, t, rfl⟩ := vals1 r
    exact PySem.P.str_of_int hz ⟨.str _, H, I.tok _, ⟨_, rfl⟩, q⟩
  · obtain ⟨u, rfl, t, rfl⟩ := vals1 r
    exact PySem.P.str_of_str ⟨.str _, H, I, ⟨_, rfl⟩, q⟩
  · obtain ⟨u, rfl, r1⟩ := vals1 r
    cases r1
    exact PySem.P.str_of_bool ⟨.str _, H, I.tok _, ⟨_, rfl⟩, q⟩
  · obtain ⟨u, rfl, r1⟩ := vals1 r
    cases r1
    exact PySem.P.str_of_none ⟨.str _, H, I.tok _, ⟨_, rfl⟩, q⟩
theorem strM_ok {K : PySem.W.Frag} : CaM K rStrU (on1 strM) := on1_ok fun E w S H v x Q hs rv h => by
  cases x with
  | int i =>
    cases rv
    by_cases hl : i.natAbs.log2 < 1920
    · have h : Fin K E w ((if i.natAbs.log2 < 1920 then M.pure (D.str (Str.ofString (toString i))) else bad) S) _ := h
      rw [if_pos hl] at h
      exact .inl ⟨i, rfl, hl, Fin.ok h hs _ (.str _)⟩
    · have h : Fin K E w ((if i.natAbs.log2 < 1920 then M.pure (D.str (Str.ofString (toString i))) else bad) S) _ := h
      rw [if_neg hl] at h
      exact h.elim
  | str z => cases rv; exact .inr (.inl ⟨z, rfl, Fin.ok h hs _ (.str _)⟩)
  | bl b => cases rv; exact .inr (.inr (.inl ⟨b, rfl, Fin.ok h hs _ (.str _)⟩))
  | non => cases rv; exact .inr (.inr (.inr ⟨rfl, Fin.ok h hs _ (.str _)⟩))
  | _ => exact h.elim
/-! ### methods without arguments -/
def mth0 (c : D → M Unit) (f : D → M D) (m : Env → M D) : Env → M D := fun ρ => M.bind (m ρ) fun o => M.bind (c o) fun _ => f o
def MeM0 (K : PySem.W.Frag) (r : V → List V → Hp → VK → Prop) (f : D → M D) : Prop := ∀ (E : EK) (w : Wd) (S : Sto) (H : Hp) (v : V) (x : D) (Q : VK), Rs K w S H → Rv K w v x →
  Fin K E w (f x S) (fun w' _ H' d => ∀ z, Rv K w' z d → Q z H') → r v [] H Q
theorem mth0_go {T : String} {c : D → M Unit} {r : V → List V → Hp → VK → Prop} {f : D → M D} (hc : ChkM X.K T c) (hf : MeM0 X.K r f) {σ : L2.St} {H : Hp} {Q : VK} (h : tM X.K E (mth0 c f m) σ H Q) : tBM0 X.K T r (tM X.K E m) σ H Q := by
  obtain ⟨w, S, ρ, hs, hn, h⟩ := h
  refine ⟨w, S, ρ, hs, hn, h.bind.imp fun w1 S1 H1 x l1 s1 q v rv => ?_⟩
  obtain ⟨ty, q⟩ := hc E w1 S1 H1 v x _ s1 rv q.bind
  exact ⟨ty, hf E w1 S1 H1 v x Q s1 rv q⟩
def upperM : D → M D
  | .str x => if x.length ≤ 100000 then M.pure (.str (Txt.upper x)) else bad
  | _ => bad
theorem upperM_ok {K : PySem.W.Frag} : MeM0 K (fun x xs H Q => ∃ a, x = .str a ∧ xs = [] ∧ a.length ≤ 5592405 ∧ Q (.str (Txt.upper a)) H) upperM := fun E w S H v x Q hs rv h => by
  cases x with
  | str z =>
    cases rv
    by_cases hl : z.length ≤ 100000
    · have h : Fin K E w ((if z.length ≤ 100000 then M.pure (D.str (Txt.upper z)) else bad) S) _ := h
      rw [if_pos hl] at h
      exact ⟨z, rfl, rfl, by omega, Fin.ok h hs _ (.str _)⟩
    · have h : Fin K E w ((if z.length ≤ 100000 then M.pure (D.str (Txt.upper z)) else bad) S) _ := h
      rw [if_neg hl] at h
      exact h.elim
  | _ => exact h.elim
/-! ### s.split(t) -/
def splitM (o : D) (xs : List D) : M D := fun S => match o, xs with
  | .str a, [.str b] => if b.length ≠ 0 ∧ a.length ≤ 90000 then some (.ok (.lst ((Txt.split a b).map D.str)), S) else none
  | _, _ => none
theorem strs_up {K : PySem.W.Frag} {w : Wd} : ∀ ys : List Str, RvL K w (ys.map V.str) (ys.map D.str)
  | [] => .nil
  | y :: ys => .cons (.str y) (strs_up ys)
theorem splitM_ok {K : PySem.W.Frag} : MeM K (fun x xs H Q => ∃ a b, x = .str a ∧ xs = [.str b] ∧ (b.length == 0) = false ∧ a.length + 2 ≤ sizeLine ∧ rNewStrs (Txt.split a b) H Q) splitM := fun E w S H v vs x xs Q hs rv rvs h => by
  cases x with
  | str a =>
    rcases xs with _ | ⟨d, _ | ⟨d2, r⟩⟩
    · exact h.elim
    · cases d with
      | str b =>
        obtain ⟨u, rfl, ru⟩ := args1 rvs
        cases rv
        cases ru
        have h : Fin K E w (if b.length ≠ 0 ∧ a.length ≤ 90000 then some (.ok (D.lst ((Txt.split a b).map D.str)), S) else none) _ := h
        by_cases hl : b.length ≠ 0 ∧ a.length ≤ 90000
        · rw [if_pos hl] at h
          exact ⟨a, b, rfl, rfl, by simpa using hl.1, sz_of (by omega), fun p hp => h _ _ (hs.le_lay hp) (hs.lay (o := .lst _) hp) _ (.lst (by show upd w.G p _ p = _; rw [upd_same]) (strs_up _))⟩
        · rw [if_neg hl] at h
          exact h.elim
      | _ => exact h.elim
    · cases d <;> exact h.elim
  | _ => exact h.elim
/-! ### for a, b in zip(x, y) -/
def pairD (x y : D) : D := .tup [x, y]
def frzL : D → Option (List D)
  | .lst ds => some ds
  | .lsr ds => some ds
  | _ => none
def zipOf : List D → M (List D)
  | [.tup a, .tup b] => M.pure (List.zipWith pairD a b)
  | [x, y] => match frzL x, frzL y with
    | some a, some b => M.pure (List.zipWith pairD a b)
    | _, _ => bad
  | _ => bad
theorem frz_go {K : PySem.W.Frag} {w : Wd} {v : V} {d : D} {ds : List D} (rv : Rv K w v d) (h : frzL d = some ds) : ∃ a xs, v = .ref a ∧ RvL K w xs ds ∧ ∀ w2 S2 H2, Le w w2 → Rs K w2 S2 H2 → SqL K H2 a xs := by
  cases rv with
  | lst hG r => cases h; exact ⟨_, _, rfl, r, fun w2 S2 H2 l s => sqL_up (.of hG) l s⟩
  | lsr hG r => cases h; exact ⟨_, _, rfl, r, fun w2 S2 H2 l s => sqL_up hG l s⟩
  | _ => cases h
theorem tupG_go {K : PySem.W.Frag} {w : Wd} {v : V} {ds : List D} (rv : Rv K w v (.tup ds)) : ∃ a xs, v = .ref a ∧ RvL K w xs ds ∧ ∀ w2 S2 H2, Le w w2 → Rs K w2 S2 H2 → SqT K H2 a xs := by
  cases rv with
  | tup hG r => exact ⟨_, _, rfl, r, fun w2 S2 H2 l s => sqT_up hG l s⟩
theorem walk_zipT {K : PySem.W.Frag} {a b : Addr} {xs ys : List V} {n : Nat} (hn : n = min xs.length ys.length) : Walk (RZ.ItzT K a b) n (fun H => SqT K H a xs ∧ SqT K H b ys) (YPair (fun i => xs[i]?) (fun i => ys[i]?)) where
  goes i H hi q := ⟨xs, ys, xs[i]'(by omega), ys[i]'(by omega), q.1, q.2, List.getElem?_eq_getElem _, List.getElem?_eq_getElem _⟩
  stops H q := ⟨xs, ys, q.1, q.2, by omega⟩
  yields i H v H' _ q := fun ⟨T, x, z, e1, e2, e3, ex, ey⟩ => ⟨T, x, z, e1, e2, e3, ex _ q.1, ey _ q.2⟩
theorem ym_pair {K : PySem.W.Frag} {w : Wd} {xs ys : List V} {ds es : List D} (r : RvL K w xs ds) (r2 : RvL K w ys es) : YM K w (List.zipWith pairD ds es) (YPair (fun i => xs[i]?) (fun i => ys[i]?)) := fun i H x H' w2 S2 l2 s2 hi y => by
  obtain ⟨T, u, v, rfl, hT, rfl, e1, e2⟩ := y
  obtain ⟨d1, hd1, rd1⟩ := (r.mono l2).getV e1
  obtain ⟨d2, hd2, rd2⟩ := (r2.mono l2).getV e2
  refine ⟨w2.lay T (.tup [u, v]), pairD d1 d2, s2.le_lay hT, s2.lay hT, by simp [List.getElem?_zipWith, hd1, hd2], .tup (.of (by show upd w2.G T _ T = _; rw [upd_same])) ((RvL.cons rd1 (.cons rd2 .nil)).mono (s2.le_lay hT)), fun p o hp => ?_⟩
  have hne : p ≠ T := by rintro rfl; rw [hT] at hp; cases hp
  refine ⟨by rw [upd_ne hne]; exact hp, fun ho => ⟨?_, ho.f, ho.a⟩⟩
  show upd w2.G T _ p = none
  rw [upd_ne hne]
  exact ho.g
variable {e2 : Expr} {ma : Env → M (List D)} {elts : List Expr} {kk : Nat} {tpos p : Pos}
theorem zip_go {K : PySem.W.Frag} {w1 : Wd} {S1 : Sto} {H1 : Hp} {vs : List V} {xs : List D} {R : It → Hp → Prop} (s1 : Rs K w1 S1 H1) (rv : RvL K w1 vs xs)
    (q : Fin K E w1 (zipOf xs S1) fun w' _ H' ds => ∀ J G Y, Walk J ds.length G Y → (∀ w2 S2 H2, Le w' w2 → Rs K w2 S2 H2 → G H2) → YM K w' ds Y → R J H') :
    ∃ a b xs ys, vs = [V.ref a, V.ref b] ∧ (SqL K H1 a xs ∧ SqL K H1 b ys ∧ R (Itz K a b) H1 ∨ SqT K H1 a xs ∧ SqT K H1 b ys ∧ R (RZ.ItzT K a b) H1) := by
  rcases xs with _ | ⟨x, _ | ⟨y, _ | ⟨z, t⟩⟩⟩
  · exact q.elim
  · cases x <;> exact q.elim
  · cases rv with
    | cons r1 rr =>
      cases rr with
      | cons r2 rr =>
        cases rr
        by_cases hT : ∃ a b, x = .tup a ∧ y = .tup b
        · obtain ⟨a, b, rfl, rfl⟩ := hT
          obtain ⟨pa, xs, rfl, rx, gx⟩ := tupG_go r1
          obtain ⟨pb, ys, rfl, ry, gy⟩ := tupG_go r2
          have q := Fin.ok (a := List.zipWith pairD a b) q s1
          exact ⟨pa, pb, xs, ys, rfl, .inr ⟨gx _ _ _ (Le.refl _) s1, gy _ _ _ (Le.refl _) s1, q _ (fun H => SqT K H pa xs ∧ SqT K H pb ys) (YPair (fun i => xs[i]?) (fun i => ys[i]?)) (by rw [List.length_zipWith, ← rx.length, ← ry.length]; exact walk_zipT rfl) (fun w2 S2 H2 l s => ⟨gx _ _ _ l s, gy _ _ _ l s⟩) (ym_pair rx ry)⟩⟩
        · have q : Fin K E w1 ((match frzL x, frzL y with
            | some a, some b => M.pure (List.zipWith pairD a b)
            | _, _ => bad) S1) fun w' _ H' ds => ∀ J G Y, Walk J ds.length G Y → (∀ w2 S2 H2, Le w' w2 → Rs K w2 S2 H2 → G H2) → YM K w' ds Y → R J H' := by
            cases x <;> cases y <;> first | exact q | exact absurd ⟨_, _, rfl, rfl⟩ hT
          rcases ea : frzL x with _ | a
          · rw [ea] at q; exact q.elim
          · rcases eb : frzL y with _ | b
            · rw [ea, eb] at q; exact q.elim
            · rw [ea, eb] at q
              obtain ⟨pa, xs, rfl, rx, gx⟩ := frz_go r1 ea
              obtain ⟨pb, ys, rfl, ry, gy⟩ := frz_go r2 eb
              have q := Fin.ok (a := List.zipWith pairD a b) q s1
              exact ⟨pa, pb, xs, ys, rfl, .inl ⟨gx _ _ _ (Le.refl _) s1, gy _ _ _ (Le.refl _) s1, q _ (fun H => SqL K H pa xs ∧ SqL K H pb ys) (YPair (fun i => xs[i]?) (fun i => ys[i]?)) (by rw [List.length_zipWith, ← rx.length, ← ry.length]; exact walk_zip rfl) (fun w2 S2 H2 l s => ⟨gx _ _ _ l s, gy _ _ _ l s⟩) (ym_pair rx ry)⟩⟩
  · cases x <;> cases y <;> exact q.elim
def iZip (m : Env → M (List D)) : Env → M (List D) := fun ρ => M.bind (m ρ) zipOf
theorem mi_zip (hg : Gl X "zip") (hm : X.mg "zip" = none) (ha : PA X [e, e2] (tMa X.K E ma)) (h1 : starEach [e, e2] X.env = (false, eval e X.env) :: starEach [e2] X.env := by rfl) (h2 : (backTo pos (starEach [e2] X.env)).any (·.1) = false := by rfl) :
    PI X (.Tuple elts kk tpos) (.Call (.Name "zip" p) [e, e2] [] pos) (tMi X.K E (iZip ma)) :=
  pi_imp (RZ.pi_zipA hg hm ha h1 h2) fun σ H R ⟨w, S, ρ, hs, hn, h⟩ => ⟨w, S, ρ, hs, hn, h.bind.imp fun w1 S1 H1 xs l1 s1 q vs rv => zip_go s1 rv q⟩
/-! ### two names as a target -/
def gTwo (i j : Nat) : D → Env → M Env := fun d ρ => match d with
  | .tup [x, y] => M.pure ((ρ.set i (some x)).set j (some y))
  | _ => bad
theorem gTwo_go {K : PySem.W.Frag} {w : Wd} {S : Sto} {H : Hp} {v : V} {d : D} {σ : L2.St} {ρ : Env} {i j : Nat} {P : Wd → Sto → Hp → Env → Prop} {Q : L2.St → Hp → Prop} (hs : Rs K w S H) (hn : Rn K w σ ρ) (rv : Rv K w v d)
    (h : Fin K E w (gTwo i j d ρ S) P) (k : ∀ x y, P w S H ((ρ.set i (some x)).set j (some y)) → ∀ a b, Rv K w a x → Rv K w b y → Q ((σ.set i (some a)).set j (some b)) H) : gTup K 2 (gCons (gName i) (gCons (gName j) gNil)) v σ H Q := by
  cases d with
  | tup ds =>
    rcases ds with _ | ⟨x, _ | ⟨y, _ | ⟨z, t⟩⟩⟩
    · exact h.elim
    · exact h.elim
    · obtain ⟨a, xs, rfl, hq, rx⟩ := tup_go hs rv
      cases rx with
      | cons r1 rr =>
        cases rr with
        | cons r2 rr =>
          cases rr
          exact ⟨a, _, rfl, hq, rfl, _, _, rfl, _, _, rfl, rfl, k x y (Fin.ok h hs) _ _ r1 r2⟩
    · exact h.elim
  | _ => exact h.elim
theorem gw_two {K : PySem.W.Frag} {vs : List Nat} {i j : Nat} (hi : i ∈ vs) (hj : j ∈ vs) : GW K vs (gTwo i j) (gTup K 2 (gCons (gName i) (gCons (gName j) gNil))) := fun w S ρ H v d σ Q hs hn rv q =>
  gTwo_go hs hn rv q fun x y p a b ra rb => p _ ((hn.set ra).set rb) (by rw [wipe_set hj, wipe_set hi])
theorem mg_two {es : List Expr} {i j : Nat} (h : PG X (.Tuple es kk tpos) (gTup X.K 2 (gCons (gName i) (gCons (gName j) gNil)))) : PG X (.Tuple es kk tpos) (gM X.K E (gTwo i j)) := ⟨fun pins s σ H v u Q I ru ⟨w, S, ρ, d, hs, hn, rv, q⟩ => h.run pins s σ H v u Q I ru (gTwo_go hs hn rv q fun x y p a b ra rb => p _ ((hn.set ra).set rb))⟩
end
end Mi
namespace Mi
open PySem PySem.Spec PyProof.Rows L2
/-! ### bools among ints, at either place -/
def rBI (g : Bool → Int → Int) : R2 := fun x y H Q => ∃ b i, x = .bl b ∧ y = .int i ∧ Q (.int (g b i)) H
def rIB (g : Int → Bool → Int) : R2 := fun x y H Q => ∃ i b, x = .int i ∧ y = .bl b ∧ Q (.int (g i b)) H
section
variable {X : Cx} {K : PySem.W.Frag}
theorem op_addBI : OpR X (binaryOp .Add) (rBI fun b i => (if b = true then 1 else 0) + i) := fun pins s σ H x y v u Q I rx ry ⟨b, i, e1, e2, q⟩ => by
  subst e1 e2
  cases rx
  obtain ⟨t, rfl⟩ := ry
  exact PySem.IntBool.add_bool_int ⟨.int _, H, I.tok _, ⟨_, rfl⟩, q⟩
theorem op_subBI : OpR X (binaryOp .Sub) (rBI fun b i => (if b = true then 1 else 0) - i) := fun pins s σ H x y v u Q I rx ry ⟨b, i, e1, e2, q⟩ => by
  subst e1 e2
  cases rx
  obtain ⟨t, rfl⟩ := ry
  exact PySem.IntBool.sub_bool_int ⟨.int _, H, I.tok _, ⟨_, rfl⟩, q⟩
theorem op_subIB : OpR X (binaryOp .Sub) (rIB fun i b => i - (if b = true then 1 else 0)) := fun pins s σ H x y v u Q I rx ry ⟨i, b, e1, e2, q⟩ => by
  subst e1 e2
  cases ry
  obtain ⟨t, rfl⟩ := rx
  exact PySem.IntBool.sub_int_bool ⟨.int _, H, I.tok _, ⟨_, rfl⟩, q⟩
def addW (x y : D) : M D := match x, y with
  | .bl b, .int i => M.pure (.int ((if b = true then 1 else 0) + i))
  | x, y => addM x y
def subW (x y : D) : M D := match x, y with
  | .bl b, .int i => M.pure (.int ((if b = true then 1 else 0) - i))
  | .int i, .bl b => M.pure (.int (i - (if b = true then 1 else 0)))
  | x, y => subM x y
theorem addW_ok : OpM K (fun x y H Q => rBI (fun b i => (if b = true then 1 else 0) + i) x y H Q ∨ rAddU K x y H Q) addW := fun E w S H v u x y Q hs rv ru h => by
  by_cases hb : ∃ b i, x = .bl b ∧ y = .int i
  · obtain ⟨b, i, rfl, rfl⟩ := hb
    cases rv
    cases ru
    exact .inl ⟨b, i, rfl, rfl, Fin.ok h hs _ (.int _)⟩
  · refine .inr (addM_ok E w S H v u x y Q hs rv ru ?_)
    cases x with
    | bl b =>
      cases y with
      | int i => exact absurd ⟨b, i, rfl, rfl⟩ hb
      | _ => exact h
    | _ => exact h
theorem subW_ok : OpM K (fun x y H Q => rBI (fun b i => (if b = true then 1 else 0) - i) x y H Q ∨ rIB (fun i b => i - (if b = true then 1 else 0)) x y H Q ∨ rI0 (fun i j => .int (i - j)) x y H Q) subW := fun E w S H v u x y Q hs rv ru h => by
  by_cases hb : ∃ b i, x = .bl b ∧ y = .int i
  · obtain ⟨b, i, rfl, rfl⟩ := hb
    cases rv
    cases ru
    exact .inl ⟨b, i, rfl, rfl, Fin.ok h hs _ (.int _)⟩
  by_cases hi : ∃ i b, x = .int i ∧ y = .bl b
  · obtain ⟨i, b, rfl, rfl⟩ := hi
    cases rv
    cases ru
    exact .inr (.inl ⟨i, b, rfl, rfl, Fin.ok h hs _ (.int _)⟩)
  refine .inr (.inr (int20_ok (K := K) (gv := fun i j => .int (i - j)) (fun _ _ _ => .int _) E w S H v u x y Q hs rv ru ?_))
  cases x with
  | bl b =>
    cases y with
    | int i => exact absurd ⟨b, i, rfl, rfl⟩ hb
    | _ => exact h
  | int i =>
    cases y with
    | bl b => exact absurd ⟨i, b, rfl, rfl⟩ hi
    | _ => exact h
  | _ => exact h
/-! ### xs * k, t * k -/
def repM (x y : D) : M D := fun S => match y with
  | .int k => match x with
    | .tup ds => if ds ≠ [] ∧ 2 ≤ k ∧ k ≤ 1000 ∧ ds.length ≤ 1000 then some (.ok (.tup (List.replicate k.toNat ds).flatten), S) else none
    | x => match asC S x with
      | some ds => if 0 ≤ k ∧ k ≤ 1000 ∧ ds.length * k.toNat ≤ 100000 then some (.ok (.lst (List.replicate k.toNat ds).flatten), S) else none
      | none => none
  | _ => none
theorem rep_rel {w : Wd} {xs : List V} {ds : List D} (r : RvL K w xs ds) : ∀ n : Nat, RvL K w (List.replicate n xs).flatten (List.replicate n ds).flatten
  | 0 => .nil
  | n + 1 => by
    rw [List.replicate_succ, List.replicate_succ, List.flatten_cons, List.flatten_cons]
    exact r.append (rep_rel r n)
theorem repM_ok : OpM K (fun x y H Q => rRepT K x y H Q ∨ rRep x y H Q) repM := fun E w S H v u x y Q hs rv ru h => by
  cases y with
  | int k =>
    cases ru
    by_cases ht : ∃ ds, x = .tup ds
    · obtain ⟨ds, rfl⟩ := ht
      have h : Fin K E w (if ds ≠ [] ∧ 2 ≤ k ∧ k ≤ 1000 ∧ ds.length ≤ 1000 then some (.ok (D.tup (List.replicate k.toNat ds).flatten), S) else none) _ := h
      by_cases hc : ds ≠ [] ∧ 2 ≤ k ∧ k ≤ 1000 ∧ ds.length ≤ 1000
      · rw [if_pos hc] at h
        obtain ⟨a, xs, rfl, hq, rx⟩ := tup_go hs rv
        exact .inl ⟨a, k, xs, rfl, rfl, hq, fun e => hc.1 (by subst e; cases rx; rfl), hc.2.1, hc.2.2.1, by rw [rx.length]; exact hc.2.2.2, fun p hp =>
          h _ _ (hs.le_lay hp) (hs.lay (o := .tup _) hp) _ (.tup (.of (by show upd w.G p _ p = _; rw [upd_same])) ((rep_rel rx _).mono (hs.le_lay hp)))⟩
      · rw [if_neg hc] at h
        exact h.elim
    · have h : Fin K E w (match asC S x with
        | some ds => if 0 ≤ k ∧ k ≤ 1000 ∧ ds.length * k.toNat ≤ 100000 then some (.ok (D.lst (List.replicate k.toNat ds).flatten), S) else none
        | none => none) (fun w' _ H' d => ∀ z, Rv K w' z d → Q z H') := by cases x <;> first | exact h | exact absurd ⟨_, rfl⟩ ht
      rcases h1 : asC S x with _ | ds
      · rw [h1] at h; exact h.elim
      · rw [h1] at h
        by_cases hc : 0 ≤ k ∧ k ≤ 1000 ∧ ds.length * k.toNat ≤ 100000
        · have h : Fin K E w (if 0 ≤ k ∧ k ≤ 1000 ∧ ds.length * k.toNat ≤ 100000 then some (.ok (D.lst (List.replicate k.toNat ds).flatten), S) else none) _ := h
          rw [if_pos hc] at h
          obtain ⟨a, xs, rfl, hq, rx⟩ := asC_go hs rv h1
          exact .inr ⟨a, k, xs, rfl, rfl, hq, by omega, by omega, sz_of (by rw [rx.length]; exact hc.2.2), fun p hp =>
            h _ _ (hs.le_lay hp) (hs.lay (o := .lst _) hp) _ (.lst (by show upd w.G p _ p = _; rw [upd_same]) ((rep_rel rx _).mono (hs.le_lay hp)))⟩
        · have h : Fin K E w (if 0 ≤ k ∧ k ≤ 1000 ∧ ds.length * k.toNat ≤ 100000 then some (.ok (D.lst (List.replicate k.toNat ds).flatten), S) else none) _ := h
          rw [if_neg hc] at h
          exact h.elim
  | _ => exact h.elim
variable {E : EK} {a b : Expr} {ma mb : Env → M D} {pos : Pos}
theorem me_addW (ha : PE X a (tM X.K E ma)) (hb : PE X b (tM X.K E mb)) : PE X (.BinOp a .Add b pos) (tM X.K E (b2 addW ma mb)) := me_op (op_addBI.or op_addU) addW_ok ha hb
theorem me_subW (ha : PE X a (tM X.K E ma)) (hb : PE X b (tM X.K E mb)) : PE X (.BinOp a .Sub b pos) (tM X.K E (b2 subW ma mb)) := me_op (op_subBI.or (op_subIB.or op_sub)) subW_ok ha hb
theorem me_rep (ha : PE X a (tM X.K E ma)) (hb : PE X b (tM X.K E mb)) : PE X (.BinOp a .Mult b pos) (tM X.K E (b2 repM ma mb)) := me_op (op_repT.or op_rep) repM_ok ha hb
end
end Mi
namespace Mi
open PySem PySem.Spec PyProof.Rows L2
/-! ### order among ints and bools -/
def vI? : V → Option Int
  | .int i => some i
  | .bl b => some (b2i b)
  | _ => none
def dI? : D → Option Int
  | .int i => some i
  | .bl b => some (b2i b)
  | _ => none
def rW (g : Int → Int → Bool) : R2 := fun x y H Q => ∃ i j, vI? x = some i ∧ vI? y = some j ∧ Q (.bl (g i j)) H
def cmpW (g : Int → Int → Bool) (x y : D) : M D := match dI? x with
  | some i => match dI? y with
    | some j => M.pure (.bl (g i j))
    | none => bad
  | none => bad
abbrev leW := cmpW fun i j => decide (i ≤ j)
abbrev ltW := cmpW fun i j => decide (i < j)
theorem dI_V {K : PySem.W.Frag} {w : Wd} {v : V} {d : D} {i : Int} (rv : Rv K w v d) (h : dI? d = some i) : vI? v = some i := by
  cases rv <;> first | exact h | cases h
theorem cmpW_ok {K : PySem.W.Frag} {g : Int → Int → Bool} : OpM K (rW g) (cmpW g) := fun E w S H v u x y Q hs rv ru h => by
  unfold cmpW at h
  rcases hx : dI? x with _ | i
  · rw [hx] at h
    exact h.elim
  · rw [hx] at h
    rcases hy : dI? y with _ | j
    · rw [hy] at h
      exact h.elim
    · rw [hy] at h
      exact ⟨i, j, dI_V rv hx, dI_V ru hy, Fin.ok h hs _ (.bl _)⟩
section
variable {X : Cx} {K : PySem.W.Frag}
theorem gbi_le (a : Bool) (b : Int) (u : Tok) : Gives (Builtin.«int.__le__» ⟨[.bool a, .int b u], []⟩)
    (.val (Value.bool (decide ((if a = true then (1 : Int) else 0) ≤ b)))) :=
  .of_eq rfl
theorem gbi_lt (a : Bool) (b : Int) (u : Tok) : Gives (Builtin.«int.__lt__» ⟨[.bool a, .int b u], []⟩)
    (.val (Value.bool (decide ((if a = true then (1 : Int) else 0) < b)))) :=
  .of_eq rfl
theorem gbi_ge (a : Bool) (b : Int) (u : Tok) : Gives (Builtin.«int.__ge__» ⟨[.bool a, .int b u], []⟩)
    (.val (Value.bool (decide ((if a = true then (1 : Int) else 0) ≥ b)))) :=
  .of_eq rfl
theorem gbi_gt (a : Bool) (b : Int) (u : Tok) : Gives (Builtin.«int.__gt__» ⟨[.bool a, .int b u], []⟩)
    (.val (Value.bool (decide ((if a = true then (1 : Int) else 0) > b)))) :=
  .of_eq rfl
section
variable {prog : Program} {w : World} {A : Around} {E : Value → Shared → Prop} {s : Shared} {b : Bool} {i : Int} {t : Tok} {Q : Value → Shared → Prop}
theorem lehBI (h : Q (.bool (decide (b2i b ≤ i))) s) : wpAny (model prog w) A (compareOp .LtE (.bool b) (.int i t)) Q E s := by
  rw [show compareOp .LtE (.bool b) (.int i t) = richCompare .LtE (.bool b) (.int i t) by rfl]
  exact SeqAt.rc_left_or (op := .LtE) rfl (typeIs_int s i t) (by decide) F.sub_int_bool F.slot_bool_le
    (call_gives F.slot_bool_le rfl F.entry_int_le (F.args_int_le_2 _ _)
      (gbi_le b i t) ⟨nofun, h⟩) (.inl rfl)
theorem lthBI (h : Q (.bool (decide (b2i b < i))) s) : wpAny (model prog w) A (compareOp .Lt (.bool b) (.int i t)) Q E s := by
  rw [show compareOp .Lt (.bool b) (.int i t) = richCompare .Lt (.bool b) (.int i t) by rfl]
  exact SeqAt.rc_left_or (op := .Lt) rfl (typeIs_int s i t) (by decide) F.sub_int_bool F.slot_bool_lt
    (call_gives F.slot_bool_lt rfl F.entry_int_lt (F.args_int_lt_2 _ _)
      (gbi_lt b i t) ⟨nofun, h⟩) (.inl rfl)
theorem lehIB (h : Q (.bool (decide (i ≤ b2i b))) s) : wpAny (model prog w) A (compareOp .LtE (.int i t) (.bool b)) Q E s := by
  rw [show compareOp .LtE (.int i t) (.bool b) = richCompare .LtE (.int i t) (.bool b) by rfl]
  exact SeqAt.rc_sub_first_or (op := .LtE) (typeIs_int s i t) rfl (by decide) F.sub_bool_int F.slot_bool_ge_refl
    (call_gives F.slot_bool_ge_refl rfl F.entry_int_ge (F.args_int_ge_2 _ _)
      (gbi_ge b i t) ⟨nofun, h⟩) (.inl rfl)
theorem lthIB (h : Q (.bool (decide (i < b2i b))) s) : wpAny (model prog w) A (compareOp .Lt (.int i t) (.bool b)) Q E s := by
  rw [show compareOp .Lt (.int i t) (.bool b) = richCompare .Lt (.int i t) (.bool b) by rfl]
  exact SeqAt.rc_sub_first_or (op := .Lt) (typeIs_int s i t) rfl (by decide) F.sub_bool_int F.slot_bool_gt_refl
    (call_gives F.slot_bool_gt_refl rfl F.entry_int_gt (F.args_int_gt_2 _ _)
      (gbi_gt b i t) ⟨nofun, h⟩) (.inl rfl)
end
theorem op_leW : OpR X (compareOp .LtE) (rW fun i j => decide (i ≤ j)) := fun pins s σ H x y v u Q I rx ry ⟨i, j, e1, e2, q⟩ => by
  cases x with
  | int a =>
    cases e1
    obtain ⟨t, rfl⟩ := rx
    cases y with
    | int b => cases e2; obtain ⟨t2, rfl⟩ := ry; exact PyProof.Rows.le_int ⟨.bl _, H, I, rfl, q⟩
    | bl b => cases e2; cases ry; exact lehIB ⟨.bl _, H, I, rfl, q⟩
    | _ => cases e2
  | bl a =>
    cases e1
    cases rx
    cases y with
    | int b => cases e2; obtain ⟨t2, rfl⟩ := ry; exact lehBI ⟨.bl _, H, I, rfl, q⟩
    | bl b => cases e2; cases ry; exact PyProof.Rows.le_bool ⟨.bl _, H, I, rfl, q⟩
    | _ => cases e2
  | _ => cases e1
theorem op_ltW : OpR X (compareOp .Lt) (rW fun i j => decide (i < j)) := fun pins s σ H x y v u Q I rx ry ⟨i, j, e1, e2, q⟩ => by
  cases x with
  | int a =>
    cases e1
    obtain ⟨t, rfl⟩ := rx
    cases y with
    | int b => cases e2; obtain ⟨t2, rfl⟩ := ry; exact PyProof.Rows.lt_int ⟨.bl _, H, I, rfl, q⟩
    | bl b => cases e2; cases ry; exact lthIB ⟨.bl _, H, I, rfl, q⟩
    | _ => cases e2
  | bl a =>
    cases e1
    cases rx
    cases y with
    | int b => cases e2; obtain ⟨t2, rfl⟩ := ry; exact lthBI ⟨.bl _, H, I, rfl, q⟩
    | bl b => cases e2; cases ry; exact PyProof.Rows.lt_bool ⟨.bl _, H, I, rfl, q⟩
    | _ => cases e2
  | _ => cases e1
end
/-! ### s.strip(t) -/
def stripM (o : D) (xs : List D) : M D := match o, xs with
  | .str a, [.str b] => if a.length ≤ 100000 then M.pure (.str (Txt.stripChars a b)) else bad
  | _, _ => bad
theorem stripM_ok {K : PySem.W.Frag} : MeM K (fun x xs H Q => ∃ a b, x = .str a ∧ xs = [.str b] ∧ a.length ≤ sizeLine ∧ Q (.str (Txt.stripChars a b)) H) stripM := fun E w S H v vs x xs Q hs rv rvs h => by
  cases x with
  | str a =>
    rcases xs with _ | ⟨d, _ | ⟨d2, r⟩⟩
    · exact h.elim
    · cases d with
      | str b =>
        obtain ⟨u, rfl, ru⟩ := args1 rvs
        cases rv
        cases ru
        have h : Fin K E w ((if a.length ≤ 100000 then M.pure (D.str (Txt.stripChars a b)) else bad) S) _ := h
        by_cases hl : a.length ≤ 100000
        · rw [if_pos hl] at h
          exact ⟨a, b, rfl, rfl, sz_of (by omega), Fin.ok h hs _ (.str _)⟩
        · rw [if_neg hl] at h
          exact h.elim
      | _ => exact h.elim
    · cases d <;> exact h.elim
  | _ => exact h.elim
end Mi
namespace Mi
open PySem PySem.Spec PyProof.Rows L2
/-! ### what strip leaves -/
theorem takeW_all {g : Nat → Bool} : ∀ {l : List Nat}, l.all g = true → l.takeWhile g = l
  | [], _ => rfl
  | c :: l, h => by
    simp only [List.all_cons, Bool.and_eq_true] at h
    rw [List.takeWhile_cons, if_pos h.1, takeW_all h.2]
theorem takeW_lt {g : Nat → Bool} : ∀ {l : List Nat}, l.all g = false → (l.takeWhile g).length < l.length ∧ ∃ c t, l.drop (l.takeWhile g).length = c :: t ∧ g c = false
  | [], h => by cases h
  | c :: l, h => by
    by_cases hc : g c = true
    · rw [List.all_cons, hc, Bool.true_and] at h
      obtain ⟨h1, d, t, h2, h3⟩ := takeW_lt h
      rw [List.takeWhile_cons, if_pos hc]
      exact ⟨by simp only [List.length_cons]; omega, d, t, by simpa using h2, h3⟩
    · rw [List.takeWhile_cons, if_neg hc]
      exact ⟨by simp, c, l, rfl, by simpa using hc⟩
theorem strip_len0 {x y : Str} (hx : 1 ≤ x.length) : (Txt.stripChars x y).length = 0 ↔ x.cps.toList.all y.cps.contains = true := by
  have hl : x.cps.toList.length = x.length := rfl
  unfold Txt.stripChars Txt.stripBy
  by_cases ha : x.cps.toList.all y.cps.contains = true
  · have e1 : stripLo y.cps.contains true x = x.length := by
      unfold stripLo
      rw [if_pos rfl, takeW_all ha, hl]
    have e2 : stripSame y.cps.contains true true x = false := by
      unfold stripSame
      rw [e1]
      have : (x.length == 0) = false := by simp; omega
      rw [this]; rfl
    rw [e2]
    simp only [Bool.false_eq_true, if_false, ha, iff_true]
    unfold stripped Builtin.Str.strSub
    rw [e1]
    show (x.cps.extract _ _).size = 0
    rw [Array.size_extract]
    show min _ x.length - x.length = 0
    omega
  · have hf : x.cps.toList.all y.cps.contains = false := by simpa using ha
    obtain ⟨h1, c, t, h2, h3⟩ := takeW_lt hf
    simp only [hf, Bool.false_eq_true, iff_false]
    split
    · omega
    · unfold stripped Builtin.Str.strSub
      have e1 : stripLo y.cps.contains true x = (x.cps.toList.takeWhile y.cps.contains).length := rfl
      have e2 : (x.cps.toList.drop (stripLo y.cps.contains true x)).reverse.all y.cps.contains = false := by
        rw [e1, h2, List.all_reverse, List.all_cons, h3, Bool.false_and]
      have h4 := (takeW_lt e2).1
      rw [List.length_reverse, List.length_drop, hl] at h4
      show (x.cps.extract _ _).size ≠ 0
      rw [Array.size_extract]
      have e3 : stripHi y.cps.contains true x (stripLo y.cps.contains true x) = x.length - ((x.cps.toList.drop (stripLo y.cps.contains true x)).reverse.takeWhile y.cps.contains).length := rfl
      have e4 : x.cps.size = x.length := rfl
      rw [e3, e4]
      omega
theorem strip_strOk {x y : Str} (h : PyData.strOk x = true) : PyData.strOk (Txt.stripChars x y) = true := by
  unfold Txt.stripChars Txt.stripBy
  split
  · exact h
  · unfold PyData.strOk at h ⊢
    rw [← Array.all_toList, List.all_eq_true] at h ⊢
    intro c hc
    unfold stripped Builtin.Str.strSub at hc
    rw [Array.toList_extract] at hc
    exact h c (List.mem_of_mem_drop (List.mem_of_mem_take hc))
theorem str_nil {x : Str} : (x == ("" : Str)) = decide (x.length = 0) := by
  obtain ⟨a⟩ := x
  by_cases h : a = #[]
  · subst h; rfl
  · have h1 : ¬ a.size = 0 := fun e => h (Array.eq_empty_of_size_eq_zero e)
    have h2 : ¬ (⟨a⟩ : Str) = "" := fun e => h (by injection e)
    rw [beq_eq_false_iff_ne.2 h2]
    exact (decide_eq_false h1).symm
theorem strip_made {x y : Str} (hx : 1 ≤ x.length) : (Txt.stripChars x y == ("" : Str)) = x.cps.toList.all fun c => decide (c ∈ y.cps.toList) := by
  rw [str_nil]
  have e : x.cps.toList.all y.cps.contains = x.cps.toList.all fun c => decide (c ∈ y.cps.toList) := by
    congr 1
    funext c
    rw [Bool.eq_iff_iff]
    simp [Array.contains_iff_mem]
  rw [← e]
  rw [Bool.eq_iff_iff, decide_eq_true_iff]
  exact strip_len0 hx
end Mi
namespace Mi
open PySem PySem.Spec PyProof.Rows L2
/-! ### set(xs) of a list of ints -/
/-- a set with nothing in it yet -/
abbrev set0 (w : World) : Obj := { cls := .type "set", dict := none, data := .set #[] 0 (.fresh 0 0 (!w.params.followText "set-order")) }
section
variable {P : Program} {w : World} {A : Around} {E : Value → Shared → Prop}
/-- what is promised of the heap behind it -/
def SetMade (w : World) (h : Heap) (p : Addr) (ns : List Int) (h' : Heap) : Prop := ∃ c, SetR w h' p (fun j => decide (j ∈ ns)) c ∧ c ≤ ns.length ∧ ∀ b o, b ≠ p → h.get? b = some o → h'.get? b = some o
theorem setL_init {s : Shared} {l p : Addr} {items : Array Value} (ns : List Int) (hh : A.handled = none) (hp : s.heap.get? p = some (set0 w)) (hl : s.heap.IsList l items) (hi : IntsAre items.toList ns) (hb : ns.length + 1 < scanBound) :
    codeAny (model P w) A (Code.call (.builtin "set.__init__") ⟨[.ref p, .ref l], []⟩) (wants (fun r s2 => r = .none ∧ ∃ h' tk, s2 = { s with heap := h', toks := tk } ∧ SetMade w s.heap p ns h') E) s := by
  have n1 : items.size = ns.length := (Array.length_toList (xs := items)).symm.trans (IntsAre.length hi)
  have pl : p < s.heap.objs.size := Heap.lt_size hp
  obtain ⟨⟨cl, dk, dt, sl⟩, gl, el, nl, dl⟩ := id hl
  simp only at el dl
  subst el dl
  have ll : l < s.heap.objs.size := Heap.lt_size gl
  have ne : l ≠ p := fun e => by rw [e, hp] at gl; simp [set0] at gl
  refine codeAny_call_builtin F.called_set.init.plain F.entry_set_init (check_set_init_1 ⟨_, hp, rfl⟩ ?_)
  have f1 := F.sub_list_set
  have f2 := F.sub_list_frozenset
  have f3 : (Value.type "list" == Value.type "dict") = false := by decide
  unfold Builtin.«set.__init__» noKeywords Builtin.Frozenset.updateFrom
  generalize later : pyIter = it
  wp_walk
  subst later
  refine wpAny_pyIter_list hl (wpAny_bind (wpAny_runValue ?_))
  have val : ∀ (i : Nat) (v : Value), items[i]? = some v → ∃ k t, ns[i]? = some k ∧ v = .int k t := fun i v hv => by
    have lt : i < ns.length := n1 ▸ (Array.getElem?_eq_some_iff.mp hv).1
    obtain ⟨t, e⟩ := IntsAre.int_at hi i v (Array.getElem?_toList ▸ hv)
    exact ⟨ns[i], t, List.getElem?_eq_getElem lt, by rw [e, List.getD_eq_getElem?_getD, List.getElem?_eq_getElem lt]; rfl⟩
  refine set_update_ints ((Walks.list (show A.in1.in1.handled = none by simp [hh]) s.heap.objs.size l (Nat.ne_of_lt ll) items).toS) p ?_ ns n1 hb val (items.size - 0) 0 _ (by omega) (Nat.zero_le _) ?_ ?_ ?_
  · simp only [List.mem_cons, List.not_mem_nil, or_false, not_or]
    exact ⟨Nat.ne_of_lt pl, fun e => ne e.symm⟩
  · exact ⟨⟨_, Heap.get?_push_size _ rfl, rfl, rfl⟩, hl.push _⟩
  · exact ⟨0, Nat.le_refl 0, setR_new_at (w := w) (Heap.get?_push_of_some _ hp)⟩
  · rintro ⟨h', g', d', tk', os'⟩ c' mv cl' sr
    obtain rfl : g' = s.gens := mv.gens
    obtain rfl : d' = s.drawn := mv.drawn
    obtain rfl : os' = s.os := mv.os
    refine wpAny_pure (wpAny_pure ⟨rfl, h', tk', rfl, c', sr, n1 ▸ cl', fun b o nb e => mv.heap b o ?_ (Heap.get?_push_of_some _ e)⟩)
    simp only [List.mem_cons, List.not_mem_nil, or_false, not_or]
    exact ⟨nb, Nat.ne_of_lt (Heap.lt_size e)⟩
/-- set(xs): a new set of the ints of xs -/
theorem call_setL {s : Shared} {l : Addr} {items : Array Value} (ns : List Int) {Q : Value → Shared → Prop} (hh : A.handled = none) (hl : s.heap.IsList l items) (hi : IntsAre items.toList ns) (hb : ns.length + 1 < scanBound)
    (k : ∀ h' tk c, SetR w h' s.heap.objs.size (fun j => decide (j ∈ ns)) c → c ≤ ns.length → (∀ b o, s.heap.get? b = some o → h'.get? b = some o) → Q (.ref s.heap.objs.size) { s with heap := h', toks := tk }) :
    wpAny (model P w) A (call (.type "set") [.ref l]) Q E s := by
  obtain ⟨top, more, mro⟩ := F.called_set.mro
  have a1 := F.called_set.made
  have a2 := F.called_set.sub
  have a3 := F.called_set.notType
  have a4 := F.called_set.canCreate
  have a5 := F.typeCall_set_1 (.ref l)
  refine wpAny_call (codeAny_of_tree ?_)
  show wpAny _ (A.under _) (callAny (.type "set") _) _ _ s
  refine wpAny_pure (And.intro (Code.quiet_builtin _ (by decide +kernel)) (codeAny_builtin F.entry_type_call ?_))
  rw [Around.under_plain (weight_type_call_type "set" [.ref l] []) rfl]
  repeat any_goals first | assumption | wp_step
  refine codeAny_mono (code_set_led1 (.ref l) (E := E) (Q₁ := fun v c => v = .ref s.heap.objs.size ∧ c = { s with heap := s.heap.push (set0 w) }) ⟨rfl, rfl⟩) fun r c made => ?_
  cases r with
  | error e => exact made
  | ok f =>
    cases f with
    | ret v =>
      obtain ⟨rfl, rfl⟩ := made
      have at0 : (s.heap.push (set0 w)).get? s.heap.objs.size = some (set0 w) := Heap.get?_push_size _ rfl
      have ty : Shared.TypeIs { s with heap := s.heap.push (set0 w) } (.ref s.heap.objs.size) "set" := ⟨_, at0, rfl⟩
      have b1 := F.called_set.init.lookup
      have b2 := F.called_set.init.bind (.ref s.heap.objs.size)
      repeat any_goals first | assumption | wp_step
      refine codeAny_mono (setL_init (E := E) (s := { s with heap := s.heap.push (set0 w) }) ns (by simp [hh]) at0 (hl.push _) hi hb) fun r2 c2 made2 => ?_
      cases r2 with
      | error e => exact made2
      | ok f2 =>
        cases f2 with
        | ret v2 =>
          obtain ⟨rfl, h', tk, rfl, n, sr, le, keep⟩ := made2
          repeat any_goals first | assumption | wp_step
          exact k h' tk n sr le fun b o g => keep b o (Nat.ne_of_lt (Heap.lt_size g)) (Heap.get?_push_of_some _ g)
        | _ => exact made2.elim
    | _ => exact made.elim
end
end Mi
namespace Mi
open PySem PySem.Spec PyProof.Rows L2
/-! ### sorted(set(xs)) of ints -/
def insI (x : Int) : List Int → List Int
  | [] => [x]
  | y :: ys => if x < y then x :: y :: ys else if x = y then y :: ys else y :: insI x ys
def srtI (ns : List Int) : List Int := ns.foldr insI []
theorem insI_mem {x k : Int} : ∀ ys : List Int, k ∈ insI x ys ↔ k = x ∨ k ∈ ys
  | [] => by simp [insI]
  | y :: ys => by
    simp only [insI]
    by_cases h1 : x < y
    · simp [h1]
    · by_cases h2 : x = y
      · subst h2; simp
      · simp only [h1, h2, if_false, List.mem_cons, insI_mem ys]
        constructor
        · rintro (h | h | h) <;> simp [h]
        · rintro (h | h | h) <;> simp [h]
theorem insI_up {x : Int} : ∀ {ys : List Int}, ys.Pairwise (· < ·) → (insI x ys).Pairwise (· < ·)
  | [], _ => by simp [insI]
  | y :: ys, h => by
    have hy := List.pairwise_cons.1 h
    simp only [insI]
    by_cases h1 : x < y
    · simp only [h1, if_true, List.pairwise_cons]
      exact ⟨fun z hz => by rcases List.mem_cons.1 hz with rfl | hz; exact h1; exact Int.lt_trans h1 (hy.1 z hz), hy⟩
    · by_cases h2 : x = y
      · simp only [h1, h2, if_true, if_false]
        subst h2
        simpa using h
      · simp only [h1, h2, if_false, List.pairwise_cons]
        exact ⟨fun z hz => by rcases (insI_mem ys).1 hz with rfl | hz; omega; exact hy.1 z hz, insI_up hy.2⟩
theorem srtI_mem {k : Int} : ∀ ns : List Int, k ∈ srtI ns ↔ k ∈ ns
  | [] => by simp [srtI]
  | n :: ns => by
    show k ∈ insI n (srtI ns) ↔ _
    rw [insI_mem, srtI_mem ns, List.mem_cons]
theorem srtI_up : ∀ ns : List Int, (srtI ns).Pairwise (· < ·)
  | [] => .nil
  | n :: ns => insI_up (srtI_up ns)
theorem up_one : ∀ {xs ys : List Int}, xs.Pairwise (· < ·) → ys.Pairwise (· < ·) → (∀ k, k ∈ xs ↔ k ∈ ys) → xs = ys
  | [], [], _, _, _ => rfl
  | [], y :: ys, _, _, h => absurd ((h y).2 (by simp)) (by simp)
  | x :: xs, [], _, _, h => absurd ((h x).1 (by simp)) (by simp)
  | x :: xs, y :: ys, hx, hy, h => by
    have hx := List.pairwise_cons.1 hx
    have hy := List.pairwise_cons.1 hy
    have e : x = y := by
      rcases List.mem_cons.1 ((h x).1 (by simp)) with e | e
      · exact e
      · rcases List.mem_cons.1 ((h y).2 (by simp)) with e2 | e2
        · exact e2.symm
        · have := hy.1 x e; have := hx.1 y e2; omega
    subst e
    rw [up_one hx.2 hy.2 fun k => ?_]
    constructor
    · intro hk
      rcases List.mem_cons.1 ((h k).1 (List.mem_cons_of_mem _ hk)) with e | e
      · have := hx.1 k hk; omega
      · exact e
    · intro hk
      rcases List.mem_cons.1 ((h k).2 (List.mem_cons_of_mem _ hk)) with e | e
      · have := hy.1 k hk; omega
      · exact e
def intsOf : List D → Option (List Int)
  | [] => some []
  | .int i :: ds => (intsOf ds).map fun is => i :: is
  | _ => none
theorem ints_rel {K : PySem.W.Frag} {w : Wd} : ∀ {xs : List V} {ds : List D} {ns : List Int}, RvL K w xs ds → intsOf ds = some ns → xs = ns.map V.int
  | _, _, _, .nil, h => by cases h; rfl
  | _, _, _, .cons r rr, h => by
    cases r with
    | int x =>
      simp only [intsOf] at h
      obtain ⟨ys, h1, rfl⟩ := mapO h
      rw [ints_rel rr h1]
      rfl
    | _ => cases h
theorem ints_up {K : PySem.W.Frag} {w : Wd} : ∀ ns : List Int, RvL K w (ns.map V.int) (ns.map D.int)
  | [] => .nil
  | n :: ns => .cons (.int n) (ints_up ns)
def sortSetM (x : D) : M D := fun S => match asR S x with
  | some ds => match intsOf ds with
    | some ns => if ns.length < 64 then some (.ok (.lst ((srtI ns).map D.int)), S) else none
    | none => none
  | none => none
section
variable {X : Cx} {E : EK} {e : Expr} {m : Env → M D} {p p2 pos pos2 : Pos}
def rSetL (K : PySem.W.Frag) (w : World) : List V → Hp → VK → Prop := fun xs H Q => ∃ (l : Addr) (ns : List Int), xs = [V.ref l] ∧ SqL K H l (ns.map V.int) ∧ ns.length < 64 ∧ ∀ p c, H p = none → c ≤ ns.length → Q (.ref p) (upd H p (SetO w p (fun j => decide (j ∈ ns)) c))
theorem cr_setL (hc : X.calm = true) : CallR X (.type "set") (rSetL X.K X.w) := fun pins s σ H xs us Q I r ⟨l, ns, e, hx, h64, q⟩ => by
  subst e
  rw [Vals.ref1 r]
  obtain ⟨its, rv, ht, hz⟩ := I.list hx
  refine call_setL ns (I.ok.hd hc) ht.isList (Vals.ints rv) (by unfold scanBound; omega) fun h' tk c R hcl keep => ?_
  exact ⟨.ref _, _, I.laid (t' := tk) (o := SetO X.w s.heap.objs.size (fun j => decide (j ∈ ns)) c) keep (Nat.le_refl _) (setO_new R), rfl, q _ c (I.hok.fresh (Nat.le_refl _)) hcl⟩
theorem me_sortSet (hc : X.calm = true) (hg : Gl X "sorted") (hm : X.mg "sorted" = none) (hv : bootBuiltins "sorted" = some (.builtin "sorted")) (hg2 : Gl X "set") (hm2 : X.mg "set" = none) (hv2 : bootBuiltins "set" = some (.type "set")) (he : PE X e (tM X.K E m))
    (s1 : starEach [e] X.env = (false, eval e X.env) :: starEach [] X.env := by rfl) (s2 : (backTo pos2 (starEach [] X.env)).any (·.1) = false := by rfl)
    (s3 : starEach [.Call (.Name "set" p2) [e] [] pos2] X.env = (false, eval (.Call (.Name "set" p2) [e] [] pos2) X.env) :: starEach [] X.env := by rfl) (s4 : (backTo pos (starEach [] X.env)).any (·.1) = false := by rfl) :
    PE X (.Call (.Name "sorted" p) [.Call (.Name "set" p2) [e] [] pos2] [] pos) (tM X.K E (b1 sortSetM m)) :=
  pe_imp (pe_callB (cr_sortedSet hc) hg hm hv (pa_cons (pe_callTy (cr_setL hc) hg2 hm2 hv2 (pa_cons he pa_nil s1) (by decide) (by decide) s1 s2) pa_nil s3) (by decide) (by decide) s3 s4) fun σ H Q ⟨w, S, ρ, hs, hn, h⟩ => by
    refine ⟨w, S, ρ, hs, hn, h.bind.imp fun w1 S1 H1 x l1 s1 q v rv => ?_⟩
    show rSetL X.K X.w [v] H1 fun x H2 => rSortedSet X.w [x] H2 Q
    rcases h1 : asR S1 x with _ | ds
    · simp only [sortSetM, h1] at q; exact q.elim
    · rcases h2 : intsOf ds with _ | ns
      · simp only [sortSetM, h1, h2] at q; exact q.elim
      · simp only [sortSetM, h1, h2] at q
        by_cases hl : ns.length < 64
        · rw [if_pos hl] at q
          obtain ⟨a, xs, rfl, hq, rx⟩ := asR_go s1 rv h1
          obtain rfl := ints_rel rx h2
          refine ⟨a, ns, rfl, hq, hl, fun p' c hp hc' => ⟨p', _, c, rfl, upd_same, by omega, fun ns' p3 up mem _ hp3 => ?_⟩⟩
          obtain rfl : ns' = srtI ns := up_one up (srtI_up ns) fun k => by rw [mem k, srtI_mem]; simp
          have s2 := s1.lay (o := SetO X.w p' (fun j => decide (j ∈ ns)) c) hp
          exact q _ _ ((s1.le_lay hp).trans (s2.le_lay hp3)) (s2.lay (o := .lst ((srtI ns).map V.int)) hp3) _ (.lst (by show upd _ p3 _ p3 = _; rw [upd_same]) (ints_up _))
        · rw [if_neg hl] at q
          exact q.elim
end
end Mi
namespace Mi
open PySem PySem.Spec PyProof.Rows L2
/-- a body of which nothing is asked (the foot of a recursion) -/
theorem pss_bad {X : Cx} {E : EK} {ss : List Stmt} : PSs X ss (tMs X.K E fun _ => bad) := ⟨fun _ _ _ _ _ _ ⟨_, _, _, _, _, h⟩ => h.elim⟩
end Mi
namespace Mi
open PySem PySem.Spec PyProof.Rows L2
/-! ### enumerate(t) of a tuple -/
abbrev enum0 (it : Addr) : Obj := { cls := .type "enumerate", data := .fields #[.none, .bool false, .ref it, rawInt 0, .none, .none] }
theorem enum_new1 {v : Value} {o : Obj} {G : Heap → Prop} (B : Begins v o G) :
    Meets (Builtin.«enumerate.__new__» ⟨[.type "enumerate", v], []⟩) (fun _ R c => G c.heap ∧ R (.ok (.ret (.ref (c.heap.push o).objs.size))) { c with heap := (c.heap.push o).push (enum0 c.heap.objs.size) }) := .of_wp fun P w A R c ⟨g, r⟩ => by
  obtain ⟨hp, gs, dr, tk, os⟩ := c
  have f1 := sub_enumerate
  have go : ∀ {A' : Around} {E : Value → Shared → Prop} {Q : Value → Shared → Prop}, Q (.ref hp.objs.size) ⟨hp.push o, gs, dr, tk, os⟩ → wpAny (model P w) A' (pyIter v) Q E ⟨hp, gs, dr, tk, os⟩ := fun q => B.iter P w _ _ ⟨hp, gs, dr, tk, os⟩ _ g q
  wp_walk using go
  refine wpAny_stack_any fun st => wpAny_pure ?_
  split
  next c _ _ _ _ _ => cases (c == Value.type "enumerate") <;> (wp_walk using go; exact ⟨_, rfl, r⟩)
  next => wp_walk using go; exact ⟨_, rfl, r⟩
theorem call_enum1 {P : Program} {w : World} {A : Around} {E : Value → Shared → Prop} {c : Shared} {v : Value} {o : Obj} {G : Heap → Prop} {Q : Value → Shared → Prop} (B : Begins v o G) (g : G c.heap)
    (k : ∀ h', IsEnum h' (c.heap.objs.size + 1) c.heap.objs.size 0 .none → h'.get? c.heap.objs.size = some o → h'.objs.size = c.heap.objs.size + 2 → (∀ b ob, c.heap.get? b = some ob → h'.get? b = some ob) → Q (.ref (c.heap.objs.size + 1)) { c with heap := h' }) :
    wpAny (model P w) A (call (.type "enumerate") [v]) Q E c := by
  have z1 : (c.heap.push o).objs.size = c.heap.objs.size + 1 := Heap.size_push ..
  have en : IsEnum ((c.heap.push o).push (enum0 c.heap.objs.size)) (c.heap.objs.size + 1) c.heap.objs.size 0 .none := by
    rw [← z1]
    exact Heap.get?_push_size (c.heap.push o) rfl
  refine callType_new F.called_enumerate (by decide) (F.typeCall_enumerate_1 _) (F.newCall_enumerate_1 _) (fun obj => F.args_object_init_2 obj _) F.entry_enumerate_new (enum_new1 B) ⟨g, ?_⟩
  rw [z1]
  exact ⟨⟨_, en, rfl⟩, k _ en (Heap.get?_push_of_some _ (Heap.get?_push_size _ B.free)) (by rw [Heap.size_push, z1]) fun b ob x => Heap.get?_push_of_some _ (Heap.get?_push_of_some _ x)⟩
/-- the tuple at a as it stands at each turn, its items numbered in new pairs -/
def IteT (K : PySem.W.Frag) (a : Addr) : It where
  go i H := ∃ (xs : List V) (x : V), SqT K H a xs ∧ xs[i]? = some x
  yld i H v H' := ∃ T x, v = .ref T ∧ H T = none ∧ H' = upd H T (.tup [.int (i : Nat), x]) ∧ ∀ xs, SqT K H a xs → xs[i]? = some x
  stop i H := ∃ xs : List V, SqT K H a xs ∧ xs.length = i
theorem in2 {b e it : Addr} (h : b ∈ [e, it]) : b = e ∨ b = it := by simpa using h
theorem turn_enumT {P : Program} {w : World} {K : PySem.W.Frag} {elts : List Expr} {kk : Nat} {tpos : Pos} (a e it : Addr) :
    Turn P w K (.Tuple elts kk tpos) (IteT K a) [e, it] e (fun i h => (∃ old, IsEnum h e it ((i : Nat) : Int) old) ∧ h.IsTupleIter it a i ∧ e ≠ it ∧ a ≠ it ∧ e ≠ a) where
  mem := List.mem_cons_self ..
  obj i h := fun ⟨⟨old, en⟩, ⟨o, g, _, d⟩, _⟩ b hb => by
    rcases in2 hb with rfl | rfl
    · exact ⟨_, en, fun v q => nomatch q⟩
    · exact ⟨o, g, fun v q => by rw [d] at q; cases q⟩
  keep i h h' := fun ⟨⟨old, en⟩, ti, ap⟩ k => ⟨⟨old, k e (by simp) _ en⟩, ti.at fun o q => k it (by simp) o q, ap⟩
  item := by
    intro X hP hw hK hc i pins s σ H E I apart ⟨⟨old, en⟩, ti, n1, n2, n3⟩ ⟨xs, x, hq, hx⟩
    subst hP hw hK
    obtain ⟨its, rv, tp, _⟩ := I.tuple hq
    obtain ⟨u, hu, ru⟩ := rv.get hx
    have le : e < s.heap.objs.size := Heap.lt_size en
    have lt : it < s.heap.objs.size := by obtain ⟨_, g, _⟩ := ti; exact Heap.lt_size g
    have li : i < its.toArray.size := by rw [List.size_toArray]; exact (List.getElem?_eq_some_iff.1 hu).1
    refine wpAny_pyNext_enum_itemC (Draws.tuple (A := X.A.in1) (by simp [I.ok.hd hc]) it a n2 its.toArray) en ⟨ti, tp⟩ li n1 (by simp [n1, n3]) fun y h1 tk hy out st new size keep => ?_
    obtain rfl : y = u := by simpa [hu] using hy.symm
    refine ⟨_, rfl, wpAny_letOwnedTupleGo_enum (s := { s with heap := h1, toks := tk + 1 }) out fun h2 en2 same => ?_⟩
    have new2 : h2.get? s.heap.objs.size = some { cls := .type "tuple", data := .seq #[.int i tk, y] } := (same.2 _ (Nat.ne_of_gt le)).trans new
    have fine : ObjOk X.prog X.w (upd H s.heap.objs.size (.tup [.int (i : Nat), x])) h2 s.heap.objs.size (.tup [.int (i : Nat), x]) := ⟨by show 2 ≤ sizeLine; decide, [.int i tk, y], .cons ⟨_, rfl⟩ (.cons ru .nil), ⟨_, new2, rfl, _, rfl⟩⟩
    have I2 : Inv X pins σ (upd H s.heap.objs.size (.tup [.int (i : Nat), x])) { s with heap := h2, toks := tk + 1 } := I.turnedNew (ch := [e, it]) (fun b ob hb q => (same.2 b (fun z => hb (by simp [z]))).trans (keep b ob (fun z => hb (by simp [z])) (fun z => hb (by simp [z])) q)) apart (Nat.le_refl _) fine
    refine ⟨.ref s.heap.objs.size, _, I2, rfl, ⟨_, x, rfl, I.hok.fresh (Nat.le_refl _), rfl, fun ys hy => by rw [I.tuple_inj hy hq]; exact hx⟩, ⟨⟨y, ?_⟩, st.1.at fun o q => (same.2 it (Ne.symm n1)).trans q, n1, n2, n3⟩, fun b hb => ?_⟩
    · rw [show ((i + 1 : Nat) : Int) = (i : Int) + 1 by omega]
      exact en2
    · rw [upd_ne (Nat.ne_of_lt (by rcases in2 hb with rfl | rfl <;> assumption))]
      exact (apart b hb).1
  done := by
    intro X hP hw hK hc i pins s σ H E I apart ⟨⟨old, en⟩, ti, n1, n2, n3⟩ ⟨xs, hq, hx⟩
    subst hP hw hK
    obtain ⟨its, rv, tp, _⟩ := I.tuple hq
    subst hx
    obtain ⟨f0, f1, _, f3, f4, f5⟩ := apart it (by simp)
    have sz : its.toArray.size = xs.length := by rw [List.size_toArray, rv.length]
    exact wpAny_pyNext_enum_endD (Draws.tuple (A := X.A.in1) (by simp [I.ok.hd hc]) it a n2 its.toArray) en ⟨sz ▸ ti, tp⟩ fun h' eb => ⟨rfl, I.turned (t' := s.toks) (fun b o hb q => eb b o hb q) f0 f1 f3 f4 f5⟩
  self A i s Q E := fun ⟨⟨_, en⟩, _⟩ h => wpAny_pyIter_enum en h
section
variable {X : Cx} {E : EK} {e : Expr} {ta : TA} {p pos tpos : Pos} {elts : List Expr} {kk : Nat} {m : Env → M (List D)}
def iEnumT (K : PySem.W.Frag) (ta : TA) : TI := fun σ H R => ta σ H fun vs H1 => ∃ a xs, vs = [.ref a] ∧ SqT K H1 a xs ∧ R (IteT K a) H1
theorem pi_enumT (hg : Gl X "enumerate") (hm : X.mg "enumerate" = none) (ha : PA X [e] ta) (hs : starEach [e] X.env = [(false, eval e X.env)] := by rfl) : PI X (.Tuple elts kk tpos) (.Call (.Name "enumerate" p) [e] [] pos) (iEnumT X.K ta) := ⟨fun pins s σ H R I h => by
  refine Call_ (ld_blt I hg hm boot_enumerate (PyProof.Rows.callWith_type1 (thn (ha.run pos pins s σ H _ I h) fun us c ⟨vs, H1, I1, r1, a, xs, ex, hq, q⟩ => ?_) hs rfl))
  subst ex
  rw [Vals.ref1 r1]
  obtain ⟨its, rv, tp, _⟩ := I1.tuple hq
  have la : a < c.heap.objs.size := by obtain ⟨o, g, _⟩ := tp; exact Heap.lt_size g
  refine call_enum1 (begins_tuple a its.toArray) tp fun h' en it0 size keep => wpAny_pyIter_enum en ?_
  refine ⟨c.heap.objs.size + 1, [c.heap.objs.size + 1, c.heap.objs.size], _, _, H1, rfl, I1.kept (h' := h') (t' := c.toks) keep, turn_enumT a (c.heap.objs.size + 1) c.heap.objs.size, ⟨⟨.none, en⟩, ⟨_, it0, rfl, rfl⟩, Nat.succ_ne_self _, Nat.ne_of_lt la, (Nat.ne_of_lt (Nat.lt_succ_of_lt la)).symm⟩, fun b hb => ?_, q⟩
  have le : c.heap.objs.size ≤ b := by rcases in2 hb with rfl | rfl <;> omega
  exact I1.fpOk le (I1.hok.fresh le)⟩
end
end Mi
namespace Mi
open PySem PySem.Spec PyProof.Rows L2
/-! ### for i, x in enumerate(xs) -/
def numD : Nat → List D → List D
  | _, [] => []
  | k, d :: ds => pairD (.int (k : Int)) d :: numD (k + 1) ds
theorem numD_len : ∀ (k : Nat) (ds : List D), (numD k ds).length = ds.length
  | _, [] => rfl
  | k, d :: ds => by simp [numD, numD_len (k + 1) ds]
theorem numD_at : ∀ (k i : Nat) (ds : List D) (d : D), ds[i]? = some d → (numD k ds)[i]? = some (pairD (.int ((k + i : Nat) : Int)) d)
  | _, _, [], _, h => by simp at h
  | k, 0, x :: ds, d, h => by simp at h; subst h; rfl
  | k, i + 1, x :: ds, d, h => by
    rw [List.getElem?_cons_succ] at h
    have := numD_at (k + 1) i ds d h
    rw [show k + (i + 1) = k + 1 + i by omega]
    exact this
def enumOf : List D → M (List D)
  | [.tup ds] => M.pure (numD 0 ds)
  | [d] => match frzL d with
    | some ds => M.pure (numD 0 ds)
    | none => bad
  | _ => bad
theorem walk_enumT {K : PySem.W.Frag} {a : Addr} {xs : List V} : Walk (IteT K a) xs.length (fun H => SqT K H a xs) (YPair (fun i => some (.int (i : Nat))) (fun i => xs[i]?)) where
  goes i H hi q := ⟨xs, xs[i]'hi, q, List.getElem?_eq_getElem _⟩
  stops H q := ⟨xs, q, rfl⟩
  yields i H v H' _ q := fun ⟨T, x, e1, e2, e3, ex⟩ => ⟨T, .int (i : Nat), x, e1, e2, e3, rfl, ex _ q⟩
theorem ym_num {K : PySem.W.Frag} {w : Wd} {xs : List V} {ds : List D} (r : RvL K w xs ds) : YM K w (numD 0 ds) (YPair (fun i => some (.int (i : Nat))) (fun i => xs[i]?)) := fun i H x H' w2 S2 l2 s2 hi y => by
  obtain ⟨T, u, v, rfl, hT, rfl, e1, e2⟩ := y
  obtain ⟨d2, hd2, rd2⟩ := (r.mono l2).getV e2
  cases e1
  have at' := numD_at 0 i ds d2 hd2
  rw [Nat.zero_add] at at'
  refine ⟨w2.lay T (.tup [.int (i : Nat), v]), _, s2.le_lay hT, s2.lay hT, at', .tup (.of (by show upd w2.G T _ T = _; rw [upd_same])) ((RvL.cons (.int _) (.cons rd2 .nil)).mono (s2.le_lay hT)), fun p o hp => ?_⟩
  have hne : p ≠ T := by rintro rfl; rw [hT] at hp; cases hp
  refine ⟨by rw [upd_ne hne]; exact hp, fun ho => ⟨?_, ho.f, ho.a⟩⟩
  show upd w2.G T _ p = none
  rw [upd_ne hne]
  exact ho.g
section
variable {X : Cx} {E : EK} {e : Expr} {ma : Env → M (List D)} {elts : List Expr} {kk : Nat} {tpos p pos : Pos}
def iEnu (m : Env → M (List D)) : Env → M (List D) := fun ρ => M.bind (m ρ) enumOf
def isT1 : List D → Bool
  | [.tup _] => true
  | _ => false
theorem tMa_cases {σ : L2.St} {H : Hp} {w : Wd} {S : Sto} {ρ : Env} {P : Wd → Sto → Hp → List D → Prop} (hs : Rs X.K w S H) (hn : Rn X.K w σ ρ) (h : Fin X.K E w (ma ρ S) P) {R R2 : List V → Hp → Prop}
    (q : List D → Bool) (k1 : ∀ w1 S1 H1 ds vs, q ds = true → Le w w1 → Rs X.K w1 S1 H1 → P w1 S1 H1 ds → RvL X.K w1 vs ds → R vs H1) (k2 : ∀ w1 S1 H1 ds vs, q ds = false → Le w w1 → Rs X.K w1 S1 H1 → P w1 S1 H1 ds → RvL X.K w1 vs ds → R2 vs H1) :
    tMa X.K E ma σ H R ∨ tMa X.K E ma σ H R2 := by
  rcases hm : ma ρ S with _ | ⟨x | d, S1⟩
  · rw [hm] at h; exact h.elim
  · exact .inl ⟨w, S, ρ, hs, hn, by rw [hm] at h ⊢; exact h⟩
  · rcases hp : q d with _ | _
    · exact .inr ⟨w, S, ρ, hs, hn, by rw [hm] at h ⊢; exact fun w1 H1 l1 s1 vs rv => k2 _ _ _ _ _ hp l1 s1 (h w1 H1 l1 s1) rv⟩
    · exact .inl ⟨w, S, ρ, hs, hn, by rw [hm] at h ⊢; exact fun w1 H1 l1 s1 vs rv => k1 _ _ _ _ _ hp l1 s1 (h w1 H1 l1 s1) rv⟩
theorem mi_enum (hg : Gl X "enumerate") (hm : X.mg "enumerate" = none) (ha : PA X [e] (tMa X.K E ma)) (hs : starEach [e] X.env = [(false, eval e X.env)] := by rfl) :
    PI X (.Tuple elts kk tpos) (.Call (.Name "enumerate" p) [e] [] pos) (tMi X.K E (iEnu ma)) :=
  pi_imp (pi_or (pi_enumT hg hm ha hs) (pi_enum hg hm ha hs)) fun σ H R ⟨w, S, ρ, hs, hn, h⟩ => tMa_cases hs hn h.bind isT1
    (fun w1 S1 H1 xs vs hp l1 s1 q rv => by
      rcases xs with _ | ⟨x, _ | ⟨y, t⟩⟩
      · cases hp
      · cases x with
        | tup ds =>
          obtain ⟨v, rfl, r1⟩ := args1 rv
          obtain ⟨a, ys, rfl, ry, gy⟩ := tupG_go r1
          have q := Fin.ok (a := numD 0 ds) q s1
          exact ⟨a, ys, rfl, gy _ _ _ (Le.refl _) s1, q _ (fun H => SqT X.K H a ys) _ (by rw [numD_len, ← ry.length]; exact walk_enumT) (fun w2 S2 H2 l s => gy _ _ _ l s) (ym_num ry)⟩
        | _ => cases hp
      · cases x <;> cases hp)
    (fun w1 S1 H1 xs vs hp l1 s1 q rv => by
      rcases xs with _ | ⟨x, _ | ⟨y, t⟩⟩
      · exact q.elim
      · obtain ⟨v, rfl, r1⟩ := args1 rv
        rcases hx : frzL x with _ | ds
        · cases x with
          | tup ds => exact absurd hp (by simp [isT1])
          | lst ds => exact absurd hx (by simp [frzL])
          | lsr ds => exact absurd hx (by simp [frzL])
          | _ => exact q.elim
        · obtain ⟨a, ys, rfl, ry, gy⟩ := frz_go r1 hx
          have e2 : enumOf [x] S1 = some (.ok (numD 0 ds), S1) := by
            cases x with
            | lst es => cases hx; rfl
            | lsr es => cases hx; rfl
            | _ => cases hx
          rw [e2] at q
          have q := Fin.ok (a := numD 0 ds) q s1
          exact ⟨a, ys, rfl, gy _ _ _ (Le.refl _) s1, q _ (fun H => SqL X.K H a ys) _ (by rw [numD_len, ← ry.length]; exact walk_enum) (fun w2 S2 H2 l s => gy _ _ _ l s) (ym_num ry)⟩
      · cases x <;> exact q.elim)
end
end Mi
namespace Mi
open PySem PySem.Spec PyProof.Rows L2
/-! ### == of a thing that is no text and a text -/
/-- a dict's own == has no word of a text -/
theorem dict_declines (l : Addr) (es : Array DictEntry) (ep : Nat) (b : Str) (u : Tok) :
    Meets (Builtin.«dict.__eq__» ⟨[.ref l, .str b u], []⟩) (fun _ R s => s.heap.get? l = some { cls := .type "dict", data := .dict es ep } ∧ R (.ok (.ret .notImplemented)) s) := by
  refine .of_wp ?_
  intro P0 w0 B0 R0 t0 k0
  rcases t0 with ⟨x1, x2, x3, x4, x5⟩
  rcases k0 with ⟨at0, end0⟩
  have no : isSubtype (.type "str") (.type "dict") = pure false := F.sub_str_dict
  wp_walk using wpAny_loadPart' at0, wpAny_load at0
  exact ⟨_, rfl, end0⟩
/-- nor has a text's of a dict -/
theorem str_declines_dict (b : Str) (u : Tok) (l : Addr) (es : Array DictEntry) (ep : Nat) :
    Meets (Builtin.«str.__eq__» ⟨[.str b u, .ref l], []⟩) (fun _ R s => s.heap.get? l = some { cls := .type "dict", data := .dict es ep } ∧ R (.ok (.ret .notImplemented)) s) := by
  refine .of_wp ?_
  intro P0 w0 B0 R0 t0 k0
  rcases t0 with ⟨x1, x2, x3, x4, x5⟩
  rcases k0 with ⟨at0, end0⟩
  wp_walk using wpAny_loadPart' at0, wpAny_load at0
  exact ⟨_, rfl, end0⟩
section
variable {A : Around} {s : Shared}
theorem rc_dict_str {l : Addr} {es : Array DictEntry} {ep : Nat} (b : Str) (u : Tok) (ho : s.heap.get? l = some { cls := .type "dict", data := .dict es ep }) (hu : A.units < cLine) : SeqAt.RcAt A s (.ref l) (.str b u) false := by
  intro P0 w0 E0 Q0 q0
  have dt : s.TypeIs (.ref l) "dict" := ⟨_, ho, rfl⟩
  have st : s.TypeIs (.str b u) "str" := typeIs_str s b u
  refine SeqAt.rc_eq_decline_or dt st (by decide) F.sub_str_dict F.slot_dict_eq F.slot_str_eq_refl ?_ ?_ ?_ (.inr hu) q0
  · exact fun _ k => call_meets F.slot_dict_eq dt F.entry_dict_eq (F.args_dict_eq_2 _ _) (dict_declines l es ep b u) ⟨ho, k⟩
  · exact fun _ k => call_meets F.slot_str_eq_refl st F.entry_str_eq (F.args_str_eq_2 _ _) (str_declines_dict b u l es ep) ⟨ho, k⟩
  · intro _ k
    have other : isSame (.ref l) (.str b u) = pure false := rfl
    exact wpAny_of_eq other k
end
section
variable {X : Cx}
def rUnl (K : PySem.W.Frag) : R2 := fun x y H Q => ∃ a z, x = .ref a ∧ y = .str z ∧ ((∃ xs, SqT K H a xs) ∨ (∃ xs, SqL K H a xs) ∨ ∃ kvs, H a = some (.dK kvs)) ∧ Q (.bl false) H
theorem op_eqUnl (hu : X.A.units < cLine) : OpR X (compareOp .Eq) (rUnl X.K) := fun pins s σ H x y v u Q I rx ry ⟨a, z, e1, e2, h, q⟩ => by
  subst e1 e2
  cases rx
  obtain ⟨t, rfl⟩ := ry
  rcases h with ⟨xs, h⟩ | ⟨xs, h⟩ | ⟨kvs, h⟩
  · obtain ⟨its, rv, p, _⟩ := I.tuple h
    exact SeqAt.RcAt.tuple_str z t p hu _ _ _ _ ⟨.bl false, H, I, rfl, q⟩
  · obtain ⟨its, rv, p, _⟩ := I.list h
    exact SeqAt.RcAt.list_str z t p.isList hu _ _ _ _ ⟨.bl false, H, I, rfl, q⟩
  · obtain ⟨_, ya, va, ra, da⟩ := (show ObjOk X.prog X.w H s.heap a (.dK kvs) from I.hok a _ h)
    obtain ⟨⟨cls, dd, data, sl⟩, es, ep, ho, ⟨c1, c2, c3⟩, hd, _⟩ := da
    simp only at c1 c2 c3 hd
    subst c1 c2 c3 hd
    exact rc_dict_str z t ho hu _ _ _ _ ⟨.bl false, H, I, rfl, q⟩
def rNeT0 (K : PySem.W.Frag) : R2 := fun x y H Q => ∃ a b xs, x = .ref a ∧ y = .ref b ∧ SqT K H a xs ∧ SqT K H b [] ∧ Q (.bl (!xs.isEmpty)) H
theorem op_neT0 (hu : X.A.units < cLine) : OpR X (compareOp .NotEq) (rNeT0 X.K) := fun pins s σ H x y v u Q I rx ry ⟨a, b, xs, e1, e2, h1, h2, q⟩ => by
  subst e1 e2
  cases rx
  cases ry
  obtain ⟨its, r1, p1, _⟩ := I.tuple h1
  obtain ⟨its2, r2, p2, _⟩ := I.tuple h2
  cases r2
  have e := SeqAt.RcNeAt.tuples (A := X.A) (e := fun _ => true) p1 p2 hu (fun j _ h => by simp at h)
  have e3 : (!((List.range (min its.toArray.size ([] : List Value).toArray.size)).all (fun _ => true) && its.toArray.size == ([] : List Value).toArray.size)) = !xs.isEmpty := by
    have := r1.length
    cases xs with
    | nil => cases r1; simp
    | cons x xs => cases r1; simp
  rw [e3] at e
  exact e _ _ _ _ ⟨.bl _, H, I, rfl, q⟩
end
/-- no text against a text -/
def unl : D → D → Bool
  | .tup _, .str _ => true
  | .lst _, .str _ => true
  | .lsr _, .str _ => true
  | .dct _, .str _ => true
  | _, _ => false
def eqX (x y : D) : M D := if unl x y = true then M.pure (.bl false) else eqM x y
theorem eqX_ok {K : PySem.W.Frag} : OpM K (fun x y H Q => rUnl K x y H Q ∨ rEqU K x y H Q) eqX := fun E w S H v u x y Q hs rv ru h => by
  by_cases hx : unl x y = true
  · unfold eqX at h
    rw [if_pos hx] at h
    have q : Q (.bl false) H := Fin.ok (P := fun w' _ H' d => ∀ z, Rv K w' z d → Q z H') h hs _ (.bl _)
    cases rv with
    | tup hG r => cases ru <;> first | (cases hx; done) | exact .inl ⟨_, _, rfl, rfl, .inl ⟨_, sqT_up hG (Le.refl w) hs⟩, q⟩
    | lst hG r => cases ru <;> first | (cases hx; done) | exact .inl ⟨_, _, rfl, rfl, .inr (.inl ⟨_, sqL_up (.of hG) (Le.refl w) hs⟩), q⟩
    | lsr hG r => cases ru <;> first | (cases hx; done) | exact .inl ⟨_, _, rfl, rfl, .inr (.inl ⟨_, sqL_up hG (Le.refl w) hs⟩), q⟩
    | dct hG r => cases ru <;> first | (cases hx; done) | exact .inl ⟨_, _, rfl, rfl, .inr (.inr ⟨_, hs.g _ _ hG⟩), q⟩
    | _ => cases hx
  · unfold eqX at h
    rw [if_neg hx] at h
    exact .inr (eqM_ok E w S H v u x y Q hs rv ru h)
theorem op_eqX {X : Cx} (hu : X.A.units + 64 < cLine) : OpR X (compareOp .Eq) (fun x y H Q => rUnl X.K x y H Q ∨ rEqU X.K x y H Q) := OpR.or (op_eqUnl (by omega)) (op_eqU hu)
def tup0 : D → D → Option Bool
  | .tup ds, .tup [] => some (!ds.isEmpty)
  | _, _ => none
def neX (x y : D) : M D := match tup0 x y with
  | some b => M.pure (.bl b)
  | none => neM x y
theorem neX_ok {K : PySem.W.Frag} : OpM K (fun x y H Q => rNeT0 K x y H Q ∨ rNeU K x y H Q) neX := fun E w S H v u x y Q hs rv ru h => by
  rcases hx : tup0 x y with _ | b
  · unfold neX at h
    rw [hx] at h
    exact .inr (neM_ok E w S H v u x y Q hs rv ru h)
  · unfold neX at h
    rw [hx] at h
    cases rv with
    | tup hG r =>
      cases ru with
      | tup hG2 r2 =>
        rename_i ds _ _ ds2
        cases ds2 with
        | nil =>
          cases hx
          cases r2
          have e : ∀ {vs : List V} {es : List D}, RvL K w vs es → vs.isEmpty = es.isEmpty := fun r => by cases r <;> rfl
          exact .inl ⟨_, _, _, rfl, rfl, sqT_up hG (Le.refl w) hs, sqT_up hG2 (Le.refl w) hs, by rw [e r]; exact Fin.ok (P := fun w' _ H' d => ∀ z, Rv K w' z d → Q z H') h hs _ (.bl _)⟩
        | cons _ _ => cases hx
      | _ => cases hx
    | _ => cases hx
theorem op_neX {X : Cx} (hu : X.A.units + 64 < cLine) : OpR X (compareOp .NotEq) (fun x y H Q => rNeT0 X.K x y H Q ∨ rNeU X.K x y H Q) := OpR.or (op_neT0 (by omega)) (op_neU hu)
end Mi
namespace Mi
open PySem PySem.Spec PyProof.Rows L2
/-! ### a dict of the module, its keys texts: x in T, x not in T, T[x] -/
structure KTab (K : PySem.W.Frag) (w : World) (d : Addr) (tbl : List (Str × D)) : Prop where
  kd : ∃ es n, KDict K w d es n
  has : ∀ z, (tbl.lookup z = none ∧ PySem.W.nsIn K d z = some none) ∨ ∃ e u v, tbl.lookup z = some e ∧ PySem.W.nsIn K d z = some (some u) ∧ RelV v u ∧ ∀ wd, Rv K wd v e
def EntsAre (K : PySem.W.Frag) : List DictEntry → List (Str × D) → Prop
  | [], [] => True
  | e :: es, (x, d) :: tbl => (∃ t, e.key = .str x t) ∧ (∃ v, RelV v e.val ∧ ∀ wd, Rv K wd v d) ∧ EntsAre K es tbl
  | _, _ => False
theorem ents_find {K : PySem.W.Frag} (z : Str) : ∀ {es : List DictEntry} {tbl : List (Str × D)}, EntsAre K es tbl →
    (tbl.lookup z = none ∧ es.find? (fun e => e.key.isStr z) = none ∧ es.any (fun e => e.refKey) = false) ∨
      ∃ e u v, tbl.lookup z = some e ∧ es.find? (fun e => e.key.isStr z) = some u ∧ RelV v u.val ∧ ∀ wd, Rv K wd v e
  | [], [], _ => .inl ⟨rfl, rfl, rfl⟩
  | e :: es, (x, d) :: tbl, ⟨⟨t, hk⟩, ⟨v, r, g⟩, more⟩ => by
    by_cases hz : x = z
    · subst hz
      refine .inr ⟨d, e, v, ?_, ?_, r, g⟩
      · simp [List.lookup]
      · simp [List.find?, hk, Value.isStr]
    · have h1 : (z == x) = false := beq_eq_false_iff_ne.2 fun h => hz h.symm
      have h2 : (x == z) = false := beq_eq_false_iff_ne.2 hz
      have h3 : e.key.isStr z = false := by rw [hk]; exact h2
      have h4 : e.refKey = false := by
        unfold DictEntry.refKey
        rw [hk]
      rcases ents_find z more with ⟨a, b, c⟩ | ⟨e2, u, v2, a, b, c, k⟩
      · exact .inl ⟨by simp [List.lookup, h1, a], by simp [List.find?, h3, b], by simp [h4, c]⟩
      · exact .inr ⟨e2, u, v2, by simp [List.lookup, h1, a], by simp [List.find?, h3, b], c, k⟩
  | [], _ :: _, h => h.elim
  | _ :: _, [], h => h.elim
theorem ktab_of {K : PySem.W.Frag} {w : World} {d : Addr} {es : Array DictEntry} {n : Nat} {tbl : List (Str × D)} (D : KDict K w d es n) (h : EntsAre K es.toList tbl) : KTab K w d tbl := by
  refine ⟨⟨es, n, D⟩, fun z => ?_⟩
  rcases ents_find z h with ⟨a, b, c⟩ | ⟨e, u, v, a, b, c, k⟩
  · refine .inl ⟨a, ?_⟩
    unfold PySem.W.nsIn
    rw [D.at_]
    simp only [b, c]
    rfl
  · refine .inr ⟨e, u.val, v, a, ?_, c, k⟩
    unfold PySem.W.nsIn
    rw [D.at_]
    simp only [b]
/-- a tuple of the module's texts -/
theorem rv_ktup {K : PySem.W.Frag} {a : Addr} {its : Array Value} {n : Nat} {o : Option Addr} {sl : Array (Option Value)} {ds : List D} (h : K.lookup a = some ⟨.type "tuple", o, .seq its n, sl⟩) (hl : its.size ≤ 1000)
    (hv : ∃ vs, Vals vs its.toList ∧ ∀ wd, RvL K wd vs ds) (wd : Wd) : Rv K wd (.ref a) (.tup ds) := by
  obtain ⟨vs, h1, h2⟩ := hv
  exact .tup (.inr ⟨_, _, _, h, rfl, rfl, Nat.le_trans hl (by decide), h1⟩) (h2 wd)
def kdIn (neg : Bool) (tbl : List (Str × D)) : D → M D
  | .str z => M.pure (.bl (if neg then !(tbl.lookup z).isSome else (tbl.lookup z).isSome))
  | _ => bad
def kdIx (tbl : List (Str × D)) : D → M D
  | .str z => match tbl.lookup z with
    | some d => M.pure d
    | none => bad
  | _ => bad
section
variable {X : Cx} {E : EK} {a : Expr} {m : Env → M D} {x : Str} {p pos : Pos} {tbl : List (Str × D)}
theorem kdIn_go {w : Wd} {S : Sto} {H : Hp} {v : V} {d : D} {neg : Bool} {c : Addr} {Q : VK} (T : KTab X.K X.w c tbl) (hs : Rs X.K w S H) (rv : Rv X.K w v d) (q : Fin X.K E w (kdIn neg tbl d S) fun w' _ H' d => ∀ v, Rv X.K w' v d → Q v H') :
    ∃ (z : Str) (r : Option Value), v = .str z ∧ PySem.W.nsIn X.K c z = some r ∧ Q (.bl (if neg then !r.isSome else r.isSome)) H := by
  cases d with
  | str z =>
    cases rv
    have q := Fin.ok (P := fun w' _ H' d => ∀ v, Rv X.K w' v d → Q v H') q hs _ (.bl _)
    rcases T.has z with ⟨e1, e2⟩ | ⟨e, u, v0, e1, e2, _, _⟩
    · rw [e1] at q
      exact ⟨z, _, rfl, e2, q⟩
    · rw [e1] at q
      exact ⟨z, _, rfl, e2, q⟩
  | _ => exact q.elim
theorem me_ninKd (hg : Gl X x) (hm : ∃ c, X.mg x = some (.ref c) ∧ KTab X.K X.w c tbl) (ha : PE X a (tM X.K E m)) (hd : (x == ("__debug__" : Str)) = false := by decide) :
    PE X (.Compare a [.NotIn] [.Name x p] pos) (tM X.K E (b1 (kdIn true tbl) m)) := by
  obtain ⟨c, hm, T⟩ := hm
  obtain ⟨es, n, D⟩ := T.kd
  refine pe_imp (pe_cmpR (op_notIn_kd D) ha (pe_glob (v := .ref c) hg hm rfl hd) (by rfl)) fun σ H Q ⟨w, S, ρ, hs, hn, h⟩ => ⟨w, S, ρ, hs, hn, h.bind.imp fun w1 S1 H1 d l1 s1 q v rv => ?_⟩
  obtain ⟨z, r, e1, e2, q⟩ := kdIn_go T s1 rv q
  exact ⟨z, r, e1, rfl, e2, q⟩
theorem mt_ninKd (hg : Gl X x) (hm : ∃ c, X.mg x = some (.ref c) ∧ KTab X.K X.w c tbl) (ha : PE X a (tM X.K E m)) (hd : (x == ("__debug__" : Str)) = false := by decide) :
    PT X (.Compare a [.NotIn] [.Name x p] pos) (tMt X.K E (tst (b1 (kdIn true tbl) m))) := by
  obtain ⟨c, hm, T⟩ := hm
  obtain ⟨es, n, D⟩ := T.kd
  refine pt_imp (pt_cmpR (op_notIn_kd D) ha (pe_glob (v := .ref c) hg hm rfl hd) (by rfl)) fun σ H Q ⟨w, S, ρ, hs, hn, h⟩ => ?_
  have h2 : Fin X.K E w (b1 (kdIn true tbl) m ρ S) fun w' _ H' d => ∀ v, Rv X.K w' v d → ∃ k, v = .bl k ∧ Q k H' := h.bind.imp fun w1 S1 H1 x l1 s1 h1 v rv => toB_go h1 s1 rv
  refine ⟨w, S, ρ, hs, hn, h2.bind.imp fun w1 S1 H1 d l1 s1 q v rv => ?_⟩
  obtain ⟨z, r, e1, e2, q⟩ := kdIn_go (Q := fun x H' => ∃ k, x = .bl k ∧ Q k H') T s1 rv q
  exact ⟨z, r, e1, rfl, e2, q⟩
theorem me_ixKd (hg : Gl X x) (hm : ∃ c, X.mg x = some (.ref c) ∧ KTab X.K X.w c tbl) (ha : PE X a (tM X.K E m)) (hs : PlainIx a) (hd : (x == ("__debug__" : Str)) = false := by decide) :
    PE X (.Subscript (.Name x p) a pos) (tM X.K E (b1 (kdIx tbl) m)) := by
  obtain ⟨c, hm, T⟩ := hm
  obtain ⟨es, n, D⟩ := T.kd
  refine pe_imp (pe_ix ix_kdict (pe_glob (v := .ref c) hg hm rfl hd) ha hs) fun σ H Q ⟨w, S, ρ, hs, hn, h⟩ => ⟨w, S, ρ, hs, hn, h.bind.imp fun w1 S1 H1 d l1 s1 q v rv => ?_⟩
  cases d with
  | str z =>
    cases rv
    rcases T.has z with ⟨e1, e2⟩ | ⟨e, u, v0, e1, e2, e3, e4⟩
    · simp only [kdIx, e1] at q
      exact q.elim
    · simp only [kdIx, e1] at q
      have q := Fin.ok (P := fun w' _ H' d => ∀ v, Rv X.K w' v d → Q v H') q s1 _ (e4 w1)
      exact ⟨c, z, v0, rfl, rfl, ⟨es, n, u, D.at_, D.lit, e2, e3⟩, q⟩
  | _ => exact q.elim
end
end Mi
namespace Mi
open PySem PySem.Spec PyProof.Rows L2
/-! ### a def taken out of a dict of the module, and called: g = T[x]; return g(..) -/
structure FTab (K : PySem.W.Frag) (w : World) (mg : Str → Option Value) (d : Addr) (tbl : List (Str × Str)) : Prop where
  kd : ∃ es n, KDict K w d es n
  has : ∀ z x, tbl.lookup z = some x → ∃ fa, PySem.W.nsIn K d z = some (some (.ref fa)) ∧ mg x = some (.ref fa)
def FEnts (mg : Str → Option Value) : List DictEntry → List (Str × Str) → Prop
  | [], [] => True
  | e :: es, (z, x) :: tbl => (∃ t, e.key = .str z t) ∧ (∃ fa, e.val = .ref fa ∧ mg x = some (.ref fa)) ∧ FEnts mg es tbl
  | _, _ => False
theorem fents_find {mg : Str → Option Value} {z x : Str} : ∀ {es : List DictEntry} {tbl : List (Str × Str)}, FEnts mg es tbl → tbl.lookup z = some x →
    ∃ u fa, es.find? (fun e => e.key.isStr z) = some u ∧ u.val = .ref fa ∧ mg x = some (.ref fa)
  | [], [], _, h => by cases h
  | e :: es, (y, d) :: tbl, ⟨⟨t, hk⟩, ⟨fa, hv, hm⟩, more⟩, h => by
    by_cases hz : y = z
    · subst hz
      have hd : d = x := by simpa [List.lookup] using h
      subst hd
      exact ⟨e, fa, by simp [List.find?, hk, Value.isStr], hv, hm⟩
    · have h1 : (z == y) = false := beq_eq_false_iff_ne.2 fun h => hz h.symm
      have h2 : (y == z) = false := beq_eq_false_iff_ne.2 hz
      have h3 : e.key.isStr z = false := by rw [hk]; exact h2
      obtain ⟨u, fa2, a, b, c⟩ := fents_find (z := z) (x := x) more (by simpa [List.lookup, h1] using h)
      exact ⟨u, fa2, by simp [List.find?, h3, a], b, c⟩
  | [], _ :: _, h, _ => h.elim
  | _ :: _, [], h, _ => h.elim
theorem ftab_of {K : PySem.W.Frag} {w : World} {mg : Str → Option Value} {d : Addr} {es : Array DictEntry} {n : Nat} {tbl : List (Str × Str)} (D : KDict K w d es n) (h : FEnts mg es.toList tbl) : FTab K w mg d tbl :=
  ⟨⟨es, n, D⟩, fun z x hx => by
    obtain ⟨u, fa, a, b, c⟩ := fents_find h hx
    refine ⟨fa, ?_, c⟩
    unfold PySem.W.nsIn
    rw [D.at_]
    simp only [a, b]⟩
inductive OkTab (P : Program) (w : World) (K : PySem.W.Frag) (mg : Str → Option Value) (base : Heap) (k n : Nat) : List (Str × Str) → List (Str × (List D → M D)) → Prop
  | nil : OkTab P w K mg base k n [] []
  | cons {z x : Str} {st : Stmt} {ps : List Str} {f : List D → M D} {k' : Nat} {t : List (Str × Str)} {fs : List (Str × (List D → M D))}
      (O : OkAt P w K mg base k' x st ps f) (hk : k' ≤ k) (hn : ps.length = n) (r : OkTab P w K mg base k n t fs) : OkTab P w K mg base k n ((z, x) :: t) ((z, f) :: fs)
theorem OkTab.at' {P : Program} {w : World} {K : PySem.W.Frag} {mg : Str → Option Value} {base : Heap} {k n : Nat} {z : Str} {f : List D → M D} : ∀ {t : List (Str × Str)} {fs : List (Str × (List D → M D))}, OkTab P w K mg base k n t fs → fs.lookup z = some f →
    ∃ x st ps k', t.lookup z = some x ∧ OkAt P w K mg base k' x st ps f ∧ k' ≤ k ∧ ps.length = n
  | _, _, .nil, h => by cases h
  | _, _, .cons (z := y) (x := x) (st := st) (ps := ps) (k' := k') O hk hn r, h => by
    by_cases hz : z = y
    · subst hz
      obtain rfl : _ = f := by simpa [List.lookup] using h
      exact ⟨x, st, ps, k', by simp [List.lookup], O, hk, hn⟩
    · have h1 : (z == y) = false := beq_eq_false_iff_ne.2 hz
      obtain ⟨x2, st2, ps2, k2, a, b, c, d⟩ := OkTab.at' r (by simpa [List.lookup, h1] using h)
      exact ⟨x2, st2, ps2, k2, by simp [List.lookup, h1, a], b, c, d⟩
def tHeld (i : Nat) (R : Addr → Sp → Prop) (t : TA) : TE := fun σ H Q => ∃ f sp, σ[i]? = some (some (.ref f)) ∧ R f sp ∧ t σ H fun vs H1 => sp vs H1 Q E0
section
variable {X : Cx} {k n i : Nat} {a e : Expr} {es : List Expr} {y T : Str} {p1 p2 p3 p4 p5 p6 p7 : Pos} {ta : TA}
def HeldBy (X : Cx) (k : Nat) (f : Addr) (sp : Sp) : Prop := ∃ k' fd ps, k' ≤ k ∧ FnOk X.prog X.w X.K X.mg X.base CX0 k' f fd ps sp ∧ PySem.W.keepIn X.K (.ref f) = true ∧ Binds X.K fd ps []
theorem pe_held (hr : Room k X.A) (hi : X.N[i]? = some y) (hv : Vis X.env.scope y) (ha : PA X (a :: es) ta) (hd : (y == ("__debug__" : Str)) = false := by decide) (hcd : (y == ("__classdict__" : Str)) = false := by decide)
    (h1 : starEach (a :: es) X.env = (false, eval a X.env) :: starEach es X.env := by rfl) (h2 : (backTo p6 (starEach es X.env)).any (·.1) = false := by rfl) : PE X (.Call (.Name y p5) (a :: es) [] p6) (tHeld i (HeldBy X k) ta) := by
  constructor
  intro pins s σ H Q I h
  obtain ⟨f, sp, hs, ⟨k', fd, ps, hk, F, kp, b⟩, ht⟩ := h
  have q : PE X (.Call (.Name y p5) (a :: es) [] p6) (tCallL i f sp [] E0 ta) := pe_callL F (hr.mono hk) hi hv kp b .nil pass0 ha hd hcd h1 h2
  refine q.run pins s σ H Q I ⟨hs, ?_⟩
  simp only [List.append_nil]
  exact ht
theorem Rn.free {K : PySem.W.Frag} {w : Wd} {σ : L2.St} {ρ : Env} (r : Rn K w σ ρ) (i : Nat) (v : V) : Rn K w (σ.set i (some v)) (ρ.set i none) := by
  refine ⟨by simp [r.len], fun j e hj => ?_⟩
  by_cases q : j = i
  · subst q
    have hl := (List.getElem?_eq_some_iff.mp hj).1
    rw [List.getElem?_set_self (by simpa using hl)] at hj
    cases hj
  · rw [List.getElem?_set_ne (Ne.symm q)] at hj ⊢
    exact r.at' j e hj
def sDisp (i n : Nat) (fs : List (Str × (List D → M D))) (mk : Env → M D) (ma : Env → M (List D)) : Env → M (Fl × Env) := fun ρ => M.bind (mk ρ) fun z => match z with
  | .str z => match fs.lookup z with
    | some f => if i < ρ.length then M.bind (ma (ρ.set i none)) fun xs => if xs.length = n then M.bind (f xs) fun d => M.pure (.rt d, ρ.set i none) else bad else bad
    | none => bad
  | _ => bad
theorem ms_disp {tbl : List (Str × Str)} {fs : List (Str × (List D → M D))} {mk : Env → M D} {ma : Env → M (List D)} (O : OkTab X.prog X.w X.K X.mg X.base k n tbl fs) (hr : Room k X.A) (hN : X.N.Nodup) (hi : X.N[i]? = some y) (hx : Loc X.env.scope y) (hv : Vis X.env.scope y)
    (hg : Gl X T) (hm : ∃ c, X.mg T = some (.ref c) ∧ FTab X.K X.w X.mg c tbl) (he : PE X e (tM X.K EK0 mk)) (ha : PA X (a :: es) (tMa X.K EK0 ma)) (hs : PlainIx e) (hT : (T == ("__debug__" : Str)) = false := by decide)
    (hd : (y == ("__debug__" : Str)) = false := by decide) (hcd : (y == ("__classdict__" : Str)) = false := by decide)
    (hsw : swapsWith (.Subscript (.Name T p2) e p3) (some (.Name y p1)) p4.line X.env = pure false := by rfl) (hf : X.fn y = true ∨ X.env.scope.names.lookup y = some .local := by first | exact .inl rfl | exact .inr rfl | assumption)
    (h1 : starEach (a :: es) X.env = (false, eval a X.env) :: starEach es X.env := by rfl) (h2 : (backTo p6 (starEach es X.env)).any (·.1) = false := by rfl) :
    PSs X [.Assign [.Name y p1] (.Subscript (.Name T p2) e p3) p4, .Return (some (.Call (.Name y p5) (a :: es) [] p6)) p7] (tMs X.K EK0 (sDisp i n fs mk ma)) := by
  obtain ⟨c, hm, F⟩ := hm
  obtain ⟨ds, m, D⟩ := F.kd
  refine pss_imp (pss_cons (ps_set hN hi hx (pe_ix ix_kdict (pe_glob (v := .ref c) hg hm rfl hT) he hs) hsw hf) (pss_cons (ps_ret (pe_held hr hi hv ha hd hcd h1 h2)) pss_nil)) fun Z σ H ⟨w, S, ρ, rs, rn, h⟩ => ?_
  refine ⟨w, S, ρ, rs, rn, h.bind.imp fun w1 S1 H1 z l1 s1 q v rv => ?_⟩
  cases z with
  | str z =>
    cases rv
    rcases hz : fs.lookup z with _ | f
    · simp only [hz] at q
      exact q.elim
    · simp only [hz] at q
      by_cases hl : i < ρ.length
      · rw [if_pos hl] at q
        obtain ⟨x, st, ps, k', t1, ⟨fa, fd, U, m1, b1, ok⟩, hk, hn⟩ := O.at' hz
        obtain ⟨fa2, n1, m2⟩ := F.has z x t1
        rw [m1] at m2
        cases m2
        refine ⟨c, z, .ref fa, rfl, rfl, ⟨ds, m, .ref fa, D.at_, D.lit, n1, rfl⟩, ?_⟩
        have hl' : i < σ.length := by rw [rn.len]; exact hl
        refine ⟨fa, _, List.getElem?_set_self hl', ⟨k', fd, ps, hk, ok, U.kp, b1⟩, ?_⟩
        refine ⟨w1, S1, ρ.set i none, s1, (rn.mono l1).free i _, q.bind.imp fun w2 S2 H2 xs l2 s2 q2 vs rvs => ?_⟩
        by_cases hx : xs.length = n
        · rw [if_pos hx] at q2
          exact ⟨by rw [rvs.length, hx, hn], w2, S2, xs, s2, rvs, q2.bind.imp fun w3 S3 H3 d l3 s3 q3 v rv => Fin.ok q3 s3 v rv⟩
        · rw [if_neg hx] at q2
          exact q2.elim
      · rw [if_neg hl] at q
        exact q.elim
  | _ => exact q.elim
end
end Mi
namespace Mi
open PySem PySem.Spec PyProof.Rows L2
/-! ### a for over a list that is a cell: looked at anew at each turn, its length as it was -/
def loopC (n len : Nat) (g : D → Env → M Env) (body : Env → M (Fl × Env)) : Nat → Env → M (Fl × Env)
  | 0, ρ => fun S => match S[n]? with
    | some (.lst ds) => if ds.length = len then some (.ok (.nx, ρ), S) else none
    | _ => none
  | k + 1, ρ => fun S => match S[n]? with
    | some (.lst ds) => if ds.length = len then (match ds[len - (k + 1)]? with
      | some d => (M.bind (g d ρ) fun ρ1 => M.bind (body ρ1) fun r => match r with
        | (.nx, ρ2) => loopC n len g body k ρ2
        | (.ct, ρ2) => loopC n len g body k ρ2
        | (.bk, ρ2) => M.pure (.nx, ρ2)
        | (.rt d, ρ2) => M.pure (.rt d, ρ2)) S
      | none => none) else none
    | _ => none
def sForC (m : Env → M D) (g : D → Env → M Env) (body : Env → M (Fl × Env)) : Env → M (Fl × Env) := fun ρ => M.bind (m ρ) fun x S => match x with
  | .ref n => match S[n]? with
    | some (.lst ds) => loopC n ds.length g body ds.length ρ S
    | _ => none
  | _ => none
section
variable {X : Cx} {E : EK} {tg l : Expr} {body : List Stmt} {pos : Pos} {m : Env → M D} {ms : Env → M (Fl × Env)} {g : D → Env → M Env}
theorem walkC {K : PySem.W.Frag} {a : Addr} {len : Nat} : Walk (Itl K a) len (fun H => ∃ xs, xs.length = len ∧ SqL K H a xs) (fun i H x H' => H' = H ∧ ∀ xs, SqL K H a xs → xs[i]? = some x) :=
  ⟨fun i _ hi ⟨xs, hl, q⟩ => ⟨xs, xs[i]'(by omega), q, by simp [hl, hi]⟩, fun _ ⟨xs, hl, q⟩ => ⟨xs, q, Nat.le_of_eq hl⟩, fun _ _ _ _ _ _ y => ⟨y.1, y.2⟩⟩
/-- what a turn knows of the cell -/
theorem loopC_len {E : EK} {K : PySem.W.Frag} {w : Wd} {n len k : Nat} {ρ : Env} {S : Sto} {P : Wd → Sto → Hp → Fl × Env → Prop} (h : Fin K E w (loopC n len g ms k ρ S) P) : ∃ ds, S[n]? = some (.lst ds) ∧ ds.length = len := by
  rcases hs : S[n]? with _ | (⟨ds⟩ | ⟨ds⟩ | ⟨C, ds⟩ | ⟨ds⟩)
  · cases k <;> simp only [loopC, hs] at h <;> exact h.elim
  rotate_left
  · cases k <;> simp only [loopC, hs] at h <;> exact h.elim
  · cases k <;> simp only [loopC, hs] at h <;> exact h.elim
  · cases k <;> simp only [loopC, hs] at h <;> exact h.elim
  · by_cases hl : ds.length = len
    · exact ⟨ds, rfl, hl⟩
    · cases k <;> simp only [loopC, hs, hl, if_false] at h <;> exact h.elim
theorem ms_forC (hp : PassesOwn (model X.prog X.w) X.A X.env X.xe) (hc : X.calm = true) (hl : PE X l (tM X.K E m)) (hg : PG X tg (gM X.K E g)) (hb : PSs X body (tMs X.K E ms)) (hfs : ∀ x, foldedSetIterable l X.env x = pure x := by intro _; rfl) :
    PS X (.For tg l body [] pos) (tMs X.K E (sForC m g ms)) := ps_imp (ps_for hp hc (pi_list hl) hg hb hfs) fun D σ H ⟨w, S, ρ, hs, hn, h⟩ => by
  refine ⟨w, S, ρ, hs, hn, h.bind.imp fun w1 S1 H1 x l1 s1 q v rv => ?_⟩
  cases x with
  | ref n =>
    cases rv with
    | ref hA =>
      rename_i a
      rcases hc1 : S1[n]? with _ | (⟨ds⟩ | ⟨ds⟩ | ⟨C, ds⟩ | ⟨ds⟩)
      · simp only [hc1] at q; exact q.elim
      rotate_left
      · simp only [hc1] at q; exact q.elim
      · simp only [hc1] at q; exact q.elim
      · simp only [hc1] at q; exact q.elim
      · simp only [hc1] at q
        obtain ⟨xs, hx, rx⟩ := s1.cell n a _ hA hc1
        refine ⟨a, rfl, ⟨xs, .inl (.inl hx)⟩, ?_⟩
        have hAt : ∀ w', Le w1 w' → w'.A[n]? = some a := fun w' l => by
          obtain ⟨more, e⟩ := l.a
          rw [e, List.getElem?_append_left (by exact (List.getElem?_eq_some_iff.1 hA).1)]
          exact hA
        refine for_it (walkC (K := X.K) (a := a) (len := ds.length)) (fun i σ' H' => ∃ w' S' ρ', Le w1 w' ∧ Rs X.K w' S' H' ∧ Rn X.K w' σ' ρ' ∧ Fin X.K E w' (loopC n ds.length g ms (ds.length - i) ρ' S') (Land X.K D)) ⟨w1, S1, ρ, Le.refl w1, s1, hn.mono l1, q⟩
          (fun i σ' H' _ ⟨w', S', ρ', l, s, _, q'⟩ => ?_) (fun i x σ' H2 H3 hi ⟨w', S', ρ', l, s, nn, q'⟩ y => ?_) (fun σ' H' p => ?_)
        · obtain ⟨es, he, hel⟩ := loopC_len q'
          obtain ⟨ys, h1, h2⟩ := s.cell n a _ (hAt w' l) he
          exact ⟨ys, by rw [h2.length]; exact hel, .inl (.inl h1)⟩
        · obtain ⟨es, he, hel⟩ := loopC_len q'
          obtain ⟨ys, h1, h2⟩ := s.cell n a _ (hAt w' l) he
          obtain ⟨rfl, y2⟩ := y
          have hx2 := y2 ys (.inl (.inl h1))
          obtain ⟨d, hd, rd⟩ := h2.getV hx2
          have ek : ds.length - i = (ds.length - (i + 1)) + 1 := by omega
          rw [ek] at q'
          have ei : ds.length - ((ds.length - (i + 1)) + 1) = i := by omega
          simp only [loopC, he, hel, if_true, ei, hd] at q'
          refine ⟨w', S', ρ', d, s, nn, rd, (Fin.bind q').imp fun w4 S4 H4 ρ1 l4 s4 q4 σ4 n4 => ⟨w4, S4, ρ1, s4, n4, q4.bind.imp fun w5 S5 H5 r l5 s5 q5 => ?_⟩⟩
          have ll : Le w1 w5 := l.trans (l4.trans l5)
          obtain ⟨fl, ρ2⟩ := r
          cases fl with
          | nx => exact fun σ5 n5 => ⟨w5, S5, ρ2, ll, s5, n5, q5⟩
          | ct => exact fun σ5 n5 => ⟨w5, S5, ρ2, ll, s5, n5, q5⟩
          | bk => exact fun σ5 n5 => Fin.ok q5 s5 σ5 n5
          | rt d => exact fun v rv => Fin.ok q5 s5 v rv
        · obtain ⟨w', S', ρ', l, s, nn, q'⟩ := p
          obtain ⟨es, he, hel⟩ := loopC_len q'
          rw [Nat.sub_self] at q'
          simp only [loopC, he, hel, if_true] at q'
          exact Fin.ok q' s σ' nn
  | _ => exact q.elim
end
end Mi
namespace Mi
open PySem PySem.Spec PyProof.Rows L2
/-! ### == of a tuple and the empty one -/
def rEqT0 (K : PySem.W.Frag) : R2 := fun x y H Q => ∃ a b xs, x = .ref a ∧ y = .ref b ∧ SqT K H a xs ∧ SqT K H b [] ∧ Q (.bl xs.isEmpty) H
theorem op_eqT0 {X : Cx} (hu : X.A.units < cLine) : OpR X (compareOp .Eq) (rEqT0 X.K) := fun pins s σ H x y v u Q I rx ry ⟨a, b, xs, e1, e2, h1, h2, q⟩ => by
  subst e1 e2
  cases rx
  cases ry
  obtain ⟨its, r1, p1, _⟩ := I.tuple h1
  obtain ⟨its2, r2, p2, _⟩ := I.tuple h2
  cases r2
  have e := SeqAt.RcAt.tuples (A := X.A) (e := fun _ => true) p1 p2 hu (fun j _ h => by simp at h)
  have e3 : ((List.range (min its.toArray.size ([] : List Value).toArray.size)).all (fun _ => true) && its.toArray.size == ([] : List Value).toArray.size) = xs.isEmpty := by
    cases xs with
    | nil => cases r1; simp
    | cons x xs => cases r1; simp
  rw [e3] at e
  exact e _ _ _ _ ⟨.bl _, H, I, rfl, q⟩
def eqY (x y : D) : M D := match tup0 x y with
  | some b => M.pure (.bl (!b))
  | none => eqX x y
theorem eqY_ok {K : PySem.W.Frag} : OpM K (fun x y H Q => rEqT0 K x y H Q ∨ rUnl K x y H Q ∨ rEqU K x y H Q) eqY := fun E w S H v u x y Q hs rv ru h => by
  rcases hx : tup0 x y with _ | b
  · unfold eqY at h
    rw [hx] at h
    exact .inr (eqX_ok E w S H v u x y Q hs rv ru h)
  · unfold eqY at h
    rw [hx] at h
    cases rv with
    | tup hG r =>
      cases ru with
      | tup hG2 r2 =>
        rename_i ds _ _ ds2
        cases ds2 with
        | nil =>
          cases hx
          cases r2
          have e : ∀ {vs : List V} {es : List D}, RvL K w vs es → vs.isEmpty = es.isEmpty := fun r => by cases r <;> rfl
          have q := Fin.ok (P := fun w' _ H' d => ∀ z, Rv K w' z d → Q z H') h hs _ (.bl _)
          rw [Bool.not_not] at q
          exact .inl ⟨_, _, _, rfl, rfl, sqT_up hG (Le.refl w) hs, sqT_up hG2 (Le.refl w) hs, by rw [e r]; exact q⟩
        | cons _ _ => cases hx
      | _ => cases hx
    | _ => cases hx
theorem op_eqY {X : Cx} (hu : X.A.units + 64 < cLine) : OpR X (compareOp .Eq) (fun x y H Q => rEqT0 X.K x y H Q ∨ rUnl X.K x y H Q ∨ rEqU X.K x y H Q) := OpR.or (op_eqT0 (by omega)) (op_eqX hu)
end Mi
namespace Mi
open PySem PySem.Spec PyProof.Rows L2
/-! ### dicts that change -/
section
variable {κ : Type} [DecidableEq κ]
def valD (kvs : List (κ × D)) (k : κ) : Option D := (kvs.find? fun p => decide (p.1 = k)).map (·.2)
def putD (kvs : List (κ × D)) (k : κ) (v : D) : List (κ × D) := if kvs.any (fun p => decide (p.1 = k)) then kvs.map (fun p => if p.1 = k then (p.1, v) else p) else kvs ++ [(k, v)]
theorem RvP.length {K : PySem.W.Frag} {w : Wd} : ∀ {vs : List (κ × V)} {ds : List (κ × D)}, RvP K w vs ds → vs.length = ds.length
  | _, _, .nil => rfl
  | _, _, .cons _ r => by simp [RvP.length r]
theorem RvP.val {K : PySem.W.Frag} {w : Wd} (k : κ) : ∀ {vs : List (κ × V)} {ds : List (κ × D)}, RvP K w vs ds → (valV vs k = none ∧ valD ds k = none) ∨ ∃ v d, valV vs k = some v ∧ valD ds k = some d ∧ Rv K w v d
  | _, _, .nil => .inl ⟨rfl, rfl⟩
  | (x, v) :: vs, (_, d) :: ds, .cons h r => by
    by_cases e : x = k
    · exact .inr ⟨v, d, by simp [valV, List.find?, e], by simp [valD, List.find?, e], h⟩
    · rcases RvP.val k r with ⟨a, b⟩ | ⟨v2, d2, a, b, c⟩
      · exact .inl ⟨by simpa [valV, List.find?, e] using a, by simpa [valD, List.find?, e] using b⟩
      · exact .inr ⟨v2, d2, by simpa [valV, List.find?, e] using a, by simpa [valD, List.find?, e] using b, c⟩
theorem RvP.any {K : PySem.W.Frag} {w : Wd} (k : κ) : ∀ {vs : List (κ × V)} {ds : List (κ × D)}, RvP K w vs ds → vs.any (fun p => decide (p.1 = k)) = ds.any (fun p => decide (p.1 = k))
  | _, _, .nil => rfl
  | _, _, .cons _ r => by simp [RvP.any k r]
theorem RvP.map {K : PySem.W.Frag} {w : Wd} {k : κ} {y : V} {e : D} (hy : Rv K w y e) : ∀ {vs : List (κ × V)} {ds : List (κ × D)}, RvP K w vs ds → RvP K w (vs.map fun p => if p.1 = k then (p.1, y) else p) (ds.map fun p => if p.1 = k then (p.1, e) else p)
  | _, _, .nil => .nil
  | (x, v) :: vs, (_, d) :: ds, .cons h r => by
    simp only [List.map_cons]
    by_cases q : x = k
    · simp only [q, if_true]; exact .cons hy (RvP.map hy r)
    · simp only [q, if_false]; exact .cons h (RvP.map hy r)
theorem RvP.snoc {K : PySem.W.Frag} {w : Wd} {k : κ} {y : V} {e : D} (hy : Rv K w y e) : ∀ {vs : List (κ × V)} {ds : List (κ × D)}, RvP K w vs ds → RvP K w (vs ++ [(k, y)]) (ds ++ [(k, e)])
  | _, _, .nil => .cons hy .nil
  | _, _, .cons h r => .cons h (RvP.snoc hy r)
theorem RvP.put {K : PySem.W.Frag} {w : Wd} {k : κ} {y : V} {e : D} (hy : Rv K w y e) {vs : List (κ × V)} {ds : List (κ × D)} (r : RvP K w vs ds) : RvP K w (putK vs k y) (putD ds k e) := by
  unfold L2.putK putD
  rw [r.any k]
  split
  · exact r.map hy
  · exact r.snoc hy
end
def keyOf : D → Option Key
  | .int i => some (.inl i)
  | .str x => some (.inr x)
  | _ => none
theorem keyOf_go {K : PySem.W.Frag} {w : Wd} {v : V} {d : D} {k : Key} (rv : Rv K w v d) (h : keyOf d = some k) : v = kV k := by
  cases rv <;> (try cases h) <;> rfl
/-- the dict at a cell -/
def dctAt (S : Sto) : D → Option (List (Key × D))
  | .ref n => match S[n]? with
    | some (.dct kvs) => some kvs
    | _ => none
  | _ => none
theorem dctAt_go {K : PySem.W.Frag} {w : Wd} {S : Sto} {H : Hp} {v : V} {d : D} {kvs : List (Key × D)} (hs : Rs K w S H) (rv : Rv K w v d) (h : dctAt S d = some kvs) : ∃ n a xs, d = .ref n ∧ v = .ref a ∧ w.A[n]? = some a ∧ H a = some (.dK xs) ∧ RvP K w xs kvs := by
  cases rv with
  | ref hA =>
    rename_i a n
    rcases hc : S[n]? with _ | (⟨ds⟩ | ⟨ds⟩ | ⟨C, ds⟩ | ⟨ds⟩)
    · simp only [dctAt, hc] at h; cases h
    · simp only [dctAt, hc] at h; cases h
    · simp only [dctAt, hc] at h
      cases h
      obtain ⟨xs, h1, h2⟩ := hs.cell n a _ hA hc
      exact ⟨n, a, xs, rfl, rfl, hA, h1, h2⟩
    · simp only [dctAt, hc] at h; cases h
    · simp only [dctAt, hc] at h; cases h
  | _ => cases h
section
variable {X : Cx} {E : EK} {o i a e : Expr} {m mo mi : Env → M D} {pos : Pos}
/-! x in d, x not in d -/
def rInK (neg : Bool) : R2 := fun x y H Q => ∃ a kvs k, x = kV k ∧ y = .ref a ∧ H a = some (.dK kvs) ∧ Q (.bl (if neg then !(valV kvs k).isSome else (valV kvs k).isSome)) H
theorem op_inK (hu : X.A.units + 1 < cLine) : OpR X (compareOp .In) (rInK false) := fun pins s σ H x y v u Q I rx ry ⟨a, kvs, k, e1, e2, h, q⟩ => by
  subst e1 e2
  cases ry
  exact d_in hu I (DGet.k h) rx fun s3 I3 => ⟨.bl _, H, I3, rfl, q⟩
theorem op_notInK (hu : X.A.units + 1 < cLine) : OpR X (compareOp .NotIn) (rInK true) := fun pins s σ H x y v u Q I rx ry ⟨a, kvs, k, e1, e2, h, q⟩ => by
  subst e1 e2
  cases ry
  exact d_notIn hu I (DGet.k h) rx fun s3 I3 => ⟨.bl _, H, I3, rfl, q⟩
def inD (neg : Bool) (x y : D) : M D := fun S => match dctAt S y with
  | some kvs => match keyOf x with
    | some k => some (.ok (.bl (if neg then !(valD kvs k).isSome else (valD kvs k).isSome)), S)
    | none => none
  | none => inB neg x y S
theorem inD_ok {K : PySem.W.Frag} {neg : Bool} : OpM K (fun x y H Q => rInK neg x y H Q ∨ rInU K neg x y H Q) (inD neg) := fun E w S H v u x y Q hs rv ru h => by
  rcases h1 : dctAt S y with _ | kvs
  · simp only [inD, h1] at h
    exact .inr (inB_ok E w S H v u x y Q hs rv ru h)
  · rcases h2 : keyOf x with _ | k
    · simp only [inD, h1, h2] at h; exact h.elim
    · simp only [inD, h1, h2] at h
      obtain ⟨n, a, xs, rfl, rfl, hA, hx, rx⟩ := dctAt_go hs ru h1
      have q := Fin.ok (P := fun w' _ H' d => ∀ z, Rv K w' z d → Q z H') h hs _ (.bl _)
      refine .inl ⟨a, xs, k, keyOf_go rv h2, rfl, hx, ?_⟩
      have e : (valV xs k).isSome = (valD kvs k).isSome := by
        rcases rx.val k with ⟨a, b⟩ | ⟨v2, d2, a, b, c⟩
        · rw [a, b]; rfl
        · rw [a, b]; rfl
      rw [e]
      exact q
theorem op_inDU (hu : X.A.units + 1 < cLine) : OpR X (compareOp .In) (fun x y H Q => rInK false x y H Q ∨ rInU X.K false x y H Q) := OpR.or (op_inK hu) op_inU
theorem op_ninDU (hu : X.A.units + 1 < cLine) : OpR X (compareOp .NotIn) (fun x y H Q => rInK true x y H Q ∨ rInU X.K true x y H Q) := OpR.or (op_notInK hu) op_ninU
/-! d[k] -/
def rIxK : R2 := fun x y H Q => ∃ a kvs k z, x = .ref a ∧ y = kV k ∧ H a = some (.dK kvs) ∧ valV kvs k = some z ∧ Q z H
theorem ix_dictK (hu : X.A.units + 1 < cLine) : IxR X rIxK := fun value slice pins s σ H x y v u Q I rx ry ⟨a, kvs, k, z, e1, e2, h, hz, q⟩ hs => by
  subst e1 e2
  obtain rfl : v = Value.ref a := rx
  have g : DGet H a (kV k) (some z) := by rw [← hz]; exact DGet.k h
  exact tail_any (dict_typeIs I g) PySem.F.slot_dict_getitem.lookup (d_getItem hu I g ry fun w' s3 I3 rw' => ⟨z, H, I3, rw', q⟩) hs
def ixD (x y : D) : M D := fun S => match dctAt S x with
  | some kvs => match keyOf y with
    | some k => match valD kvs k with
      | some d => some (.ok d, S)
      | none => none
    | none => none
  | none => ixM x y S
theorem ixD_ok {K : PySem.W.Frag} : OpM K (fun x y H Q => rIxK x y H Q ∨ rIx K x y H Q) ixD := fun E w S H v u x y Q hs rv ru h => by
  rcases h1 : dctAt S x with _ | kvs
  · simp only [ixD, h1] at h
    exact .inr (ixM_ok E w S H v u x y Q hs rv ru h)
  · rcases h2 : keyOf y with _ | k
    · simp only [ixD, h1, h2] at h; exact h.elim
    · rcases h3 : valD kvs k with _ | d
      · simp only [ixD, h1, h2, h3] at h; exact h.elim
      · simp only [ixD, h1, h2, h3] at h
        obtain ⟨n, a, xs, rfl, rfl, hA, hx, rx⟩ := dctAt_go hs rv h1
        rcases rx.val k with ⟨a, b⟩ | ⟨v2, d2, a2, b, c⟩
        · rw [h3] at b; cases b
        · rw [h3] at b
          cases b
          exact .inl ⟨a, xs, k, v2, rfl, keyOf_go ru h2, hx, a2, Fin.ok (P := fun w' _ H' d => ∀ z, Rv K w' z d → Q z H') h hs _ c⟩
theorem me_itemD (hu : X.A.units + 1 < cLine) (ha : PE X o (tM X.K E mo)) (hb : PE X i (tM X.K E mi)) (hs : PlainIx i) : PE X (.Subscript o i pos) (tM X.K E (b2 ixD mo mi)) := me_ix ((ix_dictK hu).or ix_seq) ixD_ok ha hb hs
/-! d[k] = v -/
def rSetK : TSet := fun o i v H Q => ∃ a kvs k, o = .ref a ∧ i = kV k ∧ H a = some (.dK kvs) ∧ kvs.length < sizeLine ∧ Q (upd H a (.dK (putK kvs k v)))
theorem set_dictK (hu : X.A.units + 1 < cLine) : PSet X rSetK := fun pins s σ H o i v ov iv u Q I ro ri ru ⟨a, kvs, k, e1, e2, h, hl, q⟩ => by
  subst e1 e2
  obtain rfl : ov = Value.ref a := ro
  exact d_setItem hu I (DPut.k h hl) ri ru fun s4 I4 => ⟨_, I4, q⟩
theorem PSet.or {t t' : TSet} (h : PSet X t) (h' : PSet X t') : PSet X (fun o i v H Q => t o i v H Q ∨ t' o i v H Q) := fun pins s σ H o i v ov iv u Q I ro ri ru q => by
  rcases q with q | q
  · exact h pins s σ H o i v ov iv u Q I ro ri ru q
  · exact h' pins s σ H o i v ov iv u Q I ro ri ru q
def putDM (o : D) (i : D) (v : D) (ρ : Env) : M Env := fun S => match o with
  | .ref n => match S[n]? with
    | some (.dct kvs) => match keyOf i with
      | some k => if kvs.length < 100000 then some (.ok ρ, S.set n (.dct (putD kvs k v))) else none
      | none => none
    | _ => putM o i v ρ S
  | _ => none
def gPutD (mo mi : Env → M D) : D → Env → M Env := fun v ρ => M.bind (mo ρ) fun o => M.bind (mi ρ) fun i => putDM o i v ρ
theorem mg_subD (hu : X.A.units + 1 < cLine) (ho : PE X o (tM X.K E mo)) (hi : PE X i (tM X.K E mi))
    (ha : ∀ v, assign (.Subscript o i pos) X.env v = (do
      let ov ← holding [v] (eval o X.env)
      let iv ← holding [v, ov] (eval i X.env)
      standAt pos
      holding [v, ov, iv] (setItem ov iv v)
      release [v, ov, iv] []) := by intro _; rfl) : PG X (.Subscript o i pos) (gM X.K E (gPutD mo mi)) :=
  pg_imp (pg_sub ho hi (Mi.PSet.or (set_dictK hu) set_list) ha) fun v σ H Q ⟨w, S, ρ, d, hs, hn, rv, h⟩ => ⟨w, S, ρ, hs, hn, h.bind.imp fun w1 S1 H1 x l1 s1 q ov ro => ⟨w1, S1, ρ, s1, hn.mono l1, q.bind.imp fun w2 S2 H2 y l2 s2 q iv ri => by
    have ro2 := ro.mono l2
    cases x with
    | ref n =>
      cases ro2 with
      | ref hA =>
        rename_i a
        rcases hc : S2[n]? with _ | (⟨ds⟩ | ⟨ds⟩ | ⟨C, ds⟩ | ⟨ds⟩)
        · have q : Fin X.K E w2 (putM (.ref n) y d ρ S2) (fun w' _ H' ρ' => ∀ σ', Rn X.K w' σ' ρ' → Q σ' H') := by simpa only [putDM, hc] using q
          have : putM (.ref n) y d ρ S2 = none := by cases y <;> simp [putM, hc]
          rw [this] at q
          exact q.elim
        · have q : Fin X.K E w2 (putM (.ref n) y d ρ S2) (fun w' _ H' ρ' => ∀ σ', Rn X.K w' σ' ρ' → Q σ' H') := by simpa only [putDM, hc] using q
          cases y with
          | int k =>
            cases ri
            rcases hj : ixN ds.length k with _ | j
            · simp only [putM, hc, hj] at q; exact q.elim
            · simp only [putM, hc, hj] at q
              obtain ⟨xs, h1, h2⟩ := s2.cell n _ _ hA hc
              refine .inr ⟨_, xs, k, j, rfl, rfl, h1, by rw [h2.length]; exact hj, ?_⟩
              exact q w2 _ (Le.refl w2) (s2.put hA h1 (by intro _ _ z; cases z) ⟨_, upd_same, h2.set (rv.mono (l1.trans l2)) j⟩) σ (hn.mono (l1.trans l2))
          | _ => exact q.elim
        · rcases hk : keyOf y with _ | k
          · simp only [putDM, hc, hk] at q; exact q.elim
          · by_cases hl : ds.length < 100000
            · simp only [putDM, hc, hk, hl, if_true] at q
              obtain ⟨xs, h1, h2⟩ := s2.cell n _ _ hA hc
              refine .inl ⟨a, xs, k, rfl, keyOf_go ri hk, h1, sz_lt (by rw [h2.length]; exact hl), ?_⟩
              exact q w2 _ (Le.refl w2) (s2.put hA h1 (by intro _ _ z; cases z) ⟨_, upd_same, h2.put (rv.mono (l1.trans l2))⟩) σ (hn.mono (l1.trans l2))
            · simp only [putDM, hc, hk, hl, if_false] at q; exact q.elim
        · have q : Fin X.K E w2 (putM (.ref n) y d ρ S2) (fun w' _ H' ρ' => ∀ σ', Rn X.K w' σ' ρ' → Q σ' H') := by simpa only [putDM, hc] using q
          have : putM (.ref n) y d ρ S2 = none := by cases y <;> simp [putM, hc]
          rw [this] at q
          exact q.elim
        · have q : Fin X.K E w2 (putM (.ref n) y d ρ S2) (fun w' _ H' ρ' => ∀ σ', Rn X.K w' σ' ρ' → Q σ' H') := by simpa only [putDM, hc] using q
          have : putM (.ref n) y d ρ S2 = none := by cases y <;> simp [putM, hc]
          rw [this] at q
          exact q.elim
    | _ => exact q.elim⟩⟩
/-! {} as a cell, len(d) -/
def newD : M D := fun S => some (.ok (.ref S.length), S ++ [.dct []])
theorem me_newD : PE X (.Dict [] [] pos) (tM X.K E fun _ => newD) := pe_imp pe_dnewK fun σ H Q ⟨w, S, ρ, hs, hn, h⟩ p hp => by
  have r := hs.add (p := p) (o := .dK []) (c := .dct []) hp ⟨[], upd_same, .nil⟩
  exact h (w.add p) _ le_add r _ (.ref (by show (w.A ++ [p])[S.length]? = some p; rw [← hs.len]; simp))
def lenD (d : D) : M D := fun S => match dctAt S d with
  | some kvs => some (.ok (.int (kvs.length : Int)), S)
  | none => lenM d S
theorem lenD_ok {K : PySem.W.Frag} : CaM K (fun xs H Q => (∃ a kvs, xs = [V.ref a] ∧ H a = some (.dK kvs) ∧ Q (.int kvs.length) H) ∨ ∃ x n, xs = [x] ∧ LenV K x H n ∧ Q (.int (n : Nat)) H) (on1 lenD) := on1_ok fun E w S H v x Q hs rv h => by
  rcases h1 : dctAt S x with _ | kvs
  · simp only [lenD, h1] at h
    exact .inr (lenM_ok E w S H [v] [x] Q hs (.one rv) h)
  · simp only [lenD, h1] at h
    obtain ⟨n, a, xs, rfl, rfl, hA, hx, rx⟩ := dctAt_go hs rv h1
    exact .inl ⟨a, xs, rfl, hx, Fin.ok (P := fun w' _ H' d => ∀ z, Rv K w' z d → Q z H') h hs _ (by rw [rx.length]; exact .int _)⟩
theorem call_lenDU : CallR X (.builtin "len") (fun xs H Q => (∃ a kvs, xs = [V.ref a] ∧ H a = some (.dK kvs) ∧ Q (.int kvs.length) H) ∨ ∃ x n, xs = [x] ∧ LenV X.K x H n ∧ Q (.int (n : Nat)) H) := CallR.or call_lenD call_len
end
end Mi
namespace Mi
open PySem PySem.Spec PyProof.Rows L2
/-! ### objects: a cell knows its class by the name -/
theorem ClN.inj {K : PySem.W.Frag} {c : Str} {C C' : Addr} (h : ClN K c C) (h' : ClN K c C') : C = C' := by
  have e := h.symm.trans h'
  injection e with e
  injection e with e
  injection e
def insAt (S : Sto) : D → Option (Str × List (Str × D))
  | .ref n => match S[n]? with
    | some (.ins c fs) => some (c, fs)
    | _ => none
  | _ => none
theorem insAt_go {K : PySem.W.Frag} {w : Wd} {S : Sto} {H : Hp} {v : V} {d : D} {c : Str} {fs : List (Str × D)} (hs : Rs K w S H) (rv : Rv K w v d) (h : insAt S d = some (c, fs)) :
    ∃ n a C dx xs, d = .ref n ∧ v = .ref a ∧ w.A[n]? = some a ∧ S[n]? = some (.ins c fs) ∧ ClN K c C ∧ H a = some (.ins C dx xs) ∧ RvP K w xs fs := by
  cases rv with
  | ref hA =>
    rename_i a n
    rcases hc : S[n]? with _ | (⟨ds⟩ | ⟨ds⟩ | ⟨x, ds⟩ | ⟨ds⟩)
    · simp only [insAt, hc] at h; cases h
    · simp only [insAt, hc] at h; cases h
    · simp only [insAt, hc] at h; cases h
    · simp only [insAt, hc] at h
      cases h
      obtain ⟨C, dx, xs, h0, h1, h2⟩ := hs.cell n a _ hA hc
      exact ⟨n, a, C, dx, xs, rfl, rfl, hA, hc, h0, h1, h2⟩
    · simp only [insAt, hc] at h; cases h
  | _ => cases h
theorem RvP.look {K : PySem.W.Frag} {w : Wd} (f : Str) : ∀ {vs : List (Str × V)} {ds : List (Str × D)}, RvP K w vs ds → (vs.lookup f = none ∧ ds.lookup f = none) ∨ ∃ v d, vs.lookup f = some v ∧ ds.lookup f = some d ∧ Rv K w v d
  | _, _, .nil => .inl ⟨rfl, rfl⟩
  | (x, v) :: vs, (_, d) :: ds, .cons h r => by
    rw [List.lookup_cons, List.lookup_cons]
    cases f == x with
    | true => exact .inr ⟨v, d, rfl, rfl, h⟩
    | false => exact RvP.look f r
def putFD (f : Str) (d : D) : List (Str × D) → List (Str × D)
  | [] => [(f, d)]
  | (g, x) :: r => if g = f then (g, d) :: r else (g, x) :: putFD f d r
theorem RvP.putF {K : PySem.W.Frag} {w : Wd} {f : Str} {y : V} {e : D} (hy : Rv K w y e) : ∀ {vs : List (Str × V)} {ds : List (Str × D)}, RvP K w vs ds → RvP K w (L2.putF f y vs) (putFD f e ds)
  | _, _, .nil => .cons hy .nil
  | (x, v) :: vs, (_, d) :: ds, .cons h r => by
    show RvP K w (if x = f then (x, y) :: vs else (x, v) :: L2.putF f y vs) (if x = f then (x, e) :: ds else (x, d) :: putFD f e ds)
    by_cases q : x = f
    · rw [if_pos q, if_pos q]; exact .cons hy r
    · rw [if_neg q, if_neg q]; exact .cons h (RvP.putF hy r)
/-- a field of objects of these classes -/
structure FldOf (K : PySem.W.Frag) (cs : List Str) (f : Str) : Prop where
  ex : ∀ c, c ∈ cs → ∀ C, ClN K c C → Cls K C ∧ NoAttr K C f
def fldM (cs : List Str) (f : Str) (x : D) : M D := fun S => match insAt S x with
  | some (c, fs) => if c ∈ cs then (match fs.lookup f with
    | some d => some (.ok d, S)
    | none => none) else none
  | none => none
def putFM (cs : List Str) (f : Str) (x d : D) (ρ : Env) : M (Fl × Env) := fun S => match x with
  | .ref n => match S[n]? with
    | some (.ins c fs) => if c ∈ cs ∧ fs.length < 1000 then some (.ok (.nx, ρ), S.set n (.ins c (putFD f d fs))) else none
    | _ => none
  | _ => none
def sFldM (cs : List Str) (f : Str) (mo mv : Env → M D) : Env → M (Fl × Env) := fun ρ => M.bind (mv ρ) fun d => M.bind (mo ρ) fun x => putFM cs f x d ρ
section
variable {X : Cx} {E : EK} {o e value : Expr} {m mo mv : Env → M D} {f : Str} {cs : List Str} {pos pos' : Pos}
/-- e.f -/
theorem me_fld (F : FldOf X.K cs f) (he : PE X e (tM X.K E m)) (hb : attributeBase e f X.env (eval e X.env) = eval e X.env := by rfl) : PE X (.Attribute e f pos) (tM X.K E (b1 (fldM cs f) m)) :=
  pe_imp (pe_fld he hb) fun σ H Q ⟨w, S, ρ, hs, hn, h⟩ => ⟨w, S, ρ, hs, hn, h.bind.imp fun w1 S1 H1 x l1 s1 q v rv => by
    rcases h1 : insAt S1 x with _ | ⟨c, fs⟩
    · simp only [fldM, h1] at q; exact q.elim
    · by_cases h2 : c ∈ cs
      · rcases h3 : fs.lookup f with _ | d
        · simp only [fldM, h1, h2, h3, if_true] at q; exact q.elim
        · simp only [fldM, h1, h2, h3, if_true] at q
          obtain ⟨n, a, C, dx, xs, rfl, rfl, hA, hS, hC, hx, rx⟩ := insAt_go s1 rv h1
          obtain ⟨k1, k2⟩ := F.ex c h2 C hC
          rcases rx.look f with ⟨_, b⟩ | ⟨v2, d2, a2, b, r2⟩
          · rw [h3] at b; cases b
          · rw [h3] at b
            cases b
            exact ⟨a, C, dx, xs, v2, rfl, hx, k1, k2, a2, Fin.ok (P := fun w' _ H' d => ∀ z, Rv X.K w' z d → Q z H') q s1 _ r2⟩
      · simp only [fldM, h1, h2, if_false] at q; exact q.elim⟩
/-- o.f = value -/
theorem ms_fld (F : FldOf X.K cs f) (ho : PE X o (tM X.K E mo)) (hv : PE X value (tM X.K E mv)) (hs : swapsWith value (some (.Attribute o f pos')) pos.line X.env = pure false := by rfl) :
    PS X (.Assign [.Attribute o f pos'] value pos) (tMs X.K E (sFldM cs f mo mv)) :=
  ps_imp (ps_fld ho hv hs) fun D σ H ⟨w, S, ρ, hs, hn, h⟩ => ⟨w, S, ρ, hs, hn, h.bind.imp fun w1 S1 H1 d l1 s1 q u ru => ⟨w1, S1, ρ, s1, hn.mono l1, q.bind.imp fun w2 S2 H2 x l2 s2 q2 v rv => by
    cases x with
    | ref n =>
      rcases hc : S2[n]? with _ | (⟨ds⟩ | ⟨ds⟩ | ⟨c, fs⟩ | ⟨ds⟩)
      · simp only [putFM, hc] at q2; exact q2.elim
      · simp only [putFM, hc] at q2; exact q2.elim
      · simp only [putFM, hc] at q2; exact q2.elim
      · by_cases h2 : c ∈ cs ∧ fs.length < 1000
        · simp only [putFM, hc] at q2
          rw [if_pos h2] at q2
          cases rv with
          | ref hA =>
            rename_i a
            obtain ⟨C, dx, xs, h0, hx, rx⟩ := s2.cell n a _ hA hc
            obtain ⟨k1, k2⟩ := F.ex c h2.1 C h0
            refine ⟨a, C, dx, xs, rfl, hx, k1, k2, by rw [rx.length]; exact h2.2, ?_⟩
            have s3 := s2.put (o := .ins C dx (L2.putF f u xs)) hA hx (by intro _ _ z; cases z) (c := .ins c (putFD f d fs)) ⟨C, dx, _, h0, upd_same, rx.putF (ru.mono l2)⟩
            exact q2 w2 _ (Le.refl w2) s3 σ (hn.mono (l1.trans l2))
        · simp only [putFM, hc] at q2
          rw [if_neg h2] at q2
          exact q2.elim
      · simp only [putFM, hc] at q2; exact q2.elim
    | _ => exact q2.elim⟩⟩
end
end Mi
namespace Mi
open PySem PySem.Spec PyProof.Rows L2
/-! ### objects made, methods called -/
def newI (c : Str) : M D := fun S => some (.ok (.ref S.length), S ++ [.ins c []])
/-- c(..): __init__ has n parameters, the object among them -/
def makM (c : Str) (n : Nat) (f : List D → M D) (m : Env → M (List D)) : Env → M D := fun ρ => M.bind (m ρ) fun xs => if xs.length + 1 = n then M.bind (newI c) fun o => M.bind (f (o :: xs)) fun r => match r with
  | .non => M.pure o
  | _ => bad else bad
def metM (c m : Str) (n : Nat) (f : List D → M D) (mo : Env → M D) (ma : Env → M (List D)) : Env → M D := fun ρ => M.bind (mo ρ) fun x => fun S => match insAt S x with
  | some (c', fs) => if c' = c ∧ (fs.lookup m).isNone then (M.bind (ma ρ) fun xs => if xs.length + 1 = n then f (x :: xs) else bad) S else none
  | none => none
section
variable {K : PySem.W.Frag} {w1 : Wd} {S1 : Sto} {H1 : Hp} {c : Str} {C x dx : Addr} {n : Nat} {f : List D → M D} {xs : List D} {vs : List V} {Q : VK} {E : XK}
theorem make_go (hC : ClN K c C) (s1 : Rs K w1 S1 H1) (rvs : RvL K w1 vs xs) (hl : xs.length + 1 = n)
    (h : Fin K EK0 w1 ((M.bind (newI c) fun o => M.bind (f (o :: xs)) fun r => match r with
      | .non => M.pure o
      | _ => bad) S1) fun w' _ H' d => ∀ v, Rv K w' v d → Q v H') (hx : H1 x = none) (hd : H1 dx = none) (ne : dx ≠ x) :
    spM K n f (.ref x :: (vs ++ [])) (upd (upd H1 dx (.own x)) x (.ins C dx [])) (fun v H2 => v = .non ∧ Q (.ref x) H2) E := by
  have r1 := s1.lay (p := dx) (o := .own x) hd
  have l1 := s1.le_lay (p := dx) (o := .own x) hd
  have hx1 : upd H1 dx (.own x) x = none := by rw [upd_ne (Ne.symm ne)]; exact hx
  have r2 := r1.add (p := x) (o := .ins C dx []) (c := .ins c []) hx1 ⟨C, dx, [], hC, upd_same, .nil⟩
  have l2 : Le w1 ((w1.lay dx (.own x)).add x) := l1.trans le_add
  have hA : ((w1.lay dx (.own x)).add x).A[S1.length]? = some x := by
    show (w1.A ++ [x])[S1.length]? = some x
    rw [← s1.len]
    simp
  have h2 : Fin K EK0 w1 ((M.bind (f (.ref S1.length :: xs)) fun r => match r with
      | .non => M.pure (D.ref S1.length)
      | _ => bad) (S1 ++ [.ins c []])) fun w' _ H' d => ∀ v, Rv K w' v d → Q v H' := h
  refine ⟨by rw [List.append_nil, List.length_cons, rvs.length, hl], _, _, .ref S1.length :: xs, r2, by rw [List.append_nil]; exact .cons (.ref hA) (rvs.mono l2), ?_⟩
  refine (h2.mono l2).bind.imp fun w3 S3 H3 r l3 s3 q v rv => ?_
  cases r with
  | non =>
    cases rv
    exact ⟨rfl, Fin.ok (P := fun w' _ H' d => ∀ v, Rv K w' v d → Q v H') q s3 _ (.ref (l3.v.at hA))⟩
  | _ => exact q.elim
end
/-- a class of the text, and its __init__ with what it promises -/
structure InitAt (P : Program) (w : World) (K : PySem.W.Frag) (mg : Str → Option Value) (base : Heap) (k : Nat) (c qual : Str) (st : Stmt) (ps : List Str) (f : List D → M D) : Prop where
  ex : ∃ (C fa : Addr) (fd : FuncData), ClN K c C ∧ mg c = some (.ref C) ∧ Mk K C fa ∧ Fun K "__init__" qual st fa fd ∧ Binds K fd ps [] ∧ FnOk P w K mg base CX0 k fa fd ps (spM K ps.length f)
structure IniAt (K : PySem.W.Frag) (mg : Str → Option Value) (c qual : Str) (st : Stmt) (ps : List Str) : Prop where
  ex : ∃ (C fa : Addr) (fd : FuncData), ClN K c C ∧ mg c = some (.ref C) ∧ Mk K C fa ∧ Fun K "__init__" qual st fa fd ∧ Binds K fd ps []
/-- a method of a class -/
structure OkMt (P : Program) (w : World) (K : PySem.W.Frag) (mg : Str → Option Value) (base : Heap) (k : Nat) (c m qual : Str) (st : Stmt) (ps : List Str) (f : List D → M D) : Prop where
  ex : ∃ (C fa : Addr) (fd : FuncData), ClN K c C ∧ Cls K C ∧ Meth K C m fa ∧ Fun K m qual st fa fd ∧ Binds K fd ps [] ∧ FnOk P w K mg base CX0 k fa fd ps (spM K ps.length f)
structure MtAt (K : PySem.W.Frag) (c m qual : Str) (st : Stmt) (ps : List Str) : Prop where
  ex : ∃ (C fa : Addr) (fd : FuncData), ClN K c C ∧ Cls K C ∧ Meth K C m fa ∧ Fun K m qual st fa fd ∧ Binds K fd ps []
section
variable {P : Program} {w : World} {K : PySem.W.Frag} {mg : Str → Option Value} {base : Heap} {c m qual : Str} {st : Stmt} {ps N : List Str} {k : Nat} {ms : Env → M (Fl × Env)}
theorem InitAt.of {n : Nat} (hn : N.length = n) (D : IniAt K mg c qual st ps) (sc : FnScope N ps (defScope st)) (hb : ∀ (fa : Addr) (cdv : Value) (A : Around) (outer : List PySem.Env) (s : Shared) (H : Hp) (E : XK), Room k (A.deeper (envOfC qual (defScope st) s.heap.objs.size fa cdv)) →
    PSs (cxOf CX0 P w K mg base N qual (defScope st) fa cdv A outer s H E).nox (defBody st) (tMs K EK0 ms)) : InitAt P w K mg base (k + 1) c qual st ps (runM n ms) := by
  subst hn
  obtain ⟨C, fa, fd, h1, h2, h3, F, b⟩ := D.ex
  exact ⟨C, fa, fd, h1, h2, h3, F, b, F.ok sc (spM_len rfl) fun cdv A outer s H vs Q E hr h => ⟨_, hb fa cdv A outer s H E hr, body_go h⟩⟩
theorem OkMt.of {n : Nat} (hn : N.length = n) (D : MtAt K c m qual st ps) (sc : FnScope N ps (defScope st)) (hb : ∀ (fa : Addr) (cdv : Value) (A : Around) (outer : List PySem.Env) (s : Shared) (H : Hp) (E : XK), Room k (A.deeper (envOfC qual (defScope st) s.heap.objs.size fa cdv)) →
    PSs (cxOf CX0 P w K mg base N qual (defScope st) fa cdv A outer s H E).nox (defBody st) (tMs K EK0 ms)) : OkMt P w K mg base (k + 1) c m qual st ps (runM n ms) := by
  subst hn
  obtain ⟨C, fa, fd, h1, h2, h3, F, b⟩ := D.ex
  exact ⟨C, fa, fd, h1, h2, h3, F, b, F.ok sc (spM_len rfl) fun cdv A outer s H vs Q E hr h => ⟨_, hb fa cdv A outer s H E hr, body_go h⟩⟩
end
section
variable {X : Cx} {a o : Expr} {es : List Expr} {mas : Env → M (List D)} {mo : Env → M D} {c m qual : Str} {p pos apos : Pos} {k : Nat} {st : Stmt} {ps : List Str} {f : List D → M D}
theorem mak_go {n : Nat} {C : Addr} (hC : ClN X.K c C) {σ : L2.St} {H : Hp} {Q : VK} (h : tM X.K EK0 (makM c n f mas) σ H Q) : tMake C (spM X.K n f) [] E0 (tMa X.K EK0 mas) σ H Q := by
  obtain ⟨w, S, ρ, hs, hn, h⟩ := h
  refine ⟨w, S, ρ, hs, hn, h.bind.imp fun w1 S1 H1 xs l1 s1 q vs rvs => ?_⟩
  by_cases hl : xs.length + 1 = n
  · rw [if_pos hl] at q
    exact fun x dx hx hd ne => make_go hC s1 rvs hl q hx hd ne
  · rw [if_neg hl] at q
    exact q.elim
theorem me_make {n : Nat} (O : InitAt X.prog X.w X.K X.mg X.base k c qual st ps f) (hr : Room (k + 1) X.A) (hg : Gl X c) (hn : ps.length = n) (ha : PA X (a :: es) (tMa X.K EK0 mas)) (hdb : (c == ("__debug__" : Str)) = false := by decide)
    (he : starEach (a :: es) X.env = (false, eval a X.env) :: starEach es X.env := by rfl) (hpl : (backTo pos (starEach es X.env)).any (·.1) = false := by rfl) : PE X (.Call (.Name c p) (a :: es) [] pos) (tM X.K EK0 (makM c n f mas)) := by
  subst hn
  obtain ⟨C, fa, fd, h1, h2, h3, F, b, ok⟩ := O.ex
  exact pe_imp (pe_make h3 ok hr hg h2 b .nil pass0 ha hdb he hpl) fun σ H Q h => mak_go h1 h
theorem me_make0 {n : Nat} (O : InitAt X.prog X.w X.K X.mg X.base k c qual st ps f) (hr : Room (k + 1) X.A) (hg : Gl X c) (hn : ps.length = n) (hdb : (c == ("__debug__" : Str)) = false := by decide) :
    PE X (.Call (.Name c p) [] [] pos) (tM X.K EK0 (makM c n f fun _ => M.pure [])) := by
  subst hn
  obtain ⟨C, fa, fd, h1, h2, h3, F, b, ok⟩ := O.ex
  refine pe_imp (pe_make0 h3 ok hr hg h2 b .nil pass0 hdb) fun σ H Q h => ?_
  obtain ⟨w, S, ρ, hs, hn, h⟩ := h
  by_cases hl : ([] : List D).length + 1 = ps.length
  · have q : Fin X.K EK0 w ((if ([] : List D).length + 1 = ps.length then M.bind (newI c) fun o => M.bind (f (o :: [])) fun r => match r with
      | .non => M.pure o
      | _ => bad else bad) S) fun w' _ H' d => ∀ v, Rv X.K w' v d → Q v H' := h
    rw [if_pos hl] at q
    exact fun x dx hx hd ne => make_go h1 hs .nil hl q hx hd ne
  · have q : Fin X.K EK0 w ((if ([] : List D).length + 1 = ps.length then M.bind (newI c) fun o => M.bind (f (o :: [])) fun r => match r with
      | .non => M.pure o
      | _ => bad else bad) S) fun w' _ H' d => ∀ v, Rv X.K w' v d → Q v H' := h
    rw [if_neg hl] at q
    exact q.elim
theorem met_go {nn : Nat} {C : Addr} (hC : ClN X.K c C) {σ : L2.St} {H : Hp} {Q : VK} {t : TA} (ht : ∀ σ H R, tMa X.K EK0 mas σ H R → t σ H R) (h : tM X.K EK0 (metM c m nn f mo mas) σ H Q) : tMeth C m (spM X.K nn f) [] E0 (tM X.K EK0 mo) t σ H Q := by
  obtain ⟨w, S, ρ, hs, hn, h⟩ := h
  refine ⟨w, S, ρ, hs, hn, h.bind.imp fun w1 S1 H1 x l1 s1 q v rv => ?_⟩
  rcases h1 : insAt S1 x with _ | ⟨c', fs⟩
  · simp only [h1] at q; exact q.elim
  · by_cases h2 : c' = c ∧ (fs.lookup m).isNone
    · simp only [h1] at q
      rw [if_pos h2] at q
      obtain ⟨h2, h3⟩ := h2
      subst h2
      obtain ⟨n, a, C', dx, xs, rfl, rfl, hA, hS, hC', hx, rx⟩ := insAt_go s1 rv h1
      obtain rfl := hC.inj hC'
      refine ⟨a, dx, xs, rfl, hx, ?_, ht _ _ _ ⟨w1, S1, ρ, s1, hn.mono l1, q.bind.imp fun w2 S2 H2 ys l2 s2 q2 vs rvs => ?_⟩⟩
      · rcases rx.look m with ⟨a2, _⟩ | ⟨v2, d2, a2, b, r2⟩
        · exact a2
        · rw [b] at h3; cases h3
      · by_cases hl : ys.length + 1 = nn
        · rw [if_pos hl] at q2
          exact ⟨by rw [List.append_nil, List.length_cons, rvs.length, hl], w2, S2, _, s2, by rw [List.append_nil]; exact .cons (rv.mono l2) rvs, q2⟩
        · rw [if_neg hl] at q2
          exact q2.elim
    · simp only [h1] at q
      rw [if_neg h2] at q
      exact q.elim
theorem me_meth {n : Nat} {pl : Sem Bool} (O : OkMt X.prog X.w X.K X.mg X.base k c m qual st ps f) (hr : Room k X.A) (hn : ps.length = n) (ho : PE X o (tM X.K EK0 mo)) (ha : PA X (a :: es) (tMa X.K EK0 mas))
    (hst : starEach (a :: es) X.env = (false, eval a X.env) :: starEach es X.env := by rfl) (hpl : (backTo pos (starEach es X.env)).any (·.1) = false := by rfl)
    (ht : eval (.Call (.Attribute o m apos) (a :: es) [] pos) X.env = (do
      let ov ← eval o X.env
      standAt apos.atName
      let (f, first) ← holding [ov] (getMethod ov m pl)
      callWith pos f first (backTo pos (starEach (a :: es) X.env)) (backToKw pos (keywordEach [] X.env))) := by rfl) :
    PE X (.Call (.Attribute o m apos) (a :: es) [] pos) (tM X.K EK0 (metM c m n f mo mas)) := by
  subst hn
  obtain ⟨C, fa, fd, h1, h2, h3, F, b, ok⟩ := O.ex
  exact pe_imp (pe_meth ho h2 h3 ok hr b .nil pass0 ha hst hpl ht) fun σ H Q h => met_go h1 (fun _ _ _ h => h) h
theorem me_meth0 {n : Nat} {pl : Sem Bool} (O : OkMt X.prog X.w X.K X.mg X.base k c m qual st ps f) (hr : Room k X.A) (hn : ps.length = n) (ho : PE X o (tM X.K EK0 mo))
    (ht : eval (.Call (.Attribute o m apos) [] [] pos) X.env = (do
      let ov ← eval o X.env
      standAt apos.atName
      let (f, first) ← holding [ov] (getMethod ov m pl)
      callWith pos f first (backTo pos (starEach [] X.env)) (backToKw pos (keywordEach [] X.env))) := by rfl) :
    PE X (.Call (.Attribute o m apos) [] [] pos) (tM X.K EK0 (metM c m n f mo fun _ => M.pure [])) := by
  subst hn
  obtain ⟨C, fa, fd, h1, h2, h3, F, b, ok⟩ := O.ex
  exact pe_imp (pe_meth0 ho h2 h3 ok hr b .nil pass0 ht) fun σ H Q h => met_go h1 (fun _ _ _ ⟨w, S, ρ, hs, hn, h⟩ => Fin.ok h hs _ .nil) h
/-! properties -/
structure OkPr (P : Program) (w : World) (K : PySem.W.Frag) (mg : Str → Option Value) (base : Heap) (k : Nat) (c m qual : Str) (st : Stmt) (f : List D → M D) : Prop where
  ex : ∃ (C p fa : Addr) (fd : FuncData), ClN K c C ∧ Cls K C ∧ PropOf K C m p fa ∧ Fun K m qual st fa fd ∧ Binds K fd ["self"] [] ∧ FnOk P w K mg base CX0 k fa fd ["self"] (spM K 1 f)
structure PrAt (K : PySem.W.Frag) (c m qual : Str) (st : Stmt) : Prop where
  ex : ∃ (C p fa : Addr) (fd : FuncData), ClN K c C ∧ Cls K C ∧ PropOf K C m p fa ∧ Fun K m qual st fa fd ∧ Binds K fd ["self"] []
theorem OkPr.of {P : Program} {w : World} {K : PySem.W.Frag} {mg : Str → Option Value} {base : Heap} {N : List Str} {ms : Env → M (Fl × Env)} {n : Nat} (hn : N.length = n) (D : PrAt K c m qual st) (sc : FnScope N ["self"] (defScope st)) (hb : ∀ (fa : Addr) (cdv : Value) (A : Around) (outer : List PySem.Env) (s : Shared) (H : Hp) (E : XK), Room k (A.deeper (envOfC qual (defScope st) s.heap.objs.size fa cdv)) →
    PSs (cxOf CX0 P w K mg base N qual (defScope st) fa cdv A outer s H E).nox (defBody st) (tMs K EK0 ms)) : OkPr P w K mg base (k + 1) c m qual st (runM n ms) := by
  subst hn
  obtain ⟨C, p, fa, fd, h1, h2, h3, F, b⟩ := D.ex
  exact ⟨C, p, fa, fd, h1, h2, h3, F, b, F.ok sc (spM_len rfl) fun cdv A outer s H vs Q E hr h => ⟨_, hb fa cdv A outer s H E hr, body_go h⟩⟩
def proM (c : Str) (f : List D → M D) (x : D) : M D := fun S => match insAt S x with
  | some (c', _) => if c' = c then f [x] S else none
  | none => none
theorem me_prop (O : OkPr X.prog X.w X.K X.mg X.base k c m qual st f) (hr : Room (k + 1) X.A) (ho : PE X o (tM X.K EK0 mo)) (hb : attributeBase o m X.env (eval o X.env) = eval o X.env := by rfl) : PE X (.Attribute o m pos) (tM X.K EK0 (b1 (proM c f) mo)) := by
  obtain ⟨C, p, fa, fd, h1, h2, h3, F, b, ok⟩ := O.ex
  refine pe_imp (pe_prop ho h2 h3 ok hr b .nil pass0 hb) fun σ H Q ⟨w, S, ρ, hs, hn, h⟩ => ⟨w, S, ρ, hs, hn, h.bind.imp fun w1 S1 H1 x l1 s1 q v rv => ?_⟩
  rcases k1 : insAt S1 x with _ | ⟨c', fs⟩
  · simp only [proM, k1] at q; exact q.elim
  · by_cases k2 : c' = c
    · subst k2
      simp only [proM, k1, if_true] at q
      obtain ⟨n, a, C', dx, xs, rfl, rfl, hA, hS, hC', hx, rx⟩ := insAt_go s1 rv k1
      obtain rfl := h1.inj hC'
      exact ⟨a, dx, xs, rfl, hx, rfl, w1, S1, _, s1, .one rv, q⟩
    · simp only [proM, k1, k2, if_false] at q; exact q.elim
end
end Mi
namespace Mi
open PySem PySem.Spec PyProof.Rows L2
/-! ### what is never reached; copies; x in an object -/
section
variable {X : Cx} {E : EK} {st : Stmt}
theorem ms_bad : PS X st (tMs X.K E fun _ => bad) := ⟨fun pins s σ H D I ⟨w, S, ρ, hs, hn, h⟩ => h.elim⟩
end
def dctC (d : D) : M D := fun S => match dctAt S d with
  | some kvs => some (.ok (.ref S.length), S ++ [.dct kvs])
  | none => none
def rDctC : List V → Hp → VK → Prop := fun xs H Q => ∃ (a : Addr) (kvs : List (Key × V)), xs = [.ref a] ∧ Rd H a (.dK kvs) ∧ ∀ p, H p = none → Q (.ref p) (upd H p (.dK kvs))
theorem dctC_ok {K : PySem.W.Frag} : CaM K rDctC (on1 dctC) := on1_ok fun E w S H v x Q hs rv h => by
  rcases h1 : dctAt S x with _ | kvs
  · simp only [dctC, h1] at h; exact h.elim
  · simp only [dctC, h1] at h
    obtain ⟨n, a, xs, rfl, rfl, hA, hx, rx⟩ := dctAt_go hs rv h1
    refine ⟨a, xs, rfl, .inl hx, fun p hp => ?_⟩
    have r := hs.add (p := p) (o := .dK xs) (c := .dct kvs) hp ⟨xs, upd_same, rx.monoV (le_add (w := w) (p := p)).v⟩
    exact h (w.add p) _ le_add r _ (.ref (by show (w.A ++ [p])[S.length]? = some p; rw [← hs.len]; simp))
def lstC (d : D) : M D := fun S => match asQ S d with
  | some ds => some (.ok (.ref S.length), S ++ [.lst ds])
  | none => none
theorem lstC_ok {K : PySem.W.Frag} : CaM K (fun xs H Q => ∃ p ys, xs = [.ref p] ∧ (SqL K H p ys ∨ SqT K H p ys) ∧ ∀ l, H l = none → Q (.ref l) (upd H l (.lst ys))) (on1 lstC) := on1_ok fun E w S H v x Q hs rv h => by
  rcases h1 : asQ S x with _ | ds
  · simp only [lstC, h1] at h; exact h.elim
  · simp only [lstC, h1] at h
    obtain ⟨a, xs, rfl, hq, rx⟩ := asQ_go hs rv h1
    refine ⟨a, xs, rfl, hq, fun p hp => ?_⟩
    have r := hs.add (p := p) (o := .lst xs) (c := .lst ds) hp ⟨xs, upd_same, rx.mono le_add⟩
    exact h (w.add p) _ le_add r _ (.ref (by show (w.A ++ [p])[S.length]? = some p; rw [← hs.len]; simp))
/-- the keys, in their order -/
def keysC (d : D) : M D := fun S => match dctAt S d with
  | some kvs => some (.ok (.lst (kvs.map fun p => kD p.1)), S)
  | none => none
theorem keys_rel {K : PySem.W.Frag} {w : Wd} : ∀ {vs : List (Key × V)} {ds : List (Key × D)}, RvP K w vs ds → RvL K w (vs.map fun kv => kV kv.1) (ds.map fun p => kD p.1)
  | _, _, .nil => .nil
  | _, _, .cons (x := x) _ r => .cons (by cases x with
    | inl i => exact .int i
    | inr z => exact .str z) (keys_rel r)
theorem keysC_ok {K : PySem.W.Frag} : CaM K (fun xs H Q => ∃ (a : Addr) (kvs : List (Key × V)), xs = [.ref a] ∧ Rd H a (.dK kvs) ∧ ∀ p, H p = none → Q (.ref p) (upd H p (.lst (kvs.map fun kv => kV kv.1)))) (on1 keysC) := on1_ok fun E w S H v x Q hs rv h => by
  rcases h1 : dctAt S x with _ | kvs
  · simp only [keysC, h1] at h; exact h.elim
  · simp only [keysC, h1] at h
    obtain ⟨n, a, xs, rfl, rfl, hA, hx, rx⟩ := dctAt_go hs rv h1
    exact ⟨a, xs, rfl, .inl hx, fun p hp => h _ _ (hs.le_lay hp) (hs.lay (o := .lst (xs.map fun kv => kV kv.1)) hp) _ (.lst (by show upd w.G p _ p = _; rw [upd_same]) (RvL.mono (hs.le_lay hp) (keys_rel rx)))⟩
/-! x in y, an object with a method of that -/
def inI (neg : Bool) (c : Str) (f : List D → M D) (x y : D) : M D := fun S => match insAt S y with
  | some (c', _) => if c' = c then M.bind (f [y, x]) (fun r => match r with
    | .bl b => M.pure (.bl (if neg then !b else b))
    | _ => bad) S else none
  | none => none
section
variable {X : Cx} {c qual : Str} {st : Stmt} {ps : List Str} {f : List D → M D} {k : Nat} {C fa : Addr} {fd : FuncData} {a b : Expr} {ma mb : Env → M D} {pos : Pos}
def rInI (neg : Bool) (C : Addr) (sp : Sp) : R2 := fun x y H Q => ∃ a dx fs, y = .ref a ∧ H a = some (.ins C dx fs) ∧ sp [y, x] H (fun r H' => ∃ b, r = .bl b ∧ Q (.bl (if neg then !b else b)) H') E0
theorem own_frame {pins : List (Addr × Obj)} {σ : L2.St} {H : Hp} {s : Shared} (I : Inv X pins σ H s) : ∃ m, Fr X.base X.env.locals s.heap m := by
  obtain ⟨m, nm, _⟩ := I.loc
  exact ⟨m, nm, I.bk, Nat.le_trans I.ok.bsz I.ok.above⟩
theorem op_inI (hm : Meth X.K C "__contains__" fa) (F : FnOk X.prog X.w X.K X.mg X.base CX0 k fa fd ps (spM X.K 2 f)) (hr : Room k X.A) (hb : Binds X.K fd ps []) : OpR X (compareOp .In) (rInI false C (spM X.K 2 f)) := by
  intro pins s σ H x y v u Q I rx ry ⟨a, dx, fs, e1, ea, q⟩
  subst e1
  obtain rfl : u = Value.ref a := ry
  obtain ⟨mA, OM, _⟩ := ins_get I.hok ea
  obtain ⟨od, J, _⟩ := OM.look
  obtain ⟨m, FR⟩ := own_frame I
  refine PySem.W.in_K FR I.ok.mod.kin J hm.at_ hm.fn (thn (run_fn (us := [.ref a, v]) (vs := [.ref a, x]) (E := E0) F hr hb .nil pass0 I (.cons rfl (.cons rx .nil)) q) ?_)
  intro r s1 ⟨z, H1, I1, rz, b, e, q1⟩
  subst e
  obtain rfl : r = Value.bool b := rz
  exact wpAny_truthy_bool ⟨.bl b, H1, I1, rfl, q1⟩
theorem op_notInI (hm : Meth X.K C "__contains__" fa) (F : FnOk X.prog X.w X.K X.mg X.base CX0 k fa fd ps (spM X.K 2 f)) (hr : Room k X.A) (hb : Binds X.K fd ps []) : OpR X (compareOp .NotIn) (rInI true C (spM X.K 2 f)) := by
  intro pins s σ H x y v u Q I rx ry ⟨a, dx, fs, e1, ea, q⟩
  subst e1
  obtain rfl : u = Value.ref a := ry
  obtain ⟨mA, OM, _⟩ := ins_get I.hok ea
  obtain ⟨od, J, _⟩ := OM.look
  obtain ⟨m, FR⟩ := own_frame I
  refine PySem.W.notIn_K FR I.ok.mod.kin J hm.at_ hm.fn (thn (run_fn (us := [.ref a, v]) (vs := [.ref a, x]) (E := E0) F hr hb .nil pass0 I (.cons rfl (.cons rx .nil)) q) ?_)
  intro r s1 ⟨z, H1, I1, rz, b, e, q1⟩
  subst e
  obtain rfl : r = Value.bool b := rz
  exact wpAny_truthy_bool ⟨.bl (!b), H1, I1, rfl, q1⟩
theorem inI_go {neg : Bool} {C : Addr} (hC : ClN X.K c C) {w : Wd} {S : Sto} {H : Hp} {v u : V} {x y : D} {Q : VK} (hs : Rs X.K w S H) (rv : Rv X.K w v x) (ru : Rv X.K w u y)
    (h : Fin X.K EK0 w (inI neg c f x y S) fun w' _ H' d => ∀ z, Rv X.K w' z d → Q z H') : rInI neg C (spM X.K 2 f) v u H Q := by
  rcases h1 : insAt S y with _ | ⟨c', fs⟩
  · simp only [inI, h1] at h; exact h.elim
  · by_cases h2 : c' = c
    · subst h2
      simp only [inI, h1, if_true] at h
      obtain ⟨n, a, C', dx, xs, rfl, rfl, hA, hS, hC', hx, rx⟩ := insAt_go hs ru h1
      obtain rfl := hC.inj hC'
      refine ⟨a, dx, xs, rfl, hx, rfl, w, S, _, hs, .cons ru (.cons rv .nil), h.bind.imp fun w1 S1 H1 r l1 s1 q z rz => ?_⟩
      cases r with
      | bl b =>
        cases rz
        exact ⟨b, rfl, Fin.ok (P := fun w' _ H' d => ∀ z, Rv X.K w' z d → Q z H') q s1 _ (.bl _)⟩
      | _ => exact q.elim
    · simp only [inI, h1, h2, if_false] at h; exact h.elim
theorem two0 {r : R2} {g : D → D → M D} (hf : ∀ (w : Wd) (S : Sto) (H : Hp) (v u : V) (x y : D) (Q : VK), Rs X.K w S H → Rv X.K w v x → Rv X.K w u y → Fin X.K EK0 w (g x y S) (fun w' _ H' d => ∀ z, Rv X.K w' z d → Q z H') → r v u H Q)
    {σ : L2.St} {H : Hp} {Q : VK} (h : tM X.K EK0 (b2 g ma mb) σ H Q) : tM X.K EK0 ma σ H fun x H1 => tM X.K EK0 mb σ H1 fun y H2 => r x y H2 Q := by
  obtain ⟨w, S, ρ, hs, hn, h⟩ := h
  exact ⟨w, S, ρ, hs, hn, h.bind.imp fun w1 S1 H1 x l1 s1 q v rv => ⟨w1, S1, ρ, s1, hn.mono l1, q.bind.imp fun w2 S2 H2 y l2 s2 q2 u ru => hf w2 S2 H2 v u x y Q s2 (rv.mono l2) ru q2⟩⟩
theorem me_inI (O : OkMt X.prog X.w X.K X.mg X.base k c "__contains__" qual st ps f) (hr : Room k X.A) (hn : ps.length = 2) (ha : PE X a (tM X.K EK0 ma)) (hb : PE X b (tM X.K EK0 mb)) (hm : behindInMarks .In b = false := by rfl) :
    PE X (.Compare a [.In] [b] pos) (tM X.K EK0 (b2 (inI false c f) ma mb)) := by
  obtain ⟨C, fa, fd, h1, h2, h3, F, bd, ok⟩ := O.ex
  rw [hn] at ok
  exact pe_imp (pe_cmpR (op_inI h3 ok hr bd) ha hb hm) fun σ H Q h => two0 (fun w S H v u x y Q hs rv ru q => inI_go h1 hs rv ru q) h
theorem me_ninI (O : OkMt X.prog X.w X.K X.mg X.base k c "__contains__" qual st ps f) (hr : Room k X.A) (hn : ps.length = 2) (ha : PE X a (tM X.K EK0 ma)) (hb : PE X b (tM X.K EK0 mb)) (hm : behindInMarks .NotIn b = false := by rfl) :
    PE X (.Compare a [.NotIn] [b] pos) (tM X.K EK0 (b2 (inI true c f) ma mb)) := by
  obtain ⟨C, fa, fd, h1, h2, h3, F, bd, ok⟩ := O.ex
  rw [hn] at ok
  exact pe_imp (pe_cmpR (op_notInI h3 ok hr bd) ha hb hm) fun σ H Q h => two0 (fun w S H v u x y Q hs rv ru q => inI_go h1 hs rv ru q) h
end
end Mi
namespace Mi
open PySem PySem.Spec PyProof.Rows L2
/-! ### promises by positional values: star parameters -/
def spR (K : PySem.W.Frag) (f : List D → M D) : Sp := fun vs H Q _ => ∃ w S ds, Rs K w S H ∧ RvL K w vs ds ∧ Fin K EK0 w (f ds S) fun w' _ H' d => ∀ v, Rv K w' v d → Q v H'
def fixM (n : Nat) (f : List D → M D) : List D → M D := fun ds => if ds.length = n then f ds else bad
def starM (n : Nat) (f : List D → M D) : List D → M D := fun ds => if n ≤ ds.length ∧ ds.length ≤ 100000 then f (ds.take n ++ [.tup (ds.drop n)]) else bad
theorem fix_go {K : PySem.W.Frag} {n : Nat} {f : List D → M D} (vs : List V) (H : Hp) (Q : VK) (E : XK) (h : spR K (fixM n f) vs H Q E) : spM K n f (vs ++ []) H Q E := by
  obtain ⟨w, S, ds, hs, rv, h⟩ := h
  by_cases hl : ds.length = n
  · simp only [fixM, hl, if_true] at h
    rw [List.append_nil]
    exact ⟨rv.length.trans hl, w, S, ds, hs, rv, h⟩
  · simp only [fixM, hl, if_false] at h
    exact h.elim
theorem star_go {K : PySem.W.Frag} {n : Nat} {f : List D → M D} (vs : List V) (H : Hp) (Q : VK) (E : XK) (h : spR K (starM n f) vs H Q E) :
    ∃ ws rest, vs = ws ++ rest ∧ ws.length = n ∧ rest.length ≤ sizeLine ∧ ∀ p, H p = none → spM K (n + 1) f (ws ++ [V.ref p]) (upd H p (.tup rest)) Q E := by
  obtain ⟨w, S, ds, hs, rv, h⟩ := h
  by_cases hl : n ≤ ds.length ∧ ds.length ≤ 100000
  · simp only [starM] at h
    rw [if_pos hl] at h
    have e := rv.length
    refine ⟨vs.take n, vs.drop n, (List.take_append_drop n vs).symm, by rw [List.length_take]; omega, sz_of (by rw [List.length_drop]; omega), fun p hp => ?_⟩
    have l := hs.le_lay (o := .tup (vs.drop n)) hp
    refine ⟨by rw [List.length_append, List.length_take]; simp only [List.length_singleton]; omega, _, S, _, hs.lay (o := .tup (vs.drop n)) hp, ((rv.take n).mono l).append (.one (.tup (.inl (.inl ?_)) ((rv.drop n).mono l))), h.mono l⟩
    show upd w.G p _ p = _
    rw [upd_same]
  · simp only [starM] at h
    rw [if_neg hl] at h
    exact h.elim
/-- a class that may be made, by what its __init__ promises of positional values -/
structure InitR (P : Program) (w : World) (K : PySem.W.Frag) (mg : Str → Option Value) (base : Heap) (k : Nat) (c : Str) (f : List D → M D) : Prop where
  ex : ∃ (C fa : Addr), ClN K c C ∧ mg c = some (.ref C) ∧ Mk K C fa ∧ FnR P w K mg base CX0 k fa (spR K f)
theorem InitAt.r {P : Program} {w : World} {K : PySem.W.Frag} {mg : Str → Option Value} {base : Heap} {k n : Nat} {c qual : Str} {st : Stmt} {ps : List Str} {f : List D → M D} (O : InitAt P w K mg base k c qual st ps f) (hn : ps.length = n) : InitR P w K mg base k c (fixM n f) := by
  subst hn
  obtain ⟨C, fa, fd, h1, h2, h3, F, b, ok⟩ := O.ex
  exact ⟨C, fa, h1, h2, h3, (ok.raw b .nil).imp fix_go⟩
/-- a class whose __init__ has a star parameter -/
structure StarAt (K : PySem.W.Frag) (mg : Str → Option Value) (c qual : Str) (st : Stmt) (ps : List Str) (pv : Str) : Prop where
  ex : ∃ (C fa : Addr) (fd : FuncData), ClN K c C ∧ mg c = some (.ref C) ∧ Mk K C fa ∧ Fun K "__init__" qual st fa fd ∧
    ∀ us rest : List Value, us.length = ps.length → bindArgs fd ⟨us ++ rest, []⟩ = (newTuple rest >>= fun t => pure (ps.zip us ++ [(pv, t)]))
theorem InitR.ofStar {P : Program} {w : World} {K : PySem.W.Frag} {mg : Str → Option Value} {base : Heap} {k n m : Nat} {c qual pv : Str} {st : Stmt} {ps N : List Str} {ms : Env → M (Fl × Env)} (hn : N.length = n) (hp : ps.length = m) (D : StarAt K mg c qual st ps pv) (sc : FnScope N (ps ++ [pv]) (defScope st))
    (hb : ∀ (fa : Addr) (cdv : Value) (A : Around) (outer : List PySem.Env) (s : Shared) (H : Hp) (E : XK), Room k (A.deeper (envOfC qual (defScope st) s.heap.objs.size fa cdv)) →
      PSs (cxOf CX0 P w K mg base N qual (defScope st) fa cdv A outer s H E).nox (defBody st) (tMs K EK0 ms)) : InitR P w K mg base (k + 1) c (starM m (runM n ms)) := by
  subst hn
  subst hp
  obtain ⟨C, fa, fd, h1, h2, h3, F, hbind⟩ := D.ex
  obtain ⟨oc, od, kV, doc, pm, an, cdv, ct, osl, rfl, lk, hcd⟩ := F.ex
  refine ⟨C, fa, h1, h2, h3, (StX.fn_star (sp := spM K (ps.length + 1) (runM N.length ms)) lk hcd sc StX.cxUp_none hbind fun A outer s H vs Q E hr h => ?_).imp star_go⟩
  exact ⟨_, (hb fa cdv A outer s H E hr).nox, body_go h⟩
/-- c(..), by positional values -/
def makR (c : Str) (f : List D → M D) (m : Env → M (List D)) : Env → M D := fun ρ => M.bind (m ρ) fun xs => M.bind (newI c) fun o => M.bind (f (o :: xs)) fun r => match r with
  | .non => M.pure o
  | _ => bad
section
variable {K : PySem.W.Frag} {w1 : Wd} {S1 : Sto} {H1 : Hp} {c : Str} {C x dx : Addr} {f : List D → M D} {xs : List D} {vs : List V} {Q : VK} {E : XK}
theorem make_goR (hC : ClN K c C) (s1 : Rs K w1 S1 H1) (rvs : RvL K w1 vs xs)
    (h : Fin K EK0 w1 ((M.bind (newI c) fun o => M.bind (f (o :: xs)) fun r => match r with
      | .non => M.pure o
      | _ => bad) S1) fun w' _ H' d => ∀ v, Rv K w' v d → Q v H') (hx : H1 x = none) (hd : H1 dx = none) (ne : dx ≠ x) :
    spR K f (.ref x :: vs) (upd (upd H1 dx (.own x)) x (.ins C dx [])) (fun v H2 => v = .non ∧ Q (.ref x) H2) E := by
  have r1 := s1.lay (p := dx) (o := .own x) hd
  have l1 := s1.le_lay (p := dx) (o := .own x) hd
  have hx1 : upd H1 dx (.own x) x = none := by rw [upd_ne (Ne.symm ne)]; exact hx
  have r2 := r1.add (p := x) (o := .ins C dx []) (c := .ins c []) hx1 ⟨C, dx, [], hC, upd_same, .nil⟩
  have l2 : Le w1 ((w1.lay dx (.own x)).add x) := l1.trans le_add
  have hA : ((w1.lay dx (.own x)).add x).A[S1.length]? = some x := by
    show (w1.A ++ [x])[S1.length]? = some x
    rw [← s1.len]
    simp
  have h2 : Fin K EK0 w1 ((M.bind (f (.ref S1.length :: xs)) fun r => match r with
      | .non => M.pure (D.ref S1.length)
      | _ => bad) (S1 ++ [.ins c []])) fun w' _ H' d => ∀ v, Rv K w' v d → Q v H' := h
  refine ⟨_, _, .ref S1.length :: xs, r2, .cons (.ref hA) (rvs.mono l2), ?_⟩
  refine (h2.mono l2).bind.imp fun w3 S3 H3 r l3 s3 q v rv => ?_
  cases r with
  | non =>
    cases rv
    exact ⟨rfl, Fin.ok (P := fun w' _ H' d => ∀ v, Rv K w' v d → Q v H') q s3 _ (.ref (l3.v.at hA))⟩
  | _ => exact q.elim
end
section
variable {X : Cx} {a : Expr} {es : List Expr} {mas : Env → M (List D)} {m : Env → M D} {c : Str} {p pos sp_ : Pos} {k : Nat} {f : List D → M D}
theorem me_makeR (O : InitR X.prog X.w X.K X.mg X.base k c f) (hr : Room (k + 1) X.A) (hg : Gl X c) (ha : PA X (a :: es) (tMa X.K EK0 mas)) (hdb : (c == ("__debug__" : Str)) = false := by decide)
    (he : starEach (a :: es) X.env = (false, eval a X.env) :: starEach es X.env := by rfl) (hpl : (backTo pos (starEach es X.env)).any (·.1) = false := by rfl) : PE X (.Call (.Name c p) (a :: es) [] pos) (tM X.K EK0 (makR c f mas)) := by
  obtain ⟨C, fa, h1, h2, h3, F⟩ := O.ex
  exact pe_imp (StX.pe_makeR (E := E0) h3 F hr hg h2 pass0 ha hdb he hpl) fun σ H Q ⟨w, S, ρ, hs, hn, h⟩ => ⟨w, S, ρ, hs, hn, h.bind.imp fun w1 S1 H1 xs l1 s1 q vs rvs x dx hx hd ne => make_goR h1 s1 rvs q hx hd ne⟩
theorem me_makeR0 (O : InitR X.prog X.w X.K X.mg X.base k c f) (hr : Room (k + 1) X.A) (hg : Gl X c) (hdb : (c == ("__debug__" : Str)) = false := by decide) :
    PE X (.Call (.Name c p) [] [] pos) (tM X.K EK0 (makR c f fun _ => M.pure [])) := by
  obtain ⟨C, fa, h1, h2, h3, F⟩ := O.ex
  refine ⟨fun pins s σ H Q I ⟨w, S, ρ, hs, hn, h⟩ => wpAny_Call_Name_kw (ld_glob I hg h2 ?_ hdb)⟩
  exact PySem.W.callWith_K0 I.kIn h3.kp (StX.run_makeR (us := []) (vs := []) (E := E0) h3 F hr pass0 I .nil fun x dx hx hd ne => make_goR h1 hs .nil h hx hd ne)
/-- c(*e) -/
def makS (c : Str) (f : List D → M D) (m : Env → M D) : Env → M D := fun ρ => M.bind (m ρ) fun y => fun S => match asQ S y with
  | some xs => (M.bind (newI c) fun o => M.bind (f (o :: xs)) fun r => match r with
    | .non => M.pure o
    | _ => bad) S
  | none => none
theorem me_makeS (O : InitR X.prog X.w X.K X.mg X.base k c f) (hr : Room (k + 1) X.A) (hg : Gl X c) (ha : PE X a (tM X.K EK0 m)) (hdb : (c == ("__debug__" : Str)) = false := by decide)
    (hst : starEach [.Starred a sp_] X.env = [(true, eval a X.env)] := by rfl) : PE X (.Call (.Name c p) [.Starred a sp_] [] pos) (tM X.K EK0 (makS c f m)) := by
  obtain ⟨C, fa, h1, h2, h3, F⟩ := O.ex
  refine ⟨fun pins s σ H Q I ⟨w, S, ρ, hs, hn, h⟩ => wpAny_Call_Name_kw (ld_glob I hg h2 ?_ hdb)⟩
  refine PySem.W.callWith_S (h₀ := X.base) I.ok.mod.kin h3.kp (thn (ha.run pins s σ H _ I ⟨w, S, ρ, hs, hn, h.bind.imp fun w1 S1 H1 y l1 s1 q v rv => (show ∃ w S, Rs X.K w S H1 ∧ ∃ b ys zs, v = V.ref b ∧ (SqT X.K H1 b ys ∨ SqL X.K H1 b ys) ∧ RvL X.K w ys zs ∧ Fin X.K EK0 w ((M.bind (newI c) fun o => M.bind (f (o :: zs)) fun r => match r with
      | .non => M.pure o
      | _ => bad) S) fun w' _ H' d => ∀ v, Rv X.K w' v d → Q v H' from ?_)⟩) fun v s1 ⟨y, H1, I1, ry, w, S, hs, b, ys, zs, ey, hq, rvs, q⟩ => ?_) hst
  · rcases k1 : asQ S1 y with _ | zs
    · simp only [k1] at q; exact q.elim
    · simp only [k1] at q
      obtain ⟨b, ys, rfl, hq, rx⟩ := asQ_go s1 rv k1
      exact ⟨w1, S1, s1, b, ys, zs, rfl, hq.symm, rx, q⟩
  · subst ey
    obtain rfl : v = Value.ref b := ry
    exact StX.star_any I1 hq fun us s2 I2 rv => ⟨I2.kIn, StX.run_makeR (E := E0) h3 F hr pass0 I2 rv fun x dx hx hd ne => make_goR h1 hs rvs q hx hd ne⟩
end
end Mi
namespace Mi
open PySem PySem.Spec PyProof.Rows L2
/-! ### tests by an object's own in; while -/
section
variable {X : Cx} {c qual : Str} {st : Stmt} {ps : List Str} {f : List D → M D} {k : Nat} {a b : Expr} {ma mb : Env → M D} {pos : Pos}
theorem mt_inI (O : OkMt X.prog X.w X.K X.mg X.base k c "__contains__" qual st ps f) (hr : Room k X.A) (hn : ps.length = 2) (ha : PE X a (tM X.K EK0 ma)) (hb : PE X b (tM X.K EK0 mb)) (hm : behindInMarks .In b = false := by rfl) :
    PT X (.Compare a [.In] [b] pos) (tMt X.K EK0 (tst (b2 (inI false c f) ma mb))) := by
  obtain ⟨C, fa, fd, h1, h2, h3, F, bd, ok⟩ := O.ex
  rw [hn] at ok
  refine pt_imp (pt_cmpR (op_inI h3 ok hr bd) ha hb hm) fun σ H Q ⟨w, S, ρ, hs, hn, h⟩ => ?_
  exact two0 (fun w S H v u x y Q hs rv ru q => inI_go h1 hs rv ru q) ⟨w, S, ρ, hs, hn, h.bind.imp fun w1 S1 H1 x l1 s1 h1 v rv => toB_go h1 s1 rv⟩
theorem mt_ninI (O : OkMt X.prog X.w X.K X.mg X.base k c "__contains__" qual st ps f) (hr : Room k X.A) (hn : ps.length = 2) (ha : PE X a (tM X.K EK0 ma)) (hb : PE X b (tM X.K EK0 mb)) (hm : behindInMarks .NotIn b = false := by rfl) :
    PT X (.Compare a [.NotIn] [b] pos) (tMt X.K EK0 (tst (b2 (inI true c f) ma mb))) := by
  obtain ⟨C, fa, fd, h1, h2, h3, F, bd, ok⟩ := O.ex
  rw [hn] at ok
  refine pt_imp (pt_cmpR (op_notInI h3 ok hr bd) ha hb hm) fun σ H Q ⟨w, S, ρ, hs, hn, h⟩ => ?_
  exact two0 (fun w S H v u x y Q hs rv ru q => inI_go h1 hs rv ru q) ⟨w, S, ρ, hs, hn, h.bind.imp fun w1 S1 H1 x l1 s1 h1 v rv => toB_go h1 s1 rv⟩
end
/-- at most n turns -/
def whM (t : Env → M Bool) (body : Env → M (Fl × Env)) : Nat → Env → M (Fl × Env)
  | 0 => fun _ => bad
  | n + 1 => fun ρ => M.bind (t ρ) fun b => if b = true then M.bind (body ρ) fun r => match r with
    | (.nx, ρ2) => whM t body n ρ2
    | (.ct, ρ2) => whM t body n ρ2
    | (.bk, ρ2) => M.pure (.nx, ρ2)
    | (.rt d, ρ2) => M.pure (.rt d, ρ2) else M.pure (.nx, ρ)
section
variable {X : Cx} {E : EK} {c : Expr} {body : List Stmt} {pos : Pos} {t : Env → M Bool} {ms : Env → M (Fl × Env)}
theorem ms_while {n : Nat} (hp : PassesOwn (model X.prog X.w) X.A X.env X.xe) (hc : PT X c (tMt X.K E t)) (hb : PSs X body (tMs X.K E ms)) : PS X (.While c body [] pos) (tMs X.K E (whM t ms n)) :=
  ps_imp (ps_while hp hc hb) fun D σ H h => by
    refine ⟨fun m σ H => ∃ w S ρ, Rs X.K w S H ∧ Rn X.K w σ ρ ∧ Fin X.K E w (whM t ms m ρ S) (Land X.K D), ⟨n, h⟩, fun m σ H ⟨w, S, ρ, hs, hn, h⟩ => ?_⟩
    cases m with
    | zero => exact h.elim
    | succ m =>
      refine ⟨w, S, ρ, hs, hn, h.bind.imp fun w1 S1 H1 b l1 s1 q => ?_⟩
      by_cases hb : b = true
      · rw [if_pos hb] at q ⊢
        refine ⟨_, fun σ' H' z => ⟨m, Nat.lt_succ_self m, z⟩, w1, S1, ρ, s1, hn.mono l1, q.bind.imp fun w2 S2 H2 r l2 s2 q2 => ?_⟩
        obtain ⟨fl, ρ2⟩ := r
        cases fl with
        | nx => exact fun σ' n' => ⟨w2, S2, ρ2, s2, n', q2⟩
        | ct => exact fun σ' n' => ⟨w2, S2, ρ2, s2, n', q2⟩
        | bk => exact fun σ' n' => Fin.ok q2 s2 σ' n'
        | rt d => exact fun v rv => Fin.ok q2 s2 v rv
      · rw [if_neg hb] at q ⊢
        exact Fin.ok q s1 σ (hn.mono l1)
end
end Mi
namespace Mi
open PySem PySem.Spec PyProof.Rows L2
/-! ### methods with keyword-only parameters that have defaults: without any keyword, or with all of them in their order -/
structure OkMd (P : Program) (w : World) (K : PySem.W.Frag) (mg : Str → Option Value) (base : Heap) (k : Nat) (c m : Str) (n : Nat) (ks : List Str) (dd : List D) (f : List D → M D) : Prop where
  ex : ∃ (C fa : Addr) (fd : FuncData) (ps : List Str) (dvs : List V) (ds : List Value), ClN K c C ∧ Cls K C ∧ Meth K C m fa ∧ Binds K fd ps ds ∧ Vals dvs ds ∧ (∀ w, RvL K w dvs dd) ∧ KBn K fd ps n ks (fun us ws => us ++ ws) (fun vs zs => vs ++ zs) ∧
    ps.length = n + ks.length ∧ dd.length = ks.length ∧ FnOk P w K mg base CX0 k fa fd ps (spM K ps.length f)
structure MdAt (K : PySem.W.Frag) (c m qual : Str) (st : Stmt) (ps : List Str) (n : Nat) (ks : List Str) (dd : List D) : Prop where
  ex : ∃ (C fa : Addr) (fd : FuncData) (dvs : List V) (ds : List Value) (kws : List (Str × V)), ClN K c C ∧ Cls K C ∧ Meth K C m fa ∧ Binds K fd ps ds ∧ Vals dvs ds ∧ (∀ w, RvL K w dvs dd) ∧ KBn K fd ps n ks (fun us ws => us ++ ws) (fun vs zs => vs ++ zs) ∧
    ps.length = n + ks.length ∧ dd.length = ks.length ∧ FunD K m qual (defArgs st) (defBody st) (defScope st) [] kws fa fd
theorem OkMd.of {P : Program} {w : World} {K : PySem.W.Frag} {mg : Str → Option Value} {base : Heap} {c m qual : Str} {st : Stmt} {ps N ks : List Str} {dd : List D} {k n j : Nat} {ms : Env → M (Fl × Env)} (hn : N.length = j) (D : MdAt K c m qual st ps n ks dd) (sc : FnScope N ps (defScope st))
    (hb : ∀ (fa : Addr) (cdv : Value) (A : Around) (outer : List PySem.Env) (s : Shared) (H : Hp) (E : XK), Room k (A.deeper (envOfC qual (defScope st) s.heap.objs.size fa cdv)) →
      PSs (cxOf CX0 P w K mg base N qual (defScope st) fa cdv A outer s H E).nox (defBody st) (tMs K EK0 ms)) : OkMd P w K mg base (k + 1) c m n ks dd (runM j ms) := by
  subst hn
  obtain ⟨C, fa, fd, dvs, ds, kws, h1, h2, h3, b, hv, hd, kb, l1, l2, F⟩ := D.ex
  exact ⟨C, fa, fd, ps, dvs, ds, h1, h2, h3, b, hv, hd, kb, l1, l2, F.ok sc (spM_len rfl) fun cdv A outer s H vs Q E hr h => ⟨_, (hb fa cdv A outer s H E hr).nox, body_go h⟩⟩
/-- o.m(.., k = v, ..) -/
def metK (c m : Str) (n j : Nat) (f : List D → M D) (mo : Env → M D) (ma mk : Env → M (List D)) : Env → M D := fun ρ => M.bind (mo ρ) fun x => fun S => match insAt S x with
  | some (c', fs) => if c' = c ∧ (fs.lookup m).isNone then (M.bind (ma ρ) fun xs => M.bind (mk ρ) fun zs => if xs.length + 1 = n ∧ zs.length = j then f (x :: xs ++ zs) else bad) S else none
  | none => none
section
variable {X : Cx} {a o : Expr} {es : List Expr} {kws : List Keyword} {mas mk : Env → M (List D)} {mo : Env → M D} {c m : Str} {p pos apos : Pos} {k n : Nat} {ks : List Str} {dd : List D} {f : List D → M D}
theorem met_goD {nn j : Nat} {C : Addr} {dvs : List V} (hC : ClN X.K c C) (hd : ∀ w, RvL X.K w dvs dd) (hj : dd.length = j) {σ : L2.St} {H : Hp} {Q : VK} {t : TA} (ht : ∀ σ H R, tMa X.K EK0 mas σ H R → t σ H R) (h : tM X.K EK0 (metM c m nn (fun xs => f (xs ++ dd)) mo mas) σ H Q) :
    tMeth C m (spM X.K (nn + j) f) dvs E0 (tM X.K EK0 mo) t σ H Q := by
  obtain ⟨w, S, ρ, hs, hn, h⟩ := h
  refine ⟨w, S, ρ, hs, hn, h.bind.imp fun w1 S1 H1 x l1 s1 q v rv => ?_⟩
  rcases h1 : insAt S1 x with _ | ⟨c', fs⟩
  · simp only [h1] at q; exact q.elim
  · by_cases h2 : c' = c ∧ (fs.lookup m).isNone
    · simp only [h1] at q
      rw [if_pos h2] at q
      obtain ⟨h2, h3⟩ := h2
      subst h2
      obtain ⟨n, a, C', dx, xs, rfl, rfl, hA, hS, hC', hx, rx⟩ := insAt_go s1 rv h1
      obtain rfl := hC.inj hC'
      refine ⟨a, dx, xs, rfl, hx, ?_, ht _ _ _ ⟨w1, S1, ρ, s1, hn.mono l1, q.bind.imp fun w2 S2 H2 ys l2 s2 q2 vs rvs => ?_⟩⟩
      · rcases rx.look m with ⟨a2, _⟩ | ⟨v2, d2, a2, b, r2⟩
        · exact a2
        · rw [b] at h3; cases h3
      · by_cases hl : ys.length + 1 = nn
        · rw [if_pos hl] at q2
          exact ⟨by rw [List.length_cons, List.length_append, rvs.length, (hd w2).length]; omega, w2, S2, _, s2, .cons (rv.mono l2) (rvs.append (hd w2)), q2⟩
        · rw [if_neg hl] at q2
          exact q2.elim
    · simp only [h1] at q
      rw [if_neg h2] at q
      exact q.elim
theorem me_md {pl : Sem Bool} (O : OkMd X.prog X.w X.K X.mg X.base k c m n ks dd f) (hr : Room k X.A) (ho : PE X o (tM X.K EK0 mo)) (ha : PA X (a :: es) (tMa X.K EK0 mas))
    (hst : starEach (a :: es) X.env = (false, eval a X.env) :: starEach es X.env := by rfl) (hpl : (backTo pos (starEach es X.env)).any (·.1) = false := by rfl)
    (ht : eval (.Call (.Attribute o m apos) (a :: es) [] pos) X.env = (do
      let ov ← eval o X.env
      standAt apos.atName
      let (f, first) ← holding [ov] (getMethod ov m pl)
      callWith pos f first (backTo pos (starEach (a :: es) X.env)) (backToKw pos (keywordEach [] X.env))) := by rfl) :
    PE X (.Call (.Attribute o m apos) (a :: es) [] pos) (tM X.K EK0 (metM c m n (fun xs => f (xs ++ dd)) mo mas)) := by
  obtain ⟨C, fa, fd, ps, dvs, ds, h1, h2, h3, b, hv, hd, kb, l1, l2, ok⟩ := O.ex
  rw [l1] at ok
  exact pe_imp (pe_meth ho h2 h3 ok hr b hv pass0 ha hst hpl ht) fun σ H Q h => met_goD h1 hd l2 (fun _ _ _ h => h) h
theorem me_mdK {pl : Sem Bool} {j : Nat} (O : OkMd X.prog X.w X.K X.mg X.base k c m n ks dd f) (hr : Room k X.A) (hj : ks.length = j) (ho : PE X o (tM X.K EK0 mo)) (ha : PA X (a :: es) (tMa X.K EK0 mas)) (hkw : PK X kws (tMa X.K EK0 mk))
    (hall : (backToKw pos (keywordEach kws X.env)).all (·.1.isSome) = true := by rfl) (hks : (backToKw pos (keywordEach kws X.env)).filterMap (·.1) = ks := by rfl)
    (hst : starEach (a :: es) X.env = (false, eval a X.env) :: starEach es X.env := by rfl)
    (hpl : ((backTo pos (starEach (a :: es) X.env)).any (·.1) || (backToKw pos (keywordEach kws X.env)).any (·.1.isNone)) = false := by rfl)
    (ht : eval (.Call (.Attribute o m apos) (a :: es) kws pos) X.env = (do
      let ov ← eval o X.env
      standAt apos.atName
      let (f, first) ← holding [ov] (getMethod ov m pl)
      callWith pos f first (backTo pos (starEach (a :: es) X.env)) (backToKw pos (keywordEach kws X.env))) := by rfl) :
    PE X (.Call (.Attribute o m apos) (a :: es) kws pos) (tM X.K EK0 (metK c m n j f mo mas mk)) := by
  subst hj
  obtain ⟨C, fa, fd, ps, dvs, ds, h1, h2, h3, b, hv, hd, kb, l1, l2, ok⟩ := O.ex
  rw [l1] at ok
  refine ⟨fun pins s σ H Q I ⟨w, S, ρ, hs, hn, h⟩ => ?_⟩
  refine PySem.W.methodCall_KW (pl := pl) (thn (ho.run pins s σ H _ I ⟨w, S, ρ, hs, hn, h.bind.imp fun w1 S1 H1 x l1 s1 q v rv => (show ∃ w S x, Rs X.K w S H1 ∧ Rn X.K w σ ρ ∧ Rv X.K w v x ∧ Fin X.K EK0 w ((match insAt S x with
      | some (c', fs) => if c' = c ∧ (fs.lookup m).isNone then (M.bind (mas ρ) fun xs => M.bind (mk ρ) fun zs => if xs.length + 1 = n ∧ zs.length = ks.length then f (x :: xs ++ zs) else bad) S else none
      | none => none) : Option (Except Exn D × Sto)) (fun w' _ H' d => ∀ v, Rv X.K w' v d → Q v H') from ⟨w1, S1, x, s1, hn.mono l1, rv, q⟩)⟩) fun u s1 ⟨v, H1, I1, rx, w1, S1, x, hs1, hn1, rv, q⟩ => ?_) ht
  rcases k1 : insAt S1 x with _ | ⟨c', fs⟩
  · simp only [k1] at q; exact q.elim
  · by_cases k2 : c' = c ∧ (fs.lookup m).isNone
    · simp only [k1] at q
      rw [if_pos k2] at q
      obtain ⟨k2, k3⟩ := k2
      subst k2
      obtain ⟨nn, b', C', dx, xs, rfl, rfl, hA, hS, hC', hx, rx2⟩ := insAt_go hs1 rv k1
      obtain rfl := h1.inj hC'
      obtain rfl : u = Value.ref b' := rx
      have hno : xs.lookup m = none := by
        rcases rx2.look m with ⟨a2, _⟩ | ⟨v2, d2, a2, b2, r2⟩
        · exact a2
        · rw [b2] at k3; cases k3
      refine getmeth_ok I1 hx h2 h3 hno ?_
      refine PySem.W.callWith_KW (first := [.ref b']) (h₀ := X.base) I1.ok.mod.kin h3.kp hall (thn (ha.run pos pins s1 σ H1 _ I1 ⟨w1, S1, ρ, hs1, hn1, q.bind.imp fun w2 S2 H2 ys l2 s2 q2 vs rvs => (show ∃ w S ys, Rs X.K w S H2 ∧ Rn X.K w σ ρ ∧ Rv X.K w (.ref b') (.ref nn) ∧ RvL X.K w vs ys ∧ Fin X.K EK0 w ((M.bind (mk ρ) fun zs => if ys.length + 1 = n ∧ zs.length = ks.length then f (.ref nn :: ys ++ zs) else bad) S) (fun w' _ H' d => ∀ v, Rv X.K w' v d → Q v H') from ⟨w2, S2, ys, s2, hn1.mono l2, rv.mono l2, rvs, q2⟩)⟩) fun us s2 ⟨vs, H2, I2, r2, w2, S2, ys, hs2, hn2, rv2, rvs, q2⟩ => ?_) hpl hst
      refine thn (hkw.run pos pins s2 σ H2 _ I2 ⟨w2, S2, ρ, hs2, hn2, q2.bind.imp fun w3 S3 H3 zs l3 s3 q3 vz rz => (show ∃ w S zs, Rs X.K w S H3 ∧ RvL X.K w (.ref b' :: vs) (.ref nn :: ys) ∧ RvL X.K w vz zs ∧ Fin X.K EK0 w ((if ys.length + 1 = n ∧ zs.length = ks.length then f (.ref nn :: ys ++ zs) else bad) S) (fun w' _ H' d => ∀ v, Rv X.K w' v d → Q v H') from ⟨w3, S3, zs, s3, .cons (rv2.mono l3) (rvs.mono l3), rz, q3⟩)⟩) fun ws s3 ⟨vz, H3, I3, rz0, w3, S3, zs, hs3, rvs3, rz, q3⟩ => ⟨I3.kIn, ?_⟩
      rw [hks]
      by_cases hl : ys.length + 1 = n ∧ zs.length = ks.length
      · rw [if_pos hl] at q3
        have e1 := rvs3.length
        have e2 := rz.length
        simp only [List.length_cons] at e1
        refine run_fnN (E := E0) (us := .ref b' :: us) (vs := .ref b' :: vs) ok hr kb pass0 I3 (.cons rfl r2) rz0 (by simp only [List.length_cons]; omega) (e2.trans hl.2) ⟨?_, w3, S3, _, hs3, rvs3.append rz, q3⟩
        simp only [List.length_append, List.length_cons]
        omega
      · rw [if_neg hl] at q3
        exact q3.elim
    · simp only [k1] at q
      rw [if_neg k2] at q
      exact q.elim
end
end Mi
namespace Mi
open PySem PySem.Spec PyProof.Rows L2
open PySem.W (KdlSrc kdl_extend)
/-! ### tuple(d): the keys of a dict -/
section
variable {prog : Program} {w : World} {A : Around} {E : Value → Shared → Prop} {s : Shared} {r d : Addr} {T : String} {n : Nat} {P : Nat → Value → Prop} {OK : Heap → Prop}
/-- what a walked source gives, in a list of the builtins' own -/
theorem gather {Q : List Value → Shared → Prop} (src : KdlSrc prog w T r d n P OK) (free : A.handled = none) (ok : OK s.heap) (small : n ≤ sizeLine)
    (next : ∀ (h2 : Heap) (j : Nat) (got : Array Value), (∀ b x, s.heap.get? b = some x → h2.get? b = some x) → ItemsOf P got n → Q got.toList { s with heap := h2, toks := j }) : wpAny (model prog w) A (collect (.ref r)) Q E s := by
  delta collect
  apply wpAny_bind
  apply wpAny_runValue
  apply codeAny_builtin PySem.F.entry_proto_collect
  rw [Around.under_plainId PySem.F.plain_proto_collect]
  show wpAny _ A.in1 (newList [] >>= fun z => again (Code.builtin "list.__iadd__" ⟨[z, Value.ref r], []⟩)) _ _ s
  apply wpAny_bind
  refine wpAny_newObj_type ?_
  apply wpAny_pure
  refine ⟨plainId_quiet PySem.F.plain_list_iadd _, ?_⟩
  apply codeAny_builtin PySem.F.entry_list_iadd
  rw [Around.under_plainId PySem.F.plain_list_iadd]
  have base : ∀ b x, s.heap.get? b = some x → (s.heap.push { cls := .type "list", data := .seq ([] : List Value).toArray }).get? b = some x := fun b x e => Heap.get?_push_of_some _ e
  have mine : (s.heap.push { cls := .type "list", data := .seq ([] : List Value).toArray }).get? s.heap.objs.size = some { cls := .type "list", data := .seq #[] 0 } := Heap.get?_push_size _ rfl
  obtain ⟨lr, ld⟩ := src.there s.heap ok
  have ok2 := src.keep s.heap _ ok fun b _ x e => base b x e
  have main := kdl_extend (A := A) (s := { s with heap := s.heap.push { cls := .type "list", data := .seq ([] : List Value).toArray } }) src free ok2 s.heap.objs.size (Nat.ne_of_gt lr) (Nat.ne_of_gt ld) (.ref s.heap.objs.size) 0 mine
    (R := fun out s2 => out = .ok (.ret (.ref s.heap.objs.size)) ∧ ∃ h2 j got c, s2 = { s with heap := h2, toks := j } ∧ (∀ b x, s.heap.get? b = some x → h2.get? b = some x) ∧ h2.get? s.heap.objs.size = some { cls := .type "list", dict := none, data := .seq got c, slots := #[] } ∧ ItemsOf P got n)
    (fun h2 j got c keep at2 items => ⟨rfl, h2, j, got, c, rfl, fun b x e => keep b x (Nat.ne_of_lt (Heap.lt_size e)) (base b x e), at2, items⟩) small
  have last : ∀ (out : Result) (s2 : Shared), (out = .ok (.ret (.ref s.heap.objs.size)) ∧ ∃ h2 j got c, s2 = { s with heap := h2, toks := j } ∧ (∀ b x, s.heap.get? b = some x → h2.get? b = some x) ∧ h2.get? s.heap.objs.size = some { cls := .type "list", dict := none, data := .seq got c, slots := #[] } ∧ ItemsOf P got n) →
      ∃ h2 j got c, out = .ok (.ret (.ref s.heap.objs.size)) ∧ s2 = { s with heap := h2, toks := j } ∧ h2.get? s.heap.objs.size = some { cls := .type "list", dict := none, data := .seq got c, slots := #[] } ∧ Q got.toList s2 := fun out s2 ⟨e, h2, j, got, c, e2, keep, at2, items⟩ => ⟨h2, j, got, c, e, e2, at2, e2 ▸ next h2 j got keep items⟩
  refine wpAny_mono main (fun fin s2 h => ?_) fun e s2 h => absurd h.1 (by simp)
  cases fin with
  | done f =>
    obtain ⟨h2, j, got, c, e, e2, at2, q⟩ := last _ _ h
    cases e
    subst e2
    show wpAny _ A (load s.heap.objs.size >>= _) _ _ _
    exact wpAny_bind (wpAny_load at2 (wpAny_pure q))
  | again code =>
    refine ⟨h.1, codeAny_mono h.2 fun out s3 h3 => ?_⟩
    obtain ⟨h2, j, got, c, e, e2, at2, q⟩ := last _ _ h3
    subst e e2
    show wpAny _ A (load s.heap.objs.size >>= _) _ _ _
    exact wpAny_bind (wpAny_load at2 (wpAny_pure q))
theorem tuple_code {Q1 : Value → Shared → Prop} (src : KdlSrc prog w T r d n P OK) (free : A.handled = none) (ok : OK s.heap) (small : n ≤ sizeLine) (hT : T = "dict")
    (next : ∀ (h2 : Heap) (j : Nat) (got : Array Value), (∀ b x, s.heap.get? b = some x → h2.get? b = some x) → ItemsOf P got n → Q1 (.ref h2.objs.size) { s with heap := h2.push { cls := .type "tuple", data := .seq got }, toks := j }) :
    codeAny (model prog w) A (.call (.builtin "tuple.__new__") ⟨[Value.type "tuple", Value.ref r], []⟩) (wants Q1 E) s := by
  subst hT
  apply codeAny_of_tree
  show wpAny _ A.in1 (do checkBuiltinCall "tuple.__new__" ⟨[Value.type "tuple", Value.ref r], []⟩; again (Code.builtin "tuple.__new__" ⟨[Value.type "tuple", Value.ref r], []⟩)) _ _ s
  apply wpAny_bind
  apply wpAny_of_eq (PySem.F.newCall_tuple_1 _)
  apply wpAny_pure
  refine ⟨plainId_quiet PySem.F.plain_tuple_new _, ?_⟩
  apply codeAny_builtin PySem.F.entry_tuple_new
  rw [Around.under_plainId PySem.F.plain_tuple_new]
  have self1 := sub_tuple_self
  have init1 := init_tuple_lookup
  have made1 := madeHere_tuple
  have type1 : s.TypeIs (.ref r) "dict" := src.type s ok
  have free1 : A.in1.handled = none := free
  wp_walk using wpAny_typeOf type1, gather (A := A.in1) src free1 ok small
  intro h2 j got keep items
  show wpAny _ _ (Builtin.Tuple.tupleExact got.toList.toArray >>= fun z => ret z) _ _ _
  delta Builtin.Tuple.tupleExact
  have e : got.toList.toArray = got := by simp
  rw [e]
  apply wpAny_bind
  refine wpAny_newObj_type ?_ (by show got.size ≤ sizeLine; rw [items.1]; exact small)
  exact wpAny_pure (next h2 j got keep items)
theorem tuple_call {Q : Value → Shared → Prop} (src : KdlSrc prog w T r d n P OK) (free : A.handled = none) (ok : OK s.heap) (small : n ≤ sizeLine) (hT : T = "dict")
    (next : ∀ (h2 : Heap) (j : Nat) (got : Array Value), (∀ b x, s.heap.get? b = some x → h2.get? b = some x) → ItemsOf P got n → Q (.ref h2.objs.size) { s with heap := h2.push { cls := .type "tuple", data := .seq got }, toks := j }) :
    wpAny (model prog w) A (call (.type "tuple") [.ref r]) Q E s := by
  apply callType_codes (Q₁ := fun z s2 => s2.TypeIs z "tuple" ∧ Q z s2) PySem.F.called_tuple (PySem.F.typeCall_tuple_1 _) PySem.F.entry_object_init
  · exact tuple_code (A := A.in1) src free ok small hT fun h2 j got keep items => ⟨⟨_, Heap.get?_push_size _ rfl, rfl⟩, next h2 j got keep items⟩
  · intro z s2 ⟨t, q⟩
    refine ⟨t, PySem.F.args_object_init_2 z _, ?_⟩
    exact object_init_meets PySem.F.called_tuple.init.lookup PySem.F.called_tuple.made (by decide) prog w A.in1 _ s2 ⟨t, rfl, q⟩
end
/-- tuple(d) -/
theorem call_tupleK {X : Cx} (calm : X.calm = true) : CallR X (.type "tuple") (fun xs H Q => ∃ (a : Addr) (kvs : List (Key × V)), xs = [.ref a] ∧ Rd H a (.dK kvs) ∧ ∀ p, H p = none → Q (.ref p) (upd H p (.tup (kvs.map fun kv => kV kv.1)))) := by
  rintro pins s σ H xs us Q I rel ⟨a, kvs, rfl, hd, q⟩
  obtain ⟨u, rfl, rx⟩ := vals1 rel
  cases rx
  obtain ⟨z, lo, vs, prs, dd⟩ := dk_rd I.hok hd
  obtain ⟨ep, hat⟩ := dd.dictAt
  have keys : (kvs.map fun kv => kV kv.1) = vs.map fun p => kV p.1 := by
    have e := congrArg (List.map kV) prs.keys
    simp only [List.map_map] at e
    exact e
  refine tuple_call (PySem.W.kdl_dict (knd := mixKind X.prog X.w) (kvs := vs) (ep := ep) lo) (I.ok.hd calm) hat (by rw [← prs.length]; exact z) rfl fun h2 j got keep items => ?_
  have hv : Vals (vs.map fun p => kV p.1) got.toList := keys_at (by rw [Array.length_toList]; exact items.1) fun i v e => items.2 i v (by rw [← Array.getElem?_toList]; exact e)
  have I1 : Inv X pins σ H { s with heap := h2, toks := j } := I.kept (t' := j) keep
  have I2 := I1.laid (t' := j) (a := h2.objs.size) (o := .tup (kvs.map fun kv => kV kv.1)) (h' := h2.push { cls := .type "tuple", data := .seq got }) (fun b x e => Heap.get?_push_of_some _ e) (Nat.le_refl _)
    (show ObjOk X.prog X.w _ _ _ (.tup _) from ⟨by rw [List.length_map]; exact z, got.toList, by rw [keys]; exact hv, by
      have e : got.toList.toArray = got := by simp
      rw [e]
      exact ⟨_, Heap.get?_push_size _ rfl, rfl, _, rfl⟩⟩)
  exact ⟨.ref h2.objs.size, _, I2, rfl, q _ (I1.hok.fresh (Nat.le_refl _))⟩
def keysT (d : D) : M D := fun S => match dctAt S d with
  | some kvs => some (.ok (.tup (kvs.map fun p => kD p.1)), S)
  | none => none
theorem keysT_ok {K : PySem.W.Frag} : CaM K (fun xs H Q => ∃ (a : Addr) (kvs : List (Key × V)), xs = [.ref a] ∧ Rd H a (.dK kvs) ∧ ∀ p, H p = none → Q (.ref p) (upd H p (.tup (kvs.map fun kv => kV kv.1)))) (on1 keysT) := on1_ok fun E w S H v x Q hs rv h => by
  rcases h1 : dctAt S x with _ | kvs
  · simp only [keysT, h1] at h; exact h.elim
  · simp only [keysT, h1] at h
    obtain ⟨n, a, xs, rfl, rfl, hA, hx, rx⟩ := dctAt_go hs rv h1
    exact ⟨a, xs, rfl, .inl hx, fun p hp => h _ _ (hs.le_lay hp) (hs.lay (o := .tup (xs.map fun kv => kV kv.1)) hp) _ (.tup (.inl (.inl (by show upd w.G p _ p = _; rw [upd_same]))) (RvL.mono (hs.le_lay hp) (keys_rel rx)))⟩
end Mi
namespace Mi
open PySem PySem.Spec PyProof.Rows L2
/-! ### a dict that is walked: locked meanwhile -/
structure L2v (w w' : Wd) : Prop where
  a : ∀ (n : Nat) (a : Addr), w.A[n]? = some a → w'.A[n]? = some a
  g : ∀ b o, w.G b = some o → (∀ x u, o ≠ .frz x (.dK u)) → w'.G b = some o
section
variable {K : PySem.W.Frag} {w w' : Wd}
theorem sqT_2 (l : L2v w w') {a : Addr} {xs : List V} (h : SqT K w.G a xs) : SqT K w'.G a xs := by
  rcases h with (h | ⟨o, h⟩) | h
  · exact .inl (.inl (l.g _ _ h (by intro _ _ z; cases z)))
  · exact .inl (.inr ⟨o, l.g _ _ h (by intro _ _ z; cases z)⟩)
  · exact .inr h
theorem sqL_2 (l : L2v w w') {a : Addr} {xs : List V} (h : SqL K w.G a xs) : SqL K w'.G a xs := by
  rcases h with (h | ⟨o, h⟩) | h
  · exact .inl (.inl (l.g _ _ h (by intro _ _ z; cases z)))
  · exact .inl (.inr ⟨o, l.g _ _ h (by intro _ _ z; cases z)⟩)
  · exact .inr h
mutual
theorem Rv.mono2 (l : L2v w w') : ∀ {v : V} {d : D}, Rv K w v d → Rv K w' v d
  | _, _, .non => .non
  | _, _, .bl b => .bl b
  | _, _, .int i => .int i
  | _, _, .str x => .str x
  | _, _, .tup h r => .tup (sqT_2 l h) (RvL.mono2 l r)
  | _, _, .lst h r => .lst (l.g _ _ h (by intro _ _ z; cases z)) (RvL.mono2 l r)
  | _, _, .lsr h r => .lsr (sqL_2 l h) (RvL.mono2 l r)
  | _, _, .dct h r => .dct (l.g _ _ h (by intro _ _ z; cases z)) (RvK.mono2 l r)
  | _, _, .ref h => .ref (l.a _ _ h)
  | _, _, .exn hC h => .exn hC (l.g _ _ h (by intro _ _ z; unfold exq at z; cases z))
  | _, _, .exc hC h hd r => .exc hC (l.g _ _ h (by intro _ _ z; unfold exq at z; cases z)) (l.g _ _ hd (by intro _ _ z; cases z)) (RvX.mono2 l r)
theorem RvL.mono2 (l : L2v w w') : ∀ {v : List V} {d : List D}, RvL K w v d → RvL K w' v d
  | _, _, .nil => .nil
  | _, _, .cons h r => .cons (Rv.mono2 l h) (RvL.mono2 l r)
theorem RvK.mono2 (l : L2v w w') : ∀ {v : List (Key × V)} {d : List (D × D)}, RvK K w v d → RvK K w' v d
  | _, _, .nil => .nil
  | _, _, .cons h r => .cons (Rv.mono2 l h) (RvK.mono2 l r)
theorem RvX.mono2 (l : L2v w w') : ∀ {v : List (Str × V)} {d : List (Str × D)}, RvX K w v d → RvX K w' v d
  | _, _, .nil => .nil
  | _, _, .cons h r => .cons (Rv.mono2 l h) (RvX.mono2 l r)
end
theorem RvP.mono2 {κ : Type} (l : L2v w w') : ∀ {v : List (κ × V)} {d : List (κ × D)}, RvP K w v d → RvP K w' v d
  | _, _, .nil => .nil
  | _, _, .cons h r => .cons (Rv.mono2 l h) (RvP.mono2 l r)
end
section
variable {X : Cx} {E : EK} {tg l e : Expr} {m : Env → M D}
def iKeysC (m : Env → M D) : Env → M (List D) := fun ρ => M.bind (m ρ) fun d => fun S => match d with
  | .ref n => match S[n]? with
    | some (.fdct kvs) => some (.ok (kvs.map fun p => kD p.1), S)
    | _ => none
  | _ => none
theorem mi_keys (h : PE X l (tM X.K E m)) : PI X tg l (tMi X.K E (iKeysC m)) := pi_imp (pi_keys h) fun σ H R ⟨w, S, ρ, hs, hn, h⟩ => ⟨w, S, ρ, hs, hn, h.bind.imp fun w1 S1 H1 x l1 s1 q v rv => by
  cases x with
  | ref n =>
    cases rv with
    | ref hA =>
      rename_i a
      rcases hc : S1[n]? with _ | (⟨ds⟩ | ⟨ds⟩ | ⟨C, ds⟩ | ⟨ds⟩)
      · simp only [hc] at q; exact q.elim
      · simp only [hc] at q; exact q.elim
      · simp only [hc] at q; exact q.elim
      · simp only [hc] at q; exact q.elim
      · simp only [hc] at q
        obtain ⟨o, xs, hG, hH, rx⟩ := s1.cell n a _ hA hc
        have go := Fin.ok (P := fun w' _ H' ds => ∀ J G Y, Walk J ds.length G Y → (∀ w2 S2 H2, Le w' w2 → Rs X.K w2 S2 H2 → G H2) → YM X.K w' ds Y → R J H') q s1
        refine ⟨a, o, rfl, .inl ⟨xs, hH, go _ _ _ (by rw [List.length_map, ← rx.length]; exact walk_keys) (fun w2 S2 H2 l2 s2 => s2.g _ _ (l2.g _ _ hG)) ?_⟩⟩
        rintro i H2 y H3 w2 S2 l2 s2 hi ⟨rfl, k, z, hk, rfl⟩
        have rl := RvL.mono l2 (keys_rel rx)
        obtain ⟨d, hd, rd⟩ := rl.getV (i := i) (y := kV k) (by rw [List.getElem?_map, hk]; rfl)
        exact ⟨w2, d, Le.refl w2, s2, hd, rd, fun p o hp => ⟨hp, id⟩⟩
  | _ => exact q.elim⟩
/-- m while the dict at the cell is locked -/
def lkM (ad : Env → Sto → Option Nat) (m : Env → M D) : Env → M D := fun ρ S => match ad ρ S with
  | some n => match S[n]? with
    | some (.dct kvs) => match m ρ (S.set n (.fdct kvs)) with
      | some (.ok v, S2) => match S2[n]? with
        | some (.fdct kvs2) => some (.ok v, S2.set n (.dct kvs2))
        | _ => none
      | _ => none
    | _ => none
  | none => none
/-- the cell that a field of the object in slot i names -/
def adF (i : Nat) (f : Str) : Env → Sto → Option Nat := fun ρ S => match ρ[i]? with
  | some (some d) => match insAt S d with
    | some (_, fs) => match fs.lookup f with
      | some (.ref n) => some n
      | _ => none
    | none => none
  | _ => none
def Wd.unl (w : Wd) (a : Addr) : Wd := { w with G := fun b => if b = a then none else w.G b }
theorem me_lock {ad : Env → Sto → Option Nat} (h : PE X e (tM X.K EK0 m)) : PE X e (tM X.K EK0 (lkM ad m)) := pe_imp (pe_lock h) fun σ H Q ⟨w, S, ρ, hs, hn, h⟩ => by
  unfold lkM at h
  rcases h1 : ad ρ S with _ | n
  · simp only [h1] at h; exact h.elim
  rcases hc : S[n]? with _ | (⟨ds⟩ | ⟨kvs⟩ | ⟨C, ds⟩ | ⟨ds⟩)
  · simp only [h1, hc] at h; exact h.elim
  · simp only [h1, hc] at h; exact h.elim
  rotate_left
  · simp only [h1, hc] at h; exact h.elim
  · simp only [h1, hc] at h; exact h.elim
  simp only [h1, hc] at h
  rcases hm : m ρ (S.set n (.fdct kvs)) with _ | ⟨x | v, S2⟩
  · simp only [hm] at h; exact h.elim
  · simp only [hm] at h; exact h.elim
  simp only [hm] at h
  rcases hc2 : S2[n]? with _ | (⟨ds⟩ | ⟨ds⟩ | ⟨C, ds⟩ | ⟨kvs2⟩)
  · simp only [hc2] at h; exact h.elim
  · simp only [hc2] at h; exact h.elim
  · simp only [hc2] at h; exact h.elim
  · simp only [hc2] at h; exact h.elim
  simp only [hc2] at h
  have hn' : n < w.A.length := by rw [hs.len]; exact (List.getElem?_eq_some_iff.mp hc).1
  obtain ⟨a, hA⟩ : ∃ a, w.A[n]? = some a := ⟨_, List.getElem?_eq_getElem hn'⟩
  obtain ⟨xs, hH, rx⟩ := hs.cell n a _ hA hc
  have memA := List.mem_of_getElem? hA
  have gn : w.G a = none := hs.ng hA hH (by intro _ _ z; cases z)
  have fn : w.F a = none := (hs.ag a memA).2
  have other : ∀ {k : Nat} {b : Addr}, w.A[k]? = some b → k ≠ n → b ≠ a := fun {k b} hb hk => by
    rintro rfl
    exact hk ((List.getElem?_inj (List.getElem?_eq_some_iff.mp hb).1 hs.nd).mp (hb.trans hA.symm))
  refine ⟨a, .dK xs, hH, trivial, fun od => ?_⟩
  have lv : Lv w { w with G := upd w.G a (.frz od (.dK xs)) } := ⟨⟨[], by simp⟩, fun b o e => by
    show upd w.G a _ b = some o
    rw [upd_ne (ne_of_none e gn)]
    exact e⟩
  refine ⟨{ w with G := upd w.G a (.frz od (.dK xs)) }, S.set n (.fdct kvs), ρ, ⟨fun b o e => ?_, fun b o e => ?_, fun b o e => ?_, by simp [hs.len], hs.nd, fun b hb => ⟨?_, (hs.ag b hb).2⟩, fun k b c hk hS => ?_, hs.sy⟩, hn.v lv, ?_⟩
  · have e : upd w.G a (.frz od (.dK xs)) b = some o := e
    by_cases q : b = a
    · subst q
      rw [upd_same] at e ⊢
      exact e
    · rw [upd_ne q] at e ⊢
      exact hs.g b o e
  · rw [upd_ne (ne_of_none e fn)]
    exact hs.f b o e
  · show upd w.G a _ b = none
    rw [upd_ne (ne_of_none e fn)]
    exact hs.gf b o e
  · by_cases q : b = a
    · subst q
      exact .inr ⟨od, xs, upd_same⟩
    · have e : upd w.G a (.frz od (.dK xs)) b = w.G b := upd_ne q
      show upd w.G a (.frz od (.dK xs)) b = none ∨ ∃ o' ys, upd w.G a (.frz od (.dK xs)) b = some (.frz o' (.dK ys))
      rw [e]
      exact (hs.ag b hb).1
  · by_cases q : k = n
    · subst q
      have eb : b = a := by
        have z : w.A[k]? = some b := hk
        rw [hA] at z
        cases z
        rfl
      subst eb
      rw [List.getElem?_set_self (by rw [← hs.len]; exact hn')] at hS
      cases hS
      exact ⟨od, xs, upd_same, upd_same, rx.monoV lv⟩
    · rw [List.getElem?_set_ne (Ne.symm q)] at hS
      refine (hs.cell k b c hk hS).monoV lv fun o e => ?_
      rw [upd_ne (other hk q)]
      exact e
  · rw [hm]
    intro w' H' l r z rz
    have hG : w'.G a = some (.frz od (.dK xs)) := l.g _ _ (by show upd w.G a _ a = _; rw [upd_same])
    obtain ⟨more, eA⟩ := l.a
    have eA : w'.A = w.A ++ more := eA
    have hA' : w'.A[n]? = some a := by rw [eA, List.getElem?_append_left hn']; exact hA
    have fn' : w'.F a = none := (r.ag a (List.mem_of_getElem? hA')).2
    have other' : ∀ {k : Nat} {b : Addr}, w'.A[k]? = some b → k ≠ n → b ≠ a := fun {k b} hb hk => by
      rintro rfl
      exact hk ((List.getElem?_inj (List.getElem?_eq_some_iff.mp hb).1 r.nd).mp (hb.trans hA'.symm))
    have gne : ∀ {b : Addr}, b ≠ a → (w'.unl a).G b = w'.G b := fun {b} q => by show (if b = a then none else w'.G b) = _; rw [if_neg q]
    have l2 : L2v w' (w'.unl a) := ⟨fun _ _ e => e, fun b o e ho => by
      by_cases q : b = a
      · subst q
        rw [hG] at e
        cases e
        exact absurd rfl (ho _ _)
      · rw [gne q]
        exact e⟩
    refine ⟨r.g _ _ hG, h (w'.unl a) _ ⟨⟨more, eA⟩, fun b o e => ?_, l.f⟩ ⟨fun b o e => ?_, fun b o e => ?_, fun b o e => ?_, by show w'.A.length = _; simp [r.len], r.nd, fun b hb => ⟨?_, (r.ag b hb).2⟩, fun k b c hk hS => ?_, r.sy⟩ z (rz.mono2 l2)⟩
    · rw [gne (ne_of_none e gn)]
      refine l.g b o ?_
      show upd w.G a _ b = some o
      rw [upd_ne (ne_of_none e gn)]
      exact e
    · by_cases q : b = a
      · subst q
        have e : (if b = b then none else w'.G b) = some o := e
        rw [if_pos rfl] at e
        cases e
      · rw [gne q] at e
        rw [upd_ne q]
        exact r.g b o e
    · rw [upd_ne (ne_of_none e fn')]
      exact r.f b o e
    · rw [gne (ne_of_none e fn')]
      exact r.gf b o e
    · by_cases q : b = a
      · refine .inl ?_
        show (if b = a then none else w'.G b) = none
        rw [if_pos q]
      · rw [gne q]
        exact (r.ag b hb).1
    · have hk : w'.A[k]? = some b := hk
      by_cases q : k = n
      · subst q
        rw [hA'] at hk
        cases hk
        rw [List.getElem?_set_self (List.getElem?_eq_some_iff.mp hc2).1] at hS
        cases hS
        obtain ⟨o2, xs2, k1, k2, k3⟩ := r.cell k a _ hA' hc2
        rw [hG] at k1
        cases k1
        exact ⟨xs, upd_same, k3.mono2 l2⟩
      · rw [List.getElem?_set_ne (Ne.symm q)] at hS
        have nb := other' hk q
        have old := r.cell k b c hk hS
        cases c with
        | lst ds =>
          obtain ⟨ys, k1, k2⟩ := old
          exact ⟨ys, by rw [upd_ne nb]; exact k1, k2.mono2 l2⟩
        | dct ds =>
          obtain ⟨ys, k1, k2⟩ := old
          exact ⟨ys, by rw [upd_ne nb]; exact k1, k2.mono2 l2⟩
        | ins c fs =>
          obtain ⟨C, dx, ys, k0, k1, k2⟩ := old
          exact ⟨C, dx, ys, k0, by rw [upd_ne nb]; exact k1, k2.mono2 l2⟩
        | fdct ds =>
          obtain ⟨o3, ys, k0, k1, k2⟩ := old
          exact ⟨o3, ys, by rw [gne nb]; exact k0, by rw [upd_ne nb]; exact k1, k2.mono2 l2⟩
end
end Mi
namespace Mi
open PySem PySem.Spec PyProof.Rows L2
/-! ### min and max of two integers; len of an object -/
def minM : List D → M D
  | [.int i, .int j] => M.pure (.int (if j < i then j else i))
  | _ => bad
theorem minM_ok {K : PySem.W.Frag} : CaM K (fun xs H Q => ∃ i j, xs = [.int i, .int j] ∧ Q (.int (if j < i then j else i)) H) minM := fun E w S H vs xs Q hs rv h => by
  unfold minM at h
  split at h
  · rename_i i j
    cases rv with
    | cons r1 r =>
      cases r with
      | cons r2 r =>
        cases r
        cases r1
        cases r2
        exact ⟨i, j, rfl, Fin.ok (P := fun w' _ H' d => ∀ z, Rv K w' z d → Q z H') h hs _ (.int _)⟩
  · exact h.elim
def maxM : List D → M D
  | [.int i, .int j] => M.pure (.int (if j > i then j else i))
  | _ => bad
theorem maxM_ok {K : PySem.W.Frag} : CaM K (fun xs H Q => ∃ i j, xs = [.int i, .int j] ∧ Q (.int (if j > i then j else i)) H) maxM := fun E w S H vs xs Q hs rv h => by
  unfold maxM at h
  split at h
  · rename_i i j
    cases rv with
    | cons r1 r =>
      cases r with
      | cons r2 r =>
        cases r
        cases r1
        cases r2
        exact ⟨i, j, rfl, Fin.ok (P := fun w' _ H' d => ∀ z, Rv K w' z d → Q z H') h hs _ (.int _)⟩
  · exact h.elim
def lenI (c : Str) (f : List D → M D) (x : D) : M D := fun S => match insAt S x with
  | some (c', _) => if c' = c then M.bind (f [x]) (fun r => match r with
    | .int i => if 0 ≤ i ∧ i < 2 ^ 63 then M.pure (.int i) else bad
    | _ => bad) S else none
  | none => none
section
variable {X : Cx} {c qual : Str} {st : Stmt} {ps : List Str} {f : List D → M D} {k : Nat} {C fa : Addr} {fd : FuncData} {a : Expr} {es : List Expr} {mas : Env → M (List D)} {p pos : Pos}
theorem call_lenI (hm : Meth X.K C "__len__" fa) (F : FnOk X.prog X.w X.K X.mg X.base CX0 k fa fd ps (spM X.K 1 f)) (hr : Room (k + 1) X.A) (hb : Binds X.K fd ps []) (hn : ps.length = 1) :
    CallR X (.builtin "len") (fun xs H Q => ∃ a dx fs, xs = [.ref a] ∧ H a = some (.ins C dx fs) ∧ spM X.K 1 f [.ref a] H (fun r H' => ∃ i, r = .int i ∧ 0 ≤ i ∧ i < 2 ^ 63 ∧ Q (.int i) H') E0) := by
  rintro pins s σ H xs us Q I rel ⟨a, dx, fs, rfl, ea, q⟩
  obtain ⟨u, rfl, rx⟩ := vals1 rel
  obtain rfl : u = Value.ref a := rx
  obtain ⟨mA, OM, _⟩ := ins_get I.hok ea
  obtain ⟨od, J, _⟩ := OM.look
  obtain ⟨m, FR⟩ := own_frame I
  refine PySem.W.len_K FR I.ok.mod.kin J hm.at_ hm.fn ?_
  have b := hb s [.ref a] I.kIn (by rw [List.append_nil, hn]; rfl)
  rw [List.append_nil] at b
  refine wpAny_call (codeAny_mono (F.run X.A.in1 X.stack s H ⟨[.ref a], []⟩ [.ref a] [.ref a] _ E0 hr.in1 I.env0.in1 b (.cons rfl .nil) q) fun r s2 hq => ?_)
  cases r with
  | error e => exact False.elim hq
  | ok fl =>
    cases fl with
    | ret u =>
      obtain ⟨v, H2, I3, rv, i, e, h0, h1, q3⟩ := I.after hq
      subst e
      obtain ⟨t, rfl⟩ := (show ∃ t, u = Value.int i t from rv)
      exact ⟨⟨h0, h1⟩, ⟨.int i, H2, I3.tok _, ⟨_, rfl⟩, q3⟩⟩
    | next => exact False.elim hq
    | brk => exact False.elim hq
    | cont => exact False.elim hq
theorem me_lenI (O : OkMt X.prog X.w X.K X.mg X.base k c "__len__" qual st ps f) (hr : Room (k + 1) X.A) (hn : ps.length = 1) (hg : Gl X "len") (hml : X.mg "len" = none) (ha : PA X (a :: es) (tMa X.K EK0 mas))
    (he : starEach (a :: es) X.env = (false, eval a X.env) :: starEach es X.env := by rfl) (hpl : (backTo pos (starEach es X.env)).any (·.1) = false := by rfl) : PE X (.Call (.Name "len" p) (a :: es) [] pos) (tM X.K EK0 (cal (on1 (lenI c f)) mas)) := by
  obtain ⟨C, fa, fd, h1, h2, h3, F, bd, ok⟩ := O.ex
  have hn2 := hn
  rw [hn] at ok
  refine pe_imp (pe_callB (call_lenI h3 ok hr bd hn2) hg hml (by decide +kernel) ha (by decide) (by decide) he hpl) fun σ H Q ⟨w, S, ρ, hs, hn, h⟩ => ⟨w, S, ρ, hs, hn, h.bind.imp fun w1 S1 H1 xs l1 s1 q vs rvs => ?_⟩
  rcases xs with _ | ⟨x, _ | ⟨y, t⟩⟩
  · exact q.elim
  · obtain ⟨v, rfl, rv⟩ := args1 rvs
    have q : Fin X.K EK0 w1 (lenI c f x S1) (fun w' _ H' d => ∀ z, Rv X.K w' z d → Q z H') := q
    rcases k1 : insAt S1 x with _ | ⟨c', fs⟩
    · simp only [lenI, k1] at q; exact q.elim
    · by_cases k2 : c' = c
      · subst k2
        simp only [lenI, k1, if_true] at q
        obtain ⟨n, a, C', dx, xs, rfl, rfl, hA, hS, hC', hx, rx⟩ := insAt_go s1 rv k1
        obtain rfl := h1.inj hC'
        refine ⟨a, dx, xs, rfl, hx, rfl, w1, S1, _, s1, .one rv, q.bind.imp fun w2 S2 H2 r l2 s2 q2 z rz => ?_⟩
        cases r with
        | int i =>
          have q2 : Fin X.K EK0 w2 ((if 0 ≤ i ∧ i < 2 ^ 63 then M.pure (.int i) else bad : M D) S2) (fun w' _ H' d => ∀ z, Rv X.K w' z d → Q z H') := q2
          by_cases hi : 0 ≤ i ∧ i < 2 ^ 63
          · rw [if_pos hi] at q2
            cases rz
            exact ⟨i, rfl, hi.1, hi.2, Fin.ok (P := fun w' _ H' d => ∀ z, Rv X.K w' z d → Q z H') q2 s2 _ (.int _)⟩
          · rw [if_neg hi] at q2
            exact q2.elim
        | _ => exact q2.elim
      · simp only [lenI, k1, k2, if_false] at q; exact q.elim
  · exact q.elim
end
end Mi
namespace Mi
open PySem PySem.Spec PyProof.Rows L2
/-! ### the facts about classes, put together from what the head finds -/
section
variable {K : PySem.W.Frag} {mg : Str → Option Value} {c m qual f : Str} {C fa p Dk : Addr} {fd : FuncData} {st : Stmt} {ps : List Str}
theorem fldOf_one (h : ClN K c C) (cl : Cls K C) (n : NoAttr K C f) : FldOf K [c] f := ⟨fun c' hc C' hC => by
  obtain rfl : c' = c := by simpa using hc
  obtain rfl := h.inj hC
  exact ⟨cl, n⟩⟩
theorem fund_mk {oc : Value} {od an : Option Addr} {osl : Array (Option Value)} {kV doc pm cdv ct : Value} {kws : List (Str × V)} (l : K.lookup fa = some ⟨oc, od, .func (PySem.W.fnOf m qual (defArgs st) (defBody st) (defScope st) .none kV doc pm an cdv ct), osl⟩)
    (cc : PySem.W.codeIn K cdv qual = true) (k : PySem.W.keepIn K (.ref fa) = true) (hk : KwdV K kV kws) : FunD K m qual (defArgs st) (defBody st) (defScope st) [] kws fa (PySem.W.fnOf m qual (defArgs st) (defBody st) (defScope st) .none kV doc pm an cdv ct) :=
  ⟨⟨oc, od, .none, kV, doc, pm, an, cdv, ct, osl, rfl, l, cc, .inl ⟨rfl, rfl⟩, hk⟩, k⟩
/-- one keyword-only parameter -/
theorem kwd_one {x : Str} {v : V} {u : Value} (h : PySem.W.nsIn K Dk x = some (some u)) (r : RelV v u) : KwdV K (.ref Dk) [(x, v)] := .inr ⟨Dk, rfl, fun q hq => by
  obtain rfl : q = (x, v) := by simpa using hq
  exact ⟨u, h, r⟩⟩
/-- a method with one keyword-only parameter; n positional ones -/
theorem mdAt_one {x : Str} {v : V} {d : D} {n : Nat} (h0 : ClN K c C) (cl : Cls K C) (me : Meth K C m fa) (F : FunD K m qual (defArgs st) (defBody st) (defScope st) [] [(x, v)] fa fd) (hr : ∀ w, Rv K w v d) (hl : ps.length = n + 1)
    (b1 : ∀ (D : Addr) (doc pm : Value) (an : Option Addr) (cdv ct : Value) (us ks : List Value), us.length = n → ks.length = 1 → KwChain D ([x].zip ks) (bindArgs (PySem.W.fnOf m qual (defArgs st) (defBody st) (defScope st) .none (.ref D) doc pm an cdv ct) ⟨us, []⟩) (ps.zip (us ++ ks)))
    (b2 : ∀ (D : Addr) (doc pm : Value) (an : Option Addr) (cdv ct : Value) (us ws : List Value), us.length = n → ws.length = 1 → bindArgs (PySem.W.fnOf m qual (defArgs st) (defBody st) (defScope st) .none (.ref D) doc pm an cdv ct) ⟨us, [x].zip ws⟩ = pure (ps.zip (us ++ ws))) :
    MdAt K c m qual st ps n [x] [d] := by
  obtain ⟨ds, hv, hb⟩ := F.binds0 (ps := ps) n (by simp) (by rw [hl]; rfl) fun D doc pm an cdv ct us ks h1 h2 => b1 D doc pm an cdv ct us ks h1 h2
  obtain ⟨mv, kb⟩ := F.kbinds0 (ps := ps) n [x] [] (fun us _ ws => us ++ ws) (by simp) (by simp) (fun r1 _ r3 => r1.append r3) fun D doc pm an cdv ct us mv ws h1 h2 h3 => b2 D doc pm an cdv ct us ws h1 h3
  exact ⟨C, fa, fd, [v], ds, [(x, v)], h0, cl, me, hb, hv, fun w => .one (hr w), kb, hl, rfl, F⟩
end
end Mi
namespace Mi
open PySem PySem.Spec PyProof.Rows L2
/-! ### for over what is a cell at one time, a value at another -/
theorem PS.or {X : Cx} {st : Stmt} {t t' : TS} (h : PS X st t) (h' : PS X st t') : PS X st (fun D σ H => t D σ H ∨ t' D σ H) := ⟨fun pins s σ H D I q => by
  rcases q with q | q
  · exact h.run pins s σ H D I q
  · exact h'.run pins s σ H D I q⟩
def sForB (m : Env → M D) (g : D → Env → M Env) (body : Env → M (Fl × Env)) : Env → M (Fl × Env) := fun ρ S => match m ρ S with
  | some (.ok (.ref _), _) => sForC m g body ρ S
  | _ => sFor (iSeq m) g body ρ S
theorem ms_forB {X : Cx} {E : EK} {tg l : Expr} {body : List Stmt} {pos : Pos} {m : Env → M D} {ms : Env → M (Fl × Env)} {g : D → Env → M Env} (hp : PassesOwn (model X.prog X.w) X.A X.env X.xe) (hc : X.calm = true) (hl : PE X l (tM X.K E m)) (hg : PG X tg (gM X.K E g)) (hb : PSs X body (tMs X.K E ms)) (hfs : ∀ x, foldedSetIterable l X.env x = pure x := by intro _; rfl) :
    PS X (.For tg l body [] pos) (tMs X.K E (sForB m g ms)) := ps_imp (Mi.PS.or (ms_forC hp hc hl hg hb hfs) (ms_for hp hc (mi_seq hl) hg hb hfs)) fun D σ H ⟨w, S, ρ, hs, hn, h⟩ => by
  unfold sForB at h
  split at h
  · exact .inl ⟨w, S, ρ, hs, hn, h⟩
  · exact .inr ⟨w, S, ρ, hs, hn, h⟩
end Mi
namespace Mi
open PySem PySem.Spec PyProof.Rows L2
/-! ### x in (data, ..), x data of any depth -/
def rInT (K : PySem.W.Frag) (neg : Bool) : R2 := fun x y H Q => ∃ d ds, Dp K H x d ∧ Dp K H y (.tuple ds) ∧ SeqAt.shaped d = true ∧ SeqAt.shaped (.tuple ds) = true ∧ d.depth ≤ 60 ∧ Q (.bl (if neg then !(ds.any fun z => PyData.eqv z d) else ds.any fun z => PyData.eqv z d)) H
section
variable {X : Cx}
theorem op_inP (hu : X.A.units + 64 < cLine) : OpR X (compareOp .In) (rInT X.K false) := fun pins s σ H x y v u Q I rx ry ⟨d, ds, hd, he, sd, se, dd, q⟩ => by
  obtain ⟨as, r1⟩ := Dp.reads I d x v hd rx
  obtain ⟨bs, r2⟩ := Dp.reads I (.tuple ds) y u he ry
  exact SeqAt.in_tuple_reads r2 r1 (SeqAt.canLay_of_shaped se) (SeqAt.canLay_of_shaped sd) (by have := Nat.min_le_right (PyData.depthAll ds) d.depth; omega) ⟨.bl _, H, I, rfl, q⟩
theorem op_ninP (hu : X.A.units + 64 < cLine) : OpR X (compareOp .NotIn) (rInT X.K true) := fun pins s σ H x y v u Q I rx ry ⟨d, ds, hd, he, sd, se, dd, q⟩ => by
  obtain ⟨as, r1⟩ := Dp.reads I d x v hd rx
  obtain ⟨bs, r2⟩ := Dp.reads I (.tuple ds) y u he ry
  exact SeqAt.notIn_tuple_reads r2 r1 (SeqAt.canLay_of_shaped se) (SeqAt.canLay_of_shaped sd) (by have := Nat.min_le_right (PyData.depthAll ds) d.depth; omega) ⟨.bl _, H, I, rfl, q⟩
end
def inP (neg : Bool) (x y : D) : M D := fun S => match toPy (deS S x), toPy (deS S y) with
  | some d, some (.tuple ds) => if SeqAt.shaped d = true ∧ SeqAt.shaped (.tuple ds) = true ∧ d.depth ≤ 60 then some (.ok (.bl (if neg then !(ds.any fun z => PyData.eqv z d) else ds.any fun z => PyData.eqv z d)), S) else none
  | _, _ => none
theorem inP_ok {K : PySem.W.Frag} {neg : Bool} : OpM K (rInT K neg) (inP neg) := fun E w S H v u x y Q hs rv ru h => by
  unfold inP at h
  rcases h1 : toPy (deS S x) with _ | p
  · simp only [h1] at h; exact h.elim
  · rcases h2 : toPy (deS S y) with _ | q
    · simp only [h1, h2] at h; exact h.elim
    · simp only [h1, h2] at h
      cases q with
      | tuple ds =>
        have h : Fin K E w (if SeqAt.shaped p = true ∧ SeqAt.shaped (.tuple ds) = true ∧ p.depth ≤ 60 then some (.ok (D.bl (if neg then !(ds.any fun z => PyData.eqv z p) else ds.any fun z => PyData.eqv z p)), S) else none) _ := h
        by_cases hc : SeqAt.shaped p = true ∧ SeqAt.shaped (.tuple ds) = true ∧ p.depth ≤ 60
        · rw [if_pos hc] at h
          exact ⟨p, ds, dp_of2 hs (deS_go hs rv) h1 (shaped_lay hc.1), dp_of2 hs (deS_go hs ru) h2 (shaped_lay hc.2.1), hc.1, hc.2.1, hc.2.2, Fin.ok h hs _ (.bl _)⟩
        · rw [if_neg hc] at h
          exact h.elim
      | _ => exact h.elim
end Mi
/-! Mi36: d.get(k), d.get(k, x), d.pop(k), d.pop(k, x) of a dict cell. -/
namespace Mi
open PySem PySem.Spec PyProof.Rows L2
/-- what x holds is a dict now; then m is done; then the dict is looked at again -/
def dctM (x : D) (m : M D) (f : List (Key × D) → D → Sto → Option D) : M D := fun S => match dctAt S x with
  | some _ => (M.bind m fun y => fun S2 => match dctAt S2 x with
    | some kvs => match f kvs y S2 with
      | some d => some (.ok d, S2)
      | none => none
    | none => none) S
  | none => none
def getF (kvs : List (Key × D)) (y : D) (_ : Sto) : Option D := match keyOf y with
  | some k => some ((valD kvs k).getD .non)
  | none => none
def getD1 (m e : Env → M D) : Env → M D := fun ρ => M.bind (m ρ) fun x => dctM x (e ρ) getF
def getD2 (m e f : Env → M D) : Env → M D := fun ρ => M.bind (m ρ) fun x => fun S => match dctAt S x with
  | some _ => (M.bind (e ρ) fun y => M.bind (f ρ) fun z => fun S2 => match dctAt S2 x, keyOf y with
    | some kvs, some k => some (.ok ((valD kvs k).getD z), S2)
    | _, _ => none) S
  | none => none
section
variable {X : Cx} {E : EK} {o i j : Expr} {apos cpos : Pos} {m e f : Env → M D}
theorem isD_cell {K : PySem.W.Frag} {w : Wd} {S : Sto} {H : Hp} {v : V} {d : D} {kvs : List (Key × D)} (hs : Rs K w S H) (rv : Rv K w v d) (h : dctAt S d = some kvs) : ∃ a xs, v = .ref a ∧ H a = some (.dK xs) ∧ RvP K w xs kvs := by
  obtain ⟨_, a, xs, _, e1, _, e2, e3⟩ := dctAt_go hs rv h
  exact ⟨a, xs, e1, e2, e3⟩
theorem getD_rel {K : PySem.W.Frag} {w : Wd} {xs : List (Key × V)} {kvs : List (Key × D)} (r : RvP K w xs kvs) (k : Key) {v : V} {d : D} (rv : Rv K w v d) : Rv K w ((valV xs k).getD v) ((valD kvs k).getD d) := by
  rcases r.val k with ⟨h1, h2⟩ | ⟨a, b, h1, h2, h3⟩
  · rw [h1, h2]; exact rv
  · rw [h1, h2]; exact h3
theorem me_dget1 (hu : X.A.units + 1 < cLine) (ho : PE X o (tM X.K E m)) (he : PE X i (tM X.K E e)) (mm : M1 X o "get" apos i cpos) : PE X (.Call (.Attribute o "get" apos) [i] [] cpos) (tM X.K E (getD1 m e)) :=
  pe_imp (pe_dget1 hu ho he mm) fun σ H Q ⟨w, S, ρ, hs, hn, h⟩ => ⟨w, S, ρ, hs, hn, h.bind.imp fun w1 S1 H1 x l1 s1 q v rv => by
    unfold dctM at q
    rcases h1 : dctAt S1 x with _ | kvs
    · simp only [h1] at q; exact q.elim
    · simp only [h1] at q
      obtain ⟨a, xs, rfl, e1, _⟩ := isD_cell s1 rv h1
      refine ⟨a, rfl, .inl ⟨xs, .inl e1⟩, w1, S1, ρ, s1, hn.mono l1, Fin.imp (Fin.bind q) fun w2 S2 H2 y l2 s2 q2 u ru => ?_⟩
      rcases h2 : dctAt S2 x with _ | kvs2
      · simp only [h2] at q2; exact q2.elim
      · simp only [h2] at q2
        unfold getF at q2
        rcases h3 : keyOf y with _ | k
        · simp only [h3] at q2; exact q2.elim
        · simp only [h3] at q2
          obtain ⟨a', xs2, ea, e2, r2⟩ := isD_cell s2 (rv.mono l2) h2
          cases ea
          rw [keyOf_go ru h3]
          exact ⟨_, DGet.k e2, Fin.ok q2 s2 _ (getD_rel r2 k .non)⟩⟩
theorem me_dget2 (hu : X.A.units + 1 < cLine) (ho : PE X o (tM X.K E m)) (he : PE X i (tM X.K E e)) (hf : PE X j (tM X.K E f)) (mm : M2 X o "get" apos i j cpos) : PE X (.Call (.Attribute o "get" apos) [i, j] [] cpos) (tM X.K E (getD2 m e f)) :=
  pe_imp (pe_dget2 hu ho he hf mm) fun σ H Q ⟨w, S, ρ, hs, hn, h⟩ => ⟨w, S, ρ, hs, hn, h.bind.imp fun w1 S1 H1 x l1 s1 q v rv => by
    rcases h1 : dctAt S1 x with _ | kvs
    · simp only [h1] at q; exact q.elim
    · simp only [h1] at q
      obtain ⟨a, xs, rfl, e1, _⟩ := isD_cell s1 rv h1
      refine ⟨a, rfl, .inl ⟨xs, .inl e1⟩, w1, S1, ρ, s1, hn.mono l1, Fin.imp (Fin.bind q) fun w2 S2 H2 y l2 s2 q2 u ru => ⟨w2, S2, ρ, s2, hn.mono (l1.trans l2), Fin.imp (Fin.bind q2) fun w3 S3 H3 z l3 s3 q3 uz rz => ?_⟩⟩
      rcases h2 : dctAt S3 x with _ | kvs2
      · simp only [h2] at q3; exact q3.elim
      · rcases h3 : keyOf y with _ | k
        · simp only [h2, h3] at q3; exact q3.elim
        · simp only [h2, h3] at q3
          obtain ⟨a', xs2, ea, e2, r2⟩ := isD_cell s3 (rv.mono (l2.trans l3)) h2
          cases ea
          rw [keyOf_go (ru.mono l3) h3]
          exact ⟨_, DGet.k e2, Fin.ok q3 s3 _ (getD_rel r2 k rz)⟩⟩
end
end Mi
/-! Mi37: plain defs with keyword-only parameters: f(a, b) and f(a, b, k = v). -/
namespace Mi
open PySem PySem.Spec PyProof.Rows L2
structure OkDk (P : Program) (w : World) (K : PySem.W.Frag) (mg : Str → Option Value) (base : Heap) (k : Nat) (x : Str) (n : Nat) (ks : List Str) (dd : List D) (f : List D → M D) : Prop where
  ex : ∃ (fa : Addr) (fd : FuncData) (ps : List Str) (dvs : List V) (ds : List Value), PySem.W.keepIn K (.ref fa) = true ∧ mg x = some (.ref fa) ∧ Binds K fd ps ds ∧ Vals dvs ds ∧ (∀ w, RvL K w dvs dd) ∧ KBn K fd ps n ks (fun us ws => us ++ ws) (fun vs zs => vs ++ zs) ∧
    ps.length = n + ks.length ∧ dd.length = ks.length ∧ FnOk P w K mg base CX0 k fa fd ps (spM K ps.length f)
structure DkAt (K : PySem.W.Frag) (mg : Str → Option Value) (x : Str) (st : Stmt) (ps : List Str) (n : Nat) (ks : List Str) (dd : List D) : Prop where
  ex : ∃ (fa : Addr) (fd : FuncData) (dvs : List V) (ds : List Value) (kws : List (Str × V)), mg x = some (.ref fa) ∧ Binds K fd ps ds ∧ Vals dvs ds ∧ (∀ w, RvL K w dvs dd) ∧ KBn K fd ps n ks (fun us ws => us ++ ws) (fun vs zs => vs ++ zs) ∧
    ps.length = n + ks.length ∧ dd.length = ks.length ∧ FunD K x x (defArgs st) (defBody st) (defScope st) [] kws fa fd
theorem OkDk.of {P : Program} {w : World} {K : PySem.W.Frag} {mg : Str → Option Value} {base : Heap} {x : Str} {st : Stmt} {ps N ks : List Str} {dd : List D} {k n j : Nat} {ms : Env → M (Fl × Env)} (hn : N.length = j) (D : DkAt K mg x st ps n ks dd) (sc : FnScope N ps (defScope st))
    (hb : ∀ (fa : Addr) (cdv : Value) (A : Around) (outer : List PySem.Env) (s : Shared) (H : Hp) (E : XK), Room k (A.deeper (envOfC x (defScope st) s.heap.objs.size fa cdv)) →
      PSs (cxOf CX0 P w K mg base N x (defScope st) fa cdv A outer s H E).nox (defBody st) (tMs K EK0 ms)) : OkDk P w K mg base (k + 1) x n ks dd (runM j ms) := by
  subst hn
  obtain ⟨fa, fd, dvs, ds, kws, h2, b, hv, hd, kb, l1, l2, F⟩ := D.ex
  exact ⟨fa, fd, ps, dvs, ds, F.kp, h2, b, hv, hd, kb, l1, l2, F.ok sc (spM_len rfl) fun cdv A outer s H vs Q E hr h => ⟨_, (hb fa cdv A outer s H E hr).nox, body_go h⟩⟩
/-- f(.., k = v, ..) -/
def calKF (n j : Nat) (f : List D → M D) (ma mk : Env → M (List D)) : Env → M D := fun ρ => M.bind (ma ρ) fun xs => M.bind (mk ρ) fun zs => if xs.length = n ∧ zs.length = j then f (xs ++ zs) else bad
section
variable {X : Cx} {a : Expr} {es : List Expr} {kws : List Keyword} {mas mk : Env → M (List D)} {x : Str} {p pos : Pos} {k n : Nat} {ks : List Str} {dd : List D} {f : List D → M D}
theorem me_dk (O : OkDk X.prog X.w X.K X.mg X.base k x n ks dd f) (hr : Room k X.A) (hg : Gl X x) (ha : PA X (a :: es) (tMa X.K EK0 mas)) (hdb : (x == ("__debug__" : Str)) = false := by decide)
    (he : starEach (a :: es) X.env = (false, eval a X.env) :: starEach es X.env := by rfl) (hpl : (backTo pos (starEach es X.env)).any (·.1) = false := by rfl) :
    PE X (.Call (.Name x p) (a :: es) [] pos) (tM X.K EK0 (calF n (fun xs => f (xs ++ dd)) mas)) := by
  obtain ⟨fa, fd, ps, dvs, ds, hk, hm, b, hv, hd, kb, l1, l2, ok⟩ := O.ex
  rw [l1] at ok
  exact pe_imp (pe_call ok hr hg hm hk b hv pass0 ha hdb he hpl) fun σ H Q ⟨w, S, ρ, hs, hn, h⟩ => ⟨w, S, ρ, hs, hn, h.bind.imp fun w1 S1 H1 xs l1' s1 h1 vs rvs => by
    by_cases hl : xs.length = n
    · rw [if_pos hl] at h1
      exact ⟨by rw [List.length_append, rvs.length, (hd w1).length]; omega, w1, S1, _, s1, rvs.append (hd w1), h1⟩
    · rw [if_neg hl] at h1
      exact h1.elim⟩
theorem me_dkK {j : Nat} (O : OkDk X.prog X.w X.K X.mg X.base k x n ks dd f) (hr : Room k X.A) (hj : ks.length = j) (hg : Gl X x) (ha : PA X (a :: es) (tMa X.K EK0 mas)) (hkw : PK X kws (tMa X.K EK0 mk))
    (hall : (backToKw pos (keywordEach kws X.env)).all (·.1.isSome) = true := by rfl) (hks : (backToKw pos (keywordEach kws X.env)).filterMap (·.1) = ks := by rfl)
    (hdb : (x == ("__debug__" : Str)) = false := by decide) (he : starEach (a :: es) X.env = (false, eval a X.env) :: starEach es X.env := by rfl)
    (hpl : ((backTo pos (starEach (a :: es) X.env)).any (·.1) || (backToKw pos (keywordEach kws X.env)).any (·.1.isNone)) = false := by rfl) :
    PE X (.Call (.Name x p) (a :: es) kws pos) (tM X.K EK0 (calKF n j f mas mk)) := by
  subst hj
  obtain ⟨fa, fd, ps, dvs, ds, hk, hm, b, hv, hd, kb, l1, l2, ok⟩ := O.ex
  rw [l1] at ok
  refine ⟨fun pins s σ H Q I ⟨w, S, ρ, hs, hn, h⟩ => ?_⟩
  refine wpAny_Call_Name_kw (ld_glob I hg hm ?_ hdb)
  refine PySem.W.callWith_KW (h₀ := X.base) I.ok.mod.kin hk hall (thn (ha.run pos pins s σ H _ I ⟨w, S, ρ, hs, hn, h.bind.imp fun w2 S2 H2 ys l2 s2 q2 vs rvs => (show ∃ w S ys, Rs X.K w S H2 ∧ Rn X.K w σ ρ ∧ RvL X.K w vs ys ∧ Fin X.K EK0 w ((M.bind (mk ρ) fun zs => if ys.length = n ∧ zs.length = ks.length then f (ys ++ zs) else bad) S) (fun w' _ H' d => ∀ v, Rv X.K w' v d → Q v H') from ⟨w2, S2, ys, s2, hn.mono l2, rvs, q2⟩)⟩) fun us s2 ⟨vs, H2, I2, r2, w2, S2, ys, hs2, hn2, rvs, q2⟩ => ?_) hpl he
  refine thn (hkw.run pos pins s2 σ H2 _ I2 ⟨w2, S2, ρ, hs2, hn2, q2.bind.imp fun w3 S3 H3 zs l3 s3 q3 vz rz => (show ∃ w S zs, Rs X.K w S H3 ∧ RvL X.K w vs ys ∧ RvL X.K w vz zs ∧ Fin X.K EK0 w ((if ys.length = n ∧ zs.length = ks.length then f (ys ++ zs) else bad) S) (fun w' _ H' d => ∀ v, Rv X.K w' v d → Q v H') from ⟨w3, S3, zs, s3, rvs.mono l3, rz, q3⟩)⟩) fun ws s3 ⟨vz, H3, I3, rz0, w3, S3, zs, hs3, rvs3, rz, q3⟩ => ⟨I3.kIn, ?_⟩
  rw [hks]
  by_cases hl : ys.length = n ∧ zs.length = ks.length
  · rw [if_pos hl] at q3
    have e1 := rvs3.length
    have e2 := rz.length
    refine run_fnN (E := E0) (us := us) (vs := vs) ok hr kb pass0 I3 r2 rz0 (by omega) (e2.trans hl.2) ⟨?_, w3, S3, _, hs3, rvs3.append rz, q3⟩
    rw [List.length_append]
    omega
  · rw [if_neg hl] at q3
    exact q3.elim
end
/-- a def with one keyword-only parameter; n positional ones -/
theorem dkAt_one {K : PySem.W.Frag} {mg : Str → Option Value} {st : Stmt} {ps : List Str} {fa : Addr} {fd : FuncData} {x y : Str} {v : V} {d : D} {n : Nat} (hm : mg x = some (.ref fa)) (F : FunD K x x (defArgs st) (defBody st) (defScope st) [] [(y, v)] fa fd) (hr : ∀ w, Rv K w v d) (hl : ps.length = n + 1)
    (b1 : ∀ (D : Addr) (doc pm : Value) (an : Option Addr) (cdv ct : Value) (us ks : List Value), us.length = n → ks.length = 1 → KwChain D ([y].zip ks) (bindArgs (PySem.W.fnOf x x (defArgs st) (defBody st) (defScope st) .none (.ref D) doc pm an cdv ct) ⟨us, []⟩) (ps.zip (us ++ ks)))
    (b2 : ∀ (D : Addr) (doc pm : Value) (an : Option Addr) (cdv ct : Value) (us ws : List Value), us.length = n → ws.length = 1 → bindArgs (PySem.W.fnOf x x (defArgs st) (defBody st) (defScope st) .none (.ref D) doc pm an cdv ct) ⟨us, [y].zip ws⟩ = pure (ps.zip (us ++ ws))) :
    DkAt K mg x st ps n [y] [d] := by
  obtain ⟨ds, hv, hb⟩ := F.binds0 (ps := ps) n (by simp) (by rw [hl]; rfl) fun D doc pm an cdv ct us ks h1 h2 => b1 D doc pm an cdv ct us ks h1 h2
  obtain ⟨mv, kb⟩ := F.kbinds0 (ps := ps) n [y] [] (fun us _ ws => us ++ ws) (by simp) (by simp) (fun r1 _ r3 => r1.append r3) fun D doc pm an cdv ct us mv ws h1 h2 h3 => b2 D doc pm an cdv ct us ws h1 h3
  exact ⟨fa, fd, [v], ds, [(y, v)], hm, hb, hv, fun w => .one (hr w), kb, hl, rfl, F⟩
end Mi
/-! Mi38: a target of many names. -/
namespace Mi
open PySem PySem.Spec PyProof.Rows L2
def setAll : List Nat → List D → Env → Env
  | i :: is, x :: xs, ρ => setAll is xs (ρ.set i (some x))
  | _, _, ρ => ρ
def gMany (is : List Nat) : D → Env → M Env := fun d ρ => match d with
  | .tup ds => if ds.length = is.length then M.pure (setAll is ds ρ) else bad
  | _ => bad
def namesG : List Nat → TGs
  | [] => gNil
  | i :: is => gCons (gName i) (namesG is)
def setAllV : List Nat → List V → L2.St → L2.St
  | i :: is, x :: xs, σ => setAllV is xs (σ.set i (some x))
  | _, _, σ => σ
theorem names_go {H : Hp} {Q : L2.St → Hp → Prop} : ∀ (is : List Nat) (vs : List V) (σ : L2.St), vs.length = is.length → Q (setAllV is vs σ) H → namesG is vs σ H Q
  | [], [], σ, _, q => ⟨rfl, q⟩
  | i :: is, v :: vs, σ, hl, q => ⟨v, vs, rfl, names_go is vs _ (by simpa using hl) q⟩
theorem setAll_rn {K : PySem.W.Frag} {w : Wd} : ∀ (is : List Nat) {vs : List V} {ds : List D} {σ : L2.St} {ρ : Env}, RvL K w vs ds → Rn K w σ ρ → Rn K w (setAllV is vs σ) (setAll is ds ρ)
  | [], _, _, _, _, _, hn => by
    rename_i vs ds _ _ _
    cases vs <;> cases ds <;> exact hn
  | i :: is, _, _, _, _, .nil, hn => hn
  | i :: is, _, _, _, _, .cons r rr, hn => setAll_rn is rr (hn.set r)
theorem gMany_go {K : PySem.W.Frag} {w : Wd} {S : Sto} {H : Hp} {v : V} {d : D} {σ : L2.St} {ρ : Env} {E : EK} {is : List Nat} {n : Nat} {P : Wd → Sto → Hp → Env → Prop} {Q : L2.St → Hp → Prop} (hs : Rs K w S H) (hl : is.length = n) (rv : Rv K w v d)
    (h : Fin K E w (gMany is d ρ S) P) (k : ∀ vs ds, RvL K w vs ds → P w S H (setAll is ds ρ) → Q (setAllV is vs σ) H) : gTup K n (namesG is) v σ H Q := by
  cases d with
  | tup ds =>
    unfold gMany at h
    by_cases hd : ds.length = is.length
    · simp only [if_pos hd] at h
      obtain ⟨a, xs, rfl, hq, rx⟩ := tup_go hs rv
      exact ⟨a, xs, rfl, hq, by rw [rx.length, hd, hl], names_go is xs σ (by rw [rx.length, hd]) (k xs ds rx (Fin.ok h hs))⟩
    · simp only [if_neg hd] at h
      exact h.elim
  | _ => exact h.elim
theorem wipe_setAll {ws : List Nat} : ∀ (is : List Nat) (vs : List V) (σ : L2.St), (∀ i, i ∈ is → i ∈ ws) → L2.wipe (setAllV is vs σ) ws = L2.wipe σ ws
  | [], vs, σ, _ => by cases vs <;> rfl
  | i :: is, [], σ, _ => rfl
  | i :: is, v :: vs, σ, h => by
    show L2.wipe (setAllV is vs (σ.set i (some v))) ws = _
    rw [wipe_setAll is vs _ fun j hj => h j (by simp [hj]), wipe_set (h i (by simp))]
theorem gw_many {K : PySem.W.Frag} {ws : List Nat} {is : List Nat} {n : Nat} (hl : is.length = n) (hi : ∀ i, i ∈ is → i ∈ ws) : GW K ws (gMany is) (gTup K n (namesG is)) := fun w S ρ H v d σ Q hs hn rv q =>
  gMany_go hs hl rv q fun vs ds r p => p _ (setAll_rn is r hn) (by rw [wipe_setAll is vs σ hi])
theorem mg_many {X : Cx} {E : EK} {es : List Expr} {kk : Nat} {tpos : Pos} {is : List Nat} {n : Nat} (hl : is.length = n) (h : PG X (.Tuple es kk tpos) (gTup X.K n (namesG is))) : PG X (.Tuple es kk tpos) (gM X.K E (gMany is)) :=
  ⟨fun pins s σ H v u Q I ru ⟨w, S, ρ, d, hs, hn, rv, q⟩ => h.run pins s σ H v u Q I ru (gMany_go hs hl rv q fun vs ds r p => p _ (setAll_rn is r hn))⟩
end Mi
/-! Mi39: del d[k], d.pop(k) of a dict cell. -/
namespace Mi
open PySem PySem.Spec PyProof.Rows L2
section
variable {κ : Type} [DecidableEq κ]
def dropD (kvs : List (κ × D)) (k : κ) : List (κ × D) := kvs.filter fun kv => decide (kv.1 ≠ k)
theorem RvP.drop {K : PySem.W.Frag} {w : Wd} {k : κ} : ∀ {vs : List (κ × V)} {ds : List (κ × D)}, RvP K w vs ds → RvP K w (dropK vs k) (dropD ds k)
  | _, _, .nil => .nil
  | _, _, .cons (x := k') (vs := vs) (ds := ds) r rr => by
    have ih := RvP.drop (k := k) rr
    by_cases h : k' = k
    · have e1 : ∀ {α : Type} (x : α) (l : List (κ × α)), ((k', x) :: l).filter (fun kv => decide (kv.1 ≠ k)) = l.filter fun kv => decide (kv.1 ≠ k) := fun x l => by simp [h]
      unfold dropK dropD
      rw [e1, e1]
      exact ih
    · have e1 : ∀ {α : Type} (x : α) (l : List (κ × α)), ((k', x) :: l).filter (fun kv => decide (kv.1 ≠ k)) = (k', x) :: l.filter fun kv => decide (kv.1 ≠ k) := fun x l => by simp [h]
      unfold dropK dropD
      rw [e1, e1]
      exact .cons r ih
end
def sDelD (mo mi : Env → M D) : Env → M (Fl × Env) := fun ρ => M.bind (mo ρ) fun x => M.bind (mi ρ) fun y => fun S => match x with
  | .ref n => match S[n]? with
    | some (.dct kvs) => match keyOf y with
      | some k => if (valD kvs k).isSome = true then some (.ok (.nx, ρ), S.set n (.dct (dropD kvs k))) else none
      | none => none
    | _ => none
  | _ => none
section
variable {X : Cx} {E : EK} {o i : Expr} {pos tpos : Pos} {mo mi : Env → M D}
theorem ms_delD (ho : PE X o (tM X.K E mo)) (hi : PE X i (tM X.K E mi)) : PS X (.Delete [.Subscript o i tpos] pos) (tMs X.K E (sDelD mo mi)) :=
  ps_imp (ps_ddel ho hi) fun D σ H ⟨w, S, ρ, hs, hn, h⟩ => ⟨w, S, ρ, hs, hn, h.bind.imp fun w1 S1 H1 x l1 s1 q v rv => ⟨w1, S1, ρ, s1, hn.mono l1, q.bind.imp fun w2 S2 H2 y l2 s2 q u ru => by
    have rv2 := rv.mono l2
    cases x with
    | ref n =>
      cases rv2 with
      | ref hA =>
        rename_i a
        rcases hc : S2[n]? with _ | (⟨ds⟩ | ⟨ds⟩ | ⟨C, ds⟩ | ⟨ds⟩)
        · simp only [hc] at q; exact q.elim
        · simp only [hc] at q; exact q.elim
        · rcases hk : keyOf y with _ | k
          · simp only [hc, hk] at q; exact q.elim
          · by_cases hl : (valD ds k).isSome = true
            · simp only [hc, hk, hl, if_true] at q
              obtain ⟨xs, h1, h2⟩ := s2.cell n _ _ hA hc
              have hv : (valV xs k).isSome = true := by
                rcases h2.val k with ⟨_, e⟩ | ⟨_, _, e, _, _⟩
                · rw [e] at hl; cases hl
                · rw [e]; rfl
              refine ⟨a, xs, k, rfl, h1, keyOf_go ru hk, hv, ?_⟩
              exact q w2 _ (Le.refl w2) (s2.put hA h1 (by intro _ _ z; cases z) ⟨_, upd_same, h2.drop⟩) σ (hn.mono (l1.trans l2))
            · simp only [hc, hk, hl, if_false] at q; exact q.elim
        · simp only [hc] at q; exact q.elim
        · simp only [hc] at q; exact q.elim
    | _ => exact q.elim⟩⟩
end
end Mi
/-! Mi40: plain defs whose last parameter has a default: f(a) and f(a, b). -/
namespace Mi
open PySem PySem.Spec PyProof.Rows L2
structure OkDp (P : Program) (w : World) (K : PySem.W.Frag) (mg : Str → Option Value) (base : Heap) (k : Nat) (x : Str) (n : Nat) (dd : List D) (f : List D → M D) : Prop where
  ex : ∃ (fa : Addr) (fd : FuncData) (ps : List Str) (dvs : List V) (ds ds' : List Value), PySem.W.keepIn K (.ref fa) = true ∧ mg x = some (.ref fa) ∧ Binds K fd ps ds ∧ Vals dvs ds ∧ (∀ w, RvL K w dvs dd) ∧ Binds K fd ps ds' ∧ Vals [] ds' ∧
    ps.length = n + 1 ∧ dd.length = 1 ∧ FnOk P w K mg base CX0 k fa fd ps (spM K ps.length f)
structure DpAt (K : PySem.W.Frag) (mg : Str → Option Value) (x : Str) (st : Stmt) (ps : List Str) (n : Nat) (dd : List D) : Prop where
  ex : ∃ (fa : Addr) (fd : FuncData) (dvs dvs0 : List V) (ds ds' : List Value), mg x = some (.ref fa) ∧ Binds K fd ps ds ∧ Vals dvs ds ∧ (∀ w, RvL K w dvs dd) ∧ Binds K fd ps ds' ∧ Vals [] ds' ∧
    ps.length = n + 1 ∧ dd.length = 1 ∧ FunD K x x (defArgs st) (defBody st) (defScope st) dvs0 [] fa fd
theorem OkDp.of {P : Program} {w : World} {K : PySem.W.Frag} {mg : Str → Option Value} {base : Heap} {x : Str} {st : Stmt} {ps N : List Str} {dd : List D} {k n j : Nat} {ms : Env → M (Fl × Env)} (hn : N.length = j) (D : DpAt K mg x st ps n dd) (sc : FnScope N ps (defScope st))
    (hb : ∀ (fa : Addr) (cdv : Value) (A : Around) (outer : List PySem.Env) (s : Shared) (H : Hp) (E : XK), Room k (A.deeper (envOfC x (defScope st) s.heap.objs.size fa cdv)) →
      PSs (cxOf CX0 P w K mg base N x (defScope st) fa cdv A outer s H E).nox (defBody st) (tMs K EK0 ms)) : OkDp P w K mg base (k + 1) x n dd (runM j ms) := by
  subst hn
  obtain ⟨fa, fd, dvs, dvs0, ds, ds', h2, b, hv, hd, b', hv', l1, l2, F⟩ := D.ex
  exact ⟨fa, fd, ps, dvs, ds, ds', F.kp, h2, b, hv, hd, b', hv', l1, l2, F.ok sc (spM_len rfl) fun cdv A outer s H vs Q E hr h => ⟨_, (hb fa cdv A outer s H E hr).nox, body_go h⟩⟩
section
variable {X : Cx} {a : Expr} {es : List Expr} {mas : Env → M (List D)} {x : Str} {p pos : Pos} {k n : Nat} {dd : List D} {f : List D → M D}
theorem me_dp (O : OkDp X.prog X.w X.K X.mg X.base k x n dd f) (hr : Room k X.A) (hg : Gl X x) (ha : PA X (a :: es) (tMa X.K EK0 mas)) (hdb : (x == ("__debug__" : Str)) = false := by decide)
    (he : starEach (a :: es) X.env = (false, eval a X.env) :: starEach es X.env := by rfl) (hpl : (backTo pos (starEach es X.env)).any (·.1) = false := by rfl) :
    PE X (.Call (.Name x p) (a :: es) [] pos) (tM X.K EK0 (calF n (fun xs => f (xs ++ dd)) mas)) := by
  obtain ⟨fa, fd, ps, dvs, ds, ds', hk, hm, b, hv, hd, b', hv', l1, l2, ok⟩ := O.ex
  rw [l1] at ok
  exact pe_imp (pe_call ok hr hg hm hk b hv pass0 ha hdb he hpl) fun σ H Q ⟨w, S, ρ, hs, hn, h⟩ => ⟨w, S, ρ, hs, hn, h.bind.imp fun w1 S1 H1 xs l1' s1 h1 vs rvs => by
    by_cases hl : xs.length = n
    · rw [if_pos hl] at h1
      exact ⟨by rw [List.length_append, rvs.length, (hd w1).length]; omega, w1, S1, _, s1, rvs.append (hd w1), h1⟩
    · rw [if_neg hl] at h1
      exact h1.elim⟩
theorem me_dpA {m : Nat} (hm' : n + 1 = m) (O : OkDp X.prog X.w X.K X.mg X.base k x n dd f) (hr : Room k X.A) (hg : Gl X x) (ha : PA X (a :: es) (tMa X.K EK0 mas)) (hdb : (x == ("__debug__" : Str)) = false := by decide)
    (he : starEach (a :: es) X.env = (false, eval a X.env) :: starEach es X.env := by rfl) (hpl : (backTo pos (starEach es X.env)).any (·.1) = false := by rfl) :
    PE X (.Call (.Name x p) (a :: es) [] pos) (tM X.K EK0 (calF m f mas)) := by
  subst hm'
  obtain ⟨fa, fd, ps, dvs, ds, ds', hk, hm, b, hv, hd, b', hv', l1, l2, ok⟩ := O.ex
  rw [l1] at ok
  exact pe_imp (pe_call ok hr hg hm hk b' hv' pass0 ha hdb he hpl) fun σ H Q ⟨w, S, ρ, hs, hn, h⟩ => ⟨w, S, ρ, hs, hn, h.bind.imp fun w1 S1 H1 xs l1' s1 h1 vs rvs => by
    by_cases hl : xs.length = n + 1
    · rw [if_pos hl] at h1
      exact ⟨by rw [List.append_nil, rvs.length, hl], w1, S1, _, s1, by rw [List.append_nil]; exact rvs, h1⟩
    · rw [if_neg hl] at h1
      exact h1.elim⟩
end
section
variable {K : PySem.W.Frag} {mg : Str → Option Value} {st : Stmt} {ps : List Str} {fa T : Addr} {fd : FuncData} {x : Str} {v : V} {u : Value} {d : D} {n : Nat}
theorem fund_dfl {oc kV doc pm cdv ct tc : Value} {od an to : Option Addr} {osl ss : Array (Option Value)} {tn : Nat} (l : K.lookup fa = some ⟨oc, od, .func (PySem.W.fnOf x x (defArgs st) (defBody st) (defScope st) (.ref T) kV doc pm an cdv ct), osl⟩)
    (cc : PySem.W.codeIn K cdv x = true) (k : PySem.W.keepIn K (.ref fa) = true) (t : K.lookup T = some ⟨tc, to, .seq #[u] tn, ss⟩) (r : RelV v u) : FunD K x x (defArgs st) (defBody st) (defScope st) [v] [] fa (PySem.W.fnOf x x (defArgs st) (defBody st) (defScope st) (.ref T) kV doc pm an cdv ct) :=
  ⟨⟨oc, od, .ref T, kV, doc, pm, an, cdv, ct, osl, rfl, l, cc, .inr ⟨by simp, T, _, [u], tn, rfl, t, rfl, .cons r .nil⟩, .inl rfl⟩, k⟩
theorem dpAt_one (hm : mg x = some (.ref fa)) (F : FunD K x x (defArgs st) (defBody st) (defScope st) [v] [] fa fd) (hr : ∀ w, Rv K w v d) (hl : ps.length = n + 1)
    (b1 : ∀ (T : Addr) (kV doc pm : Value) (an : Option Addr) (cdv ct : Value) (us its : List Value), us.length = n → its.length = 1 →
      ∃ k, bindArgs (PySem.W.fnOf x x (defArgs st) (defBody st) (defScope st) (.ref T) kV doc pm an cdv ct) ⟨us, []⟩ = seqItems? (.ref T) >>= k ∧ k (some its.toArray) = pure (ps.zip (us ++ its.drop 0)))
    (b2 : ∀ (T : Addr) (kV doc pm : Value) (an : Option Addr) (cdv ct : Value) (us its : List Value), us.length = n + 1 → its.length = 1 →
      ∃ k, bindArgs (PySem.W.fnOf x x (defArgs st) (defBody st) (defScope st) (.ref T) kV doc pm an cdv ct) ⟨us, []⟩ = seqItems? (.ref T) >>= k ∧ k (some its.toArray) = pure (ps.zip (us ++ its.drop 1))) :
    DpAt K mg x st ps n [d] := by
  obtain ⟨ds, hv, hb⟩ := F.binds1 (ps := ps) n 0 (by simp) (by rw [hl]; rfl) fun T kV doc pm an cdv ct us its h1 h2 => b1 T kV doc pm an cdv ct us its h1 h2
  obtain ⟨ds', hv', hb'⟩ := F.binds1 (ps := ps) (n + 1) 1 (by simp) (by rw [hl]; rfl) fun T kV doc pm an cdv ct us its h1 h2 => b2 T kV doc pm an cdv ct us its h1 h2
  exact ⟨fa, fd, [v], [v], ds, ds', hm, hb, hv, fun w => .one (hr w), hb', hv', hl, rfl, F⟩
end
end Mi
/-! Mi41: sorted(list of ints). -/
namespace Mi
open PySem PySem.Spec PyProof.Rows L2
theorem perm_sorted : ∀ (xs ys : List Int), xs.Perm ys → xs.Pairwise (· ≤ ·) → ys.Pairwise (· ≤ ·) → xs = ys
  | [], ys, h, _, _ => h.nil_eq
  | x :: xs, [], h, _, _ => by have := h.length_eq; simp at this
  | x :: xs, y :: ys, h, hx, hy => by
    rw [List.pairwise_cons] at hx hy
    have e : x = y := by
      have h1 : x ∈ y :: ys := h.mem_iff.1 (by simp)
      have h2 : y ∈ x :: xs := h.mem_iff.2 (by simp)
      rcases List.mem_cons.1 h1 with e | h1
      · exact e
      · rcases List.mem_cons.1 h2 with e | h2
        · exact e.symm
        · have := hy.1 x h1
          have := hx.1 y h2
          omega
    subst e
    rw [perm_sorted xs ys (List.perm_cons _ |>.1 h) hx.2 hy.2]
def isI (ns : List Int) : List Int := ns.mergeSort fun a b => decide (a ≤ b)
theorem isI_perm (ns : List Int) : (isI ns).Perm ns := List.mergeSort_perm _ _
theorem isI_sorted (ns : List Int) : (isI ns).Pairwise (· ≤ ·) := by
  have := List.pairwise_mergeSort (le := fun a b : Int => decide (a ≤ b)) (by intro a b c; simp; omega) (by intro a b; simp; omega) ns
  simpa [isI] using this
def sortedM (d : D) : M D := fun S => match asR S d with
  | some ds => match intsOf ds with
    | some ns => if ns.length ≤ 50000 then some (.ok (.lst ((isI ns).map D.int)), S) else none
    | none => none
  | none => none
theorem sortedM_ok {K : PySem.W.Frag} : CaM K (rSortedI K) (on1 sortedM) := on1_ok fun E w S H v x Q hs rv h => by
  unfold sortedM at h
  rcases h1 : asR S x with _ | ds
  · simp only [h1] at h; exact h.elim
  · rcases h2 : intsOf ds with _ | ns
    · simp only [h1, h2] at h; exact h.elim
    · by_cases hl : ns.length ≤ 50000
      · simp only [h1, h2, hl, if_true] at h
        obtain ⟨a, xs, rfl, hq, rx⟩ := asR_go hs rv h1
        rw [ints_rel rx h2] at hq
        refine ⟨a, ns, rfl, hq, fun ns' p hp hsr hf => ?_⟩
        rw [perm_sorted ns' (isI ns) (hp.trans (isI_perm ns).symm) hsr (isI_sorted ns)]
        exact h _ _ (hs.le_lay hf) (hs.lay hf) _ (.lst (by show upd w.G p _ p = _; rw [upd_same]) (ints_up _))
      · simp only [h1, h2, hl, if_false] at h; exact h.elim
theorem call_sortedU {X : Cx} (hc : X.calm = true) : CallR X (.builtin "sorted") (rSortedI X.K) := cr_sortedI
end Mi
/-! Mi42: f(), a plain def without parameters. -/
namespace Mi
open PySem PySem.Spec PyProof.Rows L2
section
variable {X : Cx} {x : Str} {p pos : Pos} {k : Nat} {st : Stmt} {ps : List Str} {f : List D → M D}
theorem me_callO0 (O : OkAt X.prog X.w X.K X.mg X.base k x st ps f) (hr : Room k X.A) (hg : Gl X x) (hn : ps.length = 0) (hdb : (x == ("__debug__" : Str)) = false := by decide) :
    PE X (.Call (.Name x p) [] [] pos) (tM X.K EK0 (calF 0 f fun _ => M.pure [])) := by
  obtain ⟨fa, fd, F, hm, b, ok⟩ := O.ex
  rw [hn] at ok
  exact pe_imp (pe_call0 ok hr hg hm F.kp b .nil pass0 hdb) fun σ H Q ⟨w, S, ρ, hs, hn, h⟩ => by
    have h : Fin X.K EK0 w (f [] S) fun w' _ H' d => ∀ v, Rv X.K w' v d → Q v H' := h
    exact ⟨rfl, w, S, [], hs, .nil, h⟩
end
end Mi
/-! Mi43: max, min of a list of ints. -/
namespace Mi
open PySem PySem.Spec PyProof.Rows L2
def foldI (f : Int → Int → Int) : List Int → Int
  | [] => 0
  | [x] => x
  | x :: y :: xs => f x (foldI f (y :: xs))
def mxI (ns : List Int) : Int := foldI (fun a b => if a ≤ b then b else a) ns
def mnI (ns : List Int) : Int := foldI (fun a b => if a ≤ b then a else b) ns
theorem mxI_is : ∀ ns : List Int, 0 < ns.length → mxI ns ∈ ns ∧ ∀ y, y ∈ ns → y ≤ mxI ns
  | [], h => by simp at h
  | [x], _ => ⟨by simp [mxI, foldI], by simp [mxI, foldI]⟩
  | x :: y :: xs, _ => by
    obtain ⟨h1, h2⟩ := mxI_is (y :: xs) (by simp)
    have e : mxI (x :: y :: xs) = if x ≤ mxI (y :: xs) then mxI (y :: xs) else x := rfl
    rw [e]
    split
    · rename_i h
      exact ⟨List.mem_cons_of_mem _ h1, fun z hz => by
        rcases List.mem_cons.1 hz with rfl | hz
        · exact h
        · exact h2 z hz⟩
    · rename_i h
      exact ⟨by simp, fun z hz => by
        rcases List.mem_cons.1 hz with rfl | hz
        · omega
        · have := h2 z hz; omega⟩
theorem mnI_is : ∀ ns : List Int, 0 < ns.length → mnI ns ∈ ns ∧ ∀ y, y ∈ ns → mnI ns ≤ y
  | [], h => by simp at h
  | [x], _ => ⟨by simp [mnI, foldI], by simp [mnI, foldI]⟩
  | x :: y :: xs, _ => by
    obtain ⟨h1, h2⟩ := mnI_is (y :: xs) (by simp)
    have e : mnI (x :: y :: xs) = if x ≤ mnI (y :: xs) then x else mnI (y :: xs) := rfl
    rw [e]
    split
    · rename_i h
      exact ⟨by simp, fun z hz => by
        rcases List.mem_cons.1 hz with rfl | hz
        · omega
        · have := h2 z hz; omega⟩
    · rename_i h
      exact ⟨List.mem_cons_of_mem _ h1, fun z hz => by
        rcases List.mem_cons.1 hz with rfl | hz
        · omega
        · exact h2 z hz⟩
def extL (f : List Int → Int) (d : D) : M D := fun S => match asR S d with
  | some ds => match intsOf ds with
    | some ns => if 0 < ns.length then some (.ok (.int (f ns)), S) else none
    | none => none
  | none => none
abbrev maxLM := extL mxI
abbrev minLM := extL mnI
theorem maxLM_ok {K : PySem.W.Frag} : CaM K (rMax K) (on1 maxLM) := on1_ok fun E w S H v x Q hs rv h => by
  unfold maxLM extL at h
  rcases h1 : asR S x with _ | ds
  · simp only [h1] at h; exact h.elim
  · rcases h2 : intsOf ds with _ | ns
    · simp only [h1, h2] at h; exact h.elim
    · by_cases hl : 0 < ns.length
      · simp only [h1, h2, hl, if_true] at h
        obtain ⟨a, xs, rfl, hq, rx⟩ := asR_go hs rv h1
        rw [ints_rel rx h2] at hq
        refine ⟨a, ns, rfl, hq, hl, fun m hm hb => ?_⟩
        obtain ⟨p1, p2⟩ := mxI_is ns hl
        obtain rfl : m = mxI ns := by have := hb _ p1; have := p2 m hm; omega
        exact Fin.ok h hs _ (.int _)
      · simp only [h1, h2, hl, if_false] at h; exact h.elim
theorem minLM_ok {K : PySem.W.Frag} : CaM K (rMin K) (on1 minLM) := on1_ok fun E w S H v x Q hs rv h => by
  unfold minLM extL at h
  rcases h1 : asR S x with _ | ds
  · simp only [h1] at h; exact h.elim
  · rcases h2 : intsOf ds with _ | ns
    · simp only [h1, h2] at h; exact h.elim
    · by_cases hl : 0 < ns.length
      · simp only [h1, h2, hl, if_true] at h
        obtain ⟨a, xs, rfl, hq, rx⟩ := asR_go hs rv h1
        rw [ints_rel rx h2] at hq
        refine ⟨a, ns, rfl, hq, hl, fun m hm hb => ?_⟩
        obtain ⟨p1, p2⟩ := mnI_is ns hl
        obtain rfl : m = mnI ns := by have := hb _ p1; have := p2 m hm; omega
        exact Fin.ok h hs _ (.int _)
      · simp only [h1, h2, hl, if_false] at h; exact h.elim
end Mi
/-! Mi44: {"a": x, "b": y, ..}, a dict display with text keys, as a new cell. -/
namespace Mi
open PySem PySem.Spec PyProof.Rows L2
def allE : List (Str × (Env → M D)) → Env → M (List D)
  | [] => fun _ => M.pure []
  | (_, m) :: r => aCons m (allE r)
def zipK (ks : List (Str × (Env → M D))) (vs : List D) : List (Key × D) := (ks.map fun k => (.inr k.1 : Key)).zip vs
def mergeD (kvs : List (Key × D)) : List (Key × D) := kvs.foldl (fun acc kv => putD acc kv.1 kv.2) []
def dispD (ks : List (Str × (Env → M D))) : Env → M D := fun ρ => M.bind newD fun r => M.bind (allE ks ρ) fun vs => fun S => match r with
  | .ref n => match S[n]? with
    | some (.dct []) => some (.ok (.ref n), S.set n (.dct (mergeD (zipK ks vs))))
    | _ => none
  | _ => none
inductive PDs (X : Cx) (E : EK) : List (TE × TE) → List (Str × (Env → M D)) → Prop
  | nil : PDs X E [] []
  | cons {k : Str} {m : Env → M D} {trs : List (TE × TE)} {ks : List (Str × (Env → M D))} (r : PDs X E trs ks) : PDs X E ((tM X.K E fun _ => M.pure (.str k), tM X.K E m) :: trs) ((k, m) :: ks)
section
variable {X : Cx} {E : EK} {pos : Pos} {keys : List (Option Expr)} {values : List Expr} {trs : List (TE × TE)} {ks : List (Str × (Env → M D))}
theorem pairs_go : ∀ {trs : List (TE × TE)} {ks : List (Str × (Env → M D))}, PDs X E trs ks → ∀ {σ : L2.St} {H : Hp} {w : Wd} {S : Sto} {ρ : Env} {Q : List (V × V) → Hp → Prop}, Rs X.K w S H → Rn X.K w σ ρ →
    Fin X.K E w (allE ks ρ S) (fun w' S' H' vs => ∀ xs, RvL X.K w' xs vs → Q (((ks.map fun k => (.inr k.1 : Key)).zip xs).map fun kv => (kV kv.1, kv.2)) H') → tPairs trs σ H Q
  | _, _, .nil, σ, H, w, S, ρ, Q, hs, hn, h => Fin.ok h hs [] .nil
  | _, _, .cons (k := k) (m := m) (ks := ks) r, σ, H, w, S, ρ, Q, hs, hn, h => by
    refine ⟨w, S, ρ, hs, hn, fun w1 H1 l1 s1 v rv => ?_⟩
    cases rv
    exact ⟨w1, S, ρ, s1, hn.mono l1, (Fin.bind (Fin.mono h l1)).imp fun w2 S2 H2 d l2 s2 q y ry => pairs_go r s2 (hn.mono (l1.trans l2)) ((Fin.bind q).imp fun w3 S3 H3 vs l3 s3 q3 xs rxs => Fin.ok q3 s3 (y :: xs) (.cons (ry.mono l3) rxs))⟩
theorem merge_rel {K : PySem.W.Frag} {w : Wd} : ∀ {qs : List Key} {xs : List V} {vs : List D} {a : List (Key × V)} {b : List (Key × D)}, RvL K w xs vs → RvP K w a b →
    RvP K w ((qs.zip xs).foldl (fun acc kv => putK acc kv.1 kv.2) a) ((qs.zip vs).foldl (fun acc kv => putD acc kv.1 kv.2) b)
  | [], _, _, _, _, _, r => by simpa using r
  | q :: qs, _, _, _, _, .nil, r => by simpa using r
  | q :: qs, _, _, _, _, .cons rx rr, r => by
    simp only [List.zip_cons_cons, List.foldl_cons]
    exact merge_rel rr (r.put rx)
theorem me_disp (hp : PPs X pos keys values trs) (pd : PDs X E trs ks) (hk : ks.length ≤ 15) (hall : keys.all (·.isSome) = true := by rfl) (hl : keys.length = values.length := by rfl) (h0 : keys ≠ [] := by simp) (h15 : keys.length ≤ 15 := by decide) :
    PE X (.Dict keys values pos) (tM X.K E (dispD ks)) := pe_imp (pe_disp hp hall hl h0 h15) fun σ H Q ⟨w, S, ρ, hs, hn, h⟩ p hp' => by
  have r := hs.add (p := p) (o := .dK []) (c := .dct []) hp' ⟨[], upd_same, .nil⟩
  have rv : Rv X.K (w.add p) (.ref p) (.ref S.length) := .ref (by show (w.A ++ [p])[S.length]? = some p; rw [← hs.len]; simp)
  have q := (Fin.bind h) (w.add p) _ le_add r
  refine pairs_go pd r (hn.mono le_add) ((Fin.bind q).imp fun w2 S2 H2 vs l2 s2 q xs rxs => ?_)
  have rv2 := rv.mono l2
  cases rv2 with
  | ref hA =>
    have q : Fin X.K E w2 (match S2[S.length]? with
      | some (.dct []) => some (.ok (.ref S.length), S2.set S.length (.dct (mergeD (zipK ks vs))))
      | _ => none) (fun w' _ H' d => ∀ v, Rv X.K w' v d → Q v H') := q
    split at q
    · rename_i hc
      obtain ⟨ys, h1, h2⟩ := s2.cell _ _ _ hA hc
      cases h2
      refine ⟨h1, _, rfl, by simp only [List.length_zip, List.length_map]; omega, ?_⟩
      exact q w2 _ (Le.refl w2) (s2.put hA h1 (by intro _ _ z; cases z) ⟨_, upd_same, merge_rel rxs .nil⟩) _ (.ref hA)
    · exact q.elim
end
end Mi
namespace Mi
open PySem PySem.Spec PyProof.Rows L2
/-! ### what a mirror answers -/
def Wp {α : Type} (m : M α) (S : Sto) (Q : α → Sto → Prop) : Prop := ∃ x S', m S = some (.ok x, S') ∧ Q x S'
section
variable {α β : Type} {m : M α} {S : Sto} {f : α → M β}
theorem wp_bind {Q : β → Sto → Prop} : Wp (M.bind m f) S Q ↔ Wp m S fun x S' => Wp (f x) S' Q := by
  constructor
  · rintro ⟨y, S2, h, q⟩
    unfold M.bind at h
    rcases hm : m S with _ | ⟨_ | x, S1⟩
    · rw [hm] at h; cases h
    · rw [hm] at h; cases h
    · rw [hm] at h; exact ⟨x, S1, rfl.trans hm.symm |>.symm, y, S2, h, q⟩
  · rintro ⟨x, S1, h, y, S2, h2, q⟩
    refine ⟨y, S2, ?_, q⟩
    unfold M.bind
    rw [h]
    exact h2
theorem wp_pure {x : α} {Q : α → Sto → Prop} : Wp (M.pure x) S Q ↔ Q x S := by
  constructor
  · rintro ⟨y, S2, h, q⟩; cases h; exact q
  · exact fun q => ⟨x, S, rfl, q⟩
theorem wp_of {x : α} {S' : Sto} {Q : α → Sto → Prop} (h : m S = some (.ok x, S')) : Wp m S Q ↔ Q x S' := by
  constructor
  · rintro ⟨y, S2, h2, q⟩; rw [h] at h2; cases h2; exact q
  · exact fun q => ⟨x, S', h, q⟩
theorem Wp.mono {Q R : α → Sto → Prop} (h : Wp m S Q) (k : ∀ x S', Q x S' → R x S') : Wp m S R := by
  obtain ⟨x, S', e, q⟩ := h
  exact ⟨x, S', e, k x S' q⟩
theorem wp_if {c : Prop} [Decidable c] {a b : M α} {Q : α → Sto → Prop} : Wp (if c then a else b) S Q ↔ if c then Wp a S Q else Wp b S Q := by split <;> rfl
theorem wp_ok {x : α} {S' : Sto} {Q : α → Sto → Prop} : Wp (fun S => some (.ok x, S)) S' Q ↔ Q x S' := wp_of rfl
end
/-- the pen's cell, and the cells behind it -/
def penS (cells : List Int) (a r : Int) (T : Sto) : Sto := .lst [.lst (cells.map D.int), .int a, .int r] :: T
def Pen (cells : List Int) (T : Sto) (A : Int) (S : Sto) : Prop := ∃ a r, 0 ≤ a ∧ a ≤ A ∧ S = penS cells a r T
theorem Pen.mono {cells : List Int} {T : Sto} {A B : Int} {S : Sto} (h : Pen cells T A S) (l : A ≤ B) : Pen cells T B S := by
  obtain ⟨a, r, h0, h1, e⟩ := h
  exact ⟨a, r, h0, by omega, e⟩
section
variable {S : Sto} {i j : Int} {Q : D → Sto → Prop}
theorem wp_int20 {g : Int → Int → D} : Wp (int20 g (.int i) (.int j)) S Q ↔ Q (g i j) S := wp_of rfl
theorem wp_int2 {C : Int → Int → Prop} [DecidableRel C] {g : Int → Int → D} (h : C i j) : Wp (int2 C g (.int i) (.int j)) S Q ↔ Q (g i j) S := wp_of (by show (if C i j then M.pure (g i j) else bad) S = _; rw [if_pos h]; rfl)
theorem wp_mod (h : 0 < j) : Wp (modM (.int i) (.int j)) S Q ↔ Q (.int (i % j)) S := wp_int2 (C := fun _ j => 0 < j) h
theorem wp_add : Wp (addM (.int i) (.int j)) S Q ↔ Q (.int (i + j)) S := wp_of rfl
theorem wp_neg : Wp (negM (.int i)) S Q ↔ Q (.int (-i)) S := wp_of rfl
theorem wp_int : Wp (intM (.int i)) S Q ↔ Q (.int i) S := wp_of rfl
theorem wp_intb {b : Bool} : Wp (intM (.bl b)) S Q ↔ Q (.int (if b then 1 else 0)) S := wp_of rfl
theorem wp_abs : Wp (absM (.int i)) S Q ↔ Q (.int (if i < 0 then -i else i)) S := wp_of rfl
theorem wp_lenL {ds : List D} : Wp (lenM (.lst ds)) S Q ↔ Q (.int (ds.length : Int)) S := wp_of rfl
theorem wp_lenT {ds : List D} : Wp (lenM (.tup ds)) S Q ↔ Q (.int (ds.length : Int)) S := wp_of rfl
theorem wp_toB {b : Bool} {Q : Bool → Sto → Prop} : Wp (toB (.bl b)) S Q ↔ Q b S := wp_of rfl
theorem wp_ixL {ds : List D} {k : Nat} {d : D} (h : ds[k]? = some d) : Wp (ixM (.lst ds) (.int k)) S Q ↔ Q d S := wp_of (by
  have e : atI ds (k : Int) = some d := atI_nat h
  simp only [ixM, asQ, asR, asC, e])
theorem wp_neNil {ds : List D} (h : ds.length ≠ 0) : Wp (neM (.lst ds) (.lst [])) S Q ↔ Q (.bl true) S := wp_of (by simp [eqB, lenDiff, asC, h])
theorem wp_neNil0 : Wp (neM (.lst []) (.lst [])) S Q ↔ Q (.bl false) S := wp_of (by
  have h : lenDiff S (.lst []) (.lst []) = false := rfl
  have h1 : SeqAt.shaped (.list []) = true := by decide +kernel
  have h2 : PyData.eqv (.list []) (.list []) = true := by decide +kernel
  simp [eqB, h, deS, toPy, toPyL, h1, h2])
theorem wp_eqNil {ds : List D} (h : ds.length ≠ 0) : Wp (eqM (.lst ds) (.lst [])) S Q ↔ Q (.bl false) S := wp_of (by simp [eqB, lenDiff, asC, h])
theorem wp_eqNil0 : Wp (eqM (.lst []) (.lst [])) S Q ↔ Q (.bl true) S := wp_of (by
  have h : lenDiff S (.lst []) (.lst []) = false := rfl
  have h1 : SeqAt.shaped (.list []) = true := by decide +kernel
  have h2 : PyData.eqv (.list []) (.list []) = true := by decide +kernel
  simp [eqB, h, deS, toPy, toPyL, h1, h2])
end
section
variable {cells : List Int} {T : Sto} {a r x : Int} {Q : D → Sto → Prop}
theorem pen0 : Wp (ixM (.ref 0) (.int 0)) (penS cells a r T) Q ↔ Q (.lst (cells.map D.int)) (penS cells a r T) := wp_of rfl
theorem pen1 : Wp (ixM (.ref 0) (.int 1)) (penS cells a r T) Q ↔ Q (.int a) (penS cells a r T) := wp_of rfl
theorem pen2 : Wp (ixM (.ref 0) (.int 2)) (penS cells a r T) Q ↔ Q (.int r) (penS cells a r T) := wp_of rfl
theorem put1 {ρ : Env} {Q : Env → Sto → Prop} : Wp (putM (.ref 0) (.int 1) (.int x) ρ) (penS cells a r T) Q ↔ Q ρ (penS cells x r T) := wp_of rfl
theorem put2 {ρ : Env} {Q : Env → Sto → Prop} : Wp (putM (.ref 0) (.int 2) (.int x) ρ) (penS cells a r T) Q ↔ Q ρ (penS cells a x T) := wp_of rfl
end
theorem pow18 : (10 : Int) ^ (18 : Int).toNat = 1000000000000000000 := by decide
theorem cpow18 : CPow 10 18 := by decide
theorem cpow (i : Int) (h0 : 0 ≤ i) (h1 : i < 18446744073709551616) (n : Int) (hn : 0 ≤ n ∧ n ≤ 1000000) : CPow i n := ⟨hn.1, hn.2, by omega⟩
theorem cmul1 {i j : Int} (h0 : -18446744073709551616 < i) (h1 : i < 18446744073709551616) : CMul i j := .inl ⟨by simpa using h0, by simpa using h1⟩
section
variable {cells : List Int} {a r b cell : Int}
theorem wp_run {N : Nat} {ms : Env → M (Fl × Env)} {ds : List D} {S : Sto} {Q : D → Sto → Prop} (h : Wp (ms (ds.map some ++ List.replicate (N - ds.length) none)) S fun r S' => ∃ d, r.1 = .rt d ∧ Q d S') : Wp (runM N ms ds) S Q := by
  refine wp_bind.2 (h.mono ?_)
  rintro ⟨f, ρ⟩ S' ⟨d, e, q⟩
  cases e
  exact wp_pure.2 q
theorem map_at {i : Nat} (h : i < cells.length) : (cells.map D.int)[i]? = some (.int (cells[i]'h)) := by simp [h]
end
section
variable {S : Sto} {i j : Int} {Q : D → Sto → Prop}
theorem shI (i : Int) : SeqAt.shaped (.int i) = true := by
  unfold SeqAt.shaped
  simp [PyData.canLay0, PyData.depth]
theorem shS {x : Str} (h : PyData.strOk x = true) : SeqAt.shaped (.str x) = true := by
  unfold SeqAt.shaped
  simp [PyData.canLay0, PyData.depth, h]
theorem wp_eqI : Wp (eqM (.int i) (.int j)) S Q ↔ Q (.bl (i == j)) S := wp_of (by
  have h : lenDiff S (.int i) (.int j) = false := rfl
  simp [eqB, h, deS, toPy, shI, PyData.eqv])
theorem wp_neI : Wp (neM (.int i) (.int j)) S Q ↔ Q (.bl (!(i == j))) S := wp_of (by
  have h : lenDiff S (.int i) (.int j) = false := rfl
  simp [eqB, h, deS, toPy, shI, PyData.eqv])
theorem wp_neS {x : Str} (hx : PyData.strOk x = true) : Wp (neM (.str x) (.str x)) S Q ↔ Q (.bl false) S := wp_of (by
  have h : lenDiff S (.str x) (.str x) = false := rfl
  simp [eqB, h, deS, toPy, shS hx, PyData.eqv])
theorem wp_addS {x y : Str} (h : x.length + y.length ≤ 100000) : Wp (addM (.str x) (.str y)) S Q ↔ Q (.str (x ++ y)) S := wp_of (by
  show (if x.length + y.length ≤ 100000 then _ else _) = _
  rw [if_pos h])
theorem wp_addL {x y : List D} (h : x.length + y.length ≤ 100000) : Wp (addM (.lst x) (.lst y)) S Q ↔ Q (.lst (x ++ y)) S := wp_of (by
  show (if x.length + y.length ≤ 100000 then _ else _) = _
  rw [if_pos h])
theorem wp_listS {x : Str} (h : x.cps.size ≤ 100000) : Wp (listM (.str x)) S Q ↔ Q (.lst (x.cps.toList.map sgn)) S := wp_of (by
  show (if x.cps.size ≤ 100000 then _ else _) = _
  rw [if_pos h])
end
/-! ### values that all may be asked of -/
def nrB : D → Bool
  | .ref _ => false
  | .exc _ _ => false
  | .lsr _ => false
  | _ => true
def goodB (d : D) : Bool := nrB d && (match d with
    | .tup ds => ds.all nrB && decide (ds.length ≤ 1000)
    | .str x => decide (x.length ≤ 1000)
    | _ => true) && match toPy d with
  | some p => p.showable && decide (p.shown.length ≤ 100000) && PyData.strOk p.shown && decide (p.depth ≤ 60)
  | none => false
/-! ### texts of small signs -/
def Small (x : Str) : Prop := ∀ c ∈ x.cps.toList, c < 128
theorem small_fold : ∀ (ys : List Str) (acc : Array Nat), (∀ c ∈ acc.toList, c < 128) → (∀ y ∈ ys, Small y) → ∀ c ∈ (ys.foldl (fun acc p => acc ++ (⟨#[]⟩ : Str).cps ++ p.cps) acc).toList, c < 128
  | [], acc, h, _ => h
  | y :: ys, acc, h, hy => small_fold ys _ (fun c hc => by
      simp only [Array.append_empty, Array.toList_append, List.mem_append] at hc
      rcases hc with hc | hc
      · exact h c hc
      · exact hy y (by simp) c hc) (fun z hz => hy z (by simp [hz]))
theorem small_join {ys : List Str} (h : ∀ y ∈ ys, Small y) : Small (Txt.join (⟨#[]⟩ : Str) ys) := by
  show ∀ c ∈ (Builtin.Str.glued (⟨#[]⟩ : Str) ys).cps.toList, c < 128
  unfold Builtin.Str.glued
  rcases ys with _ | ⟨y, ys⟩
  · intro c hc; cases hc
  · exact small_fold ys _ (h y (by simp)) (fun z hz => h z (by simp [hz]))
theorem char_ok : ∀ c < 128, ((Builtin.Str.reprChar 34 c) ++ (Builtin.Str.reprChar 39 c)).all (fun c => decide (c < 1114112)) = true := by decide +kernel
theorem repr_fold {q : Nat} (hq : ∀ c < 128, ∀ k ∈ Builtin.Str.reprChar q c, k < 1114112) : ∀ (cs : List Nat) (acc : Array Nat), (∀ c ∈ cs, c < 128) → (∀ c ∈ acc.toList, c < 1114112) → ∀ c ∈ (cs.foldl (fun out c => out ++ (Builtin.Str.reprChar q c).toArray) acc).toList, c < 1114112
  | [], acc, _, h => h
  | y :: ys, acc, hy, h => repr_fold hq ys _ (fun z hz => hy z (by simp [hz])) (fun c hc => by
      simp only [Array.toList_append, List.mem_append] at hc
      rcases hc with hc | hc
      · exact h c hc
      · exact hq y (hy y (by simp)) c hc)
theorem strOk_repr {x : Str} (h : Small x) : PyData.strOk (reprText x) = true := by
  have hq : reprQuote x = 34 ∨ reprQuote x = 39 := by unfold reprQuote; split <;> simp
  have hc : ∀ c < 128, ∀ k ∈ Builtin.Str.reprChar (reprQuote x) c, k < 1114112 := fun c hc k hk => by
    have e := List.all_eq_true.1 (char_ok c hc)
    rcases hq with q | q <;> rw [q] at hk
    · exact of_decide_eq_true (e k (List.mem_append_left _ hk))
    · exact of_decide_eq_true (e k (List.mem_append_right _ hk))
  have hq2 : reprQuote x < 1114112 := by omega
  unfold PyData.strOk reprText
  rw [← Array.all_toList, List.all_eq_true]
  intro c hc2
  simp only [Array.toList_push, List.mem_append, List.mem_singleton, ← Array.foldl_toList] at hc2
  refine decide_eq_true ?_
  rcases hc2 with hc2 | rfl
  · exact repr_fold hc _ _ h (by simpa using hq2) c hc2
  · exact hq2
theorem good_text {x : Str} (h : Small x) (hl : x.length ≤ 1000) : goodB (.str x) = true := by
  have e1 : PyData.strOk (reprText x) = true := strOk_repr h
  have e2 : (reprText x).length ≤ 10 * x.length + 2 := PySem.StrLaws.reprText_len x (fun c hc => Nat.lt_trans (h c hc) (by decide))
  have e3 : (reprText x).length ≤ 100000 := by omega
  simp [goodB, nrB, toPy, PyData.showable, PyData.shown, PyData.depth, e1, e3, hl]
/-! ### a walk that gathers -/
theorem wp_noErr {α : Type} {m : M α} {S : Sto} {Q : α → Sto → Prop} (h : Wp m S Q) : Wp (noErr m) S Q := by
  obtain ⟨x, S', e, q⟩ := h
  exact ⟨x, S', by unfold noErr; rw [e], q⟩
theorem lcGo_ok {cells : List Int} {T : Sto} {e : Env → M D} {i : Nat} {ρ : Env} (P : D → Prop) (B : Int)
    (he : ∀ x A S, A < B → Pen cells T A S → Wp (e (ρ.set i (some x))) S fun y S' => P y ∧ Pen cells T (A + 1) S') :
    ∀ (xs : List D) (A : Int) (S : Sto), A + xs.length ≤ B → Pen cells T A S → Wp (lcGo (gSet i) (fun _ => M.pure true) e ρ xs) S fun ys S' => ys.length = xs.length ∧ (∀ y ∈ ys, P y) ∧ Pen cells T (A + xs.length) S'
  | [], A, S, _, hp => wp_pure.2 ⟨rfl, ⟨fun _ h => absurd h List.not_mem_nil, by simpa using hp⟩⟩
  | x :: xs, A, S, hB, hp => by
    simp only [List.length_cons] at hB
    simp only [lcGo, gSet, wp_bind, wp_pure, if_true]
    refine (he x A S (by omega) hp).mono ?_
    rintro y S1 ⟨h1, hp1⟩
    refine (lcGo_ok P B he xs (A + 1) S1 (by omega) hp1).mono ?_
    rintro ys S2 ⟨h2, h3, hp2⟩
    refine ⟨by simp [h2], fun z hz => ?_, hp2.mono (by simp only [List.length_cons]; omega)⟩
    rcases List.mem_cons.1 hz with rfl | hz
    · exact h1
    · exact h3 z hz
def sgP (d : D) : Prop := ∃ c, c < 128 ∧ d = sgn c
theorem strs_of : ∀ {ys : List D}, (∀ y ∈ ys, sgP y) → ∃ xs : List Str, strsOf ys = some xs ∧ xs.length = ys.length ∧ (∀ x ∈ xs, Small x ∧ x.length = 1)
  | [], _ => ⟨[], rfl, rfl, fun _ h => by cases h⟩
  | y :: ys, h => by
    obtain ⟨c, hc, rfl⟩ := h y (by simp)
    obtain ⟨xs, h1, h2, h3⟩ := strs_of (ys := ys) (fun z hz => h z (by simp [hz]))
    refine ⟨⟨#[c]⟩ :: xs, by simp [strsOf, sgn, h1], by simp [h2], fun x hx => ?_⟩
    rcases List.mem_cons.1 hx with rfl | hx
    · exact ⟨fun k hk => by simp at hk; omega, rfl⟩
    · exact h3 x hx
theorem sum_ones : ∀ {xs : List Str}, (∀ x ∈ xs, Small x ∧ x.length = 1) → (xs.map (·.length)).sum = xs.length
  | [], _ => rfl
  | x :: xs, h => by
    have := (h x (by simp)).2
    have := sum_ones (xs := xs) (fun z hz => h z (by simp [hz]))
    simp only [List.map_cons, List.sum_cons, List.length_cons]
    omega
theorem join_ok {ys : List D} {S : Sto} {Q : D → Sto → Prop} (h : ∀ y ∈ ys, sgP y) (hl : ys.length ≤ 1000) (hQ : ∀ x : Str, Small x → x.length ≤ 1000 → Q (.str x) S) : Wp (joinM (.str (⟨#[]⟩ : Str)) [.lst ys]) S Q := by
  obtain ⟨xs, h1, h2, h3⟩ := strs_of h
  have e : (⟨#[]⟩ : Str).length = 0 := rfl
  have s1 := sum_ones h3
  have c1 : (xs.map (·.length)).sum + xs.length * (⟨#[]⟩ : Str).length ≤ 100000 := by rw [s1, e]; omega
  refine (wp_of (x := .str (Txt.join (⟨#[]⟩ : Str) xs)) (S' := S) ?_).2 (hQ _ (small_join fun y hy => (h3 y hy).1) ?_)
  · simp only [joinM, asQ, asR, asC, h1]
    rw [if_pos c1]
  · have := size_glued (⟨#[]⟩ : Str) xs
    show (Builtin.Str.glued (⟨#[]⟩ : Str) xs).length ≤ 1000
    rw [this, s1, e]
    omega
theorem emptyStr : ("" : Str) = ⟨#[]⟩ := rfl
theorem wp_chkS {x : Str} {S : Sto} {Q : Unit → Sto → Prop} : Wp (chkS (.str x)) S Q ↔ Q () S := wp_of rfl
theorem wp_rng {n : Int} {S : Sto} {Q : List D → Sto → Prop} (h : -100000 ≤ n ∧ n ≤ 100000) : Wp (rngOf [.int n]) S Q ↔ Q (rgD 0 n.toNat) S := wp_of (by
  show (if -100000 ≤ n ∧ n ≤ 100000 then M.pure (rgD 0 n.toNat) else bad) S = _
  rw [if_pos h]; rfl)
theorem rgD_len {lo : Int} {n : Nat} : (rgD lo n).length = n := by simp [rgD]
theorem eq_of_wp {α : Type} {m : M α} {v : α} {S S0 : Sto} (h : Wp m S fun x S' => x = v ∧ S' = S0) : m S = some (.ok v, S0) := by
  obtain ⟨x, S', e, rfl, rfl⟩ := h
  exact e
/-! ### comprehensions without effect -/
theorem lcGo_pure {α : Type} {t : Env → M Bool} {e : Env → M D} {i : Nat} {ρ : Env} {S : Sto} (g f : α → D) (p : α → Bool) : ∀ (ys : List α),
    (∀ y ∈ ys, t (ρ.set i (some (g y))) S = some (.ok (p y), S)) → (∀ y ∈ ys, p y = true → e (ρ.set i (some (g y))) S = some (.ok (f y), S)) →
    lcGo (gSet i) t e ρ (ys.map g) S = some (.ok ((ys.filter p).map f), S)
  | [], _, _ => rfl
  | y :: ys, ht, he => by
    have ih := lcGo_pure (t := t) (e := e) (ρ := ρ) (S := S) (i := i) g f p ys (fun z hz => ht z (by simp [hz])) (fun z hz => he z (by simp [hz]))
    refine eq_of_wp ?_
    simp only [List.map_cons, lcGo, gSet, wp_bind, wp_pure]
    rw [wp_of (ht y (by simp))]
    by_cases hp : p y = true
    · simp only [hp, if_true, wp_bind]
      rw [wp_of (he y (by simp) hp), wp_of ih]
      simp [wp_pure, hp]
    · simp only [hp, if_false, Bool.false_eq_true]
      rw [wp_of ih]
      simp [hp]
theorem wp_lc {α : Type} {t : Env → M Bool} {e : Env → M D} {i : Nat} {ρ : Env} {S : Sto} {Q : List D → Sto → Prop} (g f : α → D) (p : α → Bool) {ys : List α}
    (ht : ∀ y ∈ ys, t (ρ.set i (some (g y))) S = some (.ok (p y), S)) (he : ∀ y ∈ ys, p y = true → e (ρ.set i (some (g y))) S = some (.ok (f y), S)) :
    Wp (noErr (lcGo (gSet i) t e ρ (ys.map g))) S Q ↔ Q ((ys.filter p).map f) S := wp_of (by unfold noErr; rw [lcGo_pure g f p ys ht he])
section
variable {S : Sto} {d : D} {Q : D → Sto → Prop}
theorem wp_in {c : Nat} {y : Str} : Wp (inM (sgn c) (.str y)) S Q ↔ Q (.bl (decide (c ∈ y.cps.toList))) S := wp_of rfl
theorem wp_nin {c : Nat} {y : Str} : Wp (ninM (sgn c) (.str y)) S Q ↔ Q (.bl (!decide (c ∈ y.cps.toList))) S := wp_of rfl
theorem bls_map {α : Type} (f : α → Bool) : ∀ (ys : List α), blsOf (ys.map fun y => D.bl (f y)) = some (ys.map f)
  | [] => rfl
  | y :: ys => by simp [blsOf, bls_map f ys]
theorem wp_all {α : Type} {f : α → Bool} {ys : List α} : Wp (allM (.lst (ys.map fun y => D.bl (f y)))) S Q ↔ Q (.bl (ys.all f)) S := wp_of (by
  simp only [allM, asR, asC, bls_map]
  simp [List.all_map])
theorem wp_itS {y : Str} {Q : List D → Sto → Prop} : Wp (itemsOf (.str y)) S Q ↔ Q (y.cps.toList.map sgn) S := wp_of rfl
theorem wp_itT {ds : List D} {Q : List D → Sto → Prop} : Wp (itemsOf (.tup ds)) S Q ↔ Q ds S := wp_of rfl
theorem wp_lenS {y : Str} (h : y.length ≤ 100000) : Wp (lenM (.str y)) S Q ↔ Q (.int (y.length : Int)) S := wp_of (by
  show (if y.length ≤ 100000 then _ else _) = _
  rw [if_pos h])
theorem wp_eqNilB {ds : List D} : Wp (eqM (.lst ds) (.lst [])) S Q ↔ Q (.bl ds.isEmpty) S := by
  rcases ds with _ | ⟨x, xs⟩
  · exact wp_eqNil0
  · exact wp_eqNil (by simp)
end
theorem wp_lcD {t : Env → M Bool} {e : Env → M D} {i : Nat} {ρ : Env} {S : Sto} {Q : List D → Sto → Prop} (f : D → D) (p : D → Bool) {ys : List D}
    (ht : ∀ y ∈ ys, t (ρ.set i (some y)) S = some (.ok (p y), S)) (he : ∀ y ∈ ys, p y = true → e (ρ.set i (some y)) S = some (.ok (f y), S)) :
    Wp (noErr (lcGo (gSet i) t e ρ ys)) S Q ↔ Q ((ys.filter p).map f) S := by
  have := wp_lc (t := t) (e := e) (i := i) (ρ := ρ) (S := S) (Q := Q) id f p (ys := ys) ht he
  rwa [List.map_id] at this
theorem repr_ok {d : D} (h : goodB d = true) : ∃ x : Str, PyData.strOk x = true ∧ ∀ {S : Sto} {Q : D → Sto → Prop}, Wp (reprM d) S Q ↔ Q (.str x) S := by
  simp only [goodB, Bool.and_eq_true] at h
  obtain ⟨⟨h0, _⟩, h2⟩ := h
  rcases hp : toPy d with _ | p
  · rw [hp] at h2; cases h2
  · rw [hp] at h2
    simp only [Bool.and_eq_true, decide_eq_true_eq] at h2
    have e : ∀ S, deS S d = d := fun S => by cases d <;> first | rfl | cases h0
    refine ⟨p.shown, h2.1.2, fun {S Q} => wp_of ?_⟩
    unfold reprM
    simp only [e, hp]
    rw [if_pos ⟨h2.1.1.1, h2.1.1.2, h2.2⟩]
theorem strOk_app {x y : Str} : PyData.strOk (x ++ y) = (PyData.strOk x && PyData.strOk y) := by
  show (x.cps ++ y.cps).all _ = _
  rw [Array.all_append]; rfl
theorem strOk_from : ∀ (ts : List Str) (i : Nat) (acc : Str), PyData.strOk acc = true → (∀ t ∈ ts, PyData.strOk t = true) → PyData.strOk (textFrom i acc ts) = true
  | [], i, acc, h, _ => h
  | t :: ts, i, acc, h, ht => by
    refine strOk_from ts _ _ ?_ (fun z hz => ht z (by simp [hz]))
    simp only [strOk_app, h, ht t (by simp), Bool.true_and, Bool.and_true]
    split <;> decide +kernel
theorem strOk_list {ts : List Str} (ht : ∀ t ∈ ts, PyData.strOk t = true) : PyData.strOk (listText ts) = true := by
  unfold listText
  rw [strOk_app, strOk_from ts _ _ (by decide +kernel) ht]
  decide +kernel
theorem toPyB : ∀ bs : List Bool, toPyL (bs.map D.bl) = some (bs.map PyData.bool)
  | [] => rfl
  | b :: bs => by simp [toPyL, toPy, toPyB bs]
theorem shownB : ∀ bs : List Bool, PyData.shownAll (bs.map PyData.bool) = bs.map fun b => if b then ("True" : Str) else "False"
  | [] => by simp [PyData.shownAll]
  | b :: bs => by simp [PyData.shownAll, PyData.shown, shownB bs]
theorem showB : ∀ bs : List Bool, PyData.showableAll (bs.map PyData.bool) = true
  | [] => by simp [PyData.showableAll]
  | b :: bs => by simp [PyData.showableAll, PyData.showable, showB bs]
theorem depthB : ∀ bs : List Bool, PyData.depthAll (bs.map PyData.bool) = 0
  | [] => by simp [PyData.depthAll]
  | b :: bs => by simp [PyData.depthAll, PyData.depth, depthB bs]
theorem good_told2 (bs : List Bool) (h : bs.length ≤ 100) : goodB (.lst [.lst (bs.map D.bl), .lst (bs.map D.bl)]) = true := by
  have e1 : PyData.strOk (listText (bs.map fun b => if b then ("True" : Str) else "False")) = true := strOk_list fun t ht => by
    obtain ⟨b, _, rfl⟩ := List.mem_map.1 ht
    cases b <;> decide +kernel
  have e2 : (listText (bs.map fun b => if b then ("True" : Str) else "False")).length ≤ 2000 := by
    refine Nat.le_trans (listText_len_le _) ?_
    have : ∀ bs : List Bool, ((bs.map fun b => if b then ("True" : Str) else "False").map fun x => x.length).sum ≤ 5 * bs.length := by
      intro bs
      induction bs with
      | nil => decide
      | cons b bs ih =>
        have : (if b = true then ("True" : Str) else "False").length ≤ 5 := by cases b <;> decide +kernel
        simp only [List.map_cons, List.sum_cons, List.length_cons]
        omega
    have := this bs
    rw [List.length_map]
    omega
  have e3 : PyData.strOk (listText [listText (bs.map fun b => if b then ("True" : Str) else "False"), listText (bs.map fun b => if b then ("True" : Str) else "False")]) = true := strOk_list fun t ht => by
    simp only [List.mem_cons, List.not_mem_nil, or_false] at ht
    rcases ht with rfl | rfl <;> exact e1
  have e4 : (listText [listText (bs.map fun b => if b then ("True" : Str) else "False"), listText (bs.map fun b => if b then ("True" : Str) else "False")]).length ≤ 100000 := by
    refine Nat.le_trans (listText_len_le _) ?_
    simp only [List.map_cons, List.map_nil, List.sum_cons, List.sum_nil, List.length_cons, List.length_nil]
    omega
  simp [goodB, nrB, toPy, toPyL, toPyB, PyData.showable, PyData.showableAll, PyData.shown, PyData.shownAll, PyData.depth, PyData.depthAll, shownB, showB, depthB, e3, e4]
theorem perm1 {x : D} : permL [0] [x] = [x] := rfl
theorem perm2 {x y : D} : permL [1, 0] [x, y] = [y, x] := rfl
end Mi
namespace Mi
open PySem PySem.Spec PyProof.Rows L2
/-! ### data of bounded height and weight (what the text of it is long) -/
def GB : Int := 10 ^ 100
def GL (P : Nat → D → Prop) : Nat → List D → Prop
  | w, [] => 3 ≤ w
  | w, d :: ds => ∃ w1 w2, P w1 d ∧ GL P w2 ds ∧ w1 + 2 + w2 ≤ w
def leafG (b : Int) (w : Nat) : D → Prop
  | .non => 8 ≤ w
  | .bl _ => 8 ≤ w
  | .int i => -b ≤ i ∧ i ≤ b ∧ 110 ≤ w
  | .str x => Small x ∧ 10 * x.length + 2 ≤ w
  | .dct [] => 8 ≤ w
  | .dct [(.str x, .int i)] => 30 ≤ w ∧ x = "a" ∧ i = 1
  | _ => False
def GD (b : Int) : Nat → Nat → D → Prop
  | 0, w, d => leafG b w d
  | h + 1, w, d => leafG b w d ∨ ∃ ds, (d = .tup ds ∨ d = .lst ds) ∧ GL (GD b h) w ds
theorem leafG.mono {b b' : Int} {w w' : Nat} {d : D} (h : leafG b w d) (hb : b ≤ b') (hw : w ≤ w') : leafG b' w' d := by
  unfold leafG at h ⊢
  split at h <;> first | (exact h.elim) | (exact ⟨by omega, h.2⟩) | (exact ⟨h.1, by omega⟩) | (exact ⟨by omega, by omega, by omega⟩) | (exact Nat.le_trans h hw)
theorem GL.mono {P P' : Nat → D → Prop} (hP : ∀ w d, P w d → P' w d) : ∀ {ds : List D} {w w' : Nat}, GL P w ds → w ≤ w' → GL P' w' ds
  | [], _, _, h, l => by simp only [GL] at h ⊢; omega
  | d :: ds, _, _, ⟨w1, w2, h1, h2, h3⟩, l => ⟨w1, w2, hP _ _ h1, GL.mono hP h2 (Nat.le_refl _), by omega⟩
theorem GD.mono {b b' : Int} (hb : b ≤ b') : ∀ {h h' w w' : Nat} {d : D}, GD b h w d → h ≤ h' → w ≤ w' → GD b' h' w' d
  | 0, 0, _, _, _, g, _, l => leafG.mono g hb l
  | 0, h' + 1, _, _, _, g, _, l => .inl (leafG.mono g hb l)
  | h + 1, 0, _, _, _, g, k, l => absurd k (by omega)
  | h + 1, h' + 1, _, _, _, g, k, l => by
    rcases g with g | ⟨ds, e, g⟩
    · exact .inl (leafG.mono g hb l)
    · exact .inr ⟨ds, e, GL.mono (fun w d g => GD.mono hb g (by omega) (Nat.le_refl _)) g l⟩
theorem GL.ge {P : Nat → D → Prop} : ∀ {ds : List D} {w : Nat}, GL P w ds → 2 * ds.length + 3 ≤ w
  | [], _, h => by simpa [GL] using h
  | d :: ds, _, ⟨w1, w2, h1, h2, h3⟩ => by have := GL.ge h2; simp only [List.length_cons]; omega
theorem GL.app {P : Nat → D → Prop} : ∀ {a b : List D} {wa wb : Nat}, GL P wa a → GL P wb b → GL P (wa + wb - 3) (a ++ b)
  | [], b, wa, wb, ha, hb => by simp only [GL] at ha; exact GL.mono (fun _ _ h => h) hb (by omega)
  | d :: a, b, wa, wb, ⟨w1, w2, h1, h2, h3⟩, hb => ⟨w1, _, h1, GL.app h2 hb, by have := GL.ge h2; omega⟩
theorem GL.split {P : Nat → D → Prop} : ∀ {a b : List D} {w : Nat}, GL P w (a ++ b) → ∃ wa wb, GL P wa a ∧ GL P wb b ∧ wa + wb ≤ w + 3
  | [], b, w, h => ⟨3, w, by simp [GL], h, by omega⟩
  | d :: a, b, w, ⟨w1, w2, h1, h2, h3⟩ => by
    obtain ⟨wa, wb, e1, e2, e3⟩ := GL.split h2
    exact ⟨w1 + 2 + wa, wb, ⟨w1, wa, h1, e1, Nat.le_refl _⟩, e2, by omega⟩
theorem GL.one {P : Nat → D → Prop} {w : Nat} {d : D} (h : P w d) : GL P (w + 5) [d] := ⟨w, 3, h, by simp [GL], by omega⟩
theorem GL.un {P : Nat → D → Prop} {w : Nat} {d : D} {ds : List D} (h : GL P w (d :: ds)) : ∃ w1 w2, P w1 d ∧ GL P w2 ds ∧ w1 + 2 + w2 ≤ w := h
theorem GL.take {P : Nat → D → Prop} {w : Nat} {ds : List D} (n : Nat) (h : GL P w ds) : GL P w (ds.take n) := by
  rw [← List.take_append_drop n ds] at h
  obtain ⟨wa, wb, e1, e2, e3⟩ := GL.split h
  exact GL.mono (fun _ _ h => h) e1 (by have := GL.ge e2; omega)
theorem GL.drop {P : Nat → D → Prop} {w : Nat} {ds : List D} (n : Nat) (h : GL P w ds) : GL P w (ds.drop n) := by
  rw [← List.take_append_drop n ds] at h
  obtain ⟨wa, wb, e1, e2, e3⟩ := GL.split h
  exact GL.mono (fun _ _ h => h) e2 (by have := GL.ge e1; omega)
theorem GL.rev {P : Nat → D → Prop} : ∀ {ds : List D} {w : Nat}, GL P w ds → GL P w ds.reverse
  | [], _, h => h
  | d :: ds, w, ⟨w1, w2, h1, h2, h3⟩ => by
    rw [List.reverse_cons]
    have := GL.app (GL.rev h2) (GL.one h1)
    exact GL.mono (fun _ _ h => h) this (by omega)
/-- an item, and what stands on its left and right -/
theorem GL.at {P : Nat → D → Prop} {w n : Nat} {ds : List D} {d : D} (h : GL P w ds) (e : ds[n]? = some d) : ∃ wl wi wr, GL P wl (ds.take n) ∧ P wi d ∧ GL P wr (ds.drop (n + 1)) ∧ wl + wi + wr ≤ w + 1 := by
  obtain ⟨hn, e⟩ := List.getElem?_eq_some_iff.1 e
  have k : ds.take n ++ (d :: ds.drop (n + 1)) = ds := by rw [← e]; simp
  rw [← k] at h
  obtain ⟨wa, wb, e1, ⟨w1, w2, e2, e3, e4⟩, e5⟩ := GL.split h
  exact ⟨wa, w1, w2, e1, e2, e3, by omega⟩
theorem GL.get {P : Nat → D → Prop} {w n : Nat} {ds : List D} {d : D} (h : GL P w ds) (e : ds[n]? = some d) : ∃ wi, P wi d ∧ wi ≤ w := by
  obtain ⟨wl, wi, wr, h1, h2, h3, h4⟩ := GL.at h e
  exact ⟨wi, h2, by have := GL.ge h1; have := GL.ge h3; omega⟩
theorem GL.mem {P : Nat → D → Prop} {w : Nat} {ds : List D} {d : D} (h : GL P w ds) (e : d ∈ ds) : ∃ wi, P wi d ∧ wi ≤ w := by
  obtain ⟨n, hn⟩ := List.getElem?_of_mem e
  exact GL.get h hn
theorem int_small (i : Int) : Small (Str.ofString (toString i)) := fun c hc => by
  by_cases h : c < 128
  · exact h
  · exact absurd hc (int_text_free' c ⟨by omega, by omega⟩ i)
theorem small_ok {x : Str} (h : Small x) : PyData.strOk x = true := by
  unfold PyData.strOk
  rw [← Array.all_toList, List.all_eq_true]
  intro c hc
  have := h c hc
  exact decide_eq_true (by omega)
theorem int_log {i b : Int} (h : -b ≤ i ∧ i ≤ b) (hb : b ≤ GB) : i.natAbs.log2 < 1920 := by
  have e : GB = ((10 ^ 100 : Nat) : Int) := by decide +kernel
  have h1 : i.natAbs ≤ 10 ^ 100 := by rw [e] at hb; omega
  have h3 : (10 : Nat) ^ 100 < 2 ^ 400 := by decide +kernel
  by_cases h0 : i.natAbs = 0
  · rw [h0]; decide
  · have : i.natAbs.log2 < 400 := (Nat.log2_lt h0).2 (Nat.lt_of_le_of_lt h1 h3)
    omega
theorem int_len {i b : Int} (h : -b ≤ i ∧ i ≤ b) (hb : b ≤ GB) : (Str.ofString (toString i)).length ≤ 102 := by
  have e0 : GB = ((10 ^ 100 : Nat) : Int) := by decide +kernel
  have h1 : i.natAbs ≤ 10 ^ 100 := by rw [e0] at hb; omega
  have h3 : (10 : Nat) ^ 100 < 10 ^ 101 := by decide +kernel
  have e : (toString i).length ≤ 101 + 1 := int_text_length_le10 (by decide) (Nat.lt_of_le_of_lt h1 h3)
  rw [PySem.ofString_length]
  exact e
/-! ### what such data answer -/
theorem strOk_tup {ts : List Str} (ht : ∀ t ∈ ts, PyData.strOk t = true) : PyData.strOk (tupleText ts) = true := by
  have hs : ∀ ts : List Str, (∀ t ∈ ts, PyData.strOk t = true) → PyData.strOk (Str.join ", " ts) = true := by
    intro ts
    induction ts with
    | nil => intro _; decide +kernel
    | cons t ts ih =>
      intro h
      have e1 := h t (by simp)
      have e2 := ih (fun z hz => h z (by simp [hz]))
      cases ts with
      | nil => exact e1
      | cons y ys =>
        show PyData.strOk (t ++ ", " ++ Str.join ", " (y :: ys)) = true
        rw [strOk_app, strOk_app, e1, e2]
        decide +kernel
  unfold tupleText
  rw [strOk_app, strOk_app, hs ts ht]
  split <;> decide +kernel
structure Told (b : Int) (h w : Nat) (d : D) (p : PyData) : Prop where
  py : toPy d = some p
  show_ : p.showable = true
  len : p.shown.length ≤ w
  ok : PyData.strOk p.shown = true
  depth : p.depth ≤ h + 1
theorem leaf_told {b : Int} {h w : Nat} {d : D} (hb : b ≤ GB) (g : leafG b w d) : ∃ p, Told b h w d p := by
  unfold leafG at g
  split at g
  · exact ⟨.none, rfl, by decide +kernel, Nat.le_trans (by decide +kernel) g, by decide +kernel, Nat.zero_le _⟩
  · rename_i k
    exact ⟨.bool k, rfl, by cases k <;> decide +kernel, Nat.le_trans (by cases k <;> decide +kernel) g, by cases k <;> decide +kernel, by simp [PyData.depth]⟩
  · rename_i i
    have e : (PyData.int i).shown = Str.ofString (toString i) := by simp [PyData.shown]
    exact ⟨.int i, rfl, by simp [PyData.showable, int_log ⟨g.1, g.2.1⟩ hb], by rw [e]; have := int_len ⟨g.1, g.2.1⟩ hb; omega, by rw [e]; exact small_ok (int_small i), by simp [PyData.depth]⟩
  · rename_i x
    have e2 : (reprText x).length ≤ 10 * x.length + 2 := PySem.StrLaws.reprText_len x (fun c hc => Nat.lt_trans (g.1 c hc) (by decide))
    have e : (PyData.str x).shown = reprText x := by simp [PyData.shown]
    exact ⟨.str x, rfl, by simp [PyData.showable], by rw [e]; omega, by rw [e]; exact strOk_repr g.1, by simp [PyData.depth]⟩
  · exact ⟨.dict [], rfl, by decide +kernel, Nat.le_trans (by decide +kernel) g, by decide +kernel, by simp [PyData.depth, PyData.depthKv]⟩
  · obtain ⟨g1, rfl, rfl⟩ := g
    exact ⟨.dict [(.str "a", .int 1)], rfl, by decide +kernel, Nat.le_trans (by decide +kernel) g1, by decide +kernel, by simp [PyData.depth, PyData.depthKv]⟩
  · exact g.elim
structure Tolds (h w : Nat) (ds : List D) (ps : List PyData) : Prop where
  py : toPyL ds = some ps
  show_ : PyData.showableAll ps = true
  len : ((PyData.shownAll ps).map fun x => x.length).sum + 2 * (PyData.shownAll ps).length + 3 ≤ w
  ok : ∀ t ∈ PyData.shownAll ps, PyData.strOk t = true
  depth : PyData.depthAll ps ≤ h
theorem list_told {P : Nat → D → Prop} {b : Int} {h : Nat} (hP : ∀ w d, P w d → ∃ p, Told b h w d p) : ∀ {ds : List D} {w : Nat}, GL P w ds → ∃ ps, Tolds (h + 1) w ds ps
  | [], w, g => ⟨[], rfl, by simp [PyData.showableAll], by simpa [PyData.shownAll, GL] using g, by simp [PyData.shownAll], by simp [PyData.depthAll]⟩
  | d :: ds, w, ⟨w1, w2, g1, g2, g3⟩ => by
    obtain ⟨p, k⟩ := hP _ _ g1
    obtain ⟨ps, ks⟩ := list_told hP g2
    refine ⟨p :: ps, by simp [toPyL, k.py, ks.py], by simp [PyData.showableAll, k.show_, ks.show_], ?_, ?_, ?_⟩
    · have := k.len
      have := ks.len
      simp only [PyData.shownAll, List.map_cons, List.sum_cons, List.length_cons]
      omega
    · intro t ht
      simp only [PyData.shownAll, List.mem_cons] at ht
      rcases ht with rfl | ht
      · exact k.ok
      · exact ks.ok t ht
    · have := k.depth
      have := ks.depth
      simp only [PyData.depthAll]
      omega
theorem GD.told {b : Int} (hb : b ≤ GB) : ∀ {h w : Nat} {d : D}, GD b h w d → ∃ p, Told b h w d p
  | 0, _, _, g => leaf_told hb g
  | h + 1, w, d, g => by
    rcases g with g | ⟨ds, e, g⟩
    · exact leaf_told hb g
    · obtain ⟨ps, ks⟩ := list_told (b := b) (h := h) (fun w d g => GD.told hb g) g
      rcases e with rfl | rfl
      · refine ⟨.tuple ps, by simp [toPy, ks.py], by simp [PyData.showable, ks.show_], ?_, by simp only [PyData.shown]; exact strOk_tup ks.ok, by simp only [PyData.depth]; have := ks.depth; omega⟩
        simp only [PyData.shown]
        exact Nat.le_trans (tupleText_len_le _) ks.len
      · refine ⟨.list ps, by simp [toPy, ks.py], by simp [PyData.showable, ks.show_], ?_, by simp only [PyData.shown]; exact strOk_list ks.ok, by simp only [PyData.depth]; have := ks.depth; omega⟩
        simp only [PyData.shown]
        exact Nat.le_trans (listText_len_le _) ks.len
/-- what is no reference -/
theorem GD.nr {b : Int} {h w : Nat} {d : D} (g : GD b h w d) : nrB d = true := by
  cases h with
  | zero => cases d <;> first | rfl | exact g.elim
  | succ h =>
    rcases g with g | ⟨ds, e, _⟩
    · cases d <;> first | rfl | exact g.elim
    · rcases e with rfl | rfl <;> rfl
theorem GD.repr {b : Int} {h w : Nat} {d : D} (g : GD b h w d) (hb : b ≤ GB) (hh : h ≤ 50) (hw : w ≤ 90000) : ∃ x : Str, PyData.strOk x = true ∧ ∀ {S : Sto} {Q : D → Sto → Prop}, Wp (reprM d) S Q ↔ Q (.str x) S := by
  obtain ⟨p, k⟩ := g.told hb
  have e : ∀ S, deS S d = d := fun S => by have := g.nr; cases d <;> first | rfl | cases this
  refine ⟨p.shown, k.ok, fun {S Q} => wp_of ?_⟩
  unfold reprM
  simp only [e, k.py]
  rw [if_pos ⟨k.show_, Nat.le_trans k.len (by omega), Nat.le_trans k.depth (by omega)⟩]
/-- == against a text -/
def isS (z : Str) : D → Bool
  | .str x => x == z
  | _ => false
theorem leaf_eqS {b : Int} {w : Nat} {d : D} {z : Str} {S : Sto} (hz : PyData.strOk z = true) (g : leafG b w d) : eqX d (.str z) S = some (.ok (.bl (isS z d)), S) := by
  cases d with
  | non =>
    show eqM .non (.str z) S = _
    have h : lenDiff S .non (.str z) = false := rfl
    have h1 : SeqAt.shaped .none = true := by decide +kernel
    simp [eqB, h, h1, deS, toPy, shS hz, PyData.eqv, isS]
  | bl k =>
    show eqM (.bl k) (.str z) S = _
    have h : lenDiff S (.bl k) (.str z) = false := rfl
    have h1 : SeqAt.shaped (.bool k) = true := by cases k <;> decide +kernel
    simp [eqB, h, h1, deS, toPy, shS hz, PyData.eqv, isS]
  | int k =>
    show eqM (.int k) (.str z) S = _
    have h : lenDiff S (.int k) (.str z) = false := rfl
    simp [eqB, h, shI, deS, toPy, shS hz, PyData.eqv, isS]
  | str k =>
    show eqM (.str k) (.str z) S = _
    have h : lenDiff S (.str k) (.str z) = false := rfl
    simp [eqB, h, shS (small_ok g.1), deS, toPy, shS hz, PyData.eqv, isS]
  | dct k => rfl
  | _ => exact g.elim
theorem GD.eqS {b : Int} {h w : Nat} {d : D} {z : Str} {S : Sto} {Q : D → Sto → Prop} (g : GD b h w d) (hz : PyData.strOk z = true) : Wp (eqX d (.str z)) S Q ↔ Q (.bl (isS z d)) S := by
  cases h with
  | zero => exact wp_of (leaf_eqS hz g)
  | succ h =>
    rcases g with g | ⟨ds, e, g⟩
    · exact wp_of (leaf_eqS hz g)
    · rcases e with rfl | rfl <;> exact wp_of rfl
end Mi
namespace Mi
open PySem PySem.Spec PyProof.Rows L2
section
variable {S : Sto} {Q : D → Sto → Prop} {ds es : List D} {x y : Str} {i j : Int} {k : Bool} {v : D} {cells : List Int} {T : Sto} {A : Int} {b : Int} {h w : Nat}
theorem GD.shape {b : Int} {h w : Nat} {d : D} (g : GD b h w d) : leafG b w d ∨ ∃ h' ds, h = h' + 1 ∧ (d = .tup ds ∨ d = .lst ds) ∧ GL (GD b h') w ds := by
  cases h with
  | zero => exact .inl g
  | succ h =>
    rcases g with g | ⟨ds, e, g⟩
    · exact .inl g
    · exact .inr ⟨h, ds, rfl, e, g⟩
theorem GD.leaf {b : Int} {h w : Nat} {d : D} (g : leafG b w d) : GD b h w d := by
  cases h with
  | zero => exact g
  | succ h => exact .inl g
theorem GD.tup {b : Int} {h w : Nat} {ds : List D} (g : GL (GD b h) w ds) : GD b (h + 1) w (.tup ds) := .inr ⟨ds, .inl rfl, g⟩
theorem GD.lst {b : Int} {h w : Nat} {ds : List D} (g : GL (GD b h) w ds) : GD b (h + 1) w (.lst ds) := .inr ⟨ds, .inr rfl, g⟩
theorem wp_pick {P : D → Prop} {ds : List D} {k : Int} {S : Sto} {Q : D → Sto → Prop} (hP : ∀ d ∈ ds, P d) (h0 : 0 ≤ k) (h1 : k < ds.length) (q : ∀ d, P d → Q d S) : Wp (ixM (.lst ds) (.int k)) S Q := by
  obtain ⟨n, rfl⟩ : ∃ n : Nat, k = n := ⟨k.toNat, by omega⟩
  have hn : n < ds.length := by omega
  rw [wp_ixL (d := ds[n]) (by simp [hn])]
  exact q _ (hP _ (List.getElem_mem hn))
theorem wp_isi {d : D} {T t : String} {k : Bool} {S : Sto} {Q : D → Sto → Prop} (h : ∀ S, tyN S d = some t) (hk : kitB t T = some k) : Wp (isiM T d) S Q ↔ Q (.bl k) S := wp_of (by unfold isiM; simp only [h, hk])
theorem isi_nonT : Wp (isiM "tuple" .non) S Q ↔ Q (.bl false) S := wp_isi (fun _ => rfl) (by decide +kernel)
theorem isi_nonS : Wp (isiM "str" .non) S Q ↔ Q (.bl false) S := wp_isi (fun _ => rfl) (by decide +kernel)
theorem isi_nonI : Wp (isiM "int" .non) S Q ↔ Q (.bl false) S := wp_isi (fun _ => rfl) (by decide +kernel)
theorem isi_nonB : Wp (isiM "bool" .non) S Q ↔ Q (.bl false) S := wp_isi (fun _ => rfl) (by decide +kernel)
theorem isi_blT : Wp (isiM "tuple" (.bl k)) S Q ↔ Q (.bl false) S := wp_isi (fun _ => rfl) (by decide +kernel)
theorem isi_blS : Wp (isiM "str" (.bl k)) S Q ↔ Q (.bl false) S := wp_isi (fun _ => rfl) (by decide +kernel)
theorem isi_blI : Wp (isiM "int" (.bl k)) S Q ↔ Q (.bl true) S := wp_isi (fun _ => rfl) (by decide +kernel)
theorem isi_blB : Wp (isiM "bool" (.bl k)) S Q ↔ Q (.bl true) S := wp_isi (fun _ => rfl) (by decide +kernel)
theorem isi_intT : Wp (isiM "tuple" (.int i)) S Q ↔ Q (.bl false) S := wp_isi (fun _ => rfl) (by decide +kernel)
theorem isi_intS : Wp (isiM "str" (.int i)) S Q ↔ Q (.bl false) S := wp_isi (fun _ => rfl) (by decide +kernel)
theorem isi_intI : Wp (isiM "int" (.int i)) S Q ↔ Q (.bl true) S := wp_isi (fun _ => rfl) (by decide +kernel)
theorem isi_intB : Wp (isiM "bool" (.int i)) S Q ↔ Q (.bl false) S := wp_isi (fun _ => rfl) (by decide +kernel)
theorem isi_strT : Wp (isiM "tuple" (.str x)) S Q ↔ Q (.bl false) S := wp_isi (fun _ => rfl) (by decide +kernel)
theorem isi_strS : Wp (isiM "str" (.str x)) S Q ↔ Q (.bl true) S := wp_isi (fun _ => rfl) (by decide +kernel)
theorem isi_strI : Wp (isiM "int" (.str x)) S Q ↔ Q (.bl false) S := wp_isi (fun _ => rfl) (by decide +kernel)
theorem isi_strB : Wp (isiM "bool" (.str x)) S Q ↔ Q (.bl false) S := wp_isi (fun _ => rfl) (by decide +kernel)
theorem isi_tupT : Wp (isiM "tuple" (.tup ds)) S Q ↔ Q (.bl true) S := wp_isi (fun _ => rfl) (by decide +kernel)
theorem isi_tupS : Wp (isiM "str" (.tup ds)) S Q ↔ Q (.bl false) S := wp_isi (fun _ => rfl) (by decide +kernel)
theorem isi_tupI : Wp (isiM "int" (.tup ds)) S Q ↔ Q (.bl false) S := wp_isi (fun _ => rfl) (by decide +kernel)
theorem isi_tupB : Wp (isiM "bool" (.tup ds)) S Q ↔ Q (.bl false) S := wp_isi (fun _ => rfl) (by decide +kernel)
theorem isi_lstT : Wp (isiM "tuple" (.lst ds)) S Q ↔ Q (.bl false) S := wp_isi (fun _ => rfl) (by decide +kernel)
theorem isi_lstS : Wp (isiM "str" (.lst ds)) S Q ↔ Q (.bl false) S := wp_isi (fun _ => rfl) (by decide +kernel)
theorem isi_lstI : Wp (isiM "int" (.lst ds)) S Q ↔ Q (.bl false) S := wp_isi (fun _ => rfl) (by decide +kernel)
theorem isi_lstB : Wp (isiM "bool" (.lst ds)) S Q ↔ Q (.bl false) S := wp_isi (fun _ => rfl) (by decide +kernel)
theorem isi_dctT {kv : List (D × D)} : Wp (isiM "tuple" (.dct kv)) S Q ↔ Q (.bl false) S := wp_isi (fun _ => rfl) (by decide +kernel)
theorem isi_dctS {kv : List (D × D)} : Wp (isiM "str" (.dct kv)) S Q ↔ Q (.bl false) S := wp_isi (fun _ => rfl) (by decide +kernel)
theorem isi_dctI {kv : List (D × D)} : Wp (isiM "int" (.dct kv)) S Q ↔ Q (.bl false) S := wp_isi (fun _ => rfl) (by decide +kernel)
theorem isi_dctB {kv : List (D × D)} : Wp (isiM "bool" (.dct kv)) S Q ↔ Q (.bl false) S := wp_isi (fun _ => rfl) (by decide +kernel)
theorem addW_I : Wp (addW (.int i) (.int j)) S Q ↔ Q (.int (i + j)) S := wp_of rfl
theorem addW_B : Wp (addW (.bl k) (.int j)) S Q ↔ Q (.int ((if k = true then 1 else 0) + j)) S := wp_of rfl
theorem addW_S (h : x.length + y.length ≤ 100000) : Wp (addW (.str x) (.str y)) S Q ↔ Q (.str (x ++ y)) S := wp_addS h
theorem addW_T (h : ds.length + es.length ≤ 100000) : Wp (addW (.tup ds) (.tup es)) S Q ↔ Q (.tup (ds ++ es)) S := wp_of (by
  show (if ds.length + es.length ≤ 100000 then _ else _) = _
  rw [if_pos h])
theorem addM_T (h : ds.length + es.length ≤ 100000) : Wp (addM (.tup ds) (.tup es)) S Q ↔ Q (.tup (ds ++ es)) S := addW_T h
theorem addW_L (h : ds.length + es.length ≤ 100000) : Wp (addW (.lst ds) (.lst es)) S Q ↔ Q (.lst (ds ++ es)) S := wp_addL h
theorem subW_I : Wp (subW (.int i) (.int j)) S Q ↔ Q (.int (i - j)) S := wp_of rfl
theorem subW_B : Wp (subW (.bl k) (.int j)) S Q ↔ Q (.int ((if k = true then 1 else 0) - j)) S := wp_of rfl
theorem subW_IB : Wp (subW (.int i) (.bl k)) S Q ↔ Q (.int (i - (if k = true then 1 else 0))) S := wp_of rfl
theorem slc_T {lo hi : Option Int} : Wp (slcM lo hi (.tup ds)) S Q ↔ Q (.tup (cutD ds lo hi)) S := wp_of rfl
theorem slc_S {lo hi : Option Int} (h : x.length ≤ 100000) : Wp (slcM lo hi (.str x)) S Q ↔ Q (.str (cutS x lo hi)) S := wp_of (by
  show (if x.length ≤ 100000 then _ else _) = _
  rw [if_pos h])
theorem rev_T : Wp (revU (.tup ds)) S Q ↔ Q (.tup ds.reverse) S := wp_of rfl
theorem list_T : Wp (listM (.tup ds)) S Q ↔ Q (.lst ds) S := wp_of rfl
theorem upper_S (h : x.length ≤ 100000) : Wp (upperM (.str x)) S Q ↔ Q (.str (Txt.upper x)) S := wp_of (by
  show (if x.length ≤ 100000 then M.pure (D.str (Txt.upper x)) else bad) S = _
  rw [if_pos h]; rfl)
theorem str_I (h : i.natAbs.log2 < 1920) : Wp (strM (.int i)) S Q ↔ Q (.str (Str.ofString (toString i))) S := wp_of (by
  show (if i.natAbs.log2 < 1920 then M.pure (D.str (Str.ofString (toString i))) else bad) S = _
  rw [if_pos h]; rfl)
theorem str_B : Wp (strM (.bl k)) S Q ↔ Q (.str (if k = true then "True" else "False")) S := wp_of rfl
theorem eqM_BI : Wp (eqM (.bl k) (.int j)) S Q ↔ Q (.bl ((if k then 1 else 0) == j)) S := wp_of (by
  have h : lenDiff S (.bl k) (.int j) = false := rfl
  have h1 : SeqAt.shaped (.bool k) = true := by cases k <;> decide +kernel
  simp [eqB, h, h1, deS, toPy, shI, PyData.eqv])
theorem ixT {k : Nat} {d : D} (h : ds[k]? = some d) : Wp (ixM (.tup ds) (.int k)) S Q ↔ Q d S := wp_of (by
  have e : atI ds (k : Int) = some d := atI_nat h
  simp only [ixM, asQ, e])
theorem cut_G {P : Nat → D → Prop} {w : Nat} {ds : List D} {lo hi : Option Int} (g : GL P w ds) : GL P w (cutD ds lo hi) := (g.drop _).take _
theorem len_cut {ds : List D} {lo hi : Option Int} : (cutD ds lo hi).length ≤ ds.length := by
  unfold cutD
  rw [List.length_take, List.length_drop]
  omega
theorem small_app {x y : Str} (hx : Small x) (hy : Small y) : Small (x ++ y) := fun c hc => by
  have e : (x ++ y).cps.toList = x.cps.toList ++ y.cps.toList := Array.toList_append
  rw [e] at hc
  rcases List.mem_append.1 hc with h | h
  · exact hx c h
  · exact hy c h
theorem len_app {x y : Str} : (x ++ y).length = x.length + y.length := Array.size_append
theorem small_cut {x : Str} {lo hi : Option Int} (h : Small x) : Small (cutS x lo hi) ∧ (cutS x lo hi).length ≤ x.length := by
  unfold cutS
  constructor
  · intro c hc
    exact h c (List.mem_of_mem_drop (List.mem_of_mem_take (by simpa using hc)))
  · show (List.toArray _).size ≤ x.cps.size
    rw [List.size_toArray, List.length_take, List.length_drop, Array.length_toList]
    omega
theorem upper_low : ∀ k < 128, ∀ c ∈ Unicode.upperOf k, c < 128 := by
  have h : (List.range 128).all (fun k => (Unicode.upperOf k).all fun c => decide (c < 128)) = true := by decide +kernel
  intro k hk c hc
  exact of_decide_eq_true (List.all_eq_true.1 (List.all_eq_true.1 h k (List.mem_range.2 hk)) c hc)
theorem small_upper {x : Str} (h : Small x) : Small (Txt.upper x) ∧ (Txt.upper x).length ≤ 3 * x.length := by
  refine ⟨fun c hc => ?_, len_upper x⟩
  have hc : c ∈ ((x.cps.mapIdx fun i c => (Unicode.upperOf c).toArray).flatten) := Array.mem_toList_iff.1 hc
  rw [Array.mem_flatten] at hc
  obtain ⟨a, ha, hca⟩ := hc
  rw [Array.mem_mapIdx] at ha
  obtain ⟨i, hi, rfl⟩ := ha
  exact upper_low _ (h _ (Array.mem_toList_iff.2 (Array.getElem_mem hi))) c (by simpa using hca)
theorem wp_neT0 {ds : List D} {S : Sto} {Q : D → Sto → Prop} : Wp (neX (.tup ds) (.tup [])) S Q ↔ Q (.bl (!ds.isEmpty)) S := wp_of rfl
theorem cut_lo {ds : List D} {n : Nat} (h : n ≤ ds.length) : cutD ds none (some (n : Int)) = ds.take n := by
  have e : HT.sIx ds.length ds.length (some (n : Int)) = n := by
    unfold HT.sIx
    simp
    rw [if_neg (by omega)]
    omega
  have e0 : HT.sIx ds.length 0 none = 0 := by unfold HT.sIx; simp
  unfold cutD
  rw [e, e0]
  simp
theorem cut_hi {ds : List D} {n : Nat} (h : n ≤ ds.length) : cutD ds (some (n : Int)) none = ds.drop n := by
  have e : HT.sIx ds.length 0 (some (n : Int)) = n := by
    unfold HT.sIx
    simp
    rw [if_neg (by omega)]
    omega
  have e0 : HT.sIx ds.length ds.length none = ds.length := by unfold HT.sIx; simp
  unfold cutD
  rw [e, e0]
  exact List.take_of_length_le (by simp)
theorem lcGo_step {cells : List Int} {T : Sto} {e : Env → M D} {i : Nat} {ρ : Env} (P : D → Prop) (B c : Int) (h0 : 0 ≤ c)
    (he : ∀ x A S, A + c ≤ B → Pen cells T A S → Wp (e (ρ.set i (some x))) S fun y S' => P y ∧ Pen cells T (A + c) S') :
    ∀ (xs : List D) (A : Int) (S : Sto), A + c * xs.length ≤ B → Pen cells T A S → Wp (lcGo (gSet i) (fun _ => M.pure true) e ρ xs) S fun ys S' => ys.length = xs.length ∧ (∀ y ∈ ys, P y) ∧ Pen cells T (A + c * xs.length) S'
  | [], A, S, _, hp => wp_pure.2 ⟨rfl, ⟨fun _ h => absurd h List.not_mem_nil, by simpa using hp⟩⟩
  | x :: xs, A, S, hB, hp => by
    have e1 : c * ((x :: xs).length : Int) = c + c * xs.length := by
      rw [List.length_cons, Int.natCast_add, Int.mul_add]; simp; omega
    have e2 : 0 ≤ c * (xs.length : Int) := Int.mul_nonneg h0 (by omega)
    rw [e1] at hB
    simp only [lcGo, gSet, wp_bind, wp_pure, if_true]
    refine (he x A S (by omega) hp).mono ?_
    rintro y S1 ⟨h1, hp1⟩
    refine (lcGo_step P B c h0 he xs (A + c) S1 (by omega) hp1).mono ?_
    rintro ys S2 ⟨h2, h3, hp2⟩
    refine ⟨by simp [h2], fun z hz => ?_, hp2.mono (by rw [e1]; omega)⟩
    rcases List.mem_cons.1 hz with rfl | hz
    · exact h1
    · exact h3 z hz
def numG (d : D) : Prop := ∃ z : Int, d = .int z ∧ 1 ≤ z ∧ z ≤ 999999
theorem ints_of : ∀ {ys : List D}, (∀ y ∈ ys, numG y) → ∃ ns : List Int, ys = ns.map D.int ∧ intsOf ys = some ns ∧ ∀ n ∈ ns, 1 ≤ n ∧ n ≤ 999999
  | [], _ => ⟨[], rfl, rfl, fun _ h => absurd h List.not_mem_nil⟩
  | y :: ys, h => by
    obtain ⟨z, rfl, z0, z1⟩ := h y (by simp)
    obtain ⟨ns, e1, e2, e3⟩ := ints_of (ys := ys) (fun y hy => h y (by simp [hy]))
    refine ⟨z :: ns, by simp [e1], by simp [intsOf, e2], fun n hn => ?_⟩
    rcases List.mem_cons.1 hn with rfl | hn
    · exact ⟨z0, z1⟩
    · exact e3 n hn
theorem GL.cons {P : Nat → D → Prop} {w1 w2 : Nat} {d : D} {ds : List D} (h : P w1 d) (g : GL P w2 ds) : GL P (w1 + 2 + w2) (d :: ds) := ⟨w1, w2, h, g, Nat.le_refl _⟩
theorem GL.nil {P : Nat → D → Prop} : GL P 3 [] := Nat.le_refl _
theorem tuple_L {ds : List D} {S : Sto} {Q : D → Sto → Prop} : Wp (tupleM (.lst ds)) S Q ↔ Q (.tup ds) S := wp_of rfl
def txtG (d : D) : Prop := ∃ x : Str, d = .str x ∧ Small x ∧ x.length ≤ 8
theorem txt_mk {x : Str} (h : (x.cps.toList.all (fun c => decide (c < 128))) = true) (k : x.length ≤ 8) : txtG (.str x) := ⟨x, rfl, fun c hc => of_decide_eq_true (List.all_eq_true.1 h c hc), k⟩
def wordB (al : Str) : D → Bool
  | .str x => decide (1 ≤ x.length) && decide (x.length ≤ 8) && x.cps.toList.all fun c => decide (c ∈ al.cps.toList)
  | _ => false
def numB : D → Bool
  | .int i => decide (1 ≤ i) && decide (i ≤ 999999)
  | _ => false
def okV (v : D) : Prop := nrB v = true ∧ ∀ x, v = .str x → x.length ≤ 100000 ∧ PyData.strOk x = true
theorem GD.okV {b : Int} {h w : Nat} {v : D} (g : GD b h w v) (hw : w ≤ 100000) : okV v := by
  refine ⟨g.nr, fun x e => ?_⟩
  subst e
  rcases g.shape with g | ⟨h', ds, e, e1 | e1, g⟩
  · exact ⟨by have := g.2; omega, small_ok g.1⟩
  · cases e1
  · cases e1
theorem filter_not {α : Type} {p : α → Bool} : ∀ {l : List α}, (l.filter fun c => !p c).isEmpty = l.all p
  | [] => rfl
  | x :: l => by
    rw [List.filter_cons, List.all_cons, ← filter_not (l := l)]
    cases p x <;> simp
theorem isEmpty_map {α β : Type} {f : α → β} : ∀ {l : List α}, (l.map f).isEmpty = l.isEmpty
  | [] => rfl
  | _ :: _ => rfl
def ascB : List Int → Bool
  | a :: b :: ns => decide (a < b) && ascB (b :: ns)
  | _ => true
theorem zip_two : ∀ (a b : List Int), List.zipWith pairD (a.map D.int) (b.map D.int) = (a.zip b).map fun p => pairD (.int p.1) (.int p.2)
  | [], _ => rfl
  | _ :: _, [] => rfl
  | x :: a, y :: b => by simp [zip_two a b]
theorem lcGo_two {α : Type} {e : Env → M D} {i j : Nat} {ρ : Env} {S : Sto} (g1 g2 f : α → D) : ∀ (ys : List α),
    (∀ y ∈ ys, e ((ρ.set i (some (g1 y))).set j (some (g2 y))) S = some (.ok (f y), S)) →
    lcGo (gTwo i j) (fun _ => M.pure true) e ρ (ys.map fun y => pairD (g1 y) (g2 y)) S = some (.ok (ys.map f), S)
  | [], _ => rfl
  | y :: ys, he => by
    have ih := lcGo_two (e := e) (ρ := ρ) (S := S) (i := i) (j := j) g1 g2 f ys (fun z hz => he z (by simp [hz]))
    refine eq_of_wp ?_
    simp only [List.map_cons, lcGo, gTwo, pairD, wp_bind, wp_pure, if_true]
    rw [wp_of (he y (by simp))]
    exact (wp_of ih).2 ⟨rfl, rfl⟩
theorem zip_asc : ∀ (ns : List Int), (ns.zip (ns.drop 1)).all (fun p => decide (p.1 < p.2)) = ascB ns
  | [] => rfl
  | [a] => rfl
  | a :: b :: ns => by
    have := zip_asc (b :: ns)
    simp only [List.drop_succ_cons, List.drop_zero, List.zip_cons_cons, List.all_cons, ascB] at this ⊢
    rw [← this]
theorem rng_asc : ∀ (ns : List Int), (List.range (ns.length - 1)).all (fun i => decide (ns.getD i 0 < ns.getD (i + 1) 0)) = ascB ns
  | [] => rfl
  | [a] => rfl
  | a :: b :: ns => by
    have ih := rng_asc (b :: ns)
    have e : (a :: b :: ns).length - 1 = ((b :: ns).length - 1) + 1 := by simp
    rw [e, List.range_succ_eq_map, List.all_cons, List.all_map, ascB, ← ih]
    rfl
theorem all_num : ∀ {ds : List D}, ds.all numB = true → ∃ ns : List Int, ds = ns.map D.int ∧ intsOf ds = some ns
  | [], _ => ⟨[], rfl, rfl⟩
  | d :: ds, h => by
    rw [List.all_cons, Bool.and_eq_true] at h
    obtain ⟨ns, e1, e2⟩ := all_num h.2
    cases d with
    | int i => exact ⟨i :: ns, by simp [e1], by simp [intsOf, e2]⟩
    | _ => exact absurd h.1 (by simp [numB])
def isB : D → Bool
  | .bl _ => true
  | _ => false
theorem notN_any : Wp (notN v .non) S Q ↔ Q (.bl (!isNon v)) S := wp_of rfl
theorem isN_any : Wp (isN v .non) S Q ↔ Q (.bl (isNon v)) S := wp_of rfl
theorem isi_B (g : nrB v = true) : Wp (isiM "bool" v) S Q ↔ Q (.bl (isB v)) S := by
  cases v with
  | non => exact isi_nonB
  | bl k => exact isi_blB
  | int i => exact isi_intB
  | str x => exact isi_strB
  | tup ds => exact isi_tupB
  | lst ds => exact isi_lstB
  | dct kv => exact isi_dctB
  | _ => cases g
def isT : D → Bool
  | .str _ => true
  | _ => false
theorem isi_S (g : nrB v = true) : Wp (isiM "str" v) S Q ↔ Q (.bl (isT v)) S := by
  cases v with
  | non => exact isi_nonS
  | bl k => exact isi_blS
  | int i => exact isi_intS
  | str x => exact isi_strS
  | tup ds => exact isi_tupS
  | lst ds => exact isi_lstS
  | dct kv => exact isi_dctS
  | _ => cases g
theorem neNilB {ds : List D} : Wp (neM (.lst ds) (.lst [])) S Q ↔ Q (.bl (!ds.isEmpty)) S := by
  rcases ds with _ | ⟨x, xs⟩
  · exact wp_neNil0
  · exact wp_neNil (by simp)
theorem neSS {x z : Str} (hx : PyData.strOk x = true) (hz : PyData.strOk z = true) : Wp (neM (.str x) (.str z)) S Q ↔ Q (.bl (!(x == z))) S := wp_of (by
  have h : lenDiff S (.str x) (.str z) = false := rfl
  simp [eqB, h, shS hx, shS hz, deS, toPy, PyData.eqv])
theorem eqSS {x z : Str} (hx : PyData.strOk x = true) (hz : PyData.strOk z = true) : Wp (eqM (.str x) (.str z)) S Q ↔ Q (.bl (x == z)) S := wp_of (by
  have h : lenDiff S (.str x) (.str z) = false := rfl
  simp [eqB, h, shS hx, shS hz, deS, toPy, PyData.eqv])
theorem le_not {a b : Int} : decide (b ≤ a) = !decide (a < b) := by
  by_cases h : a < b
  · have : ¬ b ≤ a := by omega
    simp [h, this]
  · have : b ≤ a := by omega
    simp [h, this]
theorem GL_of {P : Nat → D → Prop} {w : Nat} : ∀ {ds : List D}, (∀ d ∈ ds, P w d) → GL P ((w + 2) * ds.length + 3) ds
  | [], _ => by simp [GL]
  | d :: ds, h => ⟨w, (w + 2) * ds.length + 3, h d (by simp), GL_of fun e he => h e (by simp [he]), by simp only [List.length_cons, Nat.mul_add]; omega⟩
theorem repT {S : Sto} {Q : D → Sto → Prop} {ds : List D} {k : Int} (h : ds ≠ [] ∧ 2 ≤ k ∧ k ≤ 1000 ∧ ds.length ≤ 1000) : Wp (repM (.tup ds) (.int k)) S Q ↔ Q (.tup (List.replicate k.toNat ds).flatten) S := wp_of (by
  show (if ds ≠ [] ∧ 2 ≤ k ∧ k ≤ 1000 ∧ ds.length ≤ 1000 then _ else _) = _
  rw [if_pos h])
theorem repL {S : Sto} {Q : D → Sto → Prop} {ds : List D} {k : Int} (h : 0 ≤ k ∧ k ≤ 1000 ∧ ds.length * k.toNat ≤ 100000) : Wp (repM (.lst ds) (.int k)) S Q ↔ Q (.lst (List.replicate k.toNat ds).flatten) S := wp_of (by
  show (if 0 ≤ k ∧ k ≤ 1000 ∧ ds.length * k.toNat ≤ 100000 then _ else _) = _
  rw [if_pos h])
theorem rep1 {n : Nat} {d : D} : (List.replicate n [d]).flatten = List.replicate n d := by
  induction n with
  | zero => rfl
  | succ n ih => rw [List.replicate_succ, List.flatten_cons, ih]; rfl
end
end Mi
namespace Mi
open PySem PySem.Spec L2
/-! ### exceptions made: any built-in base above, keywords too -/
section
variable {M : Model} {A : Around} {E : Value → Shared → Prop} {h : Heap} {g : Array GenState} {d : Drawn} {t : Nat} {os : OsState}
  {nm q : Str} {C N : Addr} {bs bm tl : List Value} {hd : Bool} {sn : List Str} {sub : List Value} {ab : Bool} {col : Option Bool} {dd : Option Addr} {k0 k1 k2 k3 k5 : Option Value} {B nw ini : String}
theorem xchk (F : ExcBaseFacts B nw ini tl) (hT : ∀ Y : String, bm.contains (.type Y) = tl.contains (.type Y)) {us : List Value} {kw : List (Str × Value)} {Q : Unit → Shared → Prop}
    (hC : h.get? C = some (excClassObj nm q C N bs bm hd sn sub ab col dd k0 k1 k2 k3 k5 nw)) (hq : Q () ⟨h, g, d, t, os⟩) :
    wpAny M A (checkBuiltinCall nw ⟨.ref C :: us, kw⟩) Q E ⟨h, g, d, t, os⟩ := by
  have sb : (Value.ref C :: bm).contains (.type B) = true := by
    rw [List.contains_cons, hT, F.hasB, Bool.or_true]
  have ns := F.noStar
  simp only [checkBuiltinCall, F.newKind, F.newSplit, F.newRow]
  repeat (first
    | refine wpAny_staticBase_exc hC ?_
    | refine wpAny_madeBy_exc hC ?_
    | (refine wpAny_isSubtype_exc hC ?_; rw [sb])
    | refine wpAny_loadPart_at hC ?_
    | simp only [Bool.false_eq_true, bne_self_eq_false, if_false]
    | wp_step)
  exact hq
end
section
variable {prog : Program} {w : World} {A : Around} {E : Value → Shared → Prop} {R : Result → Shared → Prop} {h : Heap} {g : Array GenState} {d : Drawn} {t : Nat} {os : OsState}
  {nm q : Str} {C N : Addr} {bs bm tl : List Value} {hd : Bool} {sn : List Str} {sub : List Value} {ab : Bool} {col : Option Bool} {dd : Option Addr} {k0 k1 k2 k3 k5 : Option Value} {B nw ini : String}
theorem xnew (F : ExcBaseFacts B nw ini tl) (hT : ∀ Y : String, bm.contains (.type Y) = tl.contains (.type Y)) {us : List Value} {kw : List (Str × Value)}
    (hC : h.get? C = some (excClassObj nm q C N bs bm hd sn sub ab col dd k0 k1 k2 k3 k5 nw))
    (hq : R (.ok (.ret (.ref (h.objs.size + 1)))) ⟨(h.push (PySem.W.kdv_tup us)).push (HandSPX.excO C h.objs.size), g, d, t, os⟩) (hz : us.length ≤ sizeLine) :
    codeAny (model prog w) A (.builtin nw ⟨.ref C :: us, kw⟩) R ⟨h, g, d, t, os⟩ := by
  have ends := F.ends
  have s1 : (Value.ref C :: bm).contains (.type B) = true := by
    rw [List.contains_cons, hT, F.hasB, Bool.or_true]
  have s2 : (Value.ref C :: bm).contains (.type "AttributeError") = false := by
    rw [List.contains_cons, hT, F.noAttr]; rfl
  have s3 : (Value.ref C :: bm).contains (.type "NameError") = false := by
    rw [List.contains_cons, hT, F.noName]; rfl
  refine codeAny_builtinAt F.entry ?_
  unfold Builtin.«BaseException.__new__»
  refine wpAt_bind ?_
  show wpAt _ _ _ (stack >>= _) _ _ _
  refine wpAt_bind (wpAt_stack fun p below => wpAt_of_wpAny ?_)
  wp_walk
  refine wpAt_of_wpAny ?_
  rw [F.owner]
  repeat (first
    | with_reducible refine wpAny_loadPart_at hC ?_
    | with_reducible refine wpAny_madeHere_exc F.canon hC ?_
    | (with_reducible refine wpAny_isSubtype_exc hC ?_
       first | rw [s1] | rw [s2] | rw [s3])
    | wp_step)
  show R _ _
  rw [Heap.size_push]
  exact hq
theorem xcall0 (F : ExcBaseFacts B nw ini tl) (hT : ∀ Y : String, bm.contains (.type Y) = tl.contains (.type Y)) {us : List Value} {kw : List (Str × Value)} {fI : Addr} {Q : PySem.Fin → Shared → Prop}
    (hC : h.get? C = some (excClassObj nm q C N bs bm hd sn sub ab col dd k0 k1 k2 k3 k5 nw))
    (hi : PySem.W.Looks (model prog w) h (typeLookup (.ref C) "__init__") (some (.ref fI))) (hb : ∀ self, PySem.W.Looks (model prog w) h (bindSpecial (.ref fI) self) (.ref fI, [self])) (hz : us.length ≤ sizeLine)
    (hq : codeAny (model prog w) A (.call (.ref fI) ⟨.ref (h.objs.size + 1) :: us, kw⟩)
      (fun r s' => match r with
        | .ok (.ret v) => v = .none ∧ Q (.done (.ret (.ref (h.objs.size + 1)))) s'
        | .ok _ => False
        | .error e => E e s') ⟨(h.push (PySem.W.kdv_tup us)).push (HandSPX.excO C h.objs.size), g, d, t, os⟩) :
    wpAny (model prog w) A (Builtin.«type.__call__» ⟨.ref C :: us, kw⟩) Q E ⟨h, g, d, t, os⟩ := by
  repeat (first
    | with_reducible refine wpAny_madeBy_exc hC ?_
    | with_reducible refine wpAny_loadPart_at hC ?_
    | wp_step)
  refine codeAny_call_builtin_code (Code.quiet_builtin _ F.quiet) (xchk F hT hC ?_)
  refine xnew F hT hC ?_ hz
  show wpAny _ _ _ _ _ _
  have kp : ∀ b o, h.get? b = some o → ((h.push (PySem.W.kdv_tup us)).push (HandSPX.excO C h.objs.size)).get? b = some o :=
    fun b o e => Heap.get?_push_of_some _ (Heap.get?_push_of_some _ e)
  have hC1 := kp _ _ hC
  have gx : ((h.push (PySem.W.kdv_tup us)).push (HandSPX.excO C h.objs.size)).get? (h.objs.size + 1) = some (HandSPX.excO C h.objs.size) := by
    heap_get
  have cc : (Value.ref C :: bm).contains (.ref C) = true := by simp
  have i2 := hi.keeps kp
  have b2 := (hb (.ref (h.objs.size + 1))).keeps kp
  unfold isInstance
  repeat (first
    | with_reducible refine wpAny_loadPart_at gx ?_
    | (with_reducible refine wpAny_isSubtype_exc hC1 ?_
       rw [cc])
    | wp_step)
  show wpAny _ _ (typeLookup (.ref C) _) _ _ _
  refine i2.at ?_
  refine wpAny_holding (wpAny_bind (b2.at ?_))
  refine wpAny_bind (wpAny_call (codeAny_mono hq fun r s' z => ?_))
  cases r with
  | error e => exact z
  | ok fl =>
    cases fl with
    | ret v =>
      obtain ⟨rfl, z⟩ := z
      first
        | exact wpAny_pure (wpAny_pure z)
        | (wp_walk; exact z)
    | next => exact z.elim
    | brk => exact z.elim
    | cont => exact z.elim
theorem xcall (F : ExcBaseFacts B nw ini tl) (hT : ∀ Y : String, bm.contains (.type Y) = tl.contains (.type Y)) {us : List Value} {kw : List (Str × Value)} {fI : Addr}
    (hC : h.get? C = some (excClassObj nm q C N bs bm hd sn sub ab col dd k0 k1 k2 k3 k5 nw))
    (hi : PySem.W.Looks (model prog w) h (typeLookup (.ref C) "__init__") (some (.ref fI))) (hb : ∀ self, PySem.W.Looks (model prog w) h (bindSpecial (.ref fI) self) (.ref fI, [self])) (hz : us.length ≤ sizeLine)
    (hq : codeAny (model prog w) (A.under (.builtin "type.__call__" ⟨.ref C :: us, kw⟩)) (.call (.ref fI) ⟨.ref (h.objs.size + 1) :: us, kw⟩) (PySem.W.InitBack (h.objs.size + 1) R)
      ⟨(h.push (PySem.W.kdv_tup us)).push (HandSPX.excO C h.objs.size), g, d, t, os⟩) :
    codeAny (model prog w) A (.call (.ref C) ⟨us, kw⟩) R ⟨h, g, d, t, os⟩ := by
  have f1 := tc_lookup
  have f2 := tc_bind (.ref C)
  have ty : (⟨h, g, d, t, os⟩ : Shared).TypeIs (.ref C) "type" := ⟨_, hC, rfl⟩
  have ti : PySem.W.Looks (model prog w) h (isInstance (.ref C) (.type "type")) true := by
    unfold isInstance
    exact (PySem.W.Looks.andThen (show PySem.W.Looks (model prog w) h (typeOf (.ref C)) (.type "type") from (PySem.W.Looks.ld hC).andThen .now) (PySem.W.Looks.of_pure tc_sub))
  refine codeAny_of_tree ?_
  show wpAny _ _ (callAny (.ref C) _) _ _ _
  repeat (any_goals (first
    | assumption
    | with_reducible refine wpAny_loadPart_at hC ?_
    | wp_step))
  refine ⟨rfl, ?_⟩
  refine codeAny_call_builtin_at (Code.quiet_builtin _ (by decide +kernel)) entry_typeCall (PySem.W.check_slot tc_kind tc_split ti (PySem.W.tc_args _ _ _) (xcall0 F hT hC hi hb hz ?_))
  refine codeAny_mono hq fun r s' z => ?_
  cases r with
  | error e => exact z
  | ok fl => cases fl <;> exact z
end
/-! ### self.f = v on such an exception -/
section
open Builtin Builtin.ObjectAttr
variable {prog : Program} {w : World} {A : Around} {R : Result → Shared → Prop} {hp : Heap} {g : Array GenState} {d : Drawn} {t : Nat} {os : OsState} {K : PySem.W.Frag} {f : Str} {tk : Tok} {v : Value} {x C dx : Addr} {fv : Array Value} {B : String} {tl : List Value}
theorem xput0 (SF : StoreFacts B tl "object.__setattr__" "object") (X : K.In hp) (hx : hp.get? x = some { cls := .ref C, data := .fields fv }) (ho : PySem.W.excOver K C tl = true) (ht : PySem.W.takerIn K C f = some none) (hh : PySem.W.hasDictIn K C = true)
    (hq : ∀ h' tk' dx, (∀ b o, b ≠ x → hp.get? b = some o → h'.get? b = some o) → hp.objs.size ≤ dx → dx ≠ x → h'.get? x = some { cls := .ref C, dict := some dx, data := .fields fv } →
      h'.Ns1 dx (fun y => if y = f then some v else none) → R (.ok (.ret .none)) ⟨h', g, d, tk', os⟩) :
    codeAny (model prog w) A (.call (.builtin "object.__setattr__") ⟨[.ref x, .str f tk, v], []⟩) R ⟨hp, g, d, t, os⟩ := by
  have ne : x ≠ hp.objs.size := Nat.ne_of_lt (Heap.lt_size hx)
  refine PySem.W.osa_openX (s := ⟨hp, g, d, t, os⟩) (od := none) SF X ⟨hx, rfl, rfl, trivial⟩ ho ht fun b => ?_
  obtain ⟨cd, hcd, hdi⟩ := PySem.W.any_some hh
  have lc : PySem.W.Looks (model prog w) hp (classData C) cd := PySem.W.looks_clsIn X hcd
  obtain ⟨nm, bs, mro, ns, qn, hd, sn, sb, ab, col, del⟩ := cd
  dsimp only at hdi
  subst hdi
  show wpAny _ _ (storeInOwnDict (.ref x) (.ref C) (.str f tk) f v b) _ _ _
  unfold storeInOwnDict ownDictForStores
  repeat (first
    | with_reducible refine HandSPX.store_in_new ?_ ?_
    | with_reducible refine lc.at ?_
    | with_reducible refine wpAny_loadPart_at hx ?_
    | wp_step)
  · exact ⟨_, #[], _, (Heap.get?_update_ne _ _ _ _ ne.symm).trans (Heap.get?_push_at rfl rfl), rfl, fun e he => absurd he (by simp), fun _ => rfl⟩
  · intro h' tk' hn hs
    have hx1 : (hp.push { cls := .type "dict", data := .dict #[] }).get? x = some { cls := .ref C, data := .fields fv } := Heap.get?_push_of_some _ hx
    refine hq h' tk' hp.objs.size (fun b o hb ho => ?_) (Nat.le_refl _) ne.symm ?_ hn
    · exact (hs.2 b (Nat.ne_of_lt (Heap.lt_size ho))).trans ((Heap.get?_update_ne _ _ _ _ hb).trans (Heap.get?_push_of_some _ ho))
    · exact (hs.2 x ne).trans (Heap.get?_update_self _ hx1 rfl)
theorem xput1 {m0 : Str → Option Value} {nl : List Str} (SF : StoreFacts B tl "object.__setattr__" "object") (X : K.In hp) (hx : hp.get? x = some { cls := .ref C, dict := some dx, data := .fields fv }) (hns : hp.Ns1 dx m0) (hw : Within m0 nl) (hz : nl.length ≤ 1000)
    (ho : PySem.W.excOver K C tl = true) (ht : PySem.W.takerIn K C f = some none) (hh : PySem.W.hasDictIn K C = true)
    (hq : ∀ h' tk', (∀ b o, b ≠ dx → hp.get? b = some o → h'.get? b = some o) → h'.Ns1 dx (fun y => if y = f then some v else m0 y) → R (.ok (.ret .none)) ⟨h', g, d, tk', os⟩) :
    codeAny (model prog w) A (.call (.builtin "object.__setattr__") ⟨[.ref x, .str f tk, v], []⟩) R ⟨hp, g, d, t, os⟩ := by
  obtain ⟨oD, _, _, hoD, _, _⟩ := hns.count hw
  refine PySem.W.osa_openX (s := ⟨hp, g, d, t, os⟩) (od := some oD) SF X ⟨hx, rfl, rfl, hoD⟩ ho ht fun b => ?_
  obtain ⟨cd, hcd, hdi⟩ := PySem.W.any_some hh
  have lc : PySem.W.Looks (model prog w) hp (classData C) cd := PySem.W.looks_clsIn X hcd
  obtain ⟨nm, bs, mro, ns, qn, hd, sn, sb, ab, col, del⟩ := cd
  dsimp only at hdi
  subst hdi
  show wpAny _ _ (storeInOwnDict (.ref x) (.ref C) (.str f tk) f v b) _ _ _
  unfold storeInOwnDict ownDictForStores
  repeat (first
    | with_reducible refine OEX.store_in_old hns hw hz ?_
    | with_reducible refine lc.at ?_
    | with_reducible refine wpAny_loadPart_at hx ?_
    | wp_step)
  intro h' tk' hn hs
  exact hq h' tk' (fun b o hb ho => (hs.2 b hb).trans ho) hn
end
end Mi
namespace Mi
open PySem PySem.Spec PyProof.Rows L2
/-! ### classes of exceptions of the text -/
structure XCl (K : PySem.W.Frag) (C : Addr) : Prop where
  base : ∃ (B nw ini : String) (tl : List Value), ExcBaseFacts B nw ini tl ∧ StoreFacts B tl "object.__setattr__" "object" ∧ PySem.W.excInitIn K C tl nw = true ∧ PySem.W.excOver K C tl = true
  hd : PySem.W.hasDictIn K C = true
  sa : PySem.W.findIn K (.ref C) "__setattr__" = some (some (.builtin "object.__setattr__"))
  ex : PySem.W.subIn K (.ref C) (.type "BaseException") = some true
  ty : PySem.W.typeIn K (.ref C) = some (.type "type")
  kp : PySem.W.keepIn K (.ref C) = true
  ga : PySem.W.findIn K (.ref C) "__getattribute__" = some (some (.builtin "BaseException.__getattribute__"))
  gg : PySem.W.findIn K (.ref C) "__getattr__" = some none
  cl : PySem.W.findIn K (.ref C) "__class__" = some (some (.builtin "object.__class__"))
  mo : PySem.W.mroIn K C (.type "object") = some true
  sg : PySem.W.specialIn K (.builtin "object.__class__") "__get__" = some (some (.builtin "getset_descriptor.__get__"))
  tg : PySem.W.takesIn K (.builtin "object.__class__") = some true
def xkB (K : PySem.W.Frag) (C : Addr) (tl : List Value) (nw : String) : Bool :=
  PySem.W.excInitIn K C tl nw && (PySem.W.excOver K C tl && (PySem.W.hasDictIn K C && (PySem.W.findIn K (.ref C) "__setattr__" == some (some (.builtin "object.__setattr__")) && (PySem.W.subIn K (.ref C) (.type "BaseException") == some true &&
  (PySem.W.typeIn K (.ref C) == some (.type "type") && (PySem.W.keepIn K (.ref C) && (PySem.W.findIn K (.ref C) "__getattribute__" == some (some (.builtin "BaseException.__getattribute__")) && (PySem.W.findIn K (.ref C) "__getattr__" == some none &&
  (PySem.W.findIn K (.ref C) "__class__" == some (some (.builtin "object.__class__")) && (PySem.W.mroIn K C (.type "object") == some true && (PySem.W.specialIn K (.builtin "object.__class__") "__get__" == some (some (.builtin "getset_descriptor.__get__")) &&
  PySem.W.takesIn K (.builtin "object.__class__") == some true)))))))))))
theorem xk_of {K : PySem.W.Frag} {C : Addr} {B nw ini : String} {tl : List Value} (F : ExcBaseFacts B nw ini tl) (SF : StoreFacts B tl "object.__setattr__" "object") (h : xkB K C tl nw = true) : XCl K C := by
  unfold xkB at h
  simp only [Bool.and_eq_true, beq_iff_eq] at h
  obtain ⟨h1, h2, h3, h4, h5, h6, h7, h8, h9, h10, h11, h12, h13⟩ := h
  exact ⟨⟨B, nw, ini, tl, F, SF, h1, h2⟩, h3, h4, h5, h6, h7, h8, h9, h10, h11, h12, h13⟩
def xtl : String → List Value
  | "ValueError" => [.type "ValueError", .type "Exception", .type "BaseException", .type "object"]
  | "RuntimeError" => [.type "RuntimeError", .type "Exception", .type "BaseException", .type "object"]
  | "LookupError" => [.type "LookupError", .type "Exception", .type "BaseException", .type "object"]
  | _ => [.type "OverflowError", .type "ArithmeticError", .type "Exception", .type "BaseException", .type "object"]
/-! ### a field is stored while the exception is made -/
section
variable {X : Cx} {pins : List (Addr × Obj)} {σ : L2.St} {H : Hp} {s : Shared} {a C dx : Addr} {f : Str} {y : V} {u : Value} {fs : List (Str × V)} {Q : Unit → Shared → Prop} {E : Value → Shared → Prop} {A : Around}
theorem xst_new (T : XCl X.K C) (I : Inv X pins σ H s) (e : H a = some (exo a C none)) (ht : PySem.W.takerIn X.K C f = some none) (ry : RelV y u)
    (h : ∀ dx s', H dx = none → dx ≠ a → Inv X pins σ (upd (upd H dx (exd dx [(f, y)])) a (exo a C (some dx))) s' → Q () s') :
    wpAny (model X.prog X.w) A (setAttr (.ref a) f u) Q E s := by
  obtain ⟨B, nw, ini, tl, F, SF, _, ov⟩ := T.base
  obtain ⟨t1, ho⟩ := exo_at I.hok e
  obtain ⟨hp, g, d, t, os⟩ := s
  refine PySem.W.set_plain I.kIn (ox := HandSPX.excO C t1) (od := none) ⟨ho, rfl, rfl, trivial⟩ T.sa ?_
  refine xput0 SF I.kIn ho ov ht T.hd fun h' tk' dx k dn dne hx hn => ?_
  have nx : H dx = none := I.hok.fresh dn
  have below : ∀ {b : Addr} {o : Obj}, hp.get? b = some o → b ≠ dx := fun {b o} q => Nat.ne_of_lt (Nat.lt_of_lt_of_le (Heap.lt_size q) dn)
  have notA : ∀ {b : Addr}, H b = none → b ≠ a := by
    rintro b n rfl
    rw [e] at n
    cases n
  have U : Un X.fs [] H (upd (upd H dx (exd dx [(f, y)])) a (exo a C (some dx))) hp h' := by
    refine ⟨fun b o q n _ _ => k b o (notA n) q, fun b o q n _ _ => ⟨o.slots, k b o (notA n) q⟩, fun b o q n _ => ?_, fun b o q _ => ?_, fun b xs q => ?_, fun b o v q => ?_, fun b ps q => ⟨#[], ?_⟩⟩
    · rw [upd_ne (notA n), upd_ne (below q)]
      exact n
    · by_cases hb : b = a
      · subst hb
        exact ⟨_, hx⟩
      · exact ⟨o, k b o hb q⟩
    · rw [upd_ne (at_ne e q exo_tup), upd_ne (ne_of_none q nx)]
      exact q
    · rw [upd_ne (at_ne e q exo_frz), upd_ne (ne_of_none q nx)]
      exact q
    · rw [upd_ne (at_ne e q exo_tbl), upd_ne (ne_of_none q nx), q]
      simp
  refine h dx _ nx dne (I.un (t' := tk') U fun b o q => ?_)
  by_cases hb : b = a
  · subst hb
    rw [upd_same] at q
    cases q
    exact exo_ok hx
  rw [upd_ne hb] at q
  by_cases hd : b = dx
  · subst hd
    rw [upd_same] at q
    cases q
    exact exd_ok hn (relO_put (fs := []) ry fun _ => trivial)
  rw [upd_ne hd] at q
  refine (I.hok b o q).stay (fun c v hc z => k c v ?_ z) (fun c hc => ?_) fun c xs hc => ?_
  · rcases hc with rfl | hc
    · exact hb
    · exact at_ne e hc exo_own
  · rw [upd_ne (at_ne e hc exo_own), upd_ne (ne_of_none hc nx)]
    exact hc
  · rw [upd_ne (at_ne e hc exo_tup), upd_ne (ne_of_none hc nx)]
    exact hc
theorem xst_old (T : XCl X.K C) (I : Inv X pins σ H s) (e : H a = some (exo a C (some dx))) (ed : H dx = some (exd dx fs)) (hl : fs.length ≤ 900) (ht : PySem.W.takerIn X.K C f = some none) (ry : RelV y u)
    (h : ∀ s', Inv X pins σ (upd H dx (exd dx ((f, y) :: fs))) s' → Q () s') : wpAny (model X.prog X.w) A (setAttr (.ref a) f u) Q E s := by
  obtain ⟨B, nw, ini, tl, F, SF, _, ov⟩ := T.base
  obtain ⟨t1, ho⟩ := exo_at I.hok e
  obtain ⟨mA, ns, rel⟩ := exd_at I.hok ed
  have wi := within_of rel
  obtain ⟨hp, g, d, t, os⟩ := s
  obtain ⟨oD, _, _, hoD, _, _⟩ := ns.count wi
  refine PySem.W.set_plain I.kIn (ox := { cls := .ref C, dict := some dx, data := .fields #[.ref t1, .none, .none, .none, .bool false, .none] }) (od := some oD) ⟨ho, rfl, rfl, hoD⟩ T.sa ?_
  refine xput1 SF I.kIn ho ns wi (by rw [List.length_map]; omega) ov ht T.hd fun h' tk' k hn => ?_
  have there : ∃ o, h'.get? dx = some o := by
    obtain ⟨o, _, _, e', _⟩ := hn
    exact ⟨o, e'⟩
  exact h _ (I.write (t' := tk') (x := dx) (e := dx) (o := exd dx ((f, y) :: fs)) (by rw [ed]; trivial) (.inl rfl) k there (exd_ok hn (relO_put ry rel)))
end
def tXst (K : PySem.W.Frag) (f : Str) (to te : TE) : TS := fun D σ H => te σ H fun y H1 => to σ H1 fun x H2 => ∃ a C : Addr, x = .ref a ∧ XCl K C ∧ PySem.W.takerIn K C f = some none ∧
  ((H2 a = some (exo a C none) ∧ ∀ dx, H2 dx = none → dx ≠ a → D.nx σ (upd (upd H2 dx (exd dx [(f, y)])) a (exo a C (some dx)))) ∨
    ∃ (dx : Addr) (fs : List (Str × V)), H2 a = some (exo a C (some dx)) ∧ H2 dx = some (exd dx fs) ∧ fs.length ≤ 900 ∧ D.nx σ (upd H2 dx (exd dx ((f, y) :: fs))))
theorem ps_xst {X : Cx} {o e : Expr} {to te : TE} {f : Str} {p' pos : Pos} (ho : PE X o to) (he : PE X e te) (hs : swapsWith e (some (.Attribute o f p')) pos.line X.env = pure false := by rfl) :
    PS X (.Assign [.Attribute o f p'] e pos) (tXst X.K f to te) := by
  refine ⟨fun pins s σ H D I h => ?_⟩
  refine plainObj_wpAny_Assign_Attribute (thn (he.run pins s σ H _ I h) fun v s1 ⟨y, H1, I1, r1, q1⟩ => thn (ho.run pins s1 σ H1 _ I1 q1) fun u s2 ⟨x, H2, I2, r2, a, C, ex, T, ht, q⟩ => ?_) hs
  subst ex
  obtain rfl : u = Value.ref a := r2
  rcases q with ⟨ea, q⟩ | ⟨dx, fs, ea, ed, hl, q⟩
  · exact xst_new T I2 ea ht r1 fun dx s' n ne J => ⟨σ, _, J, q dx n ne⟩
  · exact xst_old T I2 ea ed hl ht r1 fun s' J => ⟨σ, _, J, q⟩
/-! ### an __init__ that keeps its parameters as fields -/
/-- what stands in the dict at last: the last one first -/
def xfs (fs : List Str) {α : Type} (xs : List α) : List (Str × α) := (fs.zip xs).reverse
def spX (K : PySem.W.Frag) (fs : List Str) : Sp := fun vs H Q _ => ∃ (a C : Addr) (xs : List V), vs = .ref a :: xs ∧ xs.length = fs.length ∧ XCl K C ∧ (∀ f, f ∈ fs → PySem.W.takerIn K C f = some none) ∧ H a = some (exo a C none) ∧
  ∀ d H', H d = none → d ≠ a → H' a = some (exo a C (some d)) → H' d = some (exd d (xfs fs xs)) → (∀ b, b ≠ a → b ≠ d → H' b = H b) → Q .non H'
theorem spX_len {K : PySem.W.Frag} {fs ps : List Str} (e : ps.length = fs.length + 1) : ∀ vs H Q E, spX K fs vs H Q E → vs.length = ps.length := by
  rintro vs H Q E ⟨a, C, xs, rfl, hl, _⟩
  rw [e, List.length_cons, hl]
theorem spX_go1 {K : PySem.W.Frag} {f : Str} {vs : List V} {H : Hp} {Q : VK} {E : XK} {N : List Str} (h : spX K [f] vs H Q E) (hN : N.length = 2) :
    tXst K f (tVar 0) (tVar 1) { nx := fun _ H' => Q .non H', rt := Q } (start N vs) H := by
  obtain ⟨a, C, xs, rfl, hl, T, ht, ea, q⟩ := h
  match xs, hl with
  | [y], _ =>
    obtain ⟨n1, n2, rfl⟩ : ∃ n1 n2, N = [n1, n2] := by
      match N, hN with
      | [n1, n2], _ => exact ⟨n1, n2, rfl⟩
    refine ⟨y, rfl, .ref a, rfl, a, C, rfl, T, ht f (by simp), .inl ⟨ea, fun dx n ne => ?_⟩⟩
    refine q dx _ n ne (by rw [upd_same]) (by rw [upd_ne ne, upd_same]; rfl) fun b h1 h2 => by rw [upd_ne h1, upd_ne h2]
theorem spX_go2 {K : PySem.W.Frag} {f f2 : Str} {vs : List V} {H : Hp} {Q : VK} {E : XK} {N : List Str} (h : spX K [f, f2] vs H Q E) (hN : N.length = 3) :
    tSeq (tXst K f (tVar 0) (tVar 1)) (tXst K f2 (tVar 0) (tVar 2)) { nx := fun _ H' => Q .non H', rt := Q } (start N vs) H := by
  obtain ⟨a, C, xs, rfl, hl, T, ht, ea, q⟩ := h
  match xs, hl with
  | [y, z], _ =>
    obtain ⟨n1, n2, n3, rfl⟩ : ∃ n1 n2 n3, N = [n1, n2, n3] := by
      match N, hN with
      | [n1, n2, n3], _ => exact ⟨n1, n2, n3, rfl⟩
    refine ⟨y, rfl, .ref a, rfl, a, C, rfl, T, ht f (by simp), .inl ⟨ea, fun dx n ne => ?_⟩⟩
    refine ⟨z, rfl, .ref a, rfl, a, C, rfl, T, ht f2 (by simp), .inr ⟨dx, [(f, y)], by rw [upd_same], by rw [upd_ne ne, upd_same], by simp, ?_⟩⟩
    refine q dx _ n ne (by rw [upd_ne (Ne.symm ne), upd_same]) (by rw [upd_same]; rfl) fun b h1 h2 => by rw [upd_ne h2, upd_ne h1, upd_ne h2]
/-! ### the class with its __init__ -/
structure XMkAt (K : PySem.W.Frag) (mg : Str → Option Value) (c qual : Str) (st : Stmt) (ps fs : List Str) : Prop where
  ex : ∃ (C fa : Addr) (fd : FuncData), ClN K c C ∧ mg c = some (.ref C) ∧ XCl K C ∧ (∀ f, f ∈ fs → PySem.W.takerIn K C f = some none) ∧ PySem.W.findIn K (.ref C) "__init__" = some (some (.ref fa)) ∧ PySem.W.typeIn K (.ref fa) = some (.type "function") ∧
    Fun K "__init__" qual st fa fd ∧ Binds K fd ps [] ∧ ps.length = fs.length + 1
structure XMk (P : Program) (w : World) (K : PySem.W.Frag) (mg : Str → Option Value) (base : Heap) (k : Nat) (c qual : Str) (st : Stmt) (ps fs : List Str) : Prop where
  ex : ∃ (C fa : Addr) (fd : FuncData), ClN K c C ∧ mg c = some (.ref C) ∧ XCl K C ∧ (∀ f, f ∈ fs → PySem.W.takerIn K C f = some none) ∧ PySem.W.findIn K (.ref C) "__init__" = some (some (.ref fa)) ∧ PySem.W.typeIn K (.ref fa) = some (.type "function") ∧
    Fun K "__init__" qual st fa fd ∧ Binds K fd ps [] ∧ ps.length = fs.length + 1 ∧ FnOk P w K mg base CX0 k fa fd ps (spX K fs)
section
variable {P : Program} {w : World} {K : PySem.W.Frag} {mg : Str → Option Value} {base : Heap} {c qual : Str} {st : Stmt} {ps N : List Str} {k : Nat} {f f2 : Str}
theorem XMk.of1 (D : XMkAt K mg c qual st ps [f]) (sc : FnScope N ps (defScope st)) (hN : N.length = 2) (hb : ∀ (fa : Addr) (cdv : Value) (A : Around) (outer : List PySem.Env) (s : Shared) (H : Hp) (E : XK),
    PSs (cxOf CX0 P w K mg base N qual (defScope st) fa cdv A outer s H E).nox (defBody st) (tXst K f (tVar 0) (tVar 1))) : XMk P w K mg base (k + 1) c qual st ps [f] := by
  obtain ⟨C, fa, fd, h1, h2, h3, h4, h5, h6, F, b, l⟩ := D.ex
  exact ⟨C, fa, fd, h1, h2, h3, h4, h5, h6, F, b, l, F.ok sc (spX_len l) fun cdv A outer s H vs Q E hr h => ⟨_, hb fa cdv A outer s H E, spX_go1 h hN⟩⟩
theorem XMk.of2 (D : XMkAt K mg c qual st ps [f, f2]) (sc : FnScope N ps (defScope st)) (hN : N.length = 3) (hb : ∀ (fa : Addr) (cdv : Value) (A : Around) (outer : List PySem.Env) (s : Shared) (H : Hp) (E : XK),
    PSs (cxOf CX0 P w K mg base N qual (defScope st) fa cdv A outer s H E).nox (defBody st) (tSeq (tXst K f (tVar 0) (tVar 1)) (tXst K f2 (tVar 0) (tVar 2)))) : XMk P w K mg base (k + 1) c qual st ps [f, f2] := by
  obtain ⟨C, fa, fd, h1, h2, h3, h4, h5, h6, F, b, l⟩ := D.ex
  exact ⟨C, fa, fd, h1, h2, h3, h4, h5, h6, F, b, l, F.ok sc (spX_len l) fun cdv A outer s H vs Q E hr h => ⟨_, hb fa cdv A outer s H E, spX_go2 h hN⟩⟩
end
end Mi
namespace Mi
open PySem PySem.Spec PyProof.Rows L2
theorem exq_ok {P : Program} {w : World} {H : Hp} {h : Heap} {a C : Addr} {d : Option Addr} {oe : Obj} {vs : Array Value} (e : h.get? a = some oe) (c : oe.cls = .ref C) (hd : oe.dict = d) (hv : oe.data = .fields vs) : ObjOk P w H h a (exq a C d) :=
  ⟨⟨oe, vs, e, c, hd, hv⟩, ⟨oe, e⟩, fun _ _ ⟨o, v, q, r⟩ k => ⟨o, v, k o q, r⟩⟩
/-! ### C(..) -/
section
variable {X : Cx} {pins : List (Addr × Obj)} {σ : L2.St} {H : Hp} {s : Shared} {C fa : Addr} {fd : FuncData} {ps fs : List Str} {k : Nat} {us usA : List Value} {kw : List (Str × Value)} {vs : List V} {Q : VK}
theorem run_x (T : XCl X.K C) (tk : ∀ f, f ∈ fs → PySem.W.takerIn X.K C f = some none) (iC : PySem.W.findIn X.K (.ref C) "__init__" = some (some (.ref fa))) (tI : PySem.W.typeIn X.K (.ref fa) = some (.type "function"))
    (F : FnOk X.prog X.w X.K X.mg X.base CX0 k fa fd ps (spX X.K fs)) (hr : Room (k + 1) X.A) (I : Inv X pins σ H s) (hb : ∀ (a : Addr) (s' : Shared), X.K.In s'.heap → BindsTo s' fd ⟨.ref a :: us, kw⟩ (ps.zip (.ref a :: usA))) (r : Vals vs usA)
    (hl : vs.length = fs.length) (hz : us.length ≤ sizeLine) (q : ∀ a d, H a = none → H d = none → d ≠ a → Q (.ref a) (upd (upd H d (.xd (xfs fs vs))) a (exq a C (some d)))) :
    wpAny (model X.prog X.w) X.A (call (.ref C) us kw) (EP X pins σ Q) X.xe s := by
  obtain ⟨B, nw, ini, tl, F0, SF, ii, ov⟩ := T.base
  obtain ⟨nm, N', qn, bs, bm, hdct, sn, sub, ab, col, dd, k0, k1, k2, k3, k5, hC, hT⟩ := PySem.W.excInit_of I.kIn ii
  obtain ⟨hp, g, dr, tk', os⟩ := s
  have hn : H (hp.objs.size + 1) = none := I.hok.fresh (Nat.le_succ _)
  have kk : ∀ b o, hp.get? b = some o → ((hp.push (PySem.W.kdv_tup us)).push (HandSPX.excO C hp.objs.size)).get? b = some o :=
    fun b o e => Heap.get?_push_of_some _ (Heap.get?_push_of_some _ e)
  have gx : ((hp.push (PySem.W.kdv_tup us)).push (HandSPX.excO C hp.objs.size)).get? (hp.objs.size + 1) = some (HandSPX.excO C hp.objs.size) := by
    heap_get
  have I2 : Inv X pins σ (upd H (hp.objs.size + 1) (exo (hp.objs.size + 1) C none)) ⟨(hp.push (PySem.W.kdv_tup us)).push (HandSPX.excO C hp.objs.size), g, dr, tk', os⟩ :=
    I.laid (t' := tk') (o := exo (hp.objs.size + 1) C none) kk (Nat.le_succ _) (exo_ok gx)
  have sp : spX X.K fs (.ref (hp.objs.size + 1) :: vs) (upd H (hp.objs.size + 1) (exo (hp.objs.size + 1) C none)) (fun v H2 => v = .non ∧ ∃ d, H d = none ∧ d ≠ hp.objs.size + 1 ∧ H2 (hp.objs.size + 1) = some (exo (hp.objs.size + 1) C (some d)) ∧
      H2 d = some (exd d (xfs fs vs)) ∧ ∀ b, b ≠ hp.objs.size + 1 → b ≠ d → H2 b = H b) (fun _ _ _ => False) :=
    ⟨_, C, vs, rfl, hl, T, tk, upd_same, fun d H' n ne e1 e2 e3 => ⟨rfl, d, by rwa [upd_ne ne] at n, ne, e1, e2, fun b h1 h2 => (e3 b h1 h2).trans (upd_ne h1)⟩⟩
  refine wpAny_call (xcall F0 hT hC (PySem.W.looks_findIn I.kIn iC) (fun self => PySem.W.bind_fn I.kIn self tI) hz (codeAny_mono (F.run _ X.stack _ _ ⟨.ref (hp.objs.size + 1) :: us, kw⟩ (.ref (hp.objs.size + 1) :: usA) _ _ (fun _ _ _ => False)
    (hr.make C us kw) (I2.env0.make C us kw) (hb _ _ I2.kIn) (show Vals (V.ref (hp.objs.size + 1) :: vs) (Value.ref (hp.objs.size + 1) :: usA) from .cons rfl r) sp) fun rr s' hq => ?_))
  cases rr with
  | error e => exact False.elim hq
  | ok fl =>
    cases fl with
    | ret u =>
      obtain ⟨v, H2, I3, rv, ev, d, n, ne, ea, ed, eo⟩ := I2.after hq
      subst ev
      obtain ⟨h2, g2, d2, t2, os2⟩ := s'
      obtain ⟨mA, ns, rel⟩ := exd_at I3.hok ed
      obtain ⟨t1, ho⟩ := exo_at I3.hok ea
      have J1 : Inv X pins σ (upd H2 d (.xd (xfs fs vs))) ⟨h2, g2, d2, t2, os2⟩ := I3.write (t' := t2) (x := d) (e := d) (o := .xd (xfs fs vs)) (by rw [ed]; trivial) (.inl rfl) (fun _ _ _ z => z) (by
        obtain ⟨o, _, _, e', _⟩ := ns
        exact ⟨o, e'⟩) ⟨mA, ns, rel⟩
      have J2 : Inv X pins σ (upd (upd H2 d (.xd (xfs fs vs))) (hp.objs.size + 1) (exq (hp.objs.size + 1) C (some d))) ⟨h2, g2, d2, t2, os2⟩ :=
        J1.write (t' := t2) (x := hp.objs.size + 1) (e := hp.objs.size + 1) (o := exq _ C (some d)) (by rw [upd_ne (Ne.symm ne), ea]; trivial) (.inl rfl) (fun _ _ _ z => z) ⟨_, ho⟩ (exq_ok ho rfl rfl rfl)
      have eH : upd (upd H2 d (.xd (xfs fs vs))) (hp.objs.size + 1) (exq (hp.objs.size + 1) C (some d)) = upd (upd H d (.xd (xfs fs vs))) (hp.objs.size + 1) (exq (hp.objs.size + 1) C (some d)) := by
        funext b
        by_cases h1 : b = hp.objs.size + 1
        · rw [h1, upd_same, upd_same]
        rw [upd_ne h1, upd_ne h1]
        by_cases h2 : b = d
        · rw [h2, upd_same, upd_same]
        rw [upd_ne h2, upd_ne h2]
        exact eo b h1 h2
      rw [eH] at J2
      exact ⟨rv, .ref (hp.objs.size + 1), _, J2, rfl, q _ d hn n ne⟩
    | next => exact False.elim hq
    | brk => exact False.elim hq
    | cont => exact False.elim hq
end
theorem RvX.snoc {K : PySem.W.Frag} {w : Wd} {x : Str} {v : V} {d : D} (h : Rv K w v d) : ∀ {vs : List (Str × V)} {ds : List (Str × D)}, RvX K w vs ds → RvX K w (vs ++ [(x, v)]) (ds ++ [(x, d)])
  | _, _, .nil => .cons h .nil
  | _, _, .cons g r => .cons g (RvX.snoc h r)
theorem xfs_rel {K : PySem.W.Frag} {w : Wd} : ∀ (fs : List Str) {vs : List V} {ds : List D}, RvL K w vs ds → RvX K w (xfs fs vs) (xfs fs ds)
  | [], _, _, _ => .nil
  | f :: fs, _, _, .nil => .nil
  | f :: fs, _, _, .cons h r => by
    show RvX K w ((_ :: fs.zip _).reverse) ((_ :: fs.zip _).reverse)
    rw [List.reverse_cons, List.reverse_cons]
    exact RvX.snoc h (xfs_rel fs r)
theorem exc_lay {K : PySem.W.Frag} {w : Wd} {S : Sto} {H : Hp} {c : Str} {C a d : Addr} {fs : List Str} {vs : List V} {ds : List D} {E : EK} {P : Wd → Sto → Hp → D → Prop} (hC : ClN K c C) (hs : Rs K w S H) (rv : RvL K w vs ds) (na : H a = none) (nd : H d = none) (ne : d ≠ a)
    (h : Fin K E w (some (.ok (.exc c (xfs fs ds)), S)) P) : ∃ w', Le w w' ∧ Rv K w' (.ref a) (.exc c (xfs fs ds)) ∧ P w' S (upd (upd H d (.xd (xfs fs vs))) a (exq a C (some d))) (.exc c (xfs fs ds)) := by
  have l1 := hs.le_lay (o := .xd (xfs fs vs)) nd
  have s1 := hs.lay (o := .xd (xfs fs vs)) nd
  have na1 : upd H d (.xd (xfs fs vs)) a = none := by
    rw [upd_ne (Ne.symm ne)]
    exact na
  have l2 := s1.le_lay (o := exq a C (some d)) na1
  have s2 := s1.lay (o := exq a C (some d)) na1
  refine ⟨_, l1.trans l2, .exc hC (by show upd _ a _ a = _; rw [upd_same]) (by show upd (upd _ d _) a _ d = _; rw [upd_ne ne, upd_same]) (xfs_rel fs (rv.mono (l1.trans l2))), h _ _ (l1.trans l2) s2⟩
def mkX (c : Str) (fs : List Str) (m : Env → M (List D)) : Env → M D := fun ρ => M.bind (m ρ) fun xs => if xs.length = fs.length then M.pure (.exc c (xfs fs xs)) else bad
def mkXK (c : Str) (fs : List Str) (π : List Nat) (m : Env → M (List D)) : Env → M D := fun ρ => M.bind (m ρ) fun xs => if (permL π xs).length = fs.length then M.pure (.exc c (xfs fs (permL π xs))) else bad
section
variable {X : Cx} {c qual : Str} {st : Stmt} {ps fs ks : List Str} {k : Nat} {e : Expr} {es : List Expr} {mas mk : Env → M (List D)} {p pos : Pos} {kws : List Keyword} {π : List Nat}
theorem me_exc (O : XMk X.prog X.w X.K X.mg X.base k c qual st ps fs) (hr : Room (k + 1) X.A) (hg : Gl X c) (hf : fs.length ≤ 1000) (ha : PA X (e :: es) (tMa X.K EK0 mas)) (hdb : (c == ("__debug__" : Str)) = false := by decide)
    (he : starEach (e :: es) X.env = (false, eval e X.env) :: starEach es X.env := by rfl) (hpl : (backTo pos (starEach es X.env)).any (·.1) = false := by rfl) : PE X (.Call (.Name c p) (e :: es) [] pos) (tM X.K EK0 (mkX c fs mas)) := by
  obtain ⟨C, fa, fd, hC, hm, T, tk, iC, tI, Fn, b, l, F⟩ := O.ex
  refine ⟨fun pins s σ H Q I ⟨w, S, ρ, hs, hn, h⟩ => ?_⟩
  refine wpAny_Call_Name_kw (ld_glob I hg hm ?_ hdb)
  refine PySem.W.callWith_K (h₀ := X.base) I.ok.mod.kin T.kp (thn (ha.run pos pins s σ H _ I ⟨w, S, ρ, hs, hn, h.bind.imp fun w1 S1 H1 xs l1 s1 q vs rvs => (show ∃ w S xs, Rs X.K w S H1 ∧ RvL X.K w vs xs ∧
    Fin X.K EK0 w ((if xs.length = fs.length then M.pure (D.exc c (xfs fs xs)) else bad) S) (fun w' _ H' d => ∀ v, Rv X.K w' v d → Q v H') from ⟨w1, S1, xs, s1, rvs, q⟩)⟩) fun us s1 ⟨vs, H1, I1, r1, w1, S1, xs, hs1, rvs, q⟩ => ⟨I1.kIn, ?_⟩) he hpl
  by_cases hl : xs.length = fs.length
  · rw [if_pos hl] at q
    have lv : vs.length = fs.length := rvs.length.trans hl
    refine run_x T tk iC tI F hr I1 (us := us) (usA := us) (fun a s' kin => ?_) r1 lv (by rw [← r1.length, sizeLine_eq]; omega) fun a d na nd ne => ?_
    · have := b s' (.ref a :: us) kin (by rw [List.append_nil, List.length_cons, ← r1.length, lv, l])
      rwa [List.append_nil] at this
    · obtain ⟨w', _, rv, z⟩ := exc_lay hC hs1 rvs na nd ne q
      exact z _ rv
  · rw [if_neg hl] at q
    exact q.elim
theorem me_excK (O : XMk X.prog X.w X.K X.mg X.base k c qual st ps fs) (hr : Room (k + 1) X.A) (hg : Gl X c)
    (hkb : ∀ (kV doc pm : Value) (an : Option Addr) (cdv ct : Value) (a : Value) (ws : List Value), ws.length = fs.length → bindArgs (PySem.W.fnOf "__init__" qual (defArgs st) (defBody st) (defScope st) .none kV doc pm an cdv ct) ⟨[a], ks.zip ws⟩ = pure (ps.zip (a :: permL π ws)))
    (hπ : π.length = fs.length) (h0 : fs ≠ []) (hkw : PK X kws (tMa X.K EK0 mk)) (hall : (backToKw pos (keywordEach kws X.env)).all (·.1.isSome) = true := by rfl) (hks : (backToKw pos (keywordEach kws X.env)).filterMap (·.1) = ks := by rfl) (hdb : (c == ("__debug__" : Str)) = false := by decide)
    (hpl : ((backTo pos (starEach [] X.env)).any (·.1) || (backToKw pos (keywordEach kws X.env)).any (·.1.isNone)) = false := by rfl) : PE X (.Call (.Name c p) [] kws pos) (tM X.K EK0 (mkXK c fs π mk)) := by
  obtain ⟨C, fa, fd, hC, hm, T, tk, iC, tI, Fn, b, l, F⟩ := O.ex
  obtain ⟨oc, od, kV, doc, pm, an, cdv, ct, osl, rfl, lk, hcd⟩ := Fn.ex
  refine ⟨fun pins s σ H Q I ⟨w, S, ρ, hs, hn, h⟩ => ?_⟩
  refine wpAny_Call_Name_kw (ld_glob I hg hm ?_ hdb)
  refine PySem.W.callWith_KW0 (h₀ := X.base) I.ok.mod.kin T.kp hall (thn (hkw.run pos pins s σ H _ I ⟨w, S, ρ, hs, hn, h.bind.imp fun w1 S1 H1 xs l1 s1 q vs rvs => (show ∃ w S xs, Rs X.K w S H1 ∧ RvL X.K w vs xs ∧
    Fin X.K EK0 w ((if (permL π xs).length = fs.length then M.pure (D.exc c (xfs fs (permL π xs))) else bad) S) (fun w' _ H' d => ∀ v, Rv X.K w' v d → Q v H') from ⟨w1, S1, xs, s1, rvs, q⟩)⟩) fun us s1 ⟨vs, H1, I1, r1, w1, S1, xs, hs1, rvs, q⟩ => ⟨I1.kIn, ?_⟩) hpl
  rw [hks]
  by_cases hl : (permL π xs).length = fs.length
  · rw [if_pos hl] at q
    have rp := perm_rel π rvs
    have lv : (permL π vs).length = fs.length := rp.length.trans hl
    by_cases hu : us.length = fs.length
    · refine run_x T tk iC tI F hr I1 (us := []) (usA := permL π us) (fun a s' kin => .of_eq (hkb kV doc pm an cdv ct (.ref a) us hu)) (perm_vals π r1) lv (by simp) fun a d na nd ne => ?_
      obtain ⟨w', _, rv, z⟩ := exc_lay hC hs1 rp na nd ne q
      exact z _ rv
    · exfalso
      have e1 : xs.length = us.length := by rw [← rvs.length, r1.length]
      unfold permL at hl
      rw [e1, hπ, if_neg hu] at hl
      exact h0 (List.length_eq_zero_iff.mp hl.symm)
  · rw [if_neg hl] at q
    exact q.elim
end
end Mi
namespace Mi
open PySem PySem.Spec PyProof.Rows L2
/-! ### C(), the class without an __init__ of its own -/
structure XNo (K : PySem.W.Frag) (mg : Str → Option Value) (c : Str) : Prop where
  ex : ∃ (C : Addr) (B nw ini : String) (tl : List Value), ClN K c C ∧ mg c = some (.ref C) ∧ XCl K C ∧ ExcBaseFacts B nw ini tl ∧ PySem.W.excIn K C tl nw = true
theorem me_exc0 {X : Cx} {c : Str} {p pos : Pos} {E : EK} (O : XNo X.K X.mg c) (hg : Gl X c) (hdb : (c == ("__debug__" : Str)) = false := by decide) : PE X (.Call (.Name c p) [] [] pos) (tM X.K E fun _ => M.pure (.exc c [])) := by
  obtain ⟨C, B, nw, ini, tl, hC, hm, T, F, xi⟩ := O.ex
  refine ⟨fun pins s σ H Q I ⟨w, S, ρ, hs, hn, h⟩ => ?_⟩
  refine wpAny_Call_Name_kw (ld_glob I hg hm ?_ hdb)
  refine PySem.W.callWith_K0 I.kIn T.kp ?_
  show wpAny _ _ (call (.ref C) []) _ _ _
  obtain ⟨bm, N, nm, qn, bs, hdct, sn, sub, ab, col, dd, k0, k1, k2, k3, k5, mN, hG, hN, hni, tl'⟩ := exc_obj I.kIn xi
  obtain ⟨hp, g, dr, tk, os⟩ := s
  refine wpAny_call_exc_subT F tl' hG hN hni (fun h' a hm' => ?_) (Nat.zero_le _)
  have hn1 : H a = none := I.hok.gone hm'.new
  obtain ⟨t, ht, _, _⟩ := hm'.there
  have J : Inv X pins σ (upd H a (exq a C none)) ⟨h', g, dr, tk, os⟩ := I.laidN (t' := tk) hm'.keeps hm'.new hn1 (exq_ok ht rfl rfl rfl)
  refine ⟨.ref a, _, J, rfl, h _ _ (hs.le_lay hn1) (hs.lay hn1) _ (.exn hC ?_)⟩
  show upd _ a _ a = _
  rw [upd_same]
/-! ### e.f of an exception -/
structure XFld (K : PySem.W.Frag) (cs : List Str) (f : Str) : Prop where
  ex : ∀ c, c ∈ cs → ∀ C, ClN K c C → XCl K C ∧ PySem.W.findIn K (.ref C) f = some none
def xfM (cs : List Str) (f : Str) : D → M D
  | .exc c fs => if c ∈ cs then (match fs.lookup f with
    | some d => M.pure d
    | none => bad) else bad
  | _ => bad
theorem RvX.look {K : PySem.W.Frag} {w : Wd} (f : Str) : ∀ {vs : List (Str × V)} {ds : List (Str × D)}, RvX K w vs ds → (vs.lookup f = none ∧ ds.lookup f = none) ∨ ∃ v d, vs.lookup f = some v ∧ ds.lookup f = some d ∧ Rv K w v d
  | _, _, .nil => .inl ⟨rfl, rfl⟩
  | (x, v) :: vs, (_, d) :: ds, .cons h r => by
    rw [List.lookup_cons, List.lookup_cons]
    cases f == x with
    | true => exact .inr ⟨v, d, rfl, rfl, h⟩
    | false => exact RvX.look f r
theorem exq_at {P : Program} {w : World} {H : Hp} {h : Heap} {a C : Addr} {d : Option Addr} (hok : HOk P w H h) (he : H a = some (exq a C d)) : ∃ (oe : Obj) (vs : Array Value), h.get? a = some oe ∧ oe.cls = .ref C ∧ oe.dict = d ∧ oe.data = .fields vs := by
  have x : ObjOk P w H h a (exq a C d) := hok a _ he
  unfold exq at x
  exact x.1
theorem me_xf {X : Cx} {e : Expr} {m : Env → M D} {cs : List Str} {f : Str} {pos : Pos} {E : EK} (T : XFld X.K cs f) (he : PE X e (tM X.K E m)) (hb : attributeBase e f X.env (eval e X.env) = eval e X.env := by rfl) : PE X (.Attribute e f pos) (tM X.K E (b1 (xfM cs f) m)) := by
  refine ⟨fun pins s σ H Q I ⟨w, S, ρ, hs, hn, h⟩ => ?_⟩
  refine attr_of hb (thn (he.run pins s σ H _ I ⟨w, S, ρ, hs, hn, h.bind.imp fun w1 S1 H1 x l1 s1 q v rv => (show ∃ w S x, Rs X.K w S H1 ∧ Rv X.K w v x ∧ Fin X.K E w (xfM cs f x S) (fun w' _ H' d => ∀ v, Rv X.K w' v d → Q v H') from ⟨w1, S1, x, s1, rv, q⟩)⟩) fun u s1 ⟨v, H1, I1, ru, w1, S1, x, hs1, rv, q⟩ => ?_)
  cases rv with
  | exn hC hG =>
    simp only [xfM] at q
    split at q
    · exact q.elim
    · exact q.elim
  | exc hC hG hd r =>
    rename_i a C dx c xs fs
    by_cases hc : c ∈ cs
    · rcases r.look f with ⟨_, l⟩ | ⟨v2, d2, l1, l2, rv2⟩
      · simp only [xfM, if_pos hc, l] at q
        exact q.elim
      · simp only [xfM, if_pos hc, l2] at q
        obtain ⟨T1, T2⟩ := T.ex c hc C hC
        cases (show u = Value.ref a from ru)
        obtain ⟨oe, fv, h1, h2, h3, h4⟩ := exq_at I1.hok (hs1.g _ _ hG)
        have hx : ObjOk X.prog X.w H1 s1.heap dx (.xd xs) := I1.hok dx _ (hs1.g _ _ hd)
        obtain ⟨mA, hns, hr⟩ := hx
        obtain ⟨od, ho, hl⟩ := lookIn_ns hns
        obtain ⟨u2, hu, ru2⟩ := RelO.some_of (v := v2) (o := mA f) (by rw [← l1]; exact hr f)
        have J : PySem.W.InstAt s1.heap a oe C (some od) := ⟨h1, h2, by unfold PySem.W.notCls; rw [h4] <;> rfl, by rw [h3]; exact ho⟩
        exact HandSPX.exc_get I1.kIn J T1.ga T1.gg T1.ex (PySem.W.findObj_own T1.hd T2 rfl (by rw [hl, hu])) (handed_of ru2) ⟨v2, H1, I1.tok _, ru2, Fin.ok (P := fun w' _ H' d => ∀ v, Rv X.K w' v d → Q v H') q hs1 _ rv2⟩
    · simp only [xfM, if_neg hc] at q
      exact q.elim
  | _ => exact q.elim
/-! ### isinstance(e, C) -/
/-- for each class of the text: what is above it, itself among them; own: classes of the text that are asked, bl: built-in ones -/
structure XIs (K : PySem.W.Frag) (mg : Str → Option Value) (tb : List (Str × List Nat)) (own bl : List (Nat × String)) : Prop where
  cl : ∀ c l, tb.lookup c = some l → ∀ C, ClN K c C → XCl K C
  ow : ∀ c l, tb.lookup c = some l → ∀ C, ClN K c C → ∀ n T, (n, T) ∈ own → ∀ D, mg (Str.ofString T) = some (.ref D) → PySem.W.kitOne K (.ref C) (.ref D) = some (l.contains n)
  bi : ∀ c l, tb.lookup c = some l → ∀ C, ClN K c C → ∀ n T, (n, T) ∈ bl → PySem.W.kitOne K (.ref C) (.type T) = some (l.contains n)
def isxM (tb : List (Str × List Nat)) (n : Nat) : D → M D
  | .exc c _ => match tb.lookup c with
    | some l => M.pure (.bl (l.contains n))
    | none => bad
  | _ => bad
section
variable {X : Cx} {tb : List (Str × List Nat)} {own bl : List (Nat × String)}
def rIsX (K : PySem.W.Frag) (w0 : Value) : List V → Hp → VK → Prop := fun xs H Q => ∃ (a C : Addr) (d : Option Addr) (c : V) (b : Bool), xs = [.ref a, c] ∧ ClsV c w0 ∧ XCl K C ∧ H a = some (exq a C d) ∧ (∀ dx, d = some dx → ∃ fs, H dx = some (.xd fs)) ∧ PySem.W.kitOne K (.ref C) w0 = some b ∧ Q (.bl b) H
theorem call_isX {w0 : Value} : CallR X (.builtin "isinstance") (rIsX X.K w0) := by
  intro pins s σ H xs us Q I r h
  obtain ⟨a, C, d, c, b, rfl, k, T, ea, hd, e, q⟩ := h
  obtain ⟨u1, u2, rfl, r1, r2⟩ := vals2 r
  have e2 := k.eq r2
  subst e2
  cases (show u1 = Value.ref a from r1)
  obtain ⟨oe, fv, h1, h2, h3, h4⟩ := exq_at I.hok ea
  have hcl : (PySem.W.clsIn X.K C).isSome = true := by
    obtain ⟨cd, hc, _⟩ := PySem.W.any_some T.hd
    rw [hc]
    rfl
  have nc : PySem.W.notCls oe = true := by
    unfold PySem.W.notCls
    rw [h4]
  cases d with
  | none =>
    have J : PySem.W.InstAt s.heap a oe C none := ⟨h1, h2, nc, by rw [h3]; trivial⟩
    exact PySem.W.kia_one (PySem.W.kitx_exc (ox := oe) (od := none) hcl T.ga T.gg T.ex T.cl T.sg T.tg T.mo) I.kIn J e (fun z => nomatch z) fun tk => ⟨.bl b, H, I.tok tk, rfl, q⟩
  | some dx =>
    obtain ⟨fs, ed⟩ := hd dx rfl
    have hx : ObjOk X.prog X.w H s.heap dx (.xd fs) := I.hok dx _ ed
    obtain ⟨mA, hns, hr⟩ := hx
    obtain ⟨od, ho, hl⟩ := lookIn_ns hns
    have J : PySem.W.InstAt s.heap a oe C (some od) := ⟨h1, h2, nc, by rw [h3]; exact ho⟩
    exact PySem.W.kia_one (PySem.W.kitx_exc (ox := oe) (od := some od) hcl T.ga T.gg T.ex T.cl T.sg T.tg T.mo) I.kIn J e (fun z => nomatch z) fun tk => ⟨.bl b, H, I.tok tk, rfl, q⟩
theorem isx_go {K : PySem.W.Frag} {w : Wd} {S : Sto} {H : Hp} {v : V} {x : D} {n : Nat} {b : D} (hs : Rs K w S H) (rv : Rv K w v x) {o : Option (Except Exn D × Sto)} (q : o = isxM tb n x S) (ho : o ≠ none) :
    ∃ a C d c l, v = .ref a ∧ ClN K c C ∧ H a = some (exq a C d) ∧ (∀ dx, d = some dx → ∃ fs, H dx = some (.xd fs)) ∧ tb.lookup c = some l ∧ o = some (.ok (.bl (l.contains n)), S) := by
  cases rv with
  | exn hC hG =>
    rename_i a C c
    cases hl : tb.lookup c with
    | none =>
      simp only [isxM, hl] at q
      exact absurd q ho
    | some l =>
      simp only [isxM, hl] at q
      exact ⟨a, C, none, c, l, rfl, hC, hs.g _ _ hG, fun _ z => (nomatch z), hl, q⟩
  | exc hC hG hd r =>
    rename_i a C dx c xs fs
    cases hl : tb.lookup c with
    | none =>
      simp only [isxM, hl] at q
      exact absurd q ho
    | some l =>
      simp only [isxM, hl] at q
      exact ⟨a, C, some dx, c, l, rfl, hC, hs.g _ _ hG, fun _ z => by cases z; exact ⟨xs, hs.g _ _ hd⟩, hl, q⟩
  | _ => exact absurd q ho
end
section
variable {X : Cx} {tb : List (Str × List Nat)} {own bl : List (Nat × String)} {a e : Expr} {m : Env → M D} {T : String} {n : Nat} {p q pos : Pos} {E : EK}
theorem me_isxB (G : XIs X.K X.mg tb own bl) (hT : (n, T) ∈ bl) (hg : Gl X "isinstance") (hm : X.mg "isinstance" = none) (hv : bootBuiltins "isinstance" = some (.builtin "isinstance")) (ha : PE X a (tM X.K E m)) (ht : PE X e (tC (.ty T)))
    (he : starEach [a, e] X.env = (false, eval a X.env) :: starEach [e] X.env := by rfl) (he2 : starEach [e] X.env = (false, eval e X.env) :: starEach [] X.env := by rfl) (hpl : (backTo pos (starEach [e] X.env)).any (·.1) = false := by rfl) :
    PE X (.Call (.Name "isinstance" p) [a, e] [] pos) (tM X.K E (b1 (isxM tb n) m)) :=
  pe_imp (pe_callB (call_isX (w0 := .type T)) hg hm hv (pa_cons ha (pa_cons ht pa_nil he2) he) (by decide) (by decide) he hpl) fun σ H Q ⟨w, S, ρ, hs, hn, h⟩ => ⟨w, S, ρ, hs, hn, h.bind.imp fun w1 S1 H1 x l1 s1 q v rv => by
    obtain ⟨a, C, d, c, l, rfl, hC, ea, hd, hl, ho⟩ := isx_go (b := x) s1 rv rfl (fun z => by rw [z] at q; exact q)
    rw [ho] at q
    exact ⟨a, C, d, .ty T, _, rfl, .ty T, G.cl c l hl C hC, ea, hd, G.bi c l hl C hC n T hT, Fin.ok (P := fun w' _ H' d => ∀ v, Rv X.K w' v d → Q v H') q s1 _ (.bl _)⟩⟩
theorem me_isxO (G : XIs X.K X.mg tb own bl) (hT : (n, T) ∈ own) (hg : Gl X "isinstance") (hm : X.mg "isinstance" = none) (hv : bootBuiltins "isinstance" = some (.builtin "isinstance")) {D : Addr} (hD : X.mg (Str.ofString T) = some (.ref D)) (ha : PE X a (tM X.K E m)) (ht : PE X e (tC (.ref D)))
    (he : starEach [a, e] X.env = (false, eval a X.env) :: starEach [e] X.env := by rfl) (he2 : starEach [e] X.env = (false, eval e X.env) :: starEach [] X.env := by rfl) (hpl : (backTo pos (starEach [e] X.env)).any (·.1) = false := by rfl) :
    PE X (.Call (.Name "isinstance" p) [a, e] [] pos) (tM X.K E (b1 (isxM tb n) m)) :=
  pe_imp (pe_callB (call_isX (w0 := .ref D)) hg hm hv (pa_cons ha (pa_cons ht pa_nil he2) he) (by decide) (by decide) he hpl) fun σ H Q ⟨w, S, ρ, hs, hn, h⟩ => ⟨w, S, ρ, hs, hn, h.bind.imp fun w1 S1 H1 x l1 s1 q v rv => by
    obtain ⟨a, C, d, c, l, rfl, hC, ea, hd, hl, ho⟩ := isx_go (b := x) s1 rv rfl (fun z => by rw [z] at q; exact q)
    rw [ho] at q
    exact ⟨a, C, d, .ref D, _, rfl, .own D, G.cl c l hl C hC, ea, hd, G.ow c l hl C hC n T hT D hD, Fin.ok (P := fun w' _ H' d => ∀ v, Rv X.K w' v d → Q v H') q s1 _ (.bl _)⟩⟩
end
end Mi
namespace Mi
open PySem PySem.Spec PyProof.Rows L2
section
variable {X : Cx} {tb : List (Str × List Nat)} {own bl : List (Nat × String)} {a : Expr} {m : Env → M D} {T : String} {n : Nat} {p p2 q pos : Pos} {E : EK}
theorem me_isxN (G : XIs X.K X.mg tb own bl) (hT : (n, T) ∈ own) (hg : Gl X "isinstance") (hm : X.mg "isinstance" = none) (hv : bootBuiltins "isinstance" = some (.builtin "isinstance")) (hD : ∃ D, X.mg (Str.ofString T) = some (.ref D)) (hg2 : Gl X (Str.ofString T)) (ha : PE X a (tM X.K E m))
    (hd : (Str.ofString T == ("__debug__" : Str)) = false := by decide)
    (he : starEach [a, .Name (Str.ofString T) p2] X.env = (false, eval a X.env) :: starEach [.Name (Str.ofString T) p2] X.env := by rfl) (he2 : starEach [.Name (Str.ofString T) p2] X.env = (false, eval (.Name (Str.ofString T) p2) X.env) :: starEach [] X.env := by rfl)
    (hpl : (backTo pos (starEach [.Name (Str.ofString T) p2] X.env)).any (·.1) = false := by rfl) : PE X (.Call (.Name "isinstance" p) [a, .Name (Str.ofString T) p2] [] pos) (tM X.K E (b1 (isxM tb n) m)) := by
  obtain ⟨D, hD⟩ := hD
  exact me_isxO G hT hg hm hv hD ha (pe_glob hg2 hD rfl hd) he he2 hpl
theorem me_isxT (G : XIs X.K X.mg tb own bl) (hT : (n, T) ∈ bl) (hg : Gl X "isinstance") (hm : X.mg "isinstance" = none) (hv : bootBuiltins "isinstance" = some (.builtin "isinstance")) (hno : X.mg (Str.ofString T) = none) (hb : bootBuiltins (Str.ofString T) = some (.type T)) (hg2 : Gl X (Str.ofString T)) (ha : PE X a (tM X.K E m))
    (h1 : Str.ofString T ≠ "__name__" := by decide) (hd : (Str.ofString T == ("__debug__" : Str)) = false := by decide)
    (he : starEach [a, .Name (Str.ofString T) p2] X.env = (false, eval a X.env) :: starEach [.Name (Str.ofString T) p2] X.env := by rfl) (he2 : starEach [.Name (Str.ofString T) p2] X.env = (false, eval (.Name (Str.ofString T) p2) X.env) :: starEach [] X.env := by rfl)
    (hpl : (backTo pos (starEach [.Name (Str.ofString T) p2] X.env)).any (·.1) = false := by rfl) : PE X (.Call (.Name "isinstance" p) [a, .Name (Str.ofString T) p2] [] pos) (tM X.K E (b1 (isxM tb n) m)) :=
  me_isxB G hT hg hm hv ha (pe_bltn hg2 hno hb rfl h1 hd) he he2 hpl
end
def xisB (K : PySem.W.Frag) (cs : List (Str × Addr)) (tb : List (Str × List Nat)) (ow : List ((Nat × String) × Addr)) (bl : List (Nat × String)) : Bool := cs.all fun p => match tb.lookup p.1 with
  | none => true
  | some l => ow.all (fun q => PySem.W.kitOne K (.ref p.2) (.ref q.2) == some (l.contains q.1.1)) && bl.all fun T => PySem.W.kitOne K (.ref p.2) (.type T.2) == some (l.contains T.1)
theorem lookup_mem {α β : Type} [BEq α] [LawfulBEq α] {x : α} {y : β} : ∀ {l : List (α × β)}, l.lookup x = some y → (x, y) ∈ l
  | [], h => by cases h
  | (a, b) :: l, h => by
    rw [List.lookup_cons] at h
    cases e : x == a with
    | true =>
      rw [e] at h
      cases h
      rw [eq_of_beq e]
      exact List.mem_cons_self
    | false =>
      rw [e] at h
      exact List.mem_cons_of_mem _ (lookup_mem h)
theorem xis_of {K : PySem.W.Frag} {mg : Str → Option Value} {cs : List (Str × Addr)} {tb : List (Str × List Nat)} {ow : List ((Nat × String) × Addr)} {own bl : List (Nat × String)} (hc : ∀ p, p ∈ cs → ClN K p.1 p.2 ∧ XCl K p.2) (ht : tb.map (·.1) = cs.map (·.1)) (ho : ∀ p, p ∈ ow → mg (Str.ofString p.1.2) = some (.ref p.2))
    (he : ow.map (·.1) = own) (h : xisB K cs tb ow bl = true) : XIs K mg tb own bl := by
  have key : ∀ c l, tb.lookup c = some l → ∀ C, ClN K c C → (c, C) ∈ cs := by
    intro c l hl C hC
    have m1 : c ∈ tb.map (·.1) := List.mem_map.mpr ⟨(c, l), lookup_mem hl, rfl⟩
    rw [ht] at m1
    obtain ⟨⟨c', C'⟩, hm, rfl⟩ := List.mem_map.mp m1
    rw [hC.inj (hc _ hm).1]
    exact hm
  unfold xisB at h
  rw [List.all_eq_true] at h
  refine ⟨fun c l hl C hC => (hc _ (key c l hl C hC)).2, fun c l hl C hC n T hT D hD => ?_, fun c l hl C hC n T hT => ?_⟩
  · have z := h _ (key c l hl C hC)
    simp only [hl, Bool.and_eq_true, List.all_eq_true, beq_iff_eq] at z
    rw [← he] at hT
    obtain ⟨⟨⟨n', T'⟩, D'⟩, hm, q⟩ := List.mem_map.mp hT
    cases q
    have e := (ho _ hm).symm.trans hD
    cases e
    exact z.1 _ hm
  · have z := h _ (key c l hl C hC)
    simp only [hl, Bool.and_eq_true, List.all_eq_true, beq_iff_eq] at z
    exact z.2 _ hT
theorem taker_of {K : PySem.W.Frag} {C : Addr} {f : Str} (h : PySem.W.findIn K (.ref C) f = some none) : PySem.W.takerIn K C f = some none := by
  unfold PySem.W.takerIn
  rw [h]
  rfl
theorem xfld_nil {K : PySem.W.Frag} {f : Str} : XFld K [] f := ⟨fun c h => absurd h (by simp)⟩
theorem xfld_cons {K : PySem.W.Frag} {c : Str} {C : Addr} {cs : List Str} {f : Str} (hC : ClN K c C) (T : XCl K C) (x : PySem.W.findIn K (.ref C) f = some none) (h : XFld K cs f) : XFld K (c :: cs) f := ⟨fun c' hc C' hC' => by
  rcases List.mem_cons.mp hc with rfl | hc
  · rw [hC'.inj hC]
    exact ⟨T, x⟩
  · exact h.ex c' hc C' hC'⟩
end Mi
namespace Mi
open PySem PySem.Spec PyProof.Rows L2
/-! ### defs that are called while no repr is under way: repr may be called in them -/
structure FnOkG (P : Program) (w : World) (K : PySem.W.Frag) (mg : Str → Option Value) (base : Heap) (k : Nat) (f : Addr) (fd : FuncData) (ps : List Str) (sp : Sp) : Prop where
  len : ∀ vs H Q E, sp vs H Q E → vs.length = ps.length
  go : ∀ (A : Around) (outer : List PySem.Env) (s : Shared) (H : Hp) (args : Args) (us : List Value) (vs : List V) (Q : VK) (E : XK), A.guards = some [] → Room k A → Env0 P w K mg base A outer s H → BindsTo s fd args (ps.zip us) → Vals vs us → sp vs H Q E →
    codeAny (model P w) A (.call (.ref f) args) (CR CX0 outer P w H s Q E) s
theorem fn_ofG {P : Program} {w : World} {K : PySem.W.Frag} {mg : Str → Option Value} {base : Heap} {k : Nat} {f : Addr} {x qual : Str} {st : Stmt} {fd : FuncData} {N ps : List Str} {sp : Sp} (F : Fun K x qual st f fd) (sc : FnScope N ps (defScope st)) (len : ∀ vs H Q E, sp vs H Q E → vs.length = ps.length)
    (walk : ∀ (cdv : Value) (A : Around) (outer : List PySem.Env) (s : Shared) (H : Hp) (vs : List V) (Q : VK) (E : XK), A.guards = some [] → Room k (A.deeper (envOfC qual (defScope st) s.heap.objs.size f cdv)) → sp vs H Q E →
      ∃ t, PSs (cxOf CX0 P w K mg base N qual (defScope st) f cdv A outer s H E).nox (defBody st) t ∧ t { nx := fun _ H' => Q .non H', rt := Q } (start N vs) H) : FnOkG P w K mg base (k + 1) f fd ps sp := by
  obtain ⟨oc, od, kV, doc, pm, an, cdv, ct, osl, rfl, lk, hcd⟩ := F.ex
  refine ⟨len, fun A outer s H args us vs Q E hg rm e0 bind rel hsp => ?_⟩
  have lv := len _ _ _ _ hsp
  have kh : K.In s.heap := e0.mod.kin.keeps fun b o e => (e0.bs b o e).1
  have lim : s.heap.NoLimit := e0.mod.nolimit.keeps fun b o e => (e0.bs b o e).1
  have kinds : ∀ y ∈ ps.zip us, (defScope st).names.lookup y.1 = some .local ∨ ((defScope st).names.lookup y.1 = some .cell ∧ ((cellsFrom (s.heap.objs.size + 1) (defScope st).names []).lookup y.1).isSome = true) :=
    fun ⟨n, z⟩ hy => (sc.par n (List.of_mem_zip hy).1).imp id fun q => ⟨q, PySem.W.cellsFrom_some _ _ _ (.inl q)⟩
  refine codeAny_call_function rm.depth (kh _ _ lk) rfl sc.co sc.gen rfl (PySem.W.codeRec_of kh hcd) (bind _ _ _ _ ?_)
  refine wpAny_newFunctionEnv_cells sc.kind kinds fun env he s1 xs => ?_
  subst he
  refine ⟨lim.keeps xs.toInCall.keep, codeAny_func ?_⟩
  obtain ⟨t, ht, hq⟩ := walk cdv A outer s H vs Q E hg (rm.deeper _) hsp
  refine wpAny_mono (ht.nox.run [] s1 (start N vs) H _ (inv_start sc rm.hd e0 lv rel xs) hq) (fun fl s' hs => ?_) fun e s' hs => hs
  cases fl with
  | ret z =>
    obtain ⟨y, σ', H', J, ry, q⟩ := hs
    exact ⟨y, H', J.os, J.bare, J.base, J.hok, ry, q⟩
  | next =>
    obtain ⟨σ', H', J, q⟩ := hs
    exact ⟨.non, H', J.os, J.bare, J.base, J.hok, rfl, q⟩
  | brk =>
    obtain ⟨_, _, _, q⟩ := hs
    exact q.elim
  | cont =>
    obtain ⟨_, _, _, q⟩ := hs
    exact q.elim
theorem run_fnG {X : Cx} {pins : List (Addr × Obj)} {σ : L2.St} {H : Hp} {s : Shared} {Q : VK} {E : XK} {us usA : List Value} {kw : List (Str × Value)} {vs : List V} {k : Nat} {f : Addr} {fd : FuncData} {ps : List Str} {sp : Sp}
    (F : FnOkG X.prog X.w X.K X.mg X.base k f fd ps sp) (hgd : X.A.guards = some []) (hr : Room k X.A) (I : Inv X pins σ H s) (hb : BindsTo s fd ⟨us, kw⟩ (ps.zip usA)) (r : Vals vs usA) (h : sp vs H Q E) : wpAny (model X.prog X.w) X.A (call (.ref f) us kw) (EP X pins σ Q) X.xe s := by
  refine wpAny_call (codeAny_mono (F.go X.A X.stack s H ⟨us, kw⟩ usA vs Q E hgd hr I.env0 hb r h) fun rr s' hq => ?_)
  cases rr with
  | error e => exact False.elim hq
  | ok fl =>
    cases fl with
    | ret u => exact I.after hq
    | next => exact False.elim hq
    | brk => exact False.elim hq
    | cont => exact False.elim hq
structure OkAtG (P : Program) (w : World) (K : PySem.W.Frag) (mg : Str → Option Value) (base : Heap) (k : Nat) (x : Str) (st : Stmt) (ps : List Str) (f : List D → M D) : Prop where
  ex : ∃ (fa : Addr) (fd : FuncData), Fun K x x st fa fd ∧ mg x = some (.ref fa) ∧ Binds K fd ps [] ∧ FnOkG P w K mg base k fa fd ps (spM K ps.length f)
theorem OkAtG.of {P : Program} {w : World} {K : PySem.W.Frag} {mg : Str → Option Value} {base : Heap} {x : Str} {st : Stmt} {ps N : List Str} {k : Nat} {ms : Env → M (Fl × Env)} {n : Nat} (hn : N.length = n) (D : DefAt K mg x st ps) (sc : FnScope N ps (defScope st))
    (hb : ∀ (fa : Addr) (cdv : Value) (A : Around) (outer : List PySem.Env) (s : Shared) (H : Hp) (E : XK), (A.deeper (envOfC x (defScope st) s.heap.objs.size fa cdv)).guards = some [] → Room k (A.deeper (envOfC x (defScope st) s.heap.objs.size fa cdv)) →
      PSs (cxOf CX0 P w K mg base N x (defScope st) fa cdv A outer s H E).nox (defBody st) (tMs K EK0 ms)) : OkAtG P w K mg base (k + 1) x st ps (runM n ms) := by
  subst hn
  obtain ⟨fa, fd, F, hm, b⟩ := D.ex
  exact ⟨fa, fd, F, hm, b, fn_ofG F sc (spM_len rfl) fun cdv A outer s H vs Q E hg hr h => ⟨_, hb fa cdv A outer s H E hg hr, body_go h⟩⟩
section
variable {X : Cx} {a : Expr} {es : List Expr} {mas mk : Env → M (List D)} {x : Str} {p pos : Pos} {k n : Nat} {st : Stmt} {ps ks : List Str} {f : List D → M D} {π : List Nat} {kws : List Keyword}
theorem call_wish {w1 : Wd} {S1 : Sto} {H1 : Hp} {xs : List D} {vs : List V} {Q : VK} {K : PySem.W.Frag} {E : XK} (hs1 : Rs K w1 S1 H1) (rvs : RvL K w1 vs xs) (hl : xs.length = n) (q : Fin K EK0 w1 (f xs S1) (fun w' _ H' d => ∀ v, Rv K w' v d → Q v H')) : spM K n f vs H1 Q E :=
  ⟨rvs.length.trans hl, w1, S1, xs, hs1, rvs, q⟩
theorem me_callG (O : OkAtG X.prog X.w X.K X.mg X.base k x st ps f) (hgd : X.A.guards = some []) (hr : Room k X.A) (hg : Gl X x) (hn : ps.length = n) (ha : PA X (a :: es) (tMa X.K EK0 mas)) (hdb : (x == ("__debug__" : Str)) = false := by decide)
    (he : starEach (a :: es) X.env = (false, eval a X.env) :: starEach es X.env := by rfl) (hpl : (backTo pos (starEach es X.env)).any (·.1) = false := by rfl) : PE X (.Call (.Name x p) (a :: es) [] pos) (tM X.K EK0 (calF n f mas)) := by
  subst hn
  obtain ⟨fa, fd, F, hm, b, ok⟩ := O.ex
  refine ⟨fun pins s σ H Q I ⟨w, S, ρ, hs, hn, h⟩ => ?_⟩
  refine wpAny_Call_Name_kw (ld_glob I hg hm ?_ hdb)
  refine PySem.W.callWith_K (h₀ := X.base) I.ok.mod.kin F.kp (thn (ha.run pos pins s σ H _ I ⟨w, S, ρ, hs, hn, h.bind.imp fun w1 S1 H1 xs l1 s1 q vs rvs => (show ∃ w S xs, Rs X.K w S H1 ∧ RvL X.K w vs xs ∧
    Fin X.K EK0 w ((if xs.length = ps.length then f xs else bad) S) (fun w' _ H' d => ∀ v, Rv X.K w' v d → Q v H') from ⟨w1, S1, xs, s1, rvs, q⟩)⟩) fun us s1 ⟨vs, H1, I1, r1, w1, S1, xs, hs1, rvs, q⟩ => ⟨I1.kIn, ?_⟩) he hpl
  by_cases hl : xs.length = ps.length
  · rw [if_pos hl] at q
    have b1 := b s1 us I1.kIn (by rw [List.append_nil, ← r1.length, rvs.length, hl])
    rw [List.append_nil] at b1
    exact run_fnG (E := E0) ok hgd hr I1 b1 r1 (call_wish hs1 rvs hl q)
  · rw [if_neg hl] at q
    exact q.elim
theorem me_callKG (O : OkAtG X.prog X.w X.K X.mg X.base k x st ps f) (hgd : X.A.guards = some []) (hr : Room k X.A) (hg : Gl X x) (hn : ps.length = n) (h0 : ps ≠ []) (hkb : ∀ (kV doc pm : Value) (an : Option Addr) (cdv ct : Value) (ws : List Value), ws.length = π.length →
      bindArgs (PySem.W.fnOf x x (defArgs st) (defBody st) (defScope st) .none kV doc pm an cdv ct) ⟨[], ks.zip ws⟩ = pure (ps.zip (permL π ws)))
    (hkw : PK X kws (tMa X.K EK0 mk)) (hall : (backToKw pos (keywordEach kws X.env)).all (·.1.isSome) = true := by rfl) (hks : (backToKw pos (keywordEach kws X.env)).filterMap (·.1) = ks := by rfl) (hdb : (x == ("__debug__" : Str)) = false := by decide)
    (hpl : ((backTo pos (starEach [] X.env)).any (·.1) || (backToKw pos (keywordEach kws X.env)).any (·.1.isNone)) = false := by rfl) : PE X (.Call (.Name x p) [] kws pos) (tM X.K EK0 (calK n π f mk)) := by
  subst hn
  obtain ⟨fa, fd, F, hm, b, ok⟩ := O.ex
  obtain ⟨oc, od, kV, doc, pm, an, cdv, ct, osl, rfl, lk, hcd⟩ := F.ex
  refine ⟨fun pins s σ H Q I ⟨w, S, ρ, hs, hn, h⟩ => ?_⟩
  refine wpAny_Call_Name_kw (ld_glob I hg hm ?_ hdb)
  refine PySem.W.callWith_KW0 (h₀ := X.base) I.ok.mod.kin F.kp hall (thn (hkw.run pos pins s σ H _ I ⟨w, S, ρ, hs, hn, h.bind.imp fun w1 S1 H1 xs l1 s1 q vs rvs => (show ∃ w S xs, Rs X.K w S H1 ∧ RvL X.K w vs xs ∧
    Fin X.K EK0 w ((if (permL π xs).length = ps.length then f (permL π xs) else bad) S) (fun w' _ H' d => ∀ v, Rv X.K w' v d → Q v H') from ⟨w1, S1, xs, s1, rvs, q⟩)⟩) fun us s1 ⟨vs, H1, I1, r1, w1, S1, xs, hs1, rvs, q⟩ => ⟨I1.kIn, ?_⟩) hpl
  rw [hks]
  by_cases hl : (permL π xs).length = ps.length
  · rw [if_pos hl] at q
    by_cases hu : us.length = π.length
    · exact run_fnG (E := E0) ok hgd hr I1 (.of_eq (hkb kV doc pm an cdv ct us hu)) (perm_vals π r1) (call_wish hs1 (perm_rel π rvs) hl q)
    · exfalso
      have e1 : xs.length = us.length := by rw [← rvs.length, r1.length]
      unfold permL at hl
      rw [e1, if_neg hu] at hl
      exact h0 (List.length_eq_zero_iff.mp hl.symm)
  · rw [if_neg hl] at q
    exact q.elim
theorem me_call0G (O : OkAtG X.prog X.w X.K X.mg X.base k x st ps f) (hgd : X.A.guards = some []) (hr : Room k X.A) (hg : Gl X x) (hn : ps.length = 0) (hdb : (x == ("__debug__" : Str)) = false := by decide) :
    PE X (.Call (.Name x p) [] [] pos) (tM X.K EK0 (calF 0 f fun _ => M.pure [])) := by
  obtain ⟨fa, fd, F, hm, b, ok⟩ := O.ex
  have e := List.length_eq_zero_iff.mp hn
  subst e
  refine ⟨fun pins s σ H Q I ⟨w, S, ρ, hs, hn', h⟩ => ?_⟩
  refine wpAny_Call_Name_kw (ld_glob I hg hm ?_ hdb)
  refine PySem.W.callWith_K0 I.kIn F.kp ?_
  exact run_fnG (E := E0) ok hgd hr I (b s [] I.kIn rfl) .nil (call_wish (n := 0) hs .nil rfl h)
end
end Mi
namespace Mi
open PySem PySem.Spec PyProof.Rows L2
def OB : Int := 10 ^ 59
theorem OB_big : 10000000 ≤ OB := by decide +kernel
def G0 (d : D) : Prop := GD OB 2 3000 d
theorem g0_int {i : Int} (h : -10000000 ≤ i ∧ i ≤ 10000000) {w : Nat} (hw : 110 ≤ w) {h' : Nat} : GD OB h' w (.int i) := GD.leaf ⟨by have := OB_big; omega, by have := OB_big; omega, hw⟩
theorem g0_str {x : Str} (h : (x.cps.toList.all (fun c => decide (c < 128))) = true) (k : x.length ≤ 9) {w : Nat} (hw : 92 ≤ w) {h' : Nat} : GD OB h' w (.str x) := GD.leaf ⟨fun c hc => of_decide_eq_true (List.all_eq_true.1 h c hc), by omega⟩
theorem g0_lf {d : D} (h : leafG OB 8 d) {w : Nat} (hw : 8 ≤ w) {h' : Nat} : GD OB h' w d := GD.leaf (h.mono (Int.le_refl _) hw)
theorem g0_tup {ds : List D} {w h' : Nat} (g : GL (GD OB h') w ds) {w' : Nat} (hw : w ≤ w') : GD OB (h' + 1) w' (.tup ds) := GD.mono (Int.le_refl _) (GD.tup g) (Nat.le_refl _) hw
theorem g0_lst {ds : List D} {w h' : Nat} (g : GL (GD OB h') w ds) {w' : Nat} (hw : w ≤ w') : GD OB (h' + 1) w' (.lst ds) := GD.mono (Int.le_refl _) (GD.lst g) (Nat.le_refl _) hw
theorem pow59 : ((10 : Int) ^ (59 : Int).toNat) = OB := by decide +kernel
/-! ### written data, weighed -/
def wtL (f : D → Option Nat) : List D → Option Nat
  | [] => some 3
  | d :: ds => match f d, wtL f ds with
    | some a, some b => some (a + 2 + b)
    | _, _ => none
def wtLeaf : D → Option Nat
  | .non => some 8
  | .bl _ => some 8
  | .int i => if -OB ≤ i ∧ i ≤ OB then some 110 else none
  | .str x => if x.cps.toList.all (fun c => decide (c < 128)) = true then some (10 * x.length + 2) else none
  | .dct [] => some 8
  | .dct [(.str x, .int i)] => if x = "a" ∧ i = 1 then some 30 else none
  | _ => none
def wtF : Nat → D → Option Nat
  | h + 1, .tup ds => wtL (wtF h) ds
  | h + 1, .lst ds => wtL (wtF h) ds
  | _, d => wtLeaf d
theorem wtL_ok {f : D → Option Nat} {P : Nat → D → Prop} (h : ∀ d w, f d = some w → P w d) : ∀ {ds : List D} {w : Nat}, wtL f ds = some w → GL P w ds
  | [], w, e => by
    simp only [wtL] at e
    cases e
    exact Nat.le_refl 3
  | d :: ds, w, e => by
    simp only [wtL] at e
    rcases h1 : f d with _ | a
    · rw [h1] at e; cases e
    · rcases h2 : wtL f ds with _ | b
      · rw [h1, h2] at e; cases e
      · rw [h1, h2] at e
        cases e
        exact ⟨a, b, h d a h1, wtL_ok h h2, Nat.le_refl _⟩
theorem wtLeaf_ok {d : D} {w : Nat} (e : wtLeaf d = some w) : leafG OB w d := by
  unfold wtLeaf at e
  split at e
  · cases e; exact Nat.le_refl 8
  · cases e; exact Nat.le_refl 8
  · split at e
    · rename_i h; cases e; exact ⟨h.1, h.2, Nat.le_refl _⟩
    · cases e
  · split at e
    · rename_i h; cases e; exact ⟨fun c hc => of_decide_eq_true (List.all_eq_true.1 h c hc), Nat.le_refl _⟩
    · cases e
  · cases e; exact Nat.le_refl 8
  · split at e
    · rename_i h; cases e; exact ⟨Nat.le_refl _, h.1, h.2⟩
    · cases e
  · cases e
theorem wtF_ok : ∀ (h : Nat) (d : D) (w : Nat), wtF h d = some w → GD OB h w d
  | 0, d, w, e => by
    have e : wtLeaf d = some w := by cases d <;> exact e
    exact wtLeaf_ok e
  | h + 1, d, w, e => by
    cases d with
    | tup ds => exact .inr ⟨ds, .inl rfl, wtL_ok (fun d w e => wtF_ok h d w e) e⟩
    | lst ds => exact .inr ⟨ds, .inr rfl, wtL_ok (fun d w e => wtF_ok h d w e) e⟩
    | non => exact .inl (wtLeaf_ok e)
    | bl k => exact .inl (wtLeaf_ok e)
    | int k => exact .inl (wtLeaf_ok e)
    | str k => exact .inl (wtLeaf_ok e)
    | dct k => exact .inl (wtLeaf_ok e)
    | lsr k => exact .inl (wtLeaf_ok e)
    | ref k => exact .inl (wtLeaf_ok e)
    | exc c k => exact .inl (wtLeaf_ok e)
def ckG (d : D) : Bool := match wtF 2 d with
  | some w => decide (w ≤ 3000)
  | none => false
theorem ckG_ok {d : D} (h : ckG d = true) : G0 d := by
  unfold ckG at h
  split at h
  · rename_i w e
    exact GD.mono (Int.le_refl _) (wtF_ok 2 d w e) (Nat.le_refl _) (of_decide_eq_true h)
  · cases h
section
variable {cells : List Int} {T : Sto} {a r x : Int} {Q : D → Sto → Prop}
theorem dpen0 : Wp (ixD (.ref 0) (.int 0)) (penS cells a r T) Q ↔ Q (.lst (cells.map D.int)) (penS cells a r T) := wp_of rfl
theorem dpen1 : Wp (ixD (.ref 0) (.int 1)) (penS cells a r T) Q ↔ Q (.int a) (penS cells a r T) := wp_of rfl
theorem dpen2 : Wp (ixD (.ref 0) (.int 2)) (penS cells a r T) Q ↔ Q (.int r) (penS cells a r T) := wp_of rfl
theorem dput1 {ρ : Env} {Q : Env → Sto → Prop} : Wp (putDM (.ref 0) (.int 1) (.int x) ρ) (penS cells a r T) Q ↔ Q ρ (penS cells x r T) := wp_of rfl
theorem dput2 {ρ : Env} {Q : Env → Sto → Prop} : Wp (putDM (.ref 0) (.int 2) (.int x) ρ) (penS cells a r T) Q ↔ Q ρ (penS cells a x T) := wp_of rfl
end
section
variable {S : Sto} {Q : D → Sto → Prop}
theorem wp_ixT {ds : List D} {y : D} : Wp (ixD (.tup ds) y) S Q ↔ Wp (ixM (.tup ds) y) S Q := Iff.rfl
theorem wp_ixLs {ds : List D} {y : D} : Wp (ixD (.lst ds) y) S Q ↔ Wp (ixM (.lst ds) y) S Q := Iff.rfl
theorem wp_lenDT {ds : List D} : Wp (lenD (.tup ds)) S Q ↔ Q (.int (ds.length : Int)) S := wp_of rfl
theorem wp_lenDS {x : Str} (h : x.length ≤ 100000) : Wp (lenD (.str x)) S Q ↔ Q (.int (x.length : Int)) S := wp_lenS h
theorem wp_lenDL {ds : List D} : Wp (lenD (.lst ds)) S Q ↔ Q (.int (ds.length : Int)) S := wp_of rfl
end
def eqs (n : Nat) (d : D) : Prop := ∃ p, toPy d = some p ∧ p.canLay0 = true ∧ p.depth ≤ n ∧ PyData.eqv p p = true
theorem eqs.mono {n m : Nat} {d : D} (h : eqs n d) (l : n ≤ m) : eqs m d := let ⟨p, a, b, c, e⟩ := h; ⟨p, a, b, Nat.le_trans c l, e⟩
theorem eqs_int (i : Int) : eqs 1 (.int i) := ⟨.int i, rfl, rfl, by simp [PyData.depth], by simp [PyData.eqv]⟩
theorem eqs_non : eqs 1 .non := ⟨.none, rfl, rfl, by simp [PyData.depth], by simp [PyData.eqv]⟩
theorem eqs_str {x : Str} (h : PyData.strOk x = true) : eqs 1 (.str x) := ⟨.str x, rfl, by simpa [PyData.canLay0] using h, by simp [PyData.depth], by simp [PyData.eqv]⟩
theorem eqs_all {n : Nat} : ∀ {ds : List D}, (∀ d, d ∈ ds → eqs n d) → ∃ ps, toPyL ds = some ps ∧ PyData.canLayAll0 ps = true ∧ PyData.depthAll ps ≤ n ∧ PyData.eqvAll ps ps = true
  | [], _ => ⟨[], rfl, rfl, by simp [PyData.depthAll], rfl⟩
  | d :: ds, h => by
    obtain ⟨p, a, b, c, e⟩ := h d (by simp)
    obtain ⟨ps, a', b', c', e'⟩ := eqs_all (ds := ds) fun x hx => h x (by simp [hx])
    refine ⟨p :: ps, by simp [toPyL, a, a'], by simp [PyData.canLayAll0, b, b'], ?_, by simp [PyData.eqvAll, e, e']⟩
    simp only [PyData.depthAll]
    omega
theorem eqs_lst {n : Nat} {ds : List D} (h : ∀ d, d ∈ ds → eqs n d) : eqs (n + 1) (.lst ds) := by
  obtain ⟨ps, a, b, c, e⟩ := eqs_all h
  exact ⟨.list ps, by simp [toPy, a], by simpa [PyData.canLay0] using b, by simp only [PyData.depth]; omega, by simpa [PyData.eqv] using e⟩
theorem eqs_tup {n : Nat} {ds : List D} (h : ∀ d, d ∈ ds → eqs n d) : eqs (n + 1) (.tup ds) := by
  obtain ⟨ps, a, b, c, e⟩ := eqs_all h
  exact ⟨.tuple ps, by simp [toPy, a], by simpa [PyData.canLay0] using b, by simp only [PyData.depth]; omega, by simpa [PyData.eqv] using e⟩
theorem eqs_bl (b : Bool) : eqs 1 (.bl b) := ⟨.bool b, rfl, rfl, by simp [PyData.depth], by simp [PyData.eqv]⟩
theorem deS_eqs {n : Nat} {d : D} (h : eqs n d) (S : Sto) : deS S d = d := by
  cases d with
  | ref n => obtain ⟨p, a, _⟩ := h; simp [toPy] at a
  | _ => rfl
theorem lenDiff_self (S : Sto) (d : D) : lenDiff S d d = false := by
  unfold lenDiff
  split <;> simp_all
section
variable {S : Sto} {Q : D → Sto → Prop} {d : D}
theorem eq_self (h : eqs 64 d) : Wp (eqM d d) S Q ↔ Q (.bl true) S := wp_of (by
  have hd := deS_eqs h S
  obtain ⟨p, a, b, c, e⟩ := h
  have sh : SeqAt.shaped p = true := by unfold SeqAt.shaped; simp [b, c]
  simp [eqM, eqB, lenDiff_self, hd, a, sh, e])
theorem ne_self (h : eqs 64 d) : Wp (neM d d) S Q ↔ Q (.bl false) S := wp_of (by
  have hd := deS_eqs h S
  obtain ⟨p, a, b, c, e⟩ := h
  have sh : SeqAt.shaped p = true := by unfold SeqAt.shaped; simp [b, c]
  simp [neM, eqB, lenDiff_self, hd, a, sh, e])
end

/-! ### loops without a return -/
theorem wp_loop {g : D → Env → M Env} {body : Env → M (Fl × Env)} (I : Nat → Env → Sto → Prop) {xs : List D}
    (step : ∀ (k : Nat) x ρ S, xs[k]? = some x → I k ρ S → Wp (g x ρ) S fun ρ1 S1 => Wp (body ρ1) S1 fun r S2 => (r.1 = .nx ∨ r.1 = .ct) ∧ I (k + 1) r.2 S2) :
    ∀ (n k : Nat) (ρ : Env) (S : Sto), k + n = xs.length → I k ρ S → Wp (loop g body (xs.drop k) ρ) S fun r S' => r.1 = .nx ∧ I xs.length r.2 S'
  | 0, k, ρ, S, e, h => by
    have e : k = xs.length := by omega
    subst e
    rw [List.drop_length]
    exact wp_pure.2 ⟨rfl, h⟩
  | n + 1, k, ρ, S, e, h => by
    have hk : k < xs.length := by omega
    rw [List.drop_eq_getElem_cons hk]
    simp only [loop, wp_bind]
    refine (step k _ ρ S (List.getElem?_eq_getElem hk) h).mono fun ρ1 S1 q => q.mono ?_
    rintro ⟨fl, ρ2⟩ S2 ⟨e1, h2⟩
    have ih := wp_loop I step n (k + 1) ρ2 S2 (by omega) h2
    rcases e1 with e1 | e1
    · cases (show fl = .nx from e1); exact ih
    · cases (show fl = .ct from e1); exact ih
theorem wp_loop0 {g : D → Env → M Env} {body : Env → M (Fl × Env)} (I : Nat → Env → Sto → Prop) {xs : List D} {ρ : Env} {S : Sto} (h0 : I 0 ρ S)
    (step : ∀ (k : Nat) x ρ S, xs[k]? = some x → I k ρ S → Wp (g x ρ) S fun ρ1 S1 => Wp (body ρ1) S1 fun r S2 => (r.1 = .nx ∨ r.1 = .ct) ∧ I (k + 1) r.2 S2) :
    Wp (loop g body xs ρ) S fun r S' => r.1 = .nx ∧ I xs.length r.2 S' := by
  have := wp_loop I step xs.length 0 ρ S (by omega) h0
  rwa [List.drop_zero] at this
theorem rgD_at {lo : Int} {n k : Nat} {x : D} (h : (rgD lo n)[k]? = some x) : k < n ∧ x = .int (lo + (k : Int)) := by
  unfold rgD at h
  rw [List.getElem?_map] at h
  obtain ⟨j, e, rfl⟩ := Option.map_eq_some_iff.mp h
  rw [List.getElem?_eq_some_iff] at e
  obtain ⟨hk, e⟩ := e
  simp at hk e
  subst e
  exact ⟨hk, rfl⟩
end Mi
namespace Mi
open PySem PySem.Spec PyProof.Rows L2
def topS (i : Nat) : Stmt := PySem.Challenge.pw_whoheld_k01_errors.main.body.getD i (.Pass ⟨0, 0, 0, 0⟩)
def metS (i j : Nat) : Stmt := match topS i with
  | .ClassDef (body := b) .. => b.getD j (.Pass ⟨0, 0, 0, 0⟩)
  | _ => .Pass ⟨0, 0, 0, 0⟩
def xtb : List (Str × List Nat) := [(Str.ofString "HoldError", [0, 100, 105]), (Str.ofString "TurnError", [1, 101, 105]), (Str.ofString "AbsentError", [2, 102, 105]), (Str.ofString "SizeError", [3, 103, 104, 105]), (Str.ofString "InvalidKey", [4, 0, 100, 105]), (Str.ofString "InvalidValue", [5, 0, 100, 105]), (Str.ofString "InvalidView", [6, 0, 100, 105]), (Str.ofString "InvalidLoss", [7, 0, 100, 105]), (Str.ofString "InvalidPages", [8, 0, 100, 105]), (Str.ofString "InvalidRow", [9, 0, 100, 105]), (Str.ofString "InvalidText", [10, 0, 100, 105]), (Str.ofString "Barred", [11, 0, 100, 105]), (Str.ofString "Unplayed", [12, 0, 100, 105]), (Str.ofString "TooFew", [13, 0, 100, 105]), (Str.ofString "UnknownCommand", [14, 0, 100, 105]), (Str.ofString "NameTaken", [15, 0, 100, 105]), (Str.ofString "Ended", [16, 1, 101, 105]), (Str.ofString "Cancelled", [17, 1, 101, 105]), (Str.ofString "NotOuter", [18, 1, 101, 105]), (Str.ofString "Strayed", [19, 1, 101, 105]), (Str.ofString "Busy", [20, 1, 101, 105]), (Str.ofString "Blocked", [21, 1, 101, 105]), (Str.ofString "Taken", [22, 1, 101, 105]), (Str.ofString "Unsettled", [23, 1, 101, 105]), (Str.ofString "NoKey", [24, 2, 102, 105]), (Str.ofString "NoName", [25, 2, 102, 105]), (Str.ofString "NoPage", [26, 2, 102, 105]), (Str.ofString "NoRow", [27, 2, 102, 105]), (Str.ofString "NoSlot", [28, 2, 102, 105]), (Str.ofString "NotDead", [29, 2, 102, 105]), (Str.ofString "NotPrepared", [30, 2, 102, 105]), (Str.ofString "NotSpan", [31, 2, 102, 105]), (Str.ofString "NotCleaning", [32, 2, 102, 105]), (Str.ofString "NoNumber", [33, 2, 102, 105]), (Str.ofString "NoTransaction", [34, 2, 102, 105]), (Str.ofString "Full", [35, 3, 103, 104, 105]), (Str.ofString "TooDeep", [36, 3, 103, 104, 105]), (Str.ofString "TooLong", [37, 3, 103, 104, 105])]
def xown : List (Nat × String) := [(37, "TooLong"), (36, "TooDeep"), (35, "Full"), (34, "NoTransaction"), (33, "NoNumber"), (32, "NotCleaning"), (31, "NotSpan"), (30, "NotPrepared"), (29, "NotDead"), (28, "NoSlot"), (27, "NoRow"), (26, "NoPage"), (25, "NoName"), (24, "NoKey"), (23, "Unsettled"), (22, "Taken"), (21, "Blocked"), (20, "Busy"), (19, "Strayed"), (18, "NotOuter"), (17, "Cancelled"), (16, "Ended"), (15, "NameTaken"), (14, "UnknownCommand"), (13, "TooFew"), (12, "Unplayed"), (11, "Barred"), (10, "InvalidText"), (9, "InvalidRow"), (8, "InvalidPages"), (7, "InvalidLoss"), (6, "InvalidView"), (5, "InvalidValue"), (4, "InvalidKey"), (3, "SizeError"), (2, "AbsentError"), (1, "TurnError"), (0, "HoldError")]
def xbl : List (Nat × String) := [(103, "OverflowError"), (102, "LookupError"), (101, "RuntimeError"), (100, "ValueError")]
structure Txt (K : PySem.W.Frag) (mg : Str → Option Value) : Prop where
  n_LookupError : mg "LookupError" = none
  n_OverflowError : mg "OverflowError" = none
  n_RuntimeError : mg "RuntimeError" = none
  n_ValueError : mg "ValueError" = none
  n_abs : mg "abs" = none
  n_int : mg "int" = none
  n_isinstance : mg "isinstance" = none
  n_len : mg "len" = none
  n_list : mg "list" = none
  n_range : mg "range" = none
  n_repr : mg "repr" = none
  x0_Full : XNo K mg "Full"
  x0_NotOuter : XNo K mg "NotOuter"
  x0_Cancelled : XNo K mg "Cancelled"
  x0_Ended : XNo K mg "Ended"
  x0_UnknownCommand : XNo K mg "UnknownCommand"
  xf_bar : XFld K ["Barred"] "bar"
  xf_index : XFld K ["InvalidRow", "Unplayed", "Strayed", "NoRow"] "index"
  xf_key : XFld K ["Taken", "NoKey"] "key"
  xf_least : XFld K ["TooFew"] "least"
  xf_limit : XFld K ["TooDeep", "TooLong"] "limit"
  xf_line : XFld K ["InvalidText"] "line"
  xf_name : XFld K ["NameTaken", "NoName"] "name"
  xf_number : XFld K ["Busy", "Blocked", "Unsettled", "NotPrepared", "NoNumber", "NoTransaction"] "number"
  xf_page : XFld K ["NoPage"] "page"
  xf_row : XFld K ["NotSpan", "NotCleaning"] "row"
  xf_slot : XFld K ["NoSlot", "NotDead"] "slot"
  xf_value : XFld K ["InvalidKey", "InvalidValue", "InvalidView", "InvalidLoss", "InvalidPages"] "value"
  xf_word : XFld K ["InvalidText"] "word"
  xg_TooLong : ∃ D, mg "TooLong" = some (.ref D)
  xg_TooDeep : ∃ D, mg "TooDeep" = some (.ref D)
  xg_Full : ∃ D, mg "Full" = some (.ref D)
  xg_NoTransaction : ∃ D, mg "NoTransaction" = some (.ref D)
  xg_NoNumber : ∃ D, mg "NoNumber" = some (.ref D)
  xg_NotCleaning : ∃ D, mg "NotCleaning" = some (.ref D)
  xg_NotSpan : ∃ D, mg "NotSpan" = some (.ref D)
  xg_NotPrepared : ∃ D, mg "NotPrepared" = some (.ref D)
  xg_NotDead : ∃ D, mg "NotDead" = some (.ref D)
  xg_NoSlot : ∃ D, mg "NoSlot" = some (.ref D)
  xg_NoRow : ∃ D, mg "NoRow" = some (.ref D)
  xg_NoPage : ∃ D, mg "NoPage" = some (.ref D)
  xg_NoName : ∃ D, mg "NoName" = some (.ref D)
  xg_NoKey : ∃ D, mg "NoKey" = some (.ref D)
  xg_Unsettled : ∃ D, mg "Unsettled" = some (.ref D)
  xg_Taken : ∃ D, mg "Taken" = some (.ref D)
  xg_Blocked : ∃ D, mg "Blocked" = some (.ref D)
  xg_Busy : ∃ D, mg "Busy" = some (.ref D)
  xg_Strayed : ∃ D, mg "Strayed" = some (.ref D)
  xg_NotOuter : ∃ D, mg "NotOuter" = some (.ref D)
  xg_Cancelled : ∃ D, mg "Cancelled" = some (.ref D)
  xg_Ended : ∃ D, mg "Ended" = some (.ref D)
  xg_NameTaken : ∃ D, mg "NameTaken" = some (.ref D)
  xg_UnknownCommand : ∃ D, mg "UnknownCommand" = some (.ref D)
  xg_TooFew : ∃ D, mg "TooFew" = some (.ref D)
  xg_Unplayed : ∃ D, mg "Unplayed" = some (.ref D)
  xg_Barred : ∃ D, mg "Barred" = some (.ref D)
  xg_InvalidText : ∃ D, mg "InvalidText" = some (.ref D)
  xg_InvalidRow : ∃ D, mg "InvalidRow" = some (.ref D)
  xg_InvalidPages : ∃ D, mg "InvalidPages" = some (.ref D)
  xg_InvalidLoss : ∃ D, mg "InvalidLoss" = some (.ref D)
  xg_InvalidView : ∃ D, mg "InvalidView" = some (.ref D)
  xg_InvalidValue : ∃ D, mg "InvalidValue" = some (.ref D)
  xg_InvalidKey : ∃ D, mg "InvalidKey" = some (.ref D)
  xg_SizeError : ∃ D, mg "SizeError" = some (.ref D)
  xg_AbsentError : ∃ D, mg "AbsentError" = some (.ref D)
  xg_TurnError : ∃ D, mg "TurnError" = some (.ref D)
  xg_HoldError : ∃ D, mg "HoldError" = some (.ref D)
  x_is : XIs K mg xtb xown xbl
section
variable {P : Program} {w : World} {K : PySem.W.Frag} {mg : Str → Option Value} {base : Heap}
abbrev s_TooLong___init__ : Stmt := metS 38 0
abbrev ps_TooLong___init__ : List Str := ["self", "limit"]
abbrev N_TooLong___init__ : List Str := ["self", "limit"]
theorem sc_TooLong___init__ : FnScope N_TooLong___init__ ps_TooLong___init__ (defScope s_TooLong___init__) := ⟨rfl, rfl, rfl, by decide +kernel, rfl, by decide +kernel, by decide +kernel⟩
theorem ok_TooLong___init__ (T : Txt K mg) (D : XMkAt K mg "TooLong" "TooLong.__init__" s_TooLong___init__ ps_TooLong___init__ ["limit"]) : XMk P w K mg base 1 "TooLong" "TooLong.__init__" s_TooLong___init__ ps_TooLong___init__ ["limit"] :=
  XMk.of1 (N := N_TooLong___init__) (k := 0) D sc_TooLong___init__ rfl fun fa cdv A outer s H E => pss_one (ps_xst (pv 0) (pv 1))
abbrev s_TooDeep___init__ : Stmt := metS 37 0
abbrev ps_TooDeep___init__ : List Str := ["self", "limit"]
abbrev N_TooDeep___init__ : List Str := ["self", "limit"]
theorem sc_TooDeep___init__ : FnScope N_TooDeep___init__ ps_TooDeep___init__ (defScope s_TooDeep___init__) := ⟨rfl, rfl, rfl, by decide +kernel, rfl, by decide +kernel, by decide +kernel⟩
theorem ok_TooDeep___init__ (T : Txt K mg) (D : XMkAt K mg "TooDeep" "TooDeep.__init__" s_TooDeep___init__ ps_TooDeep___init__ ["limit"]) : XMk P w K mg base 1 "TooDeep" "TooDeep.__init__" s_TooDeep___init__ ps_TooDeep___init__ ["limit"] :=
  XMk.of1 (N := N_TooDeep___init__) (k := 0) D sc_TooDeep___init__ rfl fun fa cdv A outer s H E => pss_one (ps_xst (pv 0) (pv 1))
abbrev s_NoTransaction___init__ : Stmt := metS 35 0
abbrev ps_NoTransaction___init__ : List Str := ["self", "number"]
abbrev N_NoTransaction___init__ : List Str := ["self", "number"]
theorem sc_NoTransaction___init__ : FnScope N_NoTransaction___init__ ps_NoTransaction___init__ (defScope s_NoTransaction___init__) := ⟨rfl, rfl, rfl, by decide +kernel, rfl, by decide +kernel, by decide +kernel⟩
theorem ok_NoTransaction___init__ (T : Txt K mg) (D : XMkAt K mg "NoTransaction" "NoTransaction.__init__" s_NoTransaction___init__ ps_NoTransaction___init__ ["number"]) : XMk P w K mg base 1 "NoTransaction" "NoTransaction.__init__" s_NoTransaction___init__ ps_NoTransaction___init__ ["number"] :=
  XMk.of1 (N := N_NoTransaction___init__) (k := 0) D sc_NoTransaction___init__ rfl fun fa cdv A outer s H E => pss_one (ps_xst (pv 0) (pv 1))
abbrev s_NoNumber___init__ : Stmt := metS 34 0
abbrev ps_NoNumber___init__ : List Str := ["self", "number"]
abbrev N_NoNumber___init__ : List Str := ["self", "number"]
theorem sc_NoNumber___init__ : FnScope N_NoNumber___init__ ps_NoNumber___init__ (defScope s_NoNumber___init__) := ⟨rfl, rfl, rfl, by decide +kernel, rfl, by decide +kernel, by decide +kernel⟩
theorem ok_NoNumber___init__ (T : Txt K mg) (D : XMkAt K mg "NoNumber" "NoNumber.__init__" s_NoNumber___init__ ps_NoNumber___init__ ["number"]) : XMk P w K mg base 1 "NoNumber" "NoNumber.__init__" s_NoNumber___init__ ps_NoNumber___init__ ["number"] :=
  XMk.of1 (N := N_NoNumber___init__) (k := 0) D sc_NoNumber___init__ rfl fun fa cdv A outer s H E => pss_one (ps_xst (pv 0) (pv 1))
abbrev s_NotCleaning___init__ : Stmt := metS 33 0
abbrev ps_NotCleaning___init__ : List Str := ["self", "row"]
abbrev N_NotCleaning___init__ : List Str := ["self", "row"]
theorem sc_NotCleaning___init__ : FnScope N_NotCleaning___init__ ps_NotCleaning___init__ (defScope s_NotCleaning___init__) := ⟨rfl, rfl, rfl, by decide +kernel, rfl, by decide +kernel, by decide +kernel⟩
theorem ok_NotCleaning___init__ (T : Txt K mg) (D : XMkAt K mg "NotCleaning" "NotCleaning.__init__" s_NotCleaning___init__ ps_NotCleaning___init__ ["row"]) : XMk P w K mg base 1 "NotCleaning" "NotCleaning.__init__" s_NotCleaning___init__ ps_NotCleaning___init__ ["row"] :=
  XMk.of1 (N := N_NotCleaning___init__) (k := 0) D sc_NotCleaning___init__ rfl fun fa cdv A outer s H E => pss_one (ps_xst (pv 0) (pv 1))
abbrev s_NotSpan___init__ : Stmt := metS 32 0
abbrev ps_NotSpan___init__ : List Str := ["self", "row"]
abbrev N_NotSpan___init__ : List Str := ["self", "row"]
theorem sc_NotSpan___init__ : FnScope N_NotSpan___init__ ps_NotSpan___init__ (defScope s_NotSpan___init__) := ⟨rfl, rfl, rfl, by decide +kernel, rfl, by decide +kernel, by decide +kernel⟩
theorem ok_NotSpan___init__ (T : Txt K mg) (D : XMkAt K mg "NotSpan" "NotSpan.__init__" s_NotSpan___init__ ps_NotSpan___init__ ["row"]) : XMk P w K mg base 1 "NotSpan" "NotSpan.__init__" s_NotSpan___init__ ps_NotSpan___init__ ["row"] :=
  XMk.of1 (N := N_NotSpan___init__) (k := 0) D sc_NotSpan___init__ rfl fun fa cdv A outer s H E => pss_one (ps_xst (pv 0) (pv 1))
abbrev s_NotPrepared___init__ : Stmt := metS 31 0
abbrev ps_NotPrepared___init__ : List Str := ["self", "number"]
abbrev N_NotPrepared___init__ : List Str := ["self", "number"]
theorem sc_NotPrepared___init__ : FnScope N_NotPrepared___init__ ps_NotPrepared___init__ (defScope s_NotPrepared___init__) := ⟨rfl, rfl, rfl, by decide +kernel, rfl, by decide +kernel, by decide +kernel⟩
theorem ok_NotPrepared___init__ (T : Txt K mg) (D : XMkAt K mg "NotPrepared" "NotPrepared.__init__" s_NotPrepared___init__ ps_NotPrepared___init__ ["number"]) : XMk P w K mg base 1 "NotPrepared" "NotPrepared.__init__" s_NotPrepared___init__ ps_NotPrepared___init__ ["number"] :=
  XMk.of1 (N := N_NotPrepared___init__) (k := 0) D sc_NotPrepared___init__ rfl fun fa cdv A outer s H E => pss_one (ps_xst (pv 0) (pv 1))
abbrev s_NotDead___init__ : Stmt := metS 30 0
abbrev ps_NotDead___init__ : List Str := ["self", "slot"]
abbrev N_NotDead___init__ : List Str := ["self", "slot"]
theorem sc_NotDead___init__ : FnScope N_NotDead___init__ ps_NotDead___init__ (defScope s_NotDead___init__) := ⟨rfl, rfl, rfl, by decide +kernel, rfl, by decide +kernel, by decide +kernel⟩
theorem ok_NotDead___init__ (T : Txt K mg) (D : XMkAt K mg "NotDead" "NotDead.__init__" s_NotDead___init__ ps_NotDead___init__ ["slot"]) : XMk P w K mg base 1 "NotDead" "NotDead.__init__" s_NotDead___init__ ps_NotDead___init__ ["slot"] :=
  XMk.of1 (N := N_NotDead___init__) (k := 0) D sc_NotDead___init__ rfl fun fa cdv A outer s H E => pss_one (ps_xst (pv 0) (pv 1))
abbrev s_NoSlot___init__ : Stmt := metS 29 0
abbrev ps_NoSlot___init__ : List Str := ["self", "slot"]
abbrev N_NoSlot___init__ : List Str := ["self", "slot"]
theorem sc_NoSlot___init__ : FnScope N_NoSlot___init__ ps_NoSlot___init__ (defScope s_NoSlot___init__) := ⟨rfl, rfl, rfl, by decide +kernel, rfl, by decide +kernel, by decide +kernel⟩
theorem ok_NoSlot___init__ (T : Txt K mg) (D : XMkAt K mg "NoSlot" "NoSlot.__init__" s_NoSlot___init__ ps_NoSlot___init__ ["slot"]) : XMk P w K mg base 1 "NoSlot" "NoSlot.__init__" s_NoSlot___init__ ps_NoSlot___init__ ["slot"] :=
  XMk.of1 (N := N_NoSlot___init__) (k := 0) D sc_NoSlot___init__ rfl fun fa cdv A outer s H E => pss_one (ps_xst (pv 0) (pv 1))
abbrev s_NoRow___init__ : Stmt := metS 28 0
abbrev ps_NoRow___init__ : List Str := ["self", "index"]
abbrev N_NoRow___init__ : List Str := ["self", "index"]
theorem sc_NoRow___init__ : FnScope N_NoRow___init__ ps_NoRow___init__ (defScope s_NoRow___init__) := ⟨rfl, rfl, rfl, by decide +kernel, rfl, by decide +kernel, by decide +kernel⟩
theorem ok_NoRow___init__ (T : Txt K mg) (D : XMkAt K mg "NoRow" "NoRow.__init__" s_NoRow___init__ ps_NoRow___init__ ["index"]) : XMk P w K mg base 1 "NoRow" "NoRow.__init__" s_NoRow___init__ ps_NoRow___init__ ["index"] :=
  XMk.of1 (N := N_NoRow___init__) (k := 0) D sc_NoRow___init__ rfl fun fa cdv A outer s H E => pss_one (ps_xst (pv 0) (pv 1))
abbrev s_NoPage___init__ : Stmt := metS 27 0
abbrev ps_NoPage___init__ : List Str := ["self", "page"]
abbrev N_NoPage___init__ : List Str := ["self", "page"]
theorem sc_NoPage___init__ : FnScope N_NoPage___init__ ps_NoPage___init__ (defScope s_NoPage___init__) := ⟨rfl, rfl, rfl, by decide +kernel, rfl, by decide +kernel, by decide +kernel⟩
theorem ok_NoPage___init__ (T : Txt K mg) (D : XMkAt K mg "NoPage" "NoPage.__init__" s_NoPage___init__ ps_NoPage___init__ ["page"]) : XMk P w K mg base 1 "NoPage" "NoPage.__init__" s_NoPage___init__ ps_NoPage___init__ ["page"] :=
  XMk.of1 (N := N_NoPage___init__) (k := 0) D sc_NoPage___init__ rfl fun fa cdv A outer s H E => pss_one (ps_xst (pv 0) (pv 1))
abbrev s_NoName___init__ : Stmt := metS 26 0
abbrev ps_NoName___init__ : List Str := ["self", "name"]
abbrev N_NoName___init__ : List Str := ["self", "name"]
theorem sc_NoName___init__ : FnScope N_NoName___init__ ps_NoName___init__ (defScope s_NoName___init__) := ⟨rfl, rfl, rfl, by decide +kernel, rfl, by decide +kernel, by decide +kernel⟩
theorem ok_NoName___init__ (T : Txt K mg) (D : XMkAt K mg "NoName" "NoName.__init__" s_NoName___init__ ps_NoName___init__ ["name"]) : XMk P w K mg base 1 "NoName" "NoName.__init__" s_NoName___init__ ps_NoName___init__ ["name"] :=
  XMk.of1 (N := N_NoName___init__) (k := 0) D sc_NoName___init__ rfl fun fa cdv A outer s H E => pss_one (ps_xst (pv 0) (pv 1))
abbrev s_NoKey___init__ : Stmt := metS 25 0
abbrev ps_NoKey___init__ : List Str := ["self", "key"]
abbrev N_NoKey___init__ : List Str := ["self", "key"]
theorem sc_NoKey___init__ : FnScope N_NoKey___init__ ps_NoKey___init__ (defScope s_NoKey___init__) := ⟨rfl, rfl, rfl, by decide +kernel, rfl, by decide +kernel, by decide +kernel⟩
theorem ok_NoKey___init__ (T : Txt K mg) (D : XMkAt K mg "NoKey" "NoKey.__init__" s_NoKey___init__ ps_NoKey___init__ ["key"]) : XMk P w K mg base 1 "NoKey" "NoKey.__init__" s_NoKey___init__ ps_NoKey___init__ ["key"] :=
  XMk.of1 (N := N_NoKey___init__) (k := 0) D sc_NoKey___init__ rfl fun fa cdv A outer s H E => pss_one (ps_xst (pv 0) (pv 1))
abbrev s_Unsettled___init__ : Stmt := metS 24 0
abbrev ps_Unsettled___init__ : List Str := ["self", "number"]
abbrev N_Unsettled___init__ : List Str := ["self", "number"]
theorem sc_Unsettled___init__ : FnScope N_Unsettled___init__ ps_Unsettled___init__ (defScope s_Unsettled___init__) := ⟨rfl, rfl, rfl, by decide +kernel, rfl, by decide +kernel, by decide +kernel⟩
theorem ok_Unsettled___init__ (T : Txt K mg) (D : XMkAt K mg "Unsettled" "Unsettled.__init__" s_Unsettled___init__ ps_Unsettled___init__ ["number"]) : XMk P w K mg base 1 "Unsettled" "Unsettled.__init__" s_Unsettled___init__ ps_Unsettled___init__ ["number"] :=
  XMk.of1 (N := N_Unsettled___init__) (k := 0) D sc_Unsettled___init__ rfl fun fa cdv A outer s H E => pss_one (ps_xst (pv 0) (pv 1))
abbrev s_Taken___init__ : Stmt := metS 23 0
abbrev ps_Taken___init__ : List Str := ["self", "key"]
abbrev N_Taken___init__ : List Str := ["self", "key"]
theorem sc_Taken___init__ : FnScope N_Taken___init__ ps_Taken___init__ (defScope s_Taken___init__) := ⟨rfl, rfl, rfl, by decide +kernel, rfl, by decide +kernel, by decide +kernel⟩
theorem ok_Taken___init__ (T : Txt K mg) (D : XMkAt K mg "Taken" "Taken.__init__" s_Taken___init__ ps_Taken___init__ ["key"]) : XMk P w K mg base 1 "Taken" "Taken.__init__" s_Taken___init__ ps_Taken___init__ ["key"] :=
  XMk.of1 (N := N_Taken___init__) (k := 0) D sc_Taken___init__ rfl fun fa cdv A outer s H E => pss_one (ps_xst (pv 0) (pv 1))
abbrev s_Blocked___init__ : Stmt := metS 22 0
abbrev ps_Blocked___init__ : List Str := ["self", "number"]
abbrev N_Blocked___init__ : List Str := ["self", "number"]
theorem sc_Blocked___init__ : FnScope N_Blocked___init__ ps_Blocked___init__ (defScope s_Blocked___init__) := ⟨rfl, rfl, rfl, by decide +kernel, rfl, by decide +kernel, by decide +kernel⟩
theorem ok_Blocked___init__ (T : Txt K mg) (D : XMkAt K mg "Blocked" "Blocked.__init__" s_Blocked___init__ ps_Blocked___init__ ["number"]) : XMk P w K mg base 1 "Blocked" "Blocked.__init__" s_Blocked___init__ ps_Blocked___init__ ["number"] :=
  XMk.of1 (N := N_Blocked___init__) (k := 0) D sc_Blocked___init__ rfl fun fa cdv A outer s H E => pss_one (ps_xst (pv 0) (pv 1))
abbrev s_Busy___init__ : Stmt := metS 21 0
abbrev ps_Busy___init__ : List Str := ["self", "number"]
abbrev N_Busy___init__ : List Str := ["self", "number"]
theorem sc_Busy___init__ : FnScope N_Busy___init__ ps_Busy___init__ (defScope s_Busy___init__) := ⟨rfl, rfl, rfl, by decide +kernel, rfl, by decide +kernel, by decide +kernel⟩
theorem ok_Busy___init__ (T : Txt K mg) (D : XMkAt K mg "Busy" "Busy.__init__" s_Busy___init__ ps_Busy___init__ ["number"]) : XMk P w K mg base 1 "Busy" "Busy.__init__" s_Busy___init__ ps_Busy___init__ ["number"] :=
  XMk.of1 (N := N_Busy___init__) (k := 0) D sc_Busy___init__ rfl fun fa cdv A outer s H E => pss_one (ps_xst (pv 0) (pv 1))
abbrev s_Strayed___init__ : Stmt := metS 20 0
abbrev ps_Strayed___init__ : List Str := ["self", "index"]
abbrev N_Strayed___init__ : List Str := ["self", "index"]
theorem sc_Strayed___init__ : FnScope N_Strayed___init__ ps_Strayed___init__ (defScope s_Strayed___init__) := ⟨rfl, rfl, rfl, by decide +kernel, rfl, by decide +kernel, by decide +kernel⟩
theorem ok_Strayed___init__ (T : Txt K mg) (D : XMkAt K mg "Strayed" "Strayed.__init__" s_Strayed___init__ ps_Strayed___init__ ["index"]) : XMk P w K mg base 1 "Strayed" "Strayed.__init__" s_Strayed___init__ ps_Strayed___init__ ["index"] :=
  XMk.of1 (N := N_Strayed___init__) (k := 0) D sc_Strayed___init__ rfl fun fa cdv A outer s H E => pss_one (ps_xst (pv 0) (pv 1))
abbrev s_NameTaken___init__ : Stmt := metS 16 0
abbrev ps_NameTaken___init__ : List Str := ["self", "name"]
abbrev N_NameTaken___init__ : List Str := ["self", "name"]
theorem sc_NameTaken___init__ : FnScope N_NameTaken___init__ ps_NameTaken___init__ (defScope s_NameTaken___init__) := ⟨rfl, rfl, rfl, by decide +kernel, rfl, by decide +kernel, by decide +kernel⟩
theorem ok_NameTaken___init__ (T : Txt K mg) (D : XMkAt K mg "NameTaken" "NameTaken.__init__" s_NameTaken___init__ ps_NameTaken___init__ ["name"]) : XMk P w K mg base 1 "NameTaken" "NameTaken.__init__" s_NameTaken___init__ ps_NameTaken___init__ ["name"] :=
  XMk.of1 (N := N_NameTaken___init__) (k := 0) D sc_NameTaken___init__ rfl fun fa cdv A outer s H E => pss_one (ps_xst (pv 0) (pv 1))
abbrev s_TooFew___init__ : Stmt := metS 14 0
abbrev ps_TooFew___init__ : List Str := ["self", "least"]
abbrev N_TooFew___init__ : List Str := ["self", "least"]
theorem sc_TooFew___init__ : FnScope N_TooFew___init__ ps_TooFew___init__ (defScope s_TooFew___init__) := ⟨rfl, rfl, rfl, by decide +kernel, rfl, by decide +kernel, by decide +kernel⟩
theorem ok_TooFew___init__ (T : Txt K mg) (D : XMkAt K mg "TooFew" "TooFew.__init__" s_TooFew___init__ ps_TooFew___init__ ["least"]) : XMk P w K mg base 1 "TooFew" "TooFew.__init__" s_TooFew___init__ ps_TooFew___init__ ["least"] :=
  XMk.of1 (N := N_TooFew___init__) (k := 0) D sc_TooFew___init__ rfl fun fa cdv A outer s H E => pss_one (ps_xst (pv 0) (pv 1))
abbrev s_Unplayed___init__ : Stmt := metS 13 0
abbrev ps_Unplayed___init__ : List Str := ["self", "index"]
abbrev N_Unplayed___init__ : List Str := ["self", "index"]
theorem sc_Unplayed___init__ : FnScope N_Unplayed___init__ ps_Unplayed___init__ (defScope s_Unplayed___init__) := ⟨rfl, rfl, rfl, by decide +kernel, rfl, by decide +kernel, by decide +kernel⟩
theorem ok_Unplayed___init__ (T : Txt K mg) (D : XMkAt K mg "Unplayed" "Unplayed.__init__" s_Unplayed___init__ ps_Unplayed___init__ ["index"]) : XMk P w K mg base 1 "Unplayed" "Unplayed.__init__" s_Unplayed___init__ ps_Unplayed___init__ ["index"] :=
  XMk.of1 (N := N_Unplayed___init__) (k := 0) D sc_Unplayed___init__ rfl fun fa cdv A outer s H E => pss_one (ps_xst (pv 0) (pv 1))
abbrev s_Barred___init__ : Stmt := metS 12 0
abbrev ps_Barred___init__ : List Str := ["self", "bar"]
abbrev N_Barred___init__ : List Str := ["self", "bar"]
theorem sc_Barred___init__ : FnScope N_Barred___init__ ps_Barred___init__ (defScope s_Barred___init__) := ⟨rfl, rfl, rfl, by decide +kernel, rfl, by decide +kernel, by decide +kernel⟩
theorem ok_Barred___init__ (T : Txt K mg) (D : XMkAt K mg "Barred" "Barred.__init__" s_Barred___init__ ps_Barred___init__ ["bar"]) : XMk P w K mg base 1 "Barred" "Barred.__init__" s_Barred___init__ ps_Barred___init__ ["bar"] :=
  XMk.of1 (N := N_Barred___init__) (k := 0) D sc_Barred___init__ rfl fun fa cdv A outer s H E => pss_one (ps_xst (pv 0) (pv 1))
abbrev s_InvalidText___init__ : Stmt := metS 11 0
abbrev ps_InvalidText___init__ : List Str := ["self", "line", "word"]
abbrev N_InvalidText___init__ : List Str := ["self", "line", "word"]
theorem sc_InvalidText___init__ : FnScope N_InvalidText___init__ ps_InvalidText___init__ (defScope s_InvalidText___init__) := ⟨rfl, rfl, rfl, by decide +kernel, rfl, by decide +kernel, by decide +kernel⟩
theorem ok_InvalidText___init__ (T : Txt K mg) (D : XMkAt K mg "InvalidText" "InvalidText.__init__" s_InvalidText___init__ ps_InvalidText___init__ ["line", "word"]) : XMk P w K mg base 1 "InvalidText" "InvalidText.__init__" s_InvalidText___init__ ps_InvalidText___init__ ["line", "word"] :=
  XMk.of2 (N := N_InvalidText___init__) (k := 0) D sc_InvalidText___init__ rfl fun fa cdv A outer s H E => pss_cons (ps_xst (pv 0) (pv 1)) (pss_one (ps_xst (pv 0) (pv 2)))
abbrev s_InvalidRow___init__ : Stmt := metS 10 0
abbrev ps_InvalidRow___init__ : List Str := ["self", "index"]
abbrev N_InvalidRow___init__ : List Str := ["self", "index"]
theorem sc_InvalidRow___init__ : FnScope N_InvalidRow___init__ ps_InvalidRow___init__ (defScope s_InvalidRow___init__) := ⟨rfl, rfl, rfl, by decide +kernel, rfl, by decide +kernel, by decide +kernel⟩
theorem ok_InvalidRow___init__ (T : Txt K mg) (D : XMkAt K mg "InvalidRow" "InvalidRow.__init__" s_InvalidRow___init__ ps_InvalidRow___init__ ["index"]) : XMk P w K mg base 1 "InvalidRow" "InvalidRow.__init__" s_InvalidRow___init__ ps_InvalidRow___init__ ["index"] :=
  XMk.of1 (N := N_InvalidRow___init__) (k := 0) D sc_InvalidRow___init__ rfl fun fa cdv A outer s H E => pss_one (ps_xst (pv 0) (pv 1))
abbrev s_InvalidPages___init__ : Stmt := metS 9 0
abbrev ps_InvalidPages___init__ : List Str := ["self", "value"]
abbrev N_InvalidPages___init__ : List Str := ["self", "value"]
theorem sc_InvalidPages___init__ : FnScope N_InvalidPages___init__ ps_InvalidPages___init__ (defScope s_InvalidPages___init__) := ⟨rfl, rfl, rfl, by decide +kernel, rfl, by decide +kernel, by decide +kernel⟩
theorem ok_InvalidPages___init__ (T : Txt K mg) (D : XMkAt K mg "InvalidPages" "InvalidPages.__init__" s_InvalidPages___init__ ps_InvalidPages___init__ ["value"]) : XMk P w K mg base 1 "InvalidPages" "InvalidPages.__init__" s_InvalidPages___init__ ps_InvalidPages___init__ ["value"] :=
  XMk.of1 (N := N_InvalidPages___init__) (k := 0) D sc_InvalidPages___init__ rfl fun fa cdv A outer s H E => pss_one (ps_xst (pv 0) (pv 1))
abbrev s_InvalidLoss___init__ : Stmt := metS 8 0
abbrev ps_InvalidLoss___init__ : List Str := ["self", "value"]
abbrev N_InvalidLoss___init__ : List Str := ["self", "value"]
theorem sc_InvalidLoss___init__ : FnScope N_InvalidLoss___init__ ps_InvalidLoss___init__ (defScope s_InvalidLoss___init__) := ⟨rfl, rfl, rfl, by decide +kernel, rfl, by decide +kernel, by decide +kernel⟩
theorem ok_InvalidLoss___init__ (T : Txt K mg) (D : XMkAt K mg "InvalidLoss" "InvalidLoss.__init__" s_InvalidLoss___init__ ps_InvalidLoss___init__ ["value"]) : XMk P w K mg base 1 "InvalidLoss" "InvalidLoss.__init__" s_InvalidLoss___init__ ps_InvalidLoss___init__ ["value"] :=
  XMk.of1 (N := N_InvalidLoss___init__) (k := 0) D sc_InvalidLoss___init__ rfl fun fa cdv A outer s H E => pss_one (ps_xst (pv 0) (pv 1))
abbrev s_InvalidView___init__ : Stmt := metS 7 0
abbrev ps_InvalidView___init__ : List Str := ["self", "value"]
abbrev N_InvalidView___init__ : List Str := ["self", "value"]
theorem sc_InvalidView___init__ : FnScope N_InvalidView___init__ ps_InvalidView___init__ (defScope s_InvalidView___init__) := ⟨rfl, rfl, rfl, by decide +kernel, rfl, by decide +kernel, by decide +kernel⟩
theorem ok_InvalidView___init__ (T : Txt K mg) (D : XMkAt K mg "InvalidView" "InvalidView.__init__" s_InvalidView___init__ ps_InvalidView___init__ ["value"]) : XMk P w K mg base 1 "InvalidView" "InvalidView.__init__" s_InvalidView___init__ ps_InvalidView___init__ ["value"] :=
  XMk.of1 (N := N_InvalidView___init__) (k := 0) D sc_InvalidView___init__ rfl fun fa cdv A outer s H E => pss_one (ps_xst (pv 0) (pv 1))
abbrev s_InvalidValue___init__ : Stmt := metS 6 0
abbrev ps_InvalidValue___init__ : List Str := ["self", "value"]
abbrev N_InvalidValue___init__ : List Str := ["self", "value"]
theorem sc_InvalidValue___init__ : FnScope N_InvalidValue___init__ ps_InvalidValue___init__ (defScope s_InvalidValue___init__) := ⟨rfl, rfl, rfl, by decide +kernel, rfl, by decide +kernel, by decide +kernel⟩
theorem ok_InvalidValue___init__ (T : Txt K mg) (D : XMkAt K mg "InvalidValue" "InvalidValue.__init__" s_InvalidValue___init__ ps_InvalidValue___init__ ["value"]) : XMk P w K mg base 1 "InvalidValue" "InvalidValue.__init__" s_InvalidValue___init__ ps_InvalidValue___init__ ["value"] :=
  XMk.of1 (N := N_InvalidValue___init__) (k := 0) D sc_InvalidValue___init__ rfl fun fa cdv A outer s H E => pss_one (ps_xst (pv 0) (pv 1))
abbrev s_InvalidKey___init__ : Stmt := metS 5 0
abbrev ps_InvalidKey___init__ : List Str := ["self", "value"]
abbrev N_InvalidKey___init__ : List Str := ["self", "value"]
theorem sc_InvalidKey___init__ : FnScope N_InvalidKey___init__ ps_InvalidKey___init__ (defScope s_InvalidKey___init__) := ⟨rfl, rfl, rfl, by decide +kernel, rfl, by decide +kernel, by decide +kernel⟩
theorem ok_InvalidKey___init__ (T : Txt K mg) (D : XMkAt K mg "InvalidKey" "InvalidKey.__init__" s_InvalidKey___init__ ps_InvalidKey___init__ ["value"]) : XMk P w K mg base 1 "InvalidKey" "InvalidKey.__init__" s_InvalidKey___init__ ps_InvalidKey___init__ ["value"] :=
  XMk.of1 (N := N_InvalidKey___init__) (k := 0) D sc_InvalidKey___init__ rfl fun fa cdv A outer s H E => pss_one (ps_xst (pv 0) (pv 1))
abbrev s__law_pen : Stmt := topS 40
abbrev ps__law_pen : List Str := ["_law_script"]
abbrev N__law_pen : List Str := ["_law_script"]
theorem sc__law_pen : FnScope N__law_pen ps__law_pen (defScope s__law_pen) := ⟨rfl, rfl, rfl, by decide +kernel, rfl, by decide +kernel, by decide +kernel⟩
def b__law_pen : Env → M (Fl × Env) := (sSeq (sRet (mkC (aCons (cal (on1 listM) (aCons (slc (vget 0) none (some (fun _ => M.pure (.int 63)))) (fun _ => M.pure []))) (aCons (fun _ => M.pure (.int 0)) (aCons (fun _ => M.pure (.int 0)) (fun _ => M.pure []))))))
    sNil)
def m__law_pen : List D → M D := runM 1 b__law_pen
theorem ok__law_pen (T : Txt K mg) (D : DefAt K mg "_law_pen" s__law_pen ps__law_pen)  : OkAt P w K mg base 1 "_law_pen" s__law_pen ps__law_pen m__law_pen :=
  OkAt.of (ms := b__law_pen) (N := N__law_pen) (n := 1) (k := 0) rfl D sc__law_pen fun fa cdv A outer s H E hr =>
    (mss_cons (ms_ret (me_new (ma_cons (me_callTy (call_listU rfl) listM_ok rfl T.n_list (by decide +kernel) (ma_cons (me_slice (me_of (pv 0)) mo_none (mo_some me_int)) ma_nil)) (ma_cons me_int (ma_cons me_int ma_nil)))))
    mss_nil)
abbrev s__law_draw : Stmt := topS 41
abbrev ps__law_draw : List Str := ["_law_pen_here", "_law_bound"]
abbrev N__law_draw : List Str := ["_law_pen_here", "_law_bound", "_law_digit", "_law_at", "_law_cell", "_law_great", "_law_mixed"]
theorem sc__law_draw : FnScope N__law_draw ps__law_draw (defScope s__law_draw) := ⟨rfl, rfl, rfl, by decide +kernel, rfl, by decide +kernel, by decide +kernel⟩
def b__law_draw : Env → M (Fl × Env) := (sSeq (sIf (tst (b2 gtM (b2 ixD (vget 0) (fun _ => M.pure (.int 2))) (fun _ => M.pure (.int 0)))) (sSeq (sAsg (b2 modM (cal (on1 intM) (aCons (b2 ixD (vget 0) (fun _ => M.pure (.int 2))) (fun _ => M.pure []))) (vget 1)) (gSet 2))
    (sSeq (sAsg (b2 fdivM (cal (on1 intM) (aCons (b2 ixD (vget 0) (fun _ => M.pure (.int 2))) (fun _ => M.pure []))) (vget 1)) (gPutD (vget 0) (fun _ => M.pure (.int 2))))
    (sSeq (sRet (vget 2))
    sNil))) sNil)
    (sSeq (sAsg (cal (on1 intM) (aCons (b2 ixD (vget 0) (fun _ => M.pure (.int 1))) (fun _ => M.pure []))) (gSet 3))
    (sSeq (sAsg (b2 addM (vget 3) (fun _ => M.pure (.int 1))) (gPutD (vget 0) (fun _ => M.pure (.int 1))))
    (sSeq (sAsg (b2 addM (b2 mulM (fun _ => M.pure (.int 91193)) (vget 3)) (fun _ => M.pure (.int 377))) (gSet 4))
    (sSeq (sIf (tst (b2 neM (b2 ixD (vget 0) (fun _ => M.pure (.int 0))) (mkL (fun _ => M.pure [])))) (sSeq (sAsg (cal (on1 intM) (aCons (b2 ixD (b2 ixD (vget 0) (fun _ => M.pure (.int 0))) (b2 modM (cal (on1 intM) (aCons (vget 3) (fun _ => M.pure []))) (cal (on1 lenD) (aCons (b2 ixD (vget 0) (fun _ => M.pure (.int 0))) (fun _ => M.pure []))))) (fun _ => M.pure []))) (gSet 4))
    sNil) sNil)
    (sSeq (sIf (andT (tst (b2 ltM (vget 3) (cal (on1 lenD) (aCons (b2 ixD (vget 0) (fun _ => M.pure (.int 0))) (fun _ => M.pure []))))) (tst (b2 geM (cal (on1 absM) (aCons (vget 4) (fun _ => M.pure []))) (b2 powM (fun _ => M.pure (.int 10)) (fun _ => M.pure (.int 18)))))) (sSeq (sAsg (b2 addM (b2 mulM (fun _ => M.pure (.int 2)) (b2 subM (cal (on1 absM) (aCons (vget 4) (fun _ => M.pure []))) (b2 powM (fun _ => M.pure (.int 10)) (fun _ => M.pure (.int 18))))) (cal (on1 intM) (aCons (b2 ltM (vget 4) (fun _ => M.pure (.int 0))) (fun _ => M.pure [])))) (gSet 5))
    (sSeq (sAsg (b2 fdivM (vget 5) (vget 1)) (gPutD (vget 0) (fun _ => M.pure (.int 2))))
    (sSeq (sRet (b2 modM (cal (on1 intM) (aCons (vget 5) (fun _ => M.pure []))) (vget 1)))
    sNil))) sNil)
    (sSeq (sAsg (b2 modM (cal (on1 intM) (aCons (b2 powM (b2 addM (b2 addM (b2 modM (cal (on1 intM) (aCons (vget 4) (fun _ => M.pure []))) (fun _ => M.pure (.int 2147483579))) (b2 mulM (fun _ => M.pure (.int 51407)) (vget 3))) (fun _ => M.pure (.int 61))) (fun _ => M.pure (.int 5))) (fun _ => M.pure []))) (fun _ => M.pure (.int 2147483647))) (gSet 6))
    (sSeq (sAsg (b2 modM (cal (on1 intM) (aCons (b2 powM (b2 addM (b2 addM (b2 mulM (vget 6) (b2 addM (b2 mulM (fun _ => M.pure (.int 2)) (vget 3)) (fun _ => M.pure (.int 19)))) (b2 mulM (b2 mulM (fun _ => M.pure (.int 70223)) (vget 3)) (vget 3))) (fun _ => M.pure (.int 7))) (fun _ => M.pure (.int 3))) (fun _ => M.pure []))) (fun _ => M.pure (.int 2147483629))) (gSet 6))
    (sSeq (sRet (b2 modM (cal (on1 intM) (aCons (b2 fdivM (vget 6) (fun _ => M.pure (.int 32))) (fun _ => M.pure []))) (vget 1)))
    sNil)))))))))
def m__law_draw : List D → M D := runM 7 b__law_draw
theorem ok__law_draw (T : Txt K mg) (D : DefAt K mg "_law_draw" s__law_draw ps__law_draw)  : OkAt P w K mg base 1 "_law_draw" s__law_draw ps__law_draw m__law_draw :=
  OkAt.of (ms := b__law_draw) (N := N__law_draw) (n := 7) (k := 0) rfl D sc__law_draw fun fa cdv A outer s H E hr =>
    (mss_cons (ms_if (mt_cmp op_gt gtM_ok (me_itemD (hu_of hr) (me_of (pv 0)) me_int (fun _ _ => rfl)) me_int (nomark _)) (mss_cons (ms_set (i := 2) sc__law_draw.nd rfl (Or.inl rfl) (me_mod (me_callTy call_int1 intM_ok rfl T.n_int (by decide +kernel) (ma_cons (me_itemD (hu_of hr) (me_of (pv 0)) me_int (fun _ _ => rfl)) ma_nil)) (me_of (pv 1))))
    (mss_cons (ms_asg (me_fdiv (me_callTy call_int1 intM_ok rfl T.n_int (by decide +kernel) (ma_cons (me_itemD (hu_of hr) (me_of (pv 0)) me_int (fun _ _ => rfl)) ma_nil)) (me_of (pv 1))) (mg_subD (hu_of hr) (me_of (pv 0)) me_int))
    (mss_cons (ms_ret (me_of (pv 2)))
    mss_nil))) mss_nil)
    (mss_cons (ms_set (i := 3) sc__law_draw.nd rfl (Or.inl rfl) (me_callTy call_int1 intM_ok rfl T.n_int (by decide +kernel) (ma_cons (me_itemD (hu_of hr) (me_of (pv 0)) me_int (fun _ _ => rfl)) ma_nil)))
    (mss_cons (ms_asg (me_add (me_of (pv 3)) me_int) (mg_subD (hu_of hr) (me_of (pv 0)) me_int))
    (mss_cons (ms_set (i := 4) sc__law_draw.nd rfl (Or.inl rfl) (me_add (me_mul me_int (me_of (pv 3))) me_int))
    (mss_cons (ms_if (mt_cmp (op_neU hr.units) neM_ok (me_itemD (hu_of hr) (me_of (pv 0)) me_int (fun _ _ => rfl)) (me_lst ma_nil) (nomark _)) (mss_cons (ms_set (i := 4) sc__law_draw.nd rfl (Or.inl rfl) (me_callTy call_int1 intM_ok rfl T.n_int (by decide +kernel) (ma_cons (me_itemD (hu_of hr) (me_itemD (hu_of hr) (me_of (pv 0)) me_int (fun _ _ => rfl)) (me_mod (me_callTy call_int1 intM_ok rfl T.n_int (by decide +kernel) (ma_cons (me_of (pv 3)) ma_nil)) (me_callB call_lenDU lenD_ok rfl T.n_len (by decide +kernel) (ma_cons (me_itemD (hu_of hr) (me_of (pv 0)) me_int (fun _ _ => rfl)) ma_nil))) (fun _ _ => rfl)) ma_nil)))
    mss_nil) mss_nil)
    (mss_cons (ms_if (PW.pt (mw_and (mt_cmp op_lt ltM_ok (me_of (pv 3)) (me_callB call_lenDU lenD_ok rfl T.n_len (by decide +kernel) (ma_cons (me_itemD (hu_of hr) (me_of (pv 0)) me_int (fun _ _ => rfl)) ma_nil)) (nomark _)) (mw_and1 (mt_cmp op_ge geM_ok (me_callB call_abs absM_ok rfl T.n_abs (by decide +kernel) (ma_cons (me_of (pv 4)) ma_nil)) (me_pow me_int me_int) (nomark _))))) (mss_cons (ms_set (i := 5) sc__law_draw.nd rfl (Or.inl rfl) (me_add (me_mul me_int (me_sub (me_callB call_abs absM_ok rfl T.n_abs (by decide +kernel) (ma_cons (me_of (pv 4)) ma_nil)) (me_pow me_int me_int))) (me_callTy call_int1 intM_ok rfl T.n_int (by decide +kernel) (ma_cons (me_cmp op_lt ltM_ok (me_of (pv 4)) me_int (nomark _)) ma_nil))))
    (mss_cons (ms_asg (me_fdiv (me_of (pv 5)) (me_of (pv 1))) (mg_subD (hu_of hr) (me_of (pv 0)) me_int))
    (mss_cons (ms_ret (me_mod (me_callTy call_int1 intM_ok rfl T.n_int (by decide +kernel) (ma_cons (me_of (pv 5)) ma_nil)) (me_of (pv 1))))
    mss_nil))) mss_nil)
    (mss_cons (ms_set (i := 6) sc__law_draw.nd rfl (Or.inl rfl) (me_mod (me_callTy call_int1 intM_ok rfl T.n_int (by decide +kernel) (ma_cons (me_pow (me_add (me_add (me_mod (me_callTy call_int1 intM_ok rfl T.n_int (by decide +kernel) (ma_cons (me_of (pv 4)) ma_nil)) me_int) (me_mul me_int (me_of (pv 3)))) me_int) me_int) ma_nil)) me_int))
    (mss_cons (ms_set (i := 6) sc__law_draw.nd rfl (Or.inl rfl) (me_mod (me_callTy call_int1 intM_ok rfl T.n_int (by decide +kernel) (ma_cons (me_pow (me_add (me_add (me_mul (me_of (pv 6)) (me_add (me_mul me_int (me_of (pv 3))) me_int)) (me_mul (me_mul me_int (me_of (pv 3))) (me_of (pv 3)))) me_int) me_int) ma_nil)) me_int))
    (mss_cons (ms_ret (me_mod (me_callTy call_int1 intM_ok rfl T.n_int (by decide +kernel) (ma_cons (me_fdiv (me_of (pv 6)) me_int) ma_nil)) (me_of (pv 1))))
    mss_nil)))))))))
abbrev s__law_pick : Stmt := topS 42
abbrev ps__law_pick : List Str := ["_law_pen_here", "_law_some"]
abbrev N__law_pick : List Str := ["_law_pen_here", "_law_some"]
theorem sc__law_pick : FnScope N__law_pick ps__law_pick (defScope s__law_pick) := ⟨rfl, rfl, rfl, by decide +kernel, rfl, by decide +kernel, by decide +kernel⟩
def b__law_pick : Env → M (Fl × Env) := (sSeq (sRet (b2 ixD (vget 1) (calF 2 m__law_draw (aCons (vget 0) (aCons (cal (on1 lenD) (aCons (vget 1) (fun _ => M.pure []))) (fun _ => M.pure []))))))
    sNil)
def m__law_pick : List D → M D := runM 2 b__law_pick
theorem ok__law_pick (T : Txt K mg) (D : DefAt K mg "_law_pick" s__law_pick ps__law_pick) (O__law_draw : OkAt P w K mg base 1 "_law_draw" s__law_draw ps__law_draw m__law_draw) : OkAt P w K mg base 2 "_law_pick" s__law_pick ps__law_pick m__law_pick :=
  OkAt.of (ms := b__law_pick) (N := N__law_pick) (n := 2) (k := 1) rfl D sc__law_pick fun fa cdv A outer s H E hr =>
    (mss_cons (ms_ret (me_itemD (hu_of hr) (me_of (pv 1)) (me_callO O__law_draw (hr.mono (by decide)) rfl rfl (ma_cons (me_of (pv 0)) (ma_cons (me_callB call_lenDU lenD_ok rfl T.n_len (by decide +kernel) (ma_cons (me_of (pv 1)) ma_nil)) ma_nil))) (fun _ _ => rfl)))
    mss_nil)
abbrev s__law_odd : Stmt := topS 43
abbrev ps__law_odd : List Str := ["_law_pen_here"]
abbrev N__law_odd : List Str := ["_law_pen_here", "_law_some"]
theorem sc__law_odd : FnScope N__law_odd ps__law_odd (defScope s__law_odd) := ⟨rfl, rfl, rfl, by decide +kernel, rfl, by decide +kernel, by decide +kernel⟩
def b__law_odd : Env → M (Fl × Env) := (sSeq (sAsg (mkL (aCons (fun _ => M.pure .non) (aCons (fun _ => M.pure (.bl true)) (aCons (fun _ => M.pure (.bl false)) (aCons (fun _ => M.pure (.int 0)) (aCons (fun _ => M.pure (.int 1)) (aCons (b1 negM (fun _ => M.pure (.int 1))) (aCons (fun _ => M.pure (.int 7)) (aCons (fun _ => M.pure (.int 8)) (aCons (fun _ => M.pure (.int 999999)) (aCons (fun _ => M.pure (.int 1000000)) (aCons (b2 powM (fun _ => M.pure (.int 10)) (fun _ => M.pure (.int 59))) (aCons (b2 subM (fun _ => M.pure (.int 0)) (b2 powM (fun _ => M.pure (.int 10)) (fun _ => M.pure (.int 59)))) (aCons (fun _ => M.pure (.str "")) (aCons (fun _ => M.pure (.str "a")) (aCons (fun _ => M.pure (.str "abcdefgh")) (fun _ => M.pure []))))))))))))))))) (gSet 1))
    (sSeq (sAsg (b2 addM (vget 1) (mkL (aCons (fun _ => M.pure (.str "abcdefghi")) (aCons (fun _ => M.pure (.str "A")) (aCons (fun _ => M.pure (.str "a1")) (aCons (fun _ => M.pure (.str "1")) (aCons (fun _ => M.pure (.str "a b")) (aCons (fun _ => M.pure (.str "b\n")) (aCons (fun _ => M.pure (.str "-")) (aCons (mkT (fun _ => M.pure [])) (aCons (mkT (aCons (fun _ => M.pure (.int 0)) (aCons (fun _ => M.pure (.int 0)) (fun _ => M.pure [])))) (aCons (mkT (aCons (fun _ => M.pure (.int 7)) (aCons (fun _ => M.pure (.int 7)) (fun _ => M.pure [])))) (aCons (mkT (aCons (fun _ => M.pure (.int 0)) (aCons (fun _ => M.pure (.int 8)) (fun _ => M.pure [])))) (aCons (mkT (aCons (b1 negM (fun _ => M.pure (.int 1))) (aCons (fun _ => M.pure (.int 0)) (fun _ => M.pure [])))) (aCons (mkL (aCons (fun _ => M.pure (.int 0)) (aCons (fun _ => M.pure (.int 0)) (fun _ => M.pure [])))) (fun _ => M.pure [])))))))))))))))) (gSet 1))
    (sSeq (sAsg (b2 addM (vget 1) (mkL (aCons (mkT (aCons (fun _ => M.pure (.bl true)) (aCons (fun _ => M.pure (.int 0)) (fun _ => M.pure [])))) (aCons (mkT (aCons (fun _ => M.pure (.int 0)) (aCons (fun _ => M.pure (.int 0)) (aCons (fun _ => M.pure (.int 0)) (fun _ => M.pure []))))) (aCons (mkL (fun _ => M.pure [])) (aCons (fun _ => M.pure (.dct [])) (aCons (mkT (aCons (fun _ => M.pure (.str "0")) (aCons (fun _ => M.pure (.int 0)) (fun _ => M.pure [])))) (aCons (mkT (aCons (fun _ => M.pure (.int 0)) (fun _ => M.pure []))) (aCons (mkL (aCons (fun _ => M.pure .non) (fun _ => M.pure []))) (aCons (fun _ => M.pure (.dct [(.str "a", .int 1)])) (aCons (mkT (aCons (fun _ => M.pure (.str "fall")) (fun _ => M.pure []))) (aCons (fun _ => M.pure (.str "fall")) (aCons (mkL (aCons (mkT (aCons (fun _ => M.pure (.str "fall")) (fun _ => M.pure []))) (fun _ => M.pure []))) (fun _ => M.pure [])))))))))))))) (gSet 1))
    (sSeq (sRet (calF 2 m__law_pick (aCons (vget 0) (aCons (b2 addM (vget 1) (mkL (aCons (mkT (aCons (fun _ => M.pure (.str "sweep")) (aCons (fun _ => M.pure .non) (fun _ => M.pure [])))) (fun _ => M.pure [])))) (fun _ => M.pure [])))))
    sNil))))
def m__law_odd : List D → M D := runM 2 b__law_odd
theorem ok__law_odd (T : Txt K mg) (D : DefAt K mg "_law_odd" s__law_odd ps__law_odd) (O__law_pick : OkAt P w K mg base 2 "_law_pick" s__law_pick ps__law_pick m__law_pick) : OkAt P w K mg base 3 "_law_odd" s__law_odd ps__law_odd m__law_odd :=
  OkAt.of (ms := b__law_odd) (N := N__law_odd) (n := 2) (k := 2) rfl D sc__law_odd fun fa cdv A outer s H E hr =>
    (mss_cons (ms_set (i := 1) sc__law_odd.nd rfl (Or.inl rfl) (me_lst (ma_cons me_non (ma_cons me_bl (ma_cons me_bl (ma_cons me_int (ma_cons me_int (ma_cons (me_neg me_int) (ma_cons me_int (ma_cons me_int (ma_cons me_int (ma_cons me_int (ma_cons (me_pow me_int me_int) (ma_cons (me_sub me_int (me_pow me_int me_int)) (ma_cons me_str (ma_cons me_str (ma_cons me_str ma_nil)))))))))))))))))
    (mss_cons (ms_set (i := 1) sc__law_odd.nd rfl (Or.inl rfl) (me_add (me_of (pv 1)) (me_lst (ma_cons me_str (ma_cons me_str (ma_cons me_str (ma_cons me_str (ma_cons me_str (ma_cons me_str (ma_cons me_str (ma_cons (me_tup ma_nil) (ma_cons (me_tup (ma_cons me_int (ma_cons me_int ma_nil))) (ma_cons (me_tup (ma_cons me_int (ma_cons me_int ma_nil))) (ma_cons (me_tup (ma_cons me_int (ma_cons me_int ma_nil))) (ma_cons (me_tup (ma_cons (me_neg me_int) (ma_cons me_int ma_nil))) (ma_cons (me_lst (ma_cons me_int (ma_cons me_int ma_nil))) ma_nil))))))))))))))))
    (mss_cons (ms_set (i := 1) sc__law_odd.nd rfl (Or.inl rfl) (me_add (me_of (pv 1)) (me_lst (ma_cons (me_tup (ma_cons me_bl (ma_cons me_int ma_nil))) (ma_cons (me_tup (ma_cons me_int (ma_cons me_int (ma_cons me_int ma_nil)))) (ma_cons (me_lst ma_nil) (ma_cons me_dict0 (ma_cons (me_tup (ma_cons me_str (ma_cons me_int ma_nil))) (ma_cons (me_tup (ma_cons me_int ma_nil)) (ma_cons (me_lst (ma_cons me_non ma_nil)) (ma_cons me_dict1 (ma_cons (me_tup (ma_cons me_str ma_nil)) (ma_cons me_str (ma_cons (me_lst (ma_cons (me_tup (ma_cons me_str ma_nil)) ma_nil)) ma_nil))))))))))))))
    (mss_cons (ms_ret (me_callO O__law_pick (hr.mono (by decide)) rfl rfl (ma_cons (me_of (pv 0)) (ma_cons (me_add (me_of (pv 1)) (me_lst (ma_cons (me_tup (ma_cons me_str (ma_cons me_non ma_nil))) ma_nil))) ma_nil))))
    mss_nil))))
abbrev s__law_made : Stmt := topS 44
abbrev ps__law_made : List Str := ["_law_one", "_law_two"]
abbrev N__law_made : List Str := ["_law_one", "_law_two", "_law_found"]
theorem sc__law_made : FnScope N__law_made ps__law_made (defScope s__law_made) := ⟨rfl, rfl, rfl, by decide +kernel, rfl, by decide +kernel, by decide +kernel⟩
def b__law_made : Env → M (Fl × Env) := (sSeq (sAsg (mkL (aCons (mkX "InvalidKey" ["value"] (aCons (vget 0) (fun _ => M.pure []))) (aCons (mkX "InvalidValue" ["value"] (aCons (vget 0) (fun _ => M.pure []))) (aCons (mkX "InvalidView" ["value"] (aCons (vget 0) (fun _ => M.pure []))) (aCons (mkX "InvalidLoss" ["value"] (aCons (vget 0) (fun _ => M.pure []))) (fun _ => M.pure [])))))) (gSet 2))
    (sSeq (sAsg (b2 addM (vget 2) (mkL (aCons (mkX "InvalidPages" ["value"] (aCons (vget 0) (fun _ => M.pure []))) (aCons (mkX "InvalidRow" ["index"] (aCons (vget 0) (fun _ => M.pure []))) (aCons (mkX "InvalidText" ["line", "word"] (aCons (vget 0) (aCons (vget 1) (fun _ => M.pure [])))) (aCons (mkX "Barred" ["bar"] (aCons (vget 0) (fun _ => M.pure []))) (aCons (mkX "Unplayed" ["index"] (aCons (vget 0) (fun _ => M.pure []))) (fun _ => M.pure [])))))))) (gSet 2))
    (sSeq (sAsg (b2 addM (vget 2) (mkL (aCons (mkX "TooFew" ["least"] (aCons (vget 0) (fun _ => M.pure []))) (aCons (fun _ => M.pure (.exc "UnknownCommand" [])) (aCons (mkX "NameTaken" ["name"] (aCons (vget 0) (fun _ => M.pure []))) (aCons (fun _ => M.pure (.exc "Ended" [])) (aCons (fun _ => M.pure (.exc "Cancelled" [])) (aCons (fun _ => M.pure (.exc "NotOuter" [])) (fun _ => M.pure []))))))))) (gSet 2))
    (sSeq (sAsg (b2 addM (vget 2) (mkL (aCons (mkX "Strayed" ["index"] (aCons (vget 0) (fun _ => M.pure []))) (aCons (mkX "Busy" ["number"] (aCons (vget 0) (fun _ => M.pure []))) (aCons (mkX "Blocked" ["number"] (aCons (vget 0) (fun _ => M.pure []))) (aCons (mkX "Taken" ["key"] (aCons (vget 0) (fun _ => M.pure []))) (aCons (mkX "Unsettled" ["number"] (aCons (vget 0) (fun _ => M.pure []))) (aCons (mkX "NoKey" ["key"] (aCons (vget 0) (fun _ => M.pure []))) (fun _ => M.pure []))))))))) (gSet 2))
    (sSeq (sAsg (b2 addM (vget 2) (mkL (aCons (mkX "NoName" ["name"] (aCons (vget 0) (fun _ => M.pure []))) (aCons (mkX "NoPage" ["page"] (aCons (vget 0) (fun _ => M.pure []))) (aCons (mkX "NoRow" ["index"] (aCons (vget 0) (fun _ => M.pure []))) (aCons (mkX "NoSlot" ["slot"] (aCons (vget 0) (fun _ => M.pure []))) (aCons (mkX "NotDead" ["slot"] (aCons (vget 0) (fun _ => M.pure []))) (aCons (mkX "NotPrepared" ["number"] (aCons (vget 0) (fun _ => M.pure []))) (fun _ => M.pure []))))))))) (gSet 2))
    (sSeq (sAsg (b2 addM (vget 2) (mkL (aCons (mkX "NotSpan" ["row"] (aCons (vget 0) (fun _ => M.pure []))) (aCons (mkX "NotCleaning" ["row"] (aCons (vget 0) (fun _ => M.pure []))) (aCons (mkX "NoNumber" ["number"] (aCons (vget 0) (fun _ => M.pure []))) (aCons (mkX "NoTransaction" ["number"] (aCons (vget 0) (fun _ => M.pure []))) (aCons (fun _ => M.pure (.exc "Full" [])) (aCons (mkX "TooDeep" ["limit"] (aCons (vget 0) (fun _ => M.pure []))) (fun _ => M.pure []))))))))) (gSet 2))
    (sSeq (sAsg (b2 addM (vget 2) (mkL (aCons (mkX "TooLong" ["limit"] (aCons (vget 0) (fun _ => M.pure []))) (fun _ => M.pure [])))) (gSet 2))
    (sSeq (sRet (vget 2))
    sNil))))))))
def m__law_made : List D → M D := runM 3 b__law_made
theorem ok__law_made (T : Txt K mg) (D : DefAt K mg "_law_made" s__law_made ps__law_made) (O_TooLong___init__ : XMk P w K mg base 1 "TooLong" "TooLong.__init__" s_TooLong___init__ ps_TooLong___init__ ["limit"]) (O_TooDeep___init__ : XMk P w K mg base 1 "TooDeep" "TooDeep.__init__" s_TooDeep___init__ ps_TooDeep___init__ ["limit"]) (O_NoTransaction___init__ : XMk P w K mg base 1 "NoTransaction" "NoTransaction.__init__" s_NoTransaction___init__ ps_NoTransaction___init__ ["number"]) (O_NoNumber___init__ : XMk P w K mg base 1 "NoNumber" "NoNumber.__init__" s_NoNumber___init__ ps_NoNumber___init__ ["number"]) (O_NotCleaning___init__ : XMk P w K mg base 1 "NotCleaning" "NotCleaning.__init__" s_NotCleaning___init__ ps_NotCleaning___init__ ["row"]) (O_NotSpan___init__ : XMk P w K mg base 1 "NotSpan" "NotSpan.__init__" s_NotSpan___init__ ps_NotSpan___init__ ["row"]) (O_NotPrepared___init__ : XMk P w K mg base 1 "NotPrepared" "NotPrepared.__init__" s_NotPrepared___init__ ps_NotPrepared___init__ ["number"]) (O_NotDead___init__ : XMk P w K mg base 1 "NotDead" "NotDead.__init__" s_NotDead___init__ ps_NotDead___init__ ["slot"]) (O_NoSlot___init__ : XMk P w K mg base 1 "NoSlot" "NoSlot.__init__" s_NoSlot___init__ ps_NoSlot___init__ ["slot"]) (O_NoRow___init__ : XMk P w K mg base 1 "NoRow" "NoRow.__init__" s_NoRow___init__ ps_NoRow___init__ ["index"]) (O_NoPage___init__ : XMk P w K mg base 1 "NoPage" "NoPage.__init__" s_NoPage___init__ ps_NoPage___init__ ["page"]) (O_NoName___init__ : XMk P w K mg base 1 "NoName" "NoName.__init__" s_NoName___init__ ps_NoName___init__ ["name"]) (O_NoKey___init__ : XMk P w K mg base 1 "NoKey" "NoKey.__init__" s_NoKey___init__ ps_NoKey___init__ ["key"]) (O_Unsettled___init__ : XMk P w K mg base 1 "Unsettled" "Unsettled.__init__" s_Unsettled___init__ ps_Unsettled___init__ ["number"]) (O_Taken___init__ : XMk P w K mg base 1 "Taken" "Taken.__init__" s_Taken___init__ ps_Taken___init__ ["key"]) (O_Blocked___init__ : XMk P w K mg base 1 "Blocked" "Blocked.__init__" s_Blocked___init__ ps_Blocked___init__ ["number"]) (O_Busy___init__ : XMk P w K mg base 1 "Busy" "Busy.__init__" s_Busy___init__ ps_Busy___init__ ["number"]) (O_Strayed___init__ : XMk P w K mg base 1 "Strayed" "Strayed.__init__" s_Strayed___init__ ps_Strayed___init__ ["index"]) (O_NameTaken___init__ : XMk P w K mg base 1 "NameTaken" "NameTaken.__init__" s_NameTaken___init__ ps_NameTaken___init__ ["name"]) (O_TooFew___init__ : XMk P w K mg base 1 "TooFew" "TooFew.__init__" s_TooFew___init__ ps_TooFew___init__ ["least"]) (O_Unplayed___init__ : XMk P w K mg base 1 "Unplayed" "Unplayed.__init__" s_Unplayed___init__ ps_Unplayed___init__ ["index"]) (O_Barred___init__ : XMk P w K mg base 1 "Barred" "Barred.__init__" s_Barred___init__ ps_Barred___init__ ["bar"]) (O_InvalidText___init__ : XMk P w K mg base 1 "InvalidText" "InvalidText.__init__" s_InvalidText___init__ ps_InvalidText___init__ ["line", "word"]) (O_InvalidRow___init__ : XMk P w K mg base 1 "InvalidRow" "InvalidRow.__init__" s_InvalidRow___init__ ps_InvalidRow___init__ ["index"]) (O_InvalidPages___init__ : XMk P w K mg base 1 "InvalidPages" "InvalidPages.__init__" s_InvalidPages___init__ ps_InvalidPages___init__ ["value"]) (O_InvalidLoss___init__ : XMk P w K mg base 1 "InvalidLoss" "InvalidLoss.__init__" s_InvalidLoss___init__ ps_InvalidLoss___init__ ["value"]) (O_InvalidView___init__ : XMk P w K mg base 1 "InvalidView" "InvalidView.__init__" s_InvalidView___init__ ps_InvalidView___init__ ["value"]) (O_InvalidValue___init__ : XMk P w K mg base 1 "InvalidValue" "InvalidValue.__init__" s_InvalidValue___init__ ps_InvalidValue___init__ ["value"]) (O_InvalidKey___init__ : XMk P w K mg base 1 "InvalidKey" "InvalidKey.__init__" s_InvalidKey___init__ ps_InvalidKey___init__ ["value"]) : OkAt P w K mg base 3 "_law_made" s__law_made ps__law_made m__law_made :=
  OkAt.of (ms := b__law_made) (N := N__law_made) (n := 3) (k := 2) rfl D sc__law_made fun fa cdv A outer s H E hr =>
    (mss_cons (ms_set (i := 2) sc__law_made.nd rfl (Or.inl rfl) (me_lst (ma_cons (me_exc O_InvalidKey___init__ (hr.mono (by decide)) rfl (by decide) (ma_cons (me_of (pv 0)) ma_nil)) (ma_cons (me_exc O_InvalidValue___init__ (hr.mono (by decide)) rfl (by decide) (ma_cons (me_of (pv 0)) ma_nil)) (ma_cons (me_exc O_InvalidView___init__ (hr.mono (by decide)) rfl (by decide) (ma_cons (me_of (pv 0)) ma_nil)) (ma_cons (me_exc O_InvalidLoss___init__ (hr.mono (by decide)) rfl (by decide) (ma_cons (me_of (pv 0)) ma_nil)) ma_nil))))))
    (mss_cons (ms_set (i := 2) sc__law_made.nd rfl (Or.inl rfl) (me_add (me_of (pv 2)) (me_lst (ma_cons (me_exc O_InvalidPages___init__ (hr.mono (by decide)) rfl (by decide) (ma_cons (me_of (pv 0)) ma_nil)) (ma_cons (me_exc O_InvalidRow___init__ (hr.mono (by decide)) rfl (by decide) (ma_cons (me_of (pv 0)) ma_nil)) (ma_cons (me_exc O_InvalidText___init__ (hr.mono (by decide)) rfl (by decide) (ma_cons (me_of (pv 0)) (ma_cons (me_of (pv 1)) ma_nil))) (ma_cons (me_exc O_Barred___init__ (hr.mono (by decide)) rfl (by decide) (ma_cons (me_of (pv 0)) ma_nil)) (ma_cons (me_exc O_Unplayed___init__ (hr.mono (by decide)) rfl (by decide) (ma_cons (me_of (pv 0)) ma_nil)) ma_nil))))))))
    (mss_cons (ms_set (i := 2) sc__law_made.nd rfl (Or.inl rfl) (me_add (me_of (pv 2)) (me_lst (ma_cons (me_exc O_TooFew___init__ (hr.mono (by decide)) rfl (by decide) (ma_cons (me_of (pv 0)) ma_nil)) (ma_cons (me_exc0 T.x0_UnknownCommand rfl) (ma_cons (me_exc O_NameTaken___init__ (hr.mono (by decide)) rfl (by decide) (ma_cons (me_of (pv 0)) ma_nil)) (ma_cons (me_exc0 T.x0_Ended rfl) (ma_cons (me_exc0 T.x0_Cancelled rfl) (ma_cons (me_exc0 T.x0_NotOuter rfl) ma_nil)))))))))
    (mss_cons (ms_set (i := 2) sc__law_made.nd rfl (Or.inl rfl) (me_add (me_of (pv 2)) (me_lst (ma_cons (me_exc O_Strayed___init__ (hr.mono (by decide)) rfl (by decide) (ma_cons (me_of (pv 0)) ma_nil)) (ma_cons (me_exc O_Busy___init__ (hr.mono (by decide)) rfl (by decide) (ma_cons (me_of (pv 0)) ma_nil)) (ma_cons (me_exc O_Blocked___init__ (hr.mono (by decide)) rfl (by decide) (ma_cons (me_of (pv 0)) ma_nil)) (ma_cons (me_exc O_Taken___init__ (hr.mono (by decide)) rfl (by decide) (ma_cons (me_of (pv 0)) ma_nil)) (ma_cons (me_exc O_Unsettled___init__ (hr.mono (by decide)) rfl (by decide) (ma_cons (me_of (pv 0)) ma_nil)) (ma_cons (me_exc O_NoKey___init__ (hr.mono (by decide)) rfl (by decide) (ma_cons (me_of (pv 0)) ma_nil)) ma_nil)))))))))
    (mss_cons (ms_set (i := 2) sc__law_made.nd rfl (Or.inl rfl) (me_add (me_of (pv 2)) (me_lst (ma_cons (me_exc O_NoName___init__ (hr.mono (by decide)) rfl (by decide) (ma_cons (me_of (pv 0)) ma_nil)) (ma_cons (me_exc O_NoPage___init__ (hr.mono (by decide)) rfl (by decide) (ma_cons (me_of (pv 0)) ma_nil)) (ma_cons (me_exc O_NoRow___init__ (hr.mono (by decide)) rfl (by decide) (ma_cons (me_of (pv 0)) ma_nil)) (ma_cons (me_exc O_NoSlot___init__ (hr.mono (by decide)) rfl (by decide) (ma_cons (me_of (pv 0)) ma_nil)) (ma_cons (me_exc O_NotDead___init__ (hr.mono (by decide)) rfl (by decide) (ma_cons (me_of (pv 0)) ma_nil)) (ma_cons (me_exc O_NotPrepared___init__ (hr.mono (by decide)) rfl (by decide) (ma_cons (me_of (pv 0)) ma_nil)) ma_nil)))))))))
    (mss_cons (ms_set (i := 2) sc__law_made.nd rfl (Or.inl rfl) (me_add (me_of (pv 2)) (me_lst (ma_cons (me_exc O_NotSpan___init__ (hr.mono (by decide)) rfl (by decide) (ma_cons (me_of (pv 0)) ma_nil)) (ma_cons (me_exc O_NotCleaning___init__ (hr.mono (by decide)) rfl (by decide) (ma_cons (me_of (pv 0)) ma_nil)) (ma_cons (me_exc O_NoNumber___init__ (hr.mono (by decide)) rfl (by decide) (ma_cons (me_of (pv 0)) ma_nil)) (ma_cons (me_exc O_NoTransaction___init__ (hr.mono (by decide)) rfl (by decide) (ma_cons (me_of (pv 0)) ma_nil)) (ma_cons (me_exc0 T.x0_Full rfl) (ma_cons (me_exc O_TooDeep___init__ (hr.mono (by decide)) rfl (by decide) (ma_cons (me_of (pv 0)) ma_nil)) ma_nil)))))))))
    (mss_cons (ms_set (i := 2) sc__law_made.nd rfl (Or.inl rfl) (me_add (me_of (pv 2)) (me_lst (ma_cons (me_exc O_TooLong___init__ (hr.mono (by decide)) rfl (by decide) (ma_cons (me_of (pv 0)) ma_nil)) ma_nil))))
    (mss_cons (ms_ret (me_of (pv 2)))
    mss_nil))))))))
abbrev s__law_marks : Stmt := topS 45
abbrev ps__law_marks : List Str := ["_law_error"]
abbrev N__law_marks : List Str := ["_law_error", "_law_found"]
theorem sc__law_marks : FnScope N__law_marks ps__law_marks (defScope s__law_marks) := ⟨rfl, rfl, rfl, by decide +kernel, rfl, by decide +kernel, by decide +kernel⟩
def b__law_marks : Env → M (Fl × Env) := (sSeq (sAsg (mkL (aCons (b1 (isxM xtb 4) (vget 0)) (aCons (b1 (isxM xtb 5) (vget 0)) (fun _ => M.pure [])))) (gSet 1))
    (sSeq (sAsg (b2 addM (vget 1) (mkL (aCons (b1 (isxM xtb 6) (vget 0)) (aCons (b1 (isxM xtb 7) (vget 0)) (fun _ => M.pure []))))) (gSet 1))
    (sSeq (sAsg (b2 addM (vget 1) (mkL (aCons (b1 (isxM xtb 8) (vget 0)) (aCons (b1 (isxM xtb 9) (vget 0)) (fun _ => M.pure []))))) (gSet 1))
    (sSeq (sAsg (b2 addM (vget 1) (mkL (aCons (b1 (isxM xtb 10) (vget 0)) (aCons (b1 (isxM xtb 11) (vget 0)) (aCons (b1 (isxM xtb 12) (vget 0)) (fun _ => M.pure [])))))) (gSet 1))
    (sSeq (sAsg (b2 addM (vget 1) (mkL (aCons (b1 (isxM xtb 13) (vget 0)) (aCons (b1 (isxM xtb 14) (vget 0)) (fun _ => M.pure []))))) (gSet 1))
    (sSeq (sAsg (b2 addM (vget 1) (mkL (aCons (b1 (isxM xtb 15) (vget 0)) (aCons (b1 (isxM xtb 16) (vget 0)) (aCons (b1 (isxM xtb 17) (vget 0)) (fun _ => M.pure [])))))) (gSet 1))
    (sSeq (sAsg (b2 addM (vget 1) (mkL (aCons (b1 (isxM xtb 18) (vget 0)) (aCons (b1 (isxM xtb 19) (vget 0)) (aCons (b1 (isxM xtb 20) (vget 0)) (fun _ => M.pure [])))))) (gSet 1))
    (sSeq (sAsg (b2 addM (vget 1) (mkL (aCons (b1 (isxM xtb 21) (vget 0)) (aCons (b1 (isxM xtb 22) (vget 0)) (aCons (b1 (isxM xtb 23) (vget 0)) (fun _ => M.pure [])))))) (gSet 1))
    (sSeq (sAsg (b2 addM (vget 1) (mkL (aCons (b1 (isxM xtb 24) (vget 0)) (aCons (b1 (isxM xtb 25) (vget 0)) (aCons (b1 (isxM xtb 26) (vget 0)) (fun _ => M.pure [])))))) (gSet 1))
    (sSeq (sAsg (b2 addM (vget 1) (mkL (aCons (b1 (isxM xtb 27) (vget 0)) (aCons (b1 (isxM xtb 28) (vget 0)) (aCons (b1 (isxM xtb 29) (vget 0)) (fun _ => M.pure [])))))) (gSet 1))
    (sSeq (sAsg (b2 addM (vget 1) (mkL (aCons (b1 (isxM xtb 30) (vget 0)) (aCons (b1 (isxM xtb 31) (vget 0)) (fun _ => M.pure []))))) (gSet 1))
    (sSeq (sAsg (b2 addM (vget 1) (mkL (aCons (b1 (isxM xtb 32) (vget 0)) (aCons (b1 (isxM xtb 33) (vget 0)) (fun _ => M.pure []))))) (gSet 1))
    (sSeq (sAsg (b2 addM (vget 1) (mkL (aCons (b1 (isxM xtb 34) (vget 0)) (aCons (b1 (isxM xtb 35) (vget 0)) (aCons (b1 (isxM xtb 36) (vget 0)) (fun _ => M.pure [])))))) (gSet 1))
    (sSeq (sAsg (b2 addM (vget 1) (mkL (aCons (b1 (isxM xtb 37) (vget 0)) (fun _ => M.pure [])))) (gSet 1))
    (sSeq (sRet (vget 1))
    sNil)))))))))))))))
def m__law_marks : List D → M D := runM 2 b__law_marks
theorem ok__law_marks (T : Txt K mg) (D : DefAt K mg "_law_marks" s__law_marks ps__law_marks)  : OkAt P w K mg base 1 "_law_marks" s__law_marks ps__law_marks m__law_marks :=
  OkAt.of (ms := b__law_marks) (N := N__law_marks) (n := 2) (k := 0) rfl D sc__law_marks fun fa cdv A outer s H E hr =>
    (mss_cons (ms_set (i := 1) sc__law_marks.nd rfl (Or.inl rfl) (me_lst (ma_cons (me_isxN (T := "InvalidKey") T.x_is (by decide +kernel) rfl T.n_isinstance (by decide +kernel) T.xg_InvalidKey rfl (me_of (pv 0))) (ma_cons (me_isxN (T := "InvalidValue") T.x_is (by decide +kernel) rfl T.n_isinstance (by decide +kernel) T.xg_InvalidValue rfl (me_of (pv 0))) ma_nil))))
    (mss_cons (ms_set (i := 1) sc__law_marks.nd rfl (Or.inl rfl) (me_add (me_of (pv 1)) (me_lst (ma_cons (me_isxN (T := "InvalidView") T.x_is (by decide +kernel) rfl T.n_isinstance (by decide +kernel) T.xg_InvalidView rfl (me_of (pv 0))) (ma_cons (me_isxN (T := "InvalidLoss") T.x_is (by decide +kernel) rfl T.n_isinstance (by decide +kernel) T.xg_InvalidLoss rfl (me_of (pv 0))) ma_nil)))))
    (mss_cons (ms_set (i := 1) sc__law_marks.nd rfl (Or.inl rfl) (me_add (me_of (pv 1)) (me_lst (ma_cons (me_isxN (T := "InvalidPages") T.x_is (by decide +kernel) rfl T.n_isinstance (by decide +kernel) T.xg_InvalidPages rfl (me_of (pv 0))) (ma_cons (me_isxN (T := "InvalidRow") T.x_is (by decide +kernel) rfl T.n_isinstance (by decide +kernel) T.xg_InvalidRow rfl (me_of (pv 0))) ma_nil)))))
    (mss_cons (ms_set (i := 1) sc__law_marks.nd rfl (Or.inl rfl) (me_add (me_of (pv 1)) (me_lst (ma_cons (me_isxN (T := "InvalidText") T.x_is (by decide +kernel) rfl T.n_isinstance (by decide +kernel) T.xg_InvalidText rfl (me_of (pv 0))) (ma_cons (me_isxN (T := "Barred") T.x_is (by decide +kernel) rfl T.n_isinstance (by decide +kernel) T.xg_Barred rfl (me_of (pv 0))) (ma_cons (me_isxN (T := "Unplayed") T.x_is (by decide +kernel) rfl T.n_isinstance (by decide +kernel) T.xg_Unplayed rfl (me_of (pv 0))) ma_nil))))))
    (mss_cons (ms_set (i := 1) sc__law_marks.nd rfl (Or.inl rfl) (me_add (me_of (pv 1)) (me_lst (ma_cons (me_isxN (T := "TooFew") T.x_is (by decide +kernel) rfl T.n_isinstance (by decide +kernel) T.xg_TooFew rfl (me_of (pv 0))) (ma_cons (me_isxN (T := "UnknownCommand") T.x_is (by decide +kernel) rfl T.n_isinstance (by decide +kernel) T.xg_UnknownCommand rfl (me_of (pv 0))) ma_nil)))))
    (mss_cons (ms_set (i := 1) sc__law_marks.nd rfl (Or.inl rfl) (me_add (me_of (pv 1)) (me_lst (ma_cons (me_isxN (T := "NameTaken") T.x_is (by decide +kernel) rfl T.n_isinstance (by decide +kernel) T.xg_NameTaken rfl (me_of (pv 0))) (ma_cons (me_isxN (T := "Ended") T.x_is (by decide +kernel) rfl T.n_isinstance (by decide +kernel) T.xg_Ended rfl (me_of (pv 0))) (ma_cons (me_isxN (T := "Cancelled") T.x_is (by decide +kernel) rfl T.n_isinstance (by decide +kernel) T.xg_Cancelled rfl (me_of (pv 0))) ma_nil))))))
    (mss_cons (ms_set (i := 1) sc__law_marks.nd rfl (Or.inl rfl) (me_add (me_of (pv 1)) (me_lst (ma_cons (me_isxN (T := "NotOuter") T.x_is (by decide +kernel) rfl T.n_isinstance (by decide +kernel) T.xg_NotOuter rfl (me_of (pv 0))) (ma_cons (me_isxN (T := "Strayed") T.x_is (by decide +kernel) rfl T.n_isinstance (by decide +kernel) T.xg_Strayed rfl (me_of (pv 0))) (ma_cons (me_isxN (T := "Busy") T.x_is (by decide +kernel) rfl T.n_isinstance (by decide +kernel) T.xg_Busy rfl (me_of (pv 0))) ma_nil))))))
    (mss_cons (ms_set (i := 1) sc__law_marks.nd rfl (Or.inl rfl) (me_add (me_of (pv 1)) (me_lst (ma_cons (me_isxN (T := "Blocked") T.x_is (by decide +kernel) rfl T.n_isinstance (by decide +kernel) T.xg_Blocked rfl (me_of (pv 0))) (ma_cons (me_isxN (T := "Taken") T.x_is (by decide +kernel) rfl T.n_isinstance (by decide +kernel) T.xg_Taken rfl (me_of (pv 0))) (ma_cons (me_isxN (T := "Unsettled") T.x_is (by decide +kernel) rfl T.n_isinstance (by decide +kernel) T.xg_Unsettled rfl (me_of (pv 0))) ma_nil))))))
    (mss_cons (ms_set (i := 1) sc__law_marks.nd rfl (Or.inl rfl) (me_add (me_of (pv 1)) (me_lst (ma_cons (me_isxN (T := "NoKey") T.x_is (by decide +kernel) rfl T.n_isinstance (by decide +kernel) T.xg_NoKey rfl (me_of (pv 0))) (ma_cons (me_isxN (T := "NoName") T.x_is (by decide +kernel) rfl T.n_isinstance (by decide +kernel) T.xg_NoName rfl (me_of (pv 0))) (ma_cons (me_isxN (T := "NoPage") T.x_is (by decide +kernel) rfl T.n_isinstance (by decide +kernel) T.xg_NoPage rfl (me_of (pv 0))) ma_nil))))))
    (mss_cons (ms_set (i := 1) sc__law_marks.nd rfl (Or.inl rfl) (me_add (me_of (pv 1)) (me_lst (ma_cons (me_isxN (T := "NoRow") T.x_is (by decide +kernel) rfl T.n_isinstance (by decide +kernel) T.xg_NoRow rfl (me_of (pv 0))) (ma_cons (me_isxN (T := "NoSlot") T.x_is (by decide +kernel) rfl T.n_isinstance (by decide +kernel) T.xg_NoSlot rfl (me_of (pv 0))) (ma_cons (me_isxN (T := "NotDead") T.x_is (by decide +kernel) rfl T.n_isinstance (by decide +kernel) T.xg_NotDead rfl (me_of (pv 0))) ma_nil))))))
    (mss_cons (ms_set (i := 1) sc__law_marks.nd rfl (Or.inl rfl) (me_add (me_of (pv 1)) (me_lst (ma_cons (me_isxN (T := "NotPrepared") T.x_is (by decide +kernel) rfl T.n_isinstance (by decide +kernel) T.xg_NotPrepared rfl (me_of (pv 0))) (ma_cons (me_isxN (T := "NotSpan") T.x_is (by decide +kernel) rfl T.n_isinstance (by decide +kernel) T.xg_NotSpan rfl (me_of (pv 0))) ma_nil)))))
    (mss_cons (ms_set (i := 1) sc__law_marks.nd rfl (Or.inl rfl) (me_add (me_of (pv 1)) (me_lst (ma_cons (me_isxN (T := "NotCleaning") T.x_is (by decide +kernel) rfl T.n_isinstance (by decide +kernel) T.xg_NotCleaning rfl (me_of (pv 0))) (ma_cons (me_isxN (T := "NoNumber") T.x_is (by decide +kernel) rfl T.n_isinstance (by decide +kernel) T.xg_NoNumber rfl (me_of (pv 0))) ma_nil)))))
    (mss_cons (ms_set (i := 1) sc__law_marks.nd rfl (Or.inl rfl) (me_add (me_of (pv 1)) (me_lst (ma_cons (me_isxN (T := "NoTransaction") T.x_is (by decide +kernel) rfl T.n_isinstance (by decide +kernel) T.xg_NoTransaction rfl (me_of (pv 0))) (ma_cons (me_isxN (T := "Full") T.x_is (by decide +kernel) rfl T.n_isinstance (by decide +kernel) T.xg_Full rfl (me_of (pv 0))) (ma_cons (me_isxN (T := "TooDeep") T.x_is (by decide +kernel) rfl T.n_isinstance (by decide +kernel) T.xg_TooDeep rfl (me_of (pv 0))) ma_nil))))))
    (mss_cons (ms_set (i := 1) sc__law_marks.nd rfl (Or.inl rfl) (me_add (me_of (pv 1)) (me_lst (ma_cons (me_isxN (T := "TooLong") T.x_is (by decide +kernel) rfl T.n_isinstance (by decide +kernel) T.xg_TooLong rfl (me_of (pv 0))) ma_nil))))
    (mss_cons (ms_ret (me_of (pv 1)))
    mss_nil)))))))))))))))
abbrev s__law_bases : Stmt := topS 46
abbrev ps__law_bases : List Str := ["_law_error"]
abbrev N__law_bases : List Str := ["_law_error", "_law_found"]
theorem sc__law_bases : FnScope N__law_bases ps__law_bases (defScope s__law_bases) := ⟨rfl, rfl, rfl, by decide +kernel, rfl, by decide +kernel, by decide +kernel⟩
def b__law_bases : Env → M (Fl × Env) := (sSeq (sAsg (mkL (aCons (b1 (isxM xtb 0) (vget 0)) (aCons (b1 (isxM xtb 1) (vget 0)) (aCons (b1 (isxM xtb 2) (vget 0)) (fun _ => M.pure []))))) (gSet 1))
    (sSeq (sAsg (b2 addM (vget 1) (mkL (aCons (b1 (isxM xtb 3) (vget 0)) (aCons (b1 (isxM xtb 100) (vget 0)) (aCons (b1 (isxM xtb 101) (vget 0)) (fun _ => M.pure [])))))) (gSet 1))
    (sSeq (sRet (b2 addM (vget 1) (mkL (aCons (b1 (isxM xtb 102) (vget 0)) (aCons (b1 (isxM xtb 103) (vget 0)) (fun _ => M.pure []))))))
    sNil)))
def m__law_bases : List D → M D := runM 2 b__law_bases
theorem ok__law_bases (T : Txt K mg) (D : DefAt K mg "_law_bases" s__law_bases ps__law_bases)  : OkAt P w K mg base 1 "_law_bases" s__law_bases ps__law_bases m__law_bases :=
  OkAt.of (ms := b__law_bases) (N := N__law_bases) (n := 2) (k := 0) rfl D sc__law_bases fun fa cdv A outer s H E hr =>
    (mss_cons (ms_set (i := 1) sc__law_bases.nd rfl (Or.inl rfl) (me_lst (ma_cons (me_isxN (T := "HoldError") T.x_is (by decide +kernel) rfl T.n_isinstance (by decide +kernel) T.xg_HoldError rfl (me_of (pv 0))) (ma_cons (me_isxN (T := "TurnError") T.x_is (by decide +kernel) rfl T.n_isinstance (by decide +kernel) T.xg_TurnError rfl (me_of (pv 0))) (ma_cons (me_isxN (T := "AbsentError") T.x_is (by decide +kernel) rfl T.n_isinstance (by decide +kernel) T.xg_AbsentError rfl (me_of (pv 0))) ma_nil)))))
    (mss_cons (ms_set (i := 1) sc__law_bases.nd rfl (Or.inl rfl) (me_add (me_of (pv 1)) (me_lst (ma_cons (me_isxN (T := "SizeError") T.x_is (by decide +kernel) rfl T.n_isinstance (by decide +kernel) T.xg_SizeError rfl (me_of (pv 0))) (ma_cons (me_isxT (T := "ValueError") T.x_is (by decide +kernel) rfl T.n_isinstance (by decide +kernel) T.n_ValueError (by decide +kernel) rfl (me_of (pv 0))) (ma_cons (me_isxT (T := "RuntimeError") T.x_is (by decide +kernel) rfl T.n_isinstance (by decide +kernel) T.n_RuntimeError (by decide +kernel) rfl (me_of (pv 0))) ma_nil))))))
    (mss_cons (ms_ret (me_add (me_of (pv 1)) (me_lst (ma_cons (me_isxT (T := "LookupError") T.x_is (by decide +kernel) rfl T.n_isinstance (by decide +kernel) T.n_LookupError (by decide +kernel) rfl (me_of (pv 0))) (ma_cons (me_isxT (T := "OverflowError") T.x_is (by decide +kernel) rfl T.n_isinstance (by decide +kernel) T.n_OverflowError (by decide +kernel) rfl (me_of (pv 0))) ma_nil)))))
    mss_nil)))
abbrev s__law_kept : Stmt := topS 47
abbrev ps__law_kept : List Str := ["_law_one", "_law_two"]
abbrev N__law_kept : List Str := ["_law_one", "_law_two", "_law_told"]
theorem sc__law_kept : FnScope N__law_kept ps__law_kept (defScope s__law_kept) := ⟨rfl, rfl, rfl, by decide +kernel, rfl, by decide +kernel, by decide +kernel⟩
def b__law_kept : Env → M (Fl × Env) := (sSeq (sAsg (mkL (aCons (b1 (xfM ["InvalidKey", "InvalidValue", "InvalidView", "InvalidLoss", "InvalidPages"] "value") (mkX "InvalidKey" ["value"] (aCons (vget 0) (fun _ => M.pure [])))) (aCons (b1 (xfM ["InvalidKey", "InvalidValue", "InvalidView", "InvalidLoss", "InvalidPages"] "value") (mkX "InvalidValue" ["value"] (aCons (vget 0) (fun _ => M.pure [])))) (aCons (b1 (xfM ["InvalidKey", "InvalidValue", "InvalidView", "InvalidLoss", "InvalidPages"] "value") (mkX "InvalidView" ["value"] (aCons (vget 0) (fun _ => M.pure [])))) (aCons (b1 (xfM ["InvalidKey", "InvalidValue", "InvalidView", "InvalidLoss", "InvalidPages"] "value") (mkX "InvalidLoss" ["value"] (aCons (vget 0) (fun _ => M.pure [])))) (fun _ => M.pure [])))))) (gSet 2))
    (sSeq (sAsg (b2 addM (vget 2) (mkL (aCons (b1 (xfM ["InvalidKey", "InvalidValue", "InvalidView", "InvalidLoss", "InvalidPages"] "value") (mkX "InvalidPages" ["value"] (aCons (vget 0) (fun _ => M.pure [])))) (aCons (b1 (xfM ["InvalidRow", "Unplayed", "Strayed", "NoRow"] "index") (mkX "InvalidRow" ["index"] (aCons (vget 0) (fun _ => M.pure [])))) (aCons (b1 (xfM ["InvalidText"] "line") (mkX "InvalidText" ["line", "word"] (aCons (vget 0) (aCons (vget 1) (fun _ => M.pure []))))) (aCons (b1 (xfM ["Barred"] "bar") (mkX "Barred" ["bar"] (aCons (vget 0) (fun _ => M.pure [])))) (fun _ => M.pure []))))))) (gSet 2))
    (sSeq (sAsg (b2 addM (vget 2) (mkL (aCons (b1 (xfM ["InvalidRow", "Unplayed", "Strayed", "NoRow"] "index") (mkX "Unplayed" ["index"] (aCons (vget 0) (fun _ => M.pure [])))) (aCons (b1 (xfM ["TooFew"] "least") (mkX "TooFew" ["least"] (aCons (vget 0) (fun _ => M.pure [])))) (aCons (b1 (xfM ["NameTaken", "NoName"] "name") (mkX "NameTaken" ["name"] (aCons (vget 0) (fun _ => M.pure [])))) (aCons (b1 (xfM ["InvalidRow", "Unplayed", "Strayed", "NoRow"] "index") (mkX "Strayed" ["index"] (aCons (vget 0) (fun _ => M.pure [])))) (aCons (b1 (xfM ["Busy", "Blocked", "Unsettled", "NotPrepared", "NoNumber", "NoTransaction"] "number") (mkX "Busy" ["number"] (aCons (vget 0) (fun _ => M.pure [])))) (fun _ => M.pure [])))))))) (gSet 2))
    (sSeq (sAsg (b2 addM (vget 2) (mkL (aCons (b1 (xfM ["Busy", "Blocked", "Unsettled", "NotPrepared", "NoNumber", "NoTransaction"] "number") (mkX "Blocked" ["number"] (aCons (vget 0) (fun _ => M.pure [])))) (aCons (b1 (xfM ["Taken", "NoKey"] "key") (mkX "Taken" ["key"] (aCons (vget 0) (fun _ => M.pure [])))) (aCons (b1 (xfM ["Busy", "Blocked", "Unsettled", "NotPrepared", "NoNumber", "NoTransaction"] "number") (mkX "Unsettled" ["number"] (aCons (vget 0) (fun _ => M.pure [])))) (aCons (b1 (xfM ["Taken", "NoKey"] "key") (mkX "NoKey" ["key"] (aCons (vget 0) (fun _ => M.pure [])))) (aCons (b1 (xfM ["NameTaken", "NoName"] "name") (mkX "NoName" ["name"] (aCons (vget 0) (fun _ => M.pure [])))) (fun _ => M.pure [])))))))) (gSet 2))
    (sSeq (sAsg (b2 addM (vget 2) (mkL (aCons (b1 (xfM ["NoPage"] "page") (mkX "NoPage" ["page"] (aCons (vget 0) (fun _ => M.pure [])))) (aCons (b1 (xfM ["InvalidRow", "Unplayed", "Strayed", "NoRow"] "index") (mkX "NoRow" ["index"] (aCons (vget 0) (fun _ => M.pure [])))) (aCons (b1 (xfM ["NoSlot", "NotDead"] "slot") (mkX "NoSlot" ["slot"] (aCons (vget 0) (fun _ => M.pure [])))) (aCons (b1 (xfM ["NoSlot", "NotDead"] "slot") (mkX "NotDead" ["slot"] (aCons (vget 0) (fun _ => M.pure [])))) (aCons (b1 (xfM ["Busy", "Blocked", "Unsettled", "NotPrepared", "NoNumber", "NoTransaction"] "number") (mkX "NotPrepared" ["number"] (aCons (vget 0) (fun _ => M.pure [])))) (fun _ => M.pure [])))))))) (gSet 2))
    (sSeq (sAsg (b2 addM (vget 2) (mkL (aCons (b1 (xfM ["NotSpan", "NotCleaning"] "row") (mkX "NotSpan" ["row"] (aCons (vget 0) (fun _ => M.pure [])))) (aCons (b1 (xfM ["NotSpan", "NotCleaning"] "row") (mkX "NotCleaning" ["row"] (aCons (vget 0) (fun _ => M.pure [])))) (aCons (b1 (xfM ["Busy", "Blocked", "Unsettled", "NotPrepared", "NoNumber", "NoTransaction"] "number") (mkX "NoNumber" ["number"] (aCons (vget 0) (fun _ => M.pure [])))) (aCons (b1 (xfM ["Busy", "Blocked", "Unsettled", "NotPrepared", "NoNumber", "NoTransaction"] "number") (mkX "NoTransaction" ["number"] (aCons (vget 0) (fun _ => M.pure [])))) (fun _ => M.pure []))))))) (gSet 2))
    (sSeq (sAsg (b2 addM (vget 2) (mkL (aCons (b1 (xfM ["TooDeep", "TooLong"] "limit") (mkX "TooDeep" ["limit"] (aCons (vget 0) (fun _ => M.pure [])))) (aCons (b1 (xfM ["TooDeep", "TooLong"] "limit") (mkX "TooLong" ["limit"] (aCons (vget 0) (fun _ => M.pure [])))) (fun _ => M.pure []))))) (gSet 2))
    (sSeq (sRet (andV (b2 eqM (cal (on1 reprM) (aCons (vget 2) (fun _ => M.pure []))) (cal (on1 reprM) (aCons (b2 repM (mkL (aCons (vget 0) (fun _ => M.pure []))) (fun _ => M.pure (.int 29))) (fun _ => M.pure [])))) (b2 eqM (cal (on1 reprM) (aCons (b1 (xfM ["InvalidText"] "word") (mkX "InvalidText" ["line", "word"] (aCons (vget 0) (aCons (vget 1) (fun _ => M.pure []))))) (fun _ => M.pure []))) (cal (on1 reprM) (aCons (vget 1) (fun _ => M.pure []))))))
    sNil))))))))
def m__law_kept : List D → M D := runM 3 b__law_kept
theorem ok__law_kept (T : Txt K mg) (D : DefAt K mg "_law_kept" s__law_kept ps__law_kept) (O_InvalidText___init__ : XMk P w K mg base 1 "InvalidText" "InvalidText.__init__" s_InvalidText___init__ ps_InvalidText___init__ ["line", "word"]) (O_TooLong___init__ : XMk P w K mg base 1 "TooLong" "TooLong.__init__" s_TooLong___init__ ps_TooLong___init__ ["limit"]) (O_TooDeep___init__ : XMk P w K mg base 1 "TooDeep" "TooDeep.__init__" s_TooDeep___init__ ps_TooDeep___init__ ["limit"]) (O_NoTransaction___init__ : XMk P w K mg base 1 "NoTransaction" "NoTransaction.__init__" s_NoTransaction___init__ ps_NoTransaction___init__ ["number"]) (O_NoNumber___init__ : XMk P w K mg base 1 "NoNumber" "NoNumber.__init__" s_NoNumber___init__ ps_NoNumber___init__ ["number"]) (O_NotCleaning___init__ : XMk P w K mg base 1 "NotCleaning" "NotCleaning.__init__" s_NotCleaning___init__ ps_NotCleaning___init__ ["row"]) (O_NotSpan___init__ : XMk P w K mg base 1 "NotSpan" "NotSpan.__init__" s_NotSpan___init__ ps_NotSpan___init__ ["row"]) (O_NotPrepared___init__ : XMk P w K mg base 1 "NotPrepared" "NotPrepared.__init__" s_NotPrepared___init__ ps_NotPrepared___init__ ["number"]) (O_NotDead___init__ : XMk P w K mg base 1 "NotDead" "NotDead.__init__" s_NotDead___init__ ps_NotDead___init__ ["slot"]) (O_NoSlot___init__ : XMk P w K mg base 1 "NoSlot" "NoSlot.__init__" s_NoSlot___init__ ps_NoSlot___init__ ["slot"]) (O_NoRow___init__ : XMk P w K mg base 1 "NoRow" "NoRow.__init__" s_NoRow___init__ ps_NoRow___init__ ["index"]) (O_NoPage___init__ : XMk P w K mg base 1 "NoPage" "NoPage.__init__" s_NoPage___init__ ps_NoPage___init__ ["page"]) (O_NoName___init__ : XMk P w K mg base 1 "NoName" "NoName.__init__" s_NoName___init__ ps_NoName___init__ ["name"]) (O_NoKey___init__ : XMk P w K mg base 1 "NoKey" "NoKey.__init__" s_NoKey___init__ ps_NoKey___init__ ["key"]) (O_Unsettled___init__ : XMk P w K mg base 1 "Unsettled" "Unsettled.__init__" s_Unsettled___init__ ps_Unsettled___init__ ["number"]) (O_Taken___init__ : XMk P w K mg base 1 "Taken" "Taken.__init__" s_Taken___init__ ps_Taken___init__ ["key"]) (O_Blocked___init__ : XMk P w K mg base 1 "Blocked" "Blocked.__init__" s_Blocked___init__ ps_Blocked___init__ ["number"]) (O_Busy___init__ : XMk P w K mg base 1 "Busy" "Busy.__init__" s_Busy___init__ ps_Busy___init__ ["number"]) (O_Strayed___init__ : XMk P w K mg base 1 "Strayed" "Strayed.__init__" s_Strayed___init__ ps_Strayed___init__ ["index"]) (O_NameTaken___init__ : XMk P w K mg base 1 "NameTaken" "NameTaken.__init__" s_NameTaken___init__ ps_NameTaken___init__ ["name"]) (O_TooFew___init__ : XMk P w K mg base 1 "TooFew" "TooFew.__init__" s_TooFew___init__ ps_TooFew___init__ ["least"]) (O_Unplayed___init__ : XMk P w K mg base 1 "Unplayed" "Unplayed.__init__" s_Unplayed___init__ ps_Unplayed___init__ ["index"]) (O_Barred___init__ : XMk P w K mg base 1 "Barred" "Barred.__init__" s_Barred___init__ ps_Barred___init__ ["bar"]) (O_InvalidRow___init__ : XMk P w K mg base 1 "InvalidRow" "InvalidRow.__init__" s_InvalidRow___init__ ps_InvalidRow___init__ ["index"]) (O_InvalidPages___init__ : XMk P w K mg base 1 "InvalidPages" "InvalidPages.__init__" s_InvalidPages___init__ ps_InvalidPages___init__ ["value"]) (O_InvalidLoss___init__ : XMk P w K mg base 1 "InvalidLoss" "InvalidLoss.__init__" s_InvalidLoss___init__ ps_InvalidLoss___init__ ["value"]) (O_InvalidView___init__ : XMk P w K mg base 1 "InvalidView" "InvalidView.__init__" s_InvalidView___init__ ps_InvalidView___init__ ["value"]) (O_InvalidValue___init__ : XMk P w K mg base 1 "InvalidValue" "InvalidValue.__init__" s_InvalidValue___init__ ps_InvalidValue___init__ ["value"]) (O_InvalidKey___init__ : XMk P w K mg base 1 "InvalidKey" "InvalidKey.__init__" s_InvalidKey___init__ ps_InvalidKey___init__ ["value"]) : OkAtG P w K mg base 3 "_law_kept" s__law_kept ps__law_kept m__law_kept :=
  OkAtG.of (ms := b__law_kept) (N := N__law_kept) (n := 3) (k := 2) rfl D sc__law_kept fun fa cdv A outer s H E hgd hr =>
    (mss_cons (ms_set (i := 2) sc__law_kept.nd rfl (Or.inl rfl) (me_lst (ma_cons (me_xf T.xf_value (me_exc O_InvalidKey___init__ (hr.mono (by decide)) rfl (by decide) (ma_cons (me_of (pv 0)) ma_nil))) (ma_cons (me_xf T.xf_value (me_exc O_InvalidValue___init__ (hr.mono (by decide)) rfl (by decide) (ma_cons (me_of (pv 0)) ma_nil))) (ma_cons (me_xf T.xf_value (me_exc O_InvalidView___init__ (hr.mono (by decide)) rfl (by decide) (ma_cons (me_of (pv 0)) ma_nil))) (ma_cons (me_xf T.xf_value (me_exc O_InvalidLoss___init__ (hr.mono (by decide)) rfl (by decide) (ma_cons (me_of (pv 0)) ma_nil))) ma_nil))))))
    (mss_cons (ms_set (i := 2) sc__law_kept.nd rfl (Or.inl rfl) (me_add (me_of (pv 2)) (me_lst (ma_cons (me_xf T.xf_value (me_exc O_InvalidPages___init__ (hr.mono (by decide)) rfl (by decide) (ma_cons (me_of (pv 0)) ma_nil))) (ma_cons (me_xf T.xf_index (me_exc O_InvalidRow___init__ (hr.mono (by decide)) rfl (by decide) (ma_cons (me_of (pv 0)) ma_nil))) (ma_cons (me_xf T.xf_line (me_exc O_InvalidText___init__ (hr.mono (by decide)) rfl (by decide) (ma_cons (me_of (pv 0)) (ma_cons (me_of (pv 1)) ma_nil)))) (ma_cons (me_xf T.xf_bar (me_exc O_Barred___init__ (hr.mono (by decide)) rfl (by decide) (ma_cons (me_of (pv 0)) ma_nil))) ma_nil)))))))
    (mss_cons (ms_set (i := 2) sc__law_kept.nd rfl (Or.inl rfl) (me_add (me_of (pv 2)) (me_lst (ma_cons (me_xf T.xf_index (me_exc O_Unplayed___init__ (hr.mono (by decide)) rfl (by decide) (ma_cons (me_of (pv 0)) ma_nil))) (ma_cons (me_xf T.xf_least (me_exc O_TooFew___init__ (hr.mono (by decide)) rfl (by decide) (ma_cons (me_of (pv 0)) ma_nil))) (ma_cons (me_xf T.xf_name (me_exc O_NameTaken___init__ (hr.mono (by decide)) rfl (by decide) (ma_cons (me_of (pv 0)) ma_nil))) (ma_cons (me_xf T.xf_index (me_exc O_Strayed___init__ (hr.mono (by decide)) rfl (by decide) (ma_cons (me_of (pv 0)) ma_nil))) (ma_cons (me_xf T.xf_number (me_exc O_Busy___init__ (hr.mono (by decide)) rfl (by decide) (ma_cons (me_of (pv 0)) ma_nil))) ma_nil))))))))
    (mss_cons (ms_set (i := 2) sc__law_kept.nd rfl (Or.inl rfl) (me_add (me_of (pv 2)) (me_lst (ma_cons (me_xf T.xf_number (me_exc O_Blocked___init__ (hr.mono (by decide)) rfl (by decide) (ma_cons (me_of (pv 0)) ma_nil))) (ma_cons (me_xf T.xf_key (me_exc O_Taken___init__ (hr.mono (by decide)) rfl (by decide) (ma_cons (me_of (pv 0)) ma_nil))) (ma_cons (me_xf T.xf_number (me_exc O_Unsettled___init__ (hr.mono (by decide)) rfl (by decide) (ma_cons (me_of (pv 0)) ma_nil))) (ma_cons (me_xf T.xf_key (me_exc O_NoKey___init__ (hr.mono (by decide)) rfl (by decide) (ma_cons (me_of (pv 0)) ma_nil))) (ma_cons (me_xf T.xf_name (me_exc O_NoName___init__ (hr.mono (by decide)) rfl (by decide) (ma_cons (me_of (pv 0)) ma_nil))) ma_nil))))))))
    (mss_cons (ms_set (i := 2) sc__law_kept.nd rfl (Or.inl rfl) (me_add (me_of (pv 2)) (me_lst (ma_cons (me_xf T.xf_page (me_exc O_NoPage___init__ (hr.mono (by decide)) rfl (by decide) (ma_cons (me_of (pv 0)) ma_nil))) (ma_cons (me_xf T.xf_index (me_exc O_NoRow___init__ (hr.mono (by decide)) rfl (by decide) (ma_cons (me_of (pv 0)) ma_nil))) (ma_cons (me_xf T.xf_slot (me_exc O_NoSlot___init__ (hr.mono (by decide)) rfl (by decide) (ma_cons (me_of (pv 0)) ma_nil))) (ma_cons (me_xf T.xf_slot (me_exc O_NotDead___init__ (hr.mono (by decide)) rfl (by decide) (ma_cons (me_of (pv 0)) ma_nil))) (ma_cons (me_xf T.xf_number (me_exc O_NotPrepared___init__ (hr.mono (by decide)) rfl (by decide) (ma_cons (me_of (pv 0)) ma_nil))) ma_nil))))))))
    (mss_cons (ms_set (i := 2) sc__law_kept.nd rfl (Or.inl rfl) (me_add (me_of (pv 2)) (me_lst (ma_cons (me_xf T.xf_row (me_exc O_NotSpan___init__ (hr.mono (by decide)) rfl (by decide) (ma_cons (me_of (pv 0)) ma_nil))) (ma_cons (me_xf T.xf_row (me_exc O_NotCleaning___init__ (hr.mono (by decide)) rfl (by decide) (ma_cons (me_of (pv 0)) ma_nil))) (ma_cons (me_xf T.xf_number (me_exc O_NoNumber___init__ (hr.mono (by decide)) rfl (by decide) (ma_cons (me_of (pv 0)) ma_nil))) (ma_cons (me_xf T.xf_number (me_exc O_NoTransaction___init__ (hr.mono (by decide)) rfl (by decide) (ma_cons (me_of (pv 0)) ma_nil))) ma_nil)))))))
    (mss_cons (ms_set (i := 2) sc__law_kept.nd rfl (Or.inl rfl) (me_add (me_of (pv 2)) (me_lst (ma_cons (me_xf T.xf_limit (me_exc O_TooDeep___init__ (hr.mono (by decide)) rfl (by decide) (ma_cons (me_of (pv 0)) ma_nil))) (ma_cons (me_xf T.xf_limit (me_exc O_TooLong___init__ (hr.mono (by decide)) rfl (by decide) (ma_cons (me_of (pv 0)) ma_nil))) ma_nil)))))
    (mss_cons (ms_ret (me_and (me_cmp (op_eqU hr.units) eqM_ok (me_callB (call_reprU hr hgd) reprM_ok rfl T.n_repr (by decide +kernel) (ma_cons (me_of (pv 2)) ma_nil)) (me_callB (call_reprU hr hgd) reprM_ok rfl T.n_repr (by decide +kernel) (ma_cons (me_rep (me_lst (ma_cons (me_of (pv 0)) ma_nil)) me_int) ma_nil)) (nomark _)) (me_one (me_cmp (op_eqU hr.units) eqM_ok (me_callB (call_reprU hr hgd) reprM_ok rfl T.n_repr (by decide +kernel) (ma_cons (me_xf T.xf_word (me_exc O_InvalidText___init__ (hr.mono (by decide)) rfl (by decide) (ma_cons (me_of (pv 0)) (ma_cons (me_of (pv 1)) ma_nil)))) ma_nil)) (me_callB (call_reprU hr hgd) reprM_ok rfl T.n_repr (by decide +kernel) (ma_cons (me_of (pv 1)) ma_nil)) (nomark _)))))
    mss_nil))))))))
abbrev s__law_kept_by_name : Stmt := topS 48
abbrev ps__law_kept_by_name : List Str := ["_law_one", "_law_two"]
abbrev N__law_kept_by_name : List Str := ["_law_one", "_law_two", "_law_text", "_law_told"]
theorem sc__law_kept_by_name : FnScope N__law_kept_by_name ps__law_kept_by_name (defScope s__law_kept_by_name) := ⟨rfl, rfl, rfl, by decide +kernel, rfl, by decide +kernel, by decide +kernel⟩
def b__law_kept_by_name : Env → M (Fl × Env) := (sSeq (sAsg (mkXK "InvalidText" ["line", "word"] [1, 0] (aCons (vget 1) (aCons (vget 0) (fun _ => M.pure [])))) (gSet 2))
    (sSeq (sAsg (mkL (aCons (b1 (xfM ["InvalidKey", "InvalidValue", "InvalidView", "InvalidLoss", "InvalidPages"] "value") (mkXK "InvalidKey" ["value"] [0] (aCons (vget 0) (fun _ => M.pure [])))) (aCons (b1 (xfM ["InvalidKey", "InvalidValue", "InvalidView", "InvalidLoss", "InvalidPages"] "value") (mkXK "InvalidValue" ["value"] [0] (aCons (vget 0) (fun _ => M.pure [])))) (aCons (b1 (xfM ["InvalidKey", "InvalidValue", "InvalidView", "InvalidLoss", "InvalidPages"] "value") (mkXK "InvalidView" ["value"] [0] (aCons (vget 0) (fun _ => M.pure [])))) (aCons (b1 (xfM ["InvalidText"] "line") (vget 2)) (fun _ => M.pure [])))))) (gSet 3))
    (sSeq (sAsg (b2 addM (vget 3) (mkL (aCons (b1 (xfM ["InvalidKey", "InvalidValue", "InvalidView", "InvalidLoss", "InvalidPages"] "value") (mkXK "InvalidLoss" ["value"] [0] (aCons (vget 0) (fun _ => M.pure [])))) (aCons (b1 (xfM ["InvalidKey", "InvalidValue", "InvalidView", "InvalidLoss", "InvalidPages"] "value") (mkXK "InvalidPages" ["value"] [0] (aCons (vget 0) (fun _ => M.pure [])))) (aCons (b1 (xfM ["InvalidRow", "Unplayed", "Strayed", "NoRow"] "index") (mkXK "InvalidRow" ["index"] [0] (aCons (vget 0) (fun _ => M.pure [])))) (fun _ => M.pure [])))))) (gSet 3))
    (sSeq (sAsg (b2 addM (vget 3) (mkL (aCons (b1 (xfM ["Barred"] "bar") (mkXK "Barred" ["bar"] [0] (aCons (vget 0) (fun _ => M.pure [])))) (aCons (b1 (xfM ["InvalidRow", "Unplayed", "Strayed", "NoRow"] "index") (mkXK "Unplayed" ["index"] [0] (aCons (vget 0) (fun _ => M.pure [])))) (aCons (b1 (xfM ["TooFew"] "least") (mkXK "TooFew" ["least"] [0] (aCons (vget 0) (fun _ => M.pure [])))) (aCons (b1 (xfM ["NameTaken", "NoName"] "name") (mkXK "NameTaken" ["name"] [0] (aCons (vget 0) (fun _ => M.pure [])))) (fun _ => M.pure []))))))) (gSet 3))
    (sSeq (sAsg (b2 addM (vget 3) (mkL (aCons (b1 (xfM ["InvalidRow", "Unplayed", "Strayed", "NoRow"] "index") (mkXK "Strayed" ["index"] [0] (aCons (vget 0) (fun _ => M.pure [])))) (aCons (b1 (xfM ["Busy", "Blocked", "Unsettled", "NotPrepared", "NoNumber", "NoTransaction"] "number") (mkXK "Busy" ["number"] [0] (aCons (vget 0) (fun _ => M.pure [])))) (aCons (b1 (xfM ["Busy", "Blocked", "Unsettled", "NotPrepared", "NoNumber", "NoTransaction"] "number") (mkXK "Blocked" ["number"] [0] (aCons (vget 0) (fun _ => M.pure [])))) (aCons (b1 (xfM ["Taken", "NoKey"] "key") (mkXK "Taken" ["key"] [0] (aCons (vget 0) (fun _ => M.pure [])))) (fun _ => M.pure []))))))) (gSet 3))
    (sSeq (sAsg (b2 addM (vget 3) (mkL (aCons (b1 (xfM ["Busy", "Blocked", "Unsettled", "NotPrepared", "NoNumber", "NoTransaction"] "number") (mkXK "Unsettled" ["number"] [0] (aCons (vget 0) (fun _ => M.pure [])))) (aCons (b1 (xfM ["Taken", "NoKey"] "key") (mkXK "NoKey" ["key"] [0] (aCons (vget 0) (fun _ => M.pure [])))) (aCons (b1 (xfM ["NameTaken", "NoName"] "name") (mkXK "NoName" ["name"] [0] (aCons (vget 0) (fun _ => M.pure [])))) (aCons (b1 (xfM ["NoPage"] "page") (mkXK "NoPage" ["page"] [0] (aCons (vget 0) (fun _ => M.pure [])))) (fun _ => M.pure []))))))) (gSet 3))
    (sSeq (sAsg (b2 addM (vget 3) (mkL (aCons (b1 (xfM ["InvalidRow", "Unplayed", "Strayed", "NoRow"] "index") (mkXK "NoRow" ["index"] [0] (aCons (vget 0) (fun _ => M.pure [])))) (aCons (b1 (xfM ["NoSlot", "NotDead"] "slot") (mkXK "NoSlot" ["slot"] [0] (aCons (vget 0) (fun _ => M.pure [])))) (aCons (b1 (xfM ["NoSlot", "NotDead"] "slot") (mkXK "NotDead" ["slot"] [0] (aCons (vget 0) (fun _ => M.pure [])))) (aCons (b1 (xfM ["NotSpan", "NotCleaning"] "row") (mkXK "NotSpan" ["row"] [0] (aCons (vget 0) (fun _ => M.pure [])))) (fun _ => M.pure []))))))) (gSet 3))
    (sSeq (sAsg (b2 addM (vget 3) (mkL (aCons (b1 (xfM ["Busy", "Blocked", "Unsettled", "NotPrepared", "NoNumber", "NoTransaction"] "number") (mkXK "NotPrepared" ["number"] [0] (aCons (vget 0) (fun _ => M.pure [])))) (aCons (b1 (xfM ["NotSpan", "NotCleaning"] "row") (mkXK "NotCleaning" ["row"] [0] (aCons (vget 0) (fun _ => M.pure [])))) (aCons (b1 (xfM ["Busy", "Blocked", "Unsettled", "NotPrepared", "NoNumber", "NoTransaction"] "number") (mkXK "NoNumber" ["number"] [0] (aCons (vget 0) (fun _ => M.pure [])))) (fun _ => M.pure [])))))) (gSet 3))
    (sSeq (sAsg (b2 addM (vget 3) (mkL (aCons (b1 (xfM ["Busy", "Blocked", "Unsettled", "NotPrepared", "NoNumber", "NoTransaction"] "number") (mkXK "NoTransaction" ["number"] [0] (aCons (vget 0) (fun _ => M.pure [])))) (aCons (b1 (xfM ["TooDeep", "TooLong"] "limit") (mkXK "TooDeep" ["limit"] [0] (aCons (vget 0) (fun _ => M.pure [])))) (aCons (b1 (xfM ["TooDeep", "TooLong"] "limit") (mkXK "TooLong" ["limit"] [0] (aCons (vget 0) (fun _ => M.pure [])))) (fun _ => M.pure [])))))) (gSet 3))
    (sSeq (sRet (andV (b2 eqM (cal (on1 reprM) (aCons (vget 3) (fun _ => M.pure []))) (cal (on1 reprM) (aCons (b2 repM (mkL (aCons (vget 0) (fun _ => M.pure []))) (fun _ => M.pure (.int 29))) (fun _ => M.pure [])))) (b2 eqM (cal (on1 reprM) (aCons (b1 (xfM ["InvalidText"] "word") (vget 2)) (fun _ => M.pure []))) (cal (on1 reprM) (aCons (vget 1) (fun _ => M.pure []))))))
    sNil))))))))))
def m__law_kept_by_name : List D → M D := runM 4 b__law_kept_by_name
theorem ok__law_kept_by_name (T : Txt K mg) (D : DefAt K mg "_law_kept_by_name" s__law_kept_by_name ps__law_kept_by_name) (O_TooLong___init__ : XMk P w K mg base 1 "TooLong" "TooLong.__init__" s_TooLong___init__ ps_TooLong___init__ ["limit"]) (O_TooDeep___init__ : XMk P w K mg base 1 "TooDeep" "TooDeep.__init__" s_TooDeep___init__ ps_TooDeep___init__ ["limit"]) (O_NoTransaction___init__ : XMk P w K mg base 1 "NoTransaction" "NoTransaction.__init__" s_NoTransaction___init__ ps_NoTransaction___init__ ["number"]) (O_NoNumber___init__ : XMk P w K mg base 1 "NoNumber" "NoNumber.__init__" s_NoNumber___init__ ps_NoNumber___init__ ["number"]) (O_NotCleaning___init__ : XMk P w K mg base 1 "NotCleaning" "NotCleaning.__init__" s_NotCleaning___init__ ps_NotCleaning___init__ ["row"]) (O_NotPrepared___init__ : XMk P w K mg base 1 "NotPrepared" "NotPrepared.__init__" s_NotPrepared___init__ ps_NotPrepared___init__ ["number"]) (O_NotSpan___init__ : XMk P w K mg base 1 "NotSpan" "NotSpan.__init__" s_NotSpan___init__ ps_NotSpan___init__ ["row"]) (O_NotDead___init__ : XMk P w K mg base 1 "NotDead" "NotDead.__init__" s_NotDead___init__ ps_NotDead___init__ ["slot"]) (O_NoSlot___init__ : XMk P w K mg base 1 "NoSlot" "NoSlot.__init__" s_NoSlot___init__ ps_NoSlot___init__ ["slot"]) (O_NoRow___init__ : XMk P w K mg base 1 "NoRow" "NoRow.__init__" s_NoRow___init__ ps_NoRow___init__ ["index"]) (O_NoPage___init__ : XMk P w K mg base 1 "NoPage" "NoPage.__init__" s_NoPage___init__ ps_NoPage___init__ ["page"]) (O_NoName___init__ : XMk P w K mg base 1 "NoName" "NoName.__init__" s_NoName___init__ ps_NoName___init__ ["name"]) (O_NoKey___init__ : XMk P w K mg base 1 "NoKey" "NoKey.__init__" s_NoKey___init__ ps_NoKey___init__ ["key"]) (O_Unsettled___init__ : XMk P w K mg base 1 "Unsettled" "Unsettled.__init__" s_Unsettled___init__ ps_Unsettled___init__ ["number"]) (O_Taken___init__ : XMk P w K mg base 1 "Taken" "Taken.__init__" s_Taken___init__ ps_Taken___init__ ["key"]) (O_Blocked___init__ : XMk P w K mg base 1 "Blocked" "Blocked.__init__" s_Blocked___init__ ps_Blocked___init__ ["number"]) (O_Busy___init__ : XMk P w K mg base 1 "Busy" "Busy.__init__" s_Busy___init__ ps_Busy___init__ ["number"]) (O_Strayed___init__ : XMk P w K mg base 1 "Strayed" "Strayed.__init__" s_Strayed___init__ ps_Strayed___init__ ["index"]) (O_NameTaken___init__ : XMk P w K mg base 1 "NameTaken" "NameTaken.__init__" s_NameTaken___init__ ps_NameTaken___init__ ["name"]) (O_TooFew___init__ : XMk P w K mg base 1 "TooFew" "TooFew.__init__" s_TooFew___init__ ps_TooFew___init__ ["least"]) (O_Unplayed___init__ : XMk P w K mg base 1 "Unplayed" "Unplayed.__init__" s_Unplayed___init__ ps_Unplayed___init__ ["index"]) (O_Barred___init__ : XMk P w K mg base 1 "Barred" "Barred.__init__" s_Barred___init__ ps_Barred___init__ ["bar"]) (O_InvalidRow___init__ : XMk P w K mg base 1 "InvalidRow" "InvalidRow.__init__" s_InvalidRow___init__ ps_InvalidRow___init__ ["index"]) (O_InvalidPages___init__ : XMk P w K mg base 1 "InvalidPages" "InvalidPages.__init__" s_InvalidPages___init__ ps_InvalidPages___init__ ["value"]) (O_InvalidLoss___init__ : XMk P w K mg base 1 "InvalidLoss" "InvalidLoss.__init__" s_InvalidLoss___init__ ps_InvalidLoss___init__ ["value"]) (O_InvalidView___init__ : XMk P w K mg base 1 "InvalidView" "InvalidView.__init__" s_InvalidView___init__ ps_InvalidView___init__ ["value"]) (O_InvalidValue___init__ : XMk P w K mg base 1 "InvalidValue" "InvalidValue.__init__" s_InvalidValue___init__ ps_InvalidValue___init__ ["value"]) (O_InvalidKey___init__ : XMk P w K mg base 1 "InvalidKey" "InvalidKey.__init__" s_InvalidKey___init__ ps_InvalidKey___init__ ["value"]) (O_InvalidText___init__ : XMk P w K mg base 1 "InvalidText" "InvalidText.__init__" s_InvalidText___init__ ps_InvalidText___init__ ["line", "word"]) : OkAtG P w K mg base 3 "_law_kept_by_name" s__law_kept_by_name ps__law_kept_by_name m__law_kept_by_name :=
  OkAtG.of (ms := b__law_kept_by_name) (N := N__law_kept_by_name) (n := 4) (k := 2) rfl D sc__law_kept_by_name fun fa cdv A outer s H E hgd hr =>
    (mss_cons (ms_set (i := 2) sc__law_kept_by_name.nd rfl (Or.inl rfl) (me_excK (π := [1, 0]) (ks := ["word", "line"]) O_InvalidText___init__ (hr.mono (by decide)) rfl (fun _ _ _ _ _ _ _ ws hw => match ws, hw with | [_, _], _ => rfl) rfl (by simp) (mk_cons (me_of (pv 1)) (mk_cons (me_of (pv 0)) mk_nil))))
    (mss_cons (ms_set (i := 3) sc__law_kept_by_name.nd rfl (Or.inl rfl) (me_lst (ma_cons (me_xf T.xf_value (me_excK (π := [0]) (ks := ["value"]) O_InvalidKey___init__ (hr.mono (by decide)) rfl (fun _ _ _ _ _ _ _ ws hw => match ws, hw with | [_], _ => rfl) rfl (by simp) (mk_cons (me_of (pv 0)) mk_nil))) (ma_cons (me_xf T.xf_value (me_excK (π := [0]) (ks := ["value"]) O_InvalidValue___init__ (hr.mono (by decide)) rfl (fun _ _ _ _ _ _ _ ws hw => match ws, hw with | [_], _ => rfl) rfl (by simp) (mk_cons (me_of (pv 0)) mk_nil))) (ma_cons (me_xf T.xf_value (me_excK (π := [0]) (ks := ["value"]) O_InvalidView___init__ (hr.mono (by decide)) rfl (fun _ _ _ _ _ _ _ ws hw => match ws, hw with | [_], _ => rfl) rfl (by simp) (mk_cons (me_of (pv 0)) mk_nil))) (ma_cons (me_xf T.xf_line (me_of (pv 2))) ma_nil))))))
    (mss_cons (ms_set (i := 3) sc__law_kept_by_name.nd rfl (Or.inl rfl) (me_add (me_of (pv 3)) (me_lst (ma_cons (me_xf T.xf_value (me_excK (π := [0]) (ks := ["value"]) O_InvalidLoss___init__ (hr.mono (by decide)) rfl (fun _ _ _ _ _ _ _ ws hw => match ws, hw with | [_], _ => rfl) rfl (by simp) (mk_cons (me_of (pv 0)) mk_nil))) (ma_cons (me_xf T.xf_value (me_excK (π := [0]) (ks := ["value"]) O_InvalidPages___init__ (hr.mono (by decide)) rfl (fun _ _ _ _ _ _ _ ws hw => match ws, hw with | [_], _ => rfl) rfl (by simp) (mk_cons (me_of (pv 0)) mk_nil))) (ma_cons (me_xf T.xf_index (me_excK (π := [0]) (ks := ["index"]) O_InvalidRow___init__ (hr.mono (by decide)) rfl (fun _ _ _ _ _ _ _ ws hw => match ws, hw with | [_], _ => rfl) rfl (by simp) (mk_cons (me_of (pv 0)) mk_nil))) ma_nil))))))
    (mss_cons (ms_set (i := 3) sc__law_kept_by_name.nd rfl (Or.inl rfl) (me_add (me_of (pv 3)) (me_lst (ma_cons (me_xf T.xf_bar (me_excK (π := [0]) (ks := ["bar"]) O_Barred___init__ (hr.mono (by decide)) rfl (fun _ _ _ _ _ _ _ ws hw => match ws, hw with | [_], _ => rfl) rfl (by simp) (mk_cons (me_of (pv 0)) mk_nil))) (ma_cons (me_xf T.xf_index (me_excK (π := [0]) (ks := ["index"]) O_Unplayed___init__ (hr.mono (by decide)) rfl (fun _ _ _ _ _ _ _ ws hw => match ws, hw with | [_], _ => rfl) rfl (by simp) (mk_cons (me_of (pv 0)) mk_nil))) (ma_cons (me_xf T.xf_least (me_excK (π := [0]) (ks := ["least"]) O_TooFew___init__ (hr.mono (by decide)) rfl (fun _ _ _ _ _ _ _ ws hw => match ws, hw with | [_], _ => rfl) rfl (by simp) (mk_cons (me_of (pv 0)) mk_nil))) (ma_cons (me_xf T.xf_name (me_excK (π := [0]) (ks := ["name"]) O_NameTaken___init__ (hr.mono (by decide)) rfl (fun _ _ _ _ _ _ _ ws hw => match ws, hw with | [_], _ => rfl) rfl (by simp) (mk_cons (me_of (pv 0)) mk_nil))) ma_nil)))))))
    (mss_cons (ms_set (i := 3) sc__law_kept_by_name.nd rfl (Or.inl rfl) (me_add (me_of (pv 3)) (me_lst (ma_cons (me_xf T.xf_index (me_excK (π := [0]) (ks := ["index"]) O_Strayed___init__ (hr.mono (by decide)) rfl (fun _ _ _ _ _ _ _ ws hw => match ws, hw with | [_], _ => rfl) rfl (by simp) (mk_cons (me_of (pv 0)) mk_nil))) (ma_cons (me_xf T.xf_number (me_excK (π := [0]) (ks := ["number"]) O_Busy___init__ (hr.mono (by decide)) rfl (fun _ _ _ _ _ _ _ ws hw => match ws, hw with | [_], _ => rfl) rfl (by simp) (mk_cons (me_of (pv 0)) mk_nil))) (ma_cons (me_xf T.xf_number (me_excK (π := [0]) (ks := ["number"]) O_Blocked___init__ (hr.mono (by decide)) rfl (fun _ _ _ _ _ _ _ ws hw => match ws, hw with | [_], _ => rfl) rfl (by simp) (mk_cons (me_of (pv 0)) mk_nil))) (ma_cons (me_xf T.xf_key (me_excK (π := [0]) (ks := ["key"]) O_Taken___init__ (hr.mono (by decide)) rfl (fun _ _ _ _ _ _ _ ws hw => match ws, hw with | [_], _ => rfl) rfl (by simp) (mk_cons (me_of (pv 0)) mk_nil))) ma_nil)))))))
    (mss_cons (ms_set (i := 3) sc__law_kept_by_name.nd rfl (Or.inl rfl) (me_add (me_of (pv 3)) (me_lst (ma_cons (me_xf T.xf_number (me_excK (π := [0]) (ks := ["number"]) O_Unsettled___init__ (hr.mono (by decide)) rfl (fun _ _ _ _ _ _ _ ws hw => match ws, hw with | [_], _ => rfl) rfl (by simp) (mk_cons (me_of (pv 0)) mk_nil))) (ma_cons (me_xf T.xf_key (me_excK (π := [0]) (ks := ["key"]) O_NoKey___init__ (hr.mono (by decide)) rfl (fun _ _ _ _ _ _ _ ws hw => match ws, hw with | [_], _ => rfl) rfl (by simp) (mk_cons (me_of (pv 0)) mk_nil))) (ma_cons (me_xf T.xf_name (me_excK (π := [0]) (ks := ["name"]) O_NoName___init__ (hr.mono (by decide)) rfl (fun _ _ _ _ _ _ _ ws hw => match ws, hw with | [_], _ => rfl) rfl (by simp) (mk_cons (me_of (pv 0)) mk_nil))) (ma_cons (me_xf T.xf_page (me_excK (π := [0]) (ks := ["page"]) O_NoPage___init__ (hr.mono (by decide)) rfl (fun _ _ _ _ _ _ _ ws hw => match ws, hw with | [_], _ => rfl) rfl (by simp) (mk_cons (me_of (pv 0)) mk_nil))) ma_nil)))))))
    (mss_cons (ms_set (i := 3) sc__law_kept_by_name.nd rfl (Or.inl rfl) (me_add (me_of (pv 3)) (me_lst (ma_cons (me_xf T.xf_index (me_excK (π := [0]) (ks := ["index"]) O_NoRow___init__ (hr.mono (by decide)) rfl (fun _ _ _ _ _ _ _ ws hw => match ws, hw with | [_], _ => rfl) rfl (by simp) (mk_cons (me_of (pv 0)) mk_nil))) (ma_cons (me_xf T.xf_slot (me_excK (π := [0]) (ks := ["slot"]) O_NoSlot___init__ (hr.mono (by decide)) rfl (fun _ _ _ _ _ _ _ ws hw => match ws, hw with | [_], _ => rfl) rfl (by simp) (mk_cons (me_of (pv 0)) mk_nil))) (ma_cons (me_xf T.xf_slot (me_excK (π := [0]) (ks := ["slot"]) O_NotDead___init__ (hr.mono (by decide)) rfl (fun _ _ _ _ _ _ _ ws hw => match ws, hw with | [_], _ => rfl) rfl (by simp) (mk_cons (me_of (pv 0)) mk_nil))) (ma_cons (me_xf T.xf_row (me_excK (π := [0]) (ks := ["row"]) O_NotSpan___init__ (hr.mono (by decide)) rfl (fun _ _ _ _ _ _ _ ws hw => match ws, hw with | [_], _ => rfl) rfl (by simp) (mk_cons (me_of (pv 0)) mk_nil))) ma_nil)))))))
    (mss_cons (ms_set (i := 3) sc__law_kept_by_name.nd rfl (Or.inl rfl) (me_add (me_of (pv 3)) (me_lst (ma_cons (me_xf T.xf_number (me_excK (π := [0]) (ks := ["number"]) O_NotPrepared___init__ (hr.mono (by decide)) rfl (fun _ _ _ _ _ _ _ ws hw => match ws, hw with | [_], _ => rfl) rfl (by simp) (mk_cons (me_of (pv 0)) mk_nil))) (ma_cons (me_xf T.xf_row (me_excK (π := [0]) (ks := ["row"]) O_NotCleaning___init__ (hr.mono (by decide)) rfl (fun _ _ _ _ _ _ _ ws hw => match ws, hw with | [_], _ => rfl) rfl (by simp) (mk_cons (me_of (pv 0)) mk_nil))) (ma_cons (me_xf T.xf_number (me_excK (π := [0]) (ks := ["number"]) O_NoNumber___init__ (hr.mono (by decide)) rfl (fun _ _ _ _ _ _ _ ws hw => match ws, hw with | [_], _ => rfl) rfl (by simp) (mk_cons (me_of (pv 0)) mk_nil))) ma_nil))))))
    (mss_cons (ms_set (i := 3) sc__law_kept_by_name.nd rfl (Or.inl rfl) (me_add (me_of (pv 3)) (me_lst (ma_cons (me_xf T.xf_number (me_excK (π := [0]) (ks := ["number"]) O_NoTransaction___init__ (hr.mono (by decide)) rfl (fun _ _ _ _ _ _ _ ws hw => match ws, hw with | [_], _ => rfl) rfl (by simp) (mk_cons (me_of (pv 0)) mk_nil))) (ma_cons (me_xf T.xf_limit (me_excK (π := [0]) (ks := ["limit"]) O_TooDeep___init__ (hr.mono (by decide)) rfl (fun _ _ _ _ _ _ _ ws hw => match ws, hw with | [_], _ => rfl) rfl (by simp) (mk_cons (me_of (pv 0)) mk_nil))) (ma_cons (me_xf T.xf_limit (me_excK (π := [0]) (ks := ["limit"]) O_TooLong___init__ (hr.mono (by decide)) rfl (fun _ _ _ _ _ _ _ ws hw => match ws, hw with | [_], _ => rfl) rfl (by simp) (mk_cons (me_of (pv 0)) mk_nil))) ma_nil))))))
    (mss_cons (ms_ret (me_and (me_cmp (op_eqU hr.units) eqM_ok (me_callB (call_reprU hr hgd) reprM_ok rfl T.n_repr (by decide +kernel) (ma_cons (me_of (pv 3)) ma_nil)) (me_callB (call_reprU hr hgd) reprM_ok rfl T.n_repr (by decide +kernel) (ma_cons (me_rep (me_lst (ma_cons (me_of (pv 0)) ma_nil)) me_int) ma_nil)) (nomark _)) (me_one (me_cmp (op_eqU hr.units) eqM_ok (me_callB (call_reprU hr hgd) reprM_ok rfl T.n_repr (by decide +kernel) (ma_cons (me_xf T.xf_word (me_of (pv 2))) ma_nil)) (me_callB (call_reprU hr hgd) reprM_ok rfl T.n_repr (by decide +kernel) (ma_cons (me_of (pv 1)) ma_nil)) (nomark _)))))
    mss_nil))))))))))
abbrev s_law : Stmt := topS 49
abbrev ps_law : List Str := ["_law_script"]
abbrev N_law : List Str := ["_law_script", "_law_pen_here", "_law_turn", "_law_one", "_law_two", "_law_errors", "_law_k", "_law_family", "_law_j"]
theorem sc_law : FnScope N_law ps_law (defScope s_law) := ⟨rfl, rfl, rfl, by decide +kernel, rfl, by decide +kernel, by decide +kernel⟩
def b_law : Env → M (Fl × Env) := (sSeq (sAsg (calF 1 m__law_pen (aCons (vget 0) (fun _ => M.pure []))) (gSet 1))
    (sSeq (sFor (len1 rngOf 1 (aCons (fun _ => M.pure (.int 4)) (fun _ => M.pure []))) (gSet 2) (sSeq (sPar 3 4 (calF 1 m__law_odd (aCons (vget 1) (fun _ => M.pure []))) (calF 1 m__law_odd (aCons (vget 1) (fun _ => M.pure []))))
    (sSeq (sAsg (calF 2 m__law_made (aCons (vget 3) (aCons (vget 4) (fun _ => M.pure [])))) (gSet 5))
    (sSeq (sFor (len1 rngOf 1 (aCons (fun _ => M.pure (.int 34)) (fun _ => M.pure []))) (gSet 6) (sSeq (sIf (tst (b2 neM (calF 1 m__law_marks (aCons (b2 ixD (vget 5) (vget 6)) (fun _ => M.pure []))) (eLc (len1 rngOf 1 (aCons (fun _ => M.pure (.int 34)) (fun _ => M.pure []))) (gSet 8) (fun _ => M.pure true) (b2 eqM (vget 6) (vget 8)) [8]))) (sSeq (sRet (fun _ => M.pure (.bl false)))
    sNil) sNil)
    (sSeq (sAsg (mkL (aCons (b2 ltM (vget 6) (fun _ => M.pure (.int 12))) (aCons (chn leM ltM (fun _ => M.pure (.int 12)) (vget 6) (fun _ => M.pure (.int 20))) (aCons (chn leM ltM (fun _ => M.pure (.int 20)) (vget 6) (fun _ => M.pure (.int 31))) (aCons (b2 gtM (vget 6) (fun _ => M.pure (.int 30))) (fun _ => M.pure [])))))) (gSet 7))
    (sSeq (sIf (tst (b2 neM (calF 1 m__law_bases (aCons (b2 ixD (vget 5) (vget 6)) (fun _ => M.pure []))) (b2 addM (vget 7) (vget 7)))) (sSeq (sRet (fun _ => M.pure (.bl false)))
    sNil) sNil)
    sNil))))
    (sSeq (sIf (orT (notT (tst (calF 2 m__law_kept (aCons (vget 3) (aCons (vget 4) (fun _ => M.pure [])))))) (notT (tst (calF 2 m__law_kept_by_name (aCons (vget 3) (aCons (vget 4) (fun _ => M.pure []))))))) (sSeq (sRet (fun _ => M.pure (.bl false)))
    sNil) sNil)
    sNil)))))
    (sSeq (sRet (fun _ => M.pure (.bl true)))
    sNil)))
def m_law : List D → M D := runM 9 b_law
theorem ok_law (T : Txt K mg) (D : DefAt K mg "law" s_law ps_law) (HO : ∀ base : Heap, K.In base → base.Ns mainGlobals mg → OkAtG P w K mg base 3 "_law_kept" s__law_kept ps__law_kept m__law_kept ∧ OkAtG P w K mg base 3 "_law_kept_by_name" s__law_kept_by_name ps__law_kept_by_name m__law_kept_by_name ∧ OkAt P w K mg base 1 "_law_bases" s__law_bases ps__law_bases m__law_bases ∧ OkAt P w K mg base 1 "_law_marks" s__law_marks ps__law_marks m__law_marks ∧ OkAt P w K mg base 3 "_law_made" s__law_made ps__law_made m__law_made ∧ OkAt P w K mg base 3 "_law_odd" s__law_odd ps__law_odd m__law_odd ∧ OkAt P w K mg base 1 "_law_pen" s__law_pen ps__law_pen m__law_pen) : ∀ fa, mg "law" = some (.ref fa) → TopOk P w K mg fa "_law_script" (spM K 1 m_law) := by
  intro fa hfa
  obtain ⟨fa', fd, F, hm, b⟩ := D.ex
  rw [hfa] at hm
  cases hm
  obtain ⟨oc, od, kV, doc, pm, an, cdv, ct, osl, rfl, lk, hcd⟩ := F.ex
  refine top_of (k := 4) ⟨rfl, by decide, by decide⟩ lk hcd sc_law (fun s v => .of_eq rfl) fun base s H v Q E hr kb gb h => ?_
  obtain ⟨O__law_kept, O__law_kept_by_name, O__law_bases, O__law_marks, O__law_made, O__law_odd, O__law_pen⟩ := HO base kb gb
  exact ⟨tMs K EK0 b_law, (mss_cons (ms_set (i := 1) sc_law.nd rfl (Or.inl rfl) (me_callO O__law_pen (hr.mono (by decide)) rfl rfl (ma_cons (me_of (pv 0)) ma_nil)))
    (mss_cons (ms_for PassesOwn.never rfl (mi_range1 rfl T.n_range (ma_cons me_int ma_nil)) (mg_name (i := 2) sc_law.nd rfl (Or.inl rfl)) (mss_cons (ms_par (i := 3) (j := 4) rfl sc_law.nd rfl rfl (by decide) rfl rfl (me_callO O__law_odd (hr.mono (by decide)) rfl rfl (ma_cons (me_of (pv 1)) ma_nil)) (me_callO O__law_odd (hr.mono (by decide)) rfl rfl (ma_cons (me_of (pv 1)) ma_nil)))
    (mss_cons (ms_set (i := 5) sc_law.nd rfl (Or.inl rfl) (me_callO O__law_made (hr.mono (by decide)) rfl rfl (ma_cons (me_of (pv 3)) (ma_cons (me_of (pv 4)) ma_nil))))
    (mss_cons (ms_for PassesOwn.never rfl (mi_range1 rfl T.n_range (ma_cons me_int ma_nil)) (mg_name (i := 6) sc_law.nd rfl (Or.inr rfl)) (mss_cons (ms_if (mt_cmp (op_neU hr.units) neM_ok (me_callO O__law_marks (hr.mono (by decide)) rfl rfl (ma_cons (me_itemD (hu_of hr) (me_of (pv 5)) (me_of (pv 6)) (fun _ _ => rfl)) ma_nil)) (me_lc (own := [("_law_j", 8)]) rfl sc_law.nd (mi_range1 rfl T.n_range (ma_cons me_int ma_nil)) (blkOk_by (N := N_law) (sc := defScope s_law) (by decide +kernel)) (gw_name (i := 8) (by simp)) (fun _ _ _ _ _ => pg_name (i := 8) sc_law.nd rfl (Or.inl rfl)) (fun _ _ _ _ _ => mts_nil) (fun _ _ _ _ _ => (me_cmp (op_eqU hr.units) eqM_ok (me_of (pv 6)) (me_of (pv 8)) (nomark _)))) (nomark _)) (mss_cons (ms_ret me_bl)
    mss_nil) mss_nil)
    (mss_cons (ms_set (i := 7) sc_law.nd rfl (Or.inl rfl) (me_lst (ma_cons (me_cmp op_lt ltM_ok (me_of (pv 6)) me_int (nomark _)) (ma_cons (me_chain op_le leM_ok op_lt ltM_ok me_int (me_of (pv 6)) me_int (nomark _)) (ma_cons (me_chain op_le leM_ok op_lt ltM_ok me_int (me_of (pv 6)) me_int (nomark _)) (ma_cons (me_cmp op_gt gtM_ok (me_of (pv 6)) me_int (nomark _)) ma_nil))))))
    (mss_cons (ms_if (mt_cmp (op_neU hr.units) neM_ok (me_callO O__law_bases (hr.mono (by decide)) rfl rfl (ma_cons (me_itemD (hu_of hr) (me_of (pv 5)) (me_of (pv 6)) (fun _ _ => rfl)) ma_nil)) (me_add (me_of (pv 7)) (me_of (pv 7))) (nomark _)) (mss_cons (ms_ret me_bl)
    mss_nil) mss_nil)
    mss_nil))))
    (mss_cons (ms_if (PW.pt (mw_or (mt_not (mt_val (me_callG O__law_kept rfl (hr.mono (by decide)) rfl rfl (ma_cons (me_of (pv 3)) (ma_cons (me_of (pv 4)) ma_nil))))) (mw_or1 (mt_not (mt_val (me_callG O__law_kept_by_name rfl (hr.mono (by decide)) rfl rfl (ma_cons (me_of (pv 3)) (ma_cons (me_of (pv 4)) ma_nil)))))))) (mss_cons (ms_ret me_bl)
    mss_nil) mss_nil)
    mss_nil)))))
    (mss_cons (ms_ret me_bl)
    mss_nil))), body_go (N := N_law) (n := 1) h⟩
end
end Mi
namespace Mi
open PySem PySem.Spec PyProof.Rows L2
section
variable {cells : List Int} {T : Sto} {a r b cell A : Int} {S : Sto}
def tailS : Env → M (Fl × Env) := (sSeq (sAsg (b2 modM (cal (on1 intM) (aCons (b2 powM (b2 addM (b2 addM (b2 modM (cal (on1 intM) (aCons (vget 4) (fun _ => M.pure []))) (fun _ => M.pure (.int 2147483579))) (b2 mulM (fun _ => M.pure (.int 51407)) (vget 3))) (fun _ => M.pure (.int 61))) (fun _ => M.pure (.int 5))) (fun _ => M.pure []))) (fun _ => M.pure (.int 2147483647))) (gSet 6))
    (sSeq (sAsg (b2 modM (cal (on1 intM) (aCons (b2 powM (b2 addM (b2 addM (b2 mulM (vget 6) (b2 addM (b2 mulM (fun _ => M.pure (.int 2)) (vget 3)) (fun _ => M.pure (.int 19)))) (b2 mulM (b2 mulM (fun _ => M.pure (.int 70223)) (vget 3)) (vget 3))) (fun _ => M.pure (.int 7))) (fun _ => M.pure (.int 3))) (fun _ => M.pure []))) (fun _ => M.pure (.int 2147483629))) (gSet 6))
    (sSeq (sRet (b2 modM (cal (on1 intM) (aCons (b2 fdivM (vget 6) (fun _ => M.pure (.int 32))) (fun _ => M.pure []))) (vget 1)))
    sNil)))
theorem tail_ok {S : Sto} {o2 o5 o6 : Option D} (ha : 0 ≤ a) (hA : a ≤ 100000) (h1 : 0 < b) (h2 : b < 1073741824) :
    Wp (tailS [some (.ref 0), some (.int b), o2, some (.int a), some (.int cell), o5, o6]) S fun r S' => S' = S ∧ ∃ z, r.1 = .rt (.int z) ∧ 0 ≤ z ∧ z < b := by
  have m1 : 0 ≤ cell % 2147483579 ∧ cell % 2147483579 < 2147483579 := ⟨Int.emod_nonneg _ (by decide), Int.emod_lt_of_pos _ (by decide)⟩
  have c1 : CMul 51407 a := cmul1 (by decide) (by decide)
  have c2 : CPow (cell % 2147483579 + 51407 * a + 61) 5 := cpow _ (by omega) (by omega) _ (by decide)
  have c4 : CMul 70223 a := cmul1 (by decide) (by decide)
  have c5 : CMul (70223 * a) a := cmul1 (by omega) (by omega)
  have m2 : ∀ k : Int, 0 ≤ k % 2147483647 ∧ k % 2147483647 < 2147483647 := fun k => ⟨Int.emod_nonneg _ (by decide), Int.emod_lt_of_pos _ (by decide)⟩
  have aa : 0 ≤ 70223 * a * a ∧ 70223 * a * a ≤ 702230000000000 := by
    have e1 : 0 ≤ 70223 * a := by omega
    have e2 : 70223 * a ≤ 7022300000 := by omega
    exact ⟨Int.mul_nonneg e1 ha, Int.le_trans (Int.mul_le_mul e2 hA ha (by decide)) (by decide)⟩
  have ma : ∀ k : Int, 0 ≤ k % 2147483647 * (2 * a + 19) ∧ k % 2147483647 * (2 * a + 19) ≤ 429537531389274 := fun k => by
    have := m2 k
    exact ⟨Int.mul_nonneg this.1 (by omega), Int.le_trans (Int.mul_le_mul (show k % 2147483647 ≤ 2147483646 by omega) (show 2 * a + 19 ≤ 200019 by omega) (by omega) (by decide)) (by decide)⟩
  have c6 : ∀ k : Int, CMul (k % 2147483647) (2 * a + 19) := fun k => cmul1 (by have := m2 k; omega) (by have := m2 k; omega)
  have c7 : ∀ k : Int, CPow (k % 2147483647 * (2 * a + 19) + 70223 * a * a + 7) 3 := fun k => cpow _ (by have := ma k; omega) (by have := ma k; omega) _ (by decide)
  have c8 : ∀ k : Int, CDiv k 32 := fun k => ⟨by decide, by decide⟩
  have c9 : CMul 2 a := cmul1 (by decide) (by decide)
  have d1 : (0 : Int) < 2147483579 := by decide
  have d2 : (0 : Int) < 2147483647 := by decide
  have d3 : (0 : Int) < 2147483629 := by decide
  unfold tailS
  simp only [orV, sDrop, ifV, gPutD, wp_lenDT, sSeq, sIf, sAsg, sRet, sNil, gSet, gPut, tst, b2, b1, cal, on1, aCons, vget, mkL, mkT, calF, andT, orT, notT, andV, notV, wp_bind, wp_pure, wp_if, List.map, List.length, List.replicate, List.append, List.cons_append, List.nil_append, Nat.reduceSub, Nat.reduceAdd, Nat.reduceLeDiff, List.getElem?_cons_zero, List.getElem?_cons_succ, List.set_cons_zero, List.set_cons_succ, wp_int, wp_intb, wp_int20, wp_toB, wp_add, wp_abs, wp_neg, wp_lenL, pen0, pen1, pen2, put1, put2, decide_true, decide_false, if_true, if_false, Bool.false_eq_true, Nat.zero_le, exists_eq_left, and_true, true_and, Bool.not_true, Bool.not_false, reduceCtorEq, reduceIte, dpen0, dpen1, dpen2, dput1, dput2, wp_lenDL, wp_ixLs, wp_mod d1, wp_mod d2, wp_mod d3, wp_mod h1, wp_int2 c1, wp_int2 c2, wp_int2 c4, wp_int2 c5, wp_int2 (c6 _), wp_int2 (c7 _), wp_int2 (c8 _), wp_int2 c9]
  exact ⟨_, rfl, Int.emod_nonneg _ (by omega), Int.emod_lt_of_pos _ h1⟩
theorem draw_eq : b__law_draw = (sSeq (sIf (tst (b2 gtM (b2 ixD (vget 0) (fun _ => M.pure (.int 2))) (fun _ => M.pure (.int 0)))) (sSeq (sAsg (b2 modM (cal (on1 intM) (aCons (b2 ixD (vget 0) (fun _ => M.pure (.int 2))) (fun _ => M.pure []))) (vget 1)) (gSet 2))
    (sSeq (sAsg (b2 fdivM (cal (on1 intM) (aCons (b2 ixD (vget 0) (fun _ => M.pure (.int 2))) (fun _ => M.pure []))) (vget 1)) (gPutD (vget 0) (fun _ => M.pure (.int 2))))
    (sSeq (sRet (vget 2))
    sNil))) sNil)
    (sSeq (sAsg (cal (on1 intM) (aCons (b2 ixD (vget 0) (fun _ => M.pure (.int 1))) (fun _ => M.pure []))) (gSet 3))
    (sSeq (sAsg (b2 addM (vget 3) (fun _ => M.pure (.int 1))) (gPutD (vget 0) (fun _ => M.pure (.int 1))))
    (sSeq (sAsg (b2 addM (b2 mulM (fun _ => M.pure (.int 91193)) (vget 3)) (fun _ => M.pure (.int 377))) (gSet 4))
    (sSeq (sIf (tst (b2 neM (b2 ixD (vget 0) (fun _ => M.pure (.int 0))) (mkL (fun _ => M.pure [])))) (sSeq (sAsg (cal (on1 intM) (aCons (b2 ixD (b2 ixD (vget 0) (fun _ => M.pure (.int 0))) (b2 modM (cal (on1 intM) (aCons (vget 3) (fun _ => M.pure []))) (cal (on1 lenD) (aCons (b2 ixD (vget 0) (fun _ => M.pure (.int 0))) (fun _ => M.pure []))))) (fun _ => M.pure []))) (gSet 4))
    sNil) sNil)
    (sSeq (sIf (andT (tst (b2 ltM (vget 3) (cal (on1 lenD) (aCons (b2 ixD (vget 0) (fun _ => M.pure (.int 0))) (fun _ => M.pure []))))) (tst (b2 geM (cal (on1 absM) (aCons (vget 4) (fun _ => M.pure []))) (b2 powM (fun _ => M.pure (.int 10)) (fun _ => M.pure (.int 18)))))) (sSeq (sAsg (b2 addM (b2 mulM (fun _ => M.pure (.int 2)) (b2 subM (cal (on1 absM) (aCons (vget 4) (fun _ => M.pure []))) (b2 powM (fun _ => M.pure (.int 10)) (fun _ => M.pure (.int 18))))) (cal (on1 intM) (aCons (b2 ltM (vget 4) (fun _ => M.pure (.int 0))) (fun _ => M.pure [])))) (gSet 5))
    (sSeq (sAsg (b2 fdivM (vget 5) (vget 1)) (gPutD (vget 0) (fun _ => M.pure (.int 2))))
    (sSeq (sRet (b2 modM (cal (on1 intM) (aCons (vget 5) (fun _ => M.pure []))) (vget 1)))
    sNil))) sNil)
    tailS)))))) := rfl
theorem draw_ok (hc : cells.length ≤ 63) (hA : A ≤ 100000) (hp : Pen cells T A S) (h1 : 0 < b) (h2 : b < 1073741824) :
    Wp (m__law_draw [.ref 0, .int b]) S fun v S' => ∃ z : Int, v = .int z ∧ 0 ≤ z ∧ z < b ∧ Pen cells T (A + 1) S' := by
  obtain ⟨a, r, ha, haA, rfl⟩ := hp
  unfold m__law_draw
  rw [draw_eq]
  refine wp_run ?_
  have d1 : ∀ k : Int, CDiv k b := fun k => ⟨h1, h2⟩
  have fin : ∀ (r' : Int) (S' : Sto), S' = penS cells a r' T ∨ S' = penS cells (a + 1) r' T → Pen cells T (A + 1) S' := fun r' S' h => by
    rcases h with rfl | rfl
    · exact ⟨a, r', ha, by omega, rfl⟩
    · exact ⟨a + 1, r', by omega, by omega, rfl⟩
  have TL : ∀ {cell : Int} {o2 o5 o6 : Option D}, Wp (tailS [some (.ref 0), some (.int b), o2, some (.int a), some (.int cell), o5, o6]) (penS cells (a + 1) r T) (fun r S' => ∃ d, r.1 = .rt d ∧ ∃ z : Int, d = .int z ∧ 0 ≤ z ∧ z < b ∧ Pen cells T (A + 1) S') := by
    intro cell o2 o5 o6
    refine (tail_ok ha (by omega) h1 h2).mono ?_
    rintro ⟨f, ρ⟩ S' ⟨rfl, z, e, h3, h4⟩
    exact ⟨_, e, z, rfl, h3, h4, fin _ _ (.inr rfl)⟩
  by_cases hr : 0 < r
  · simp only [orV, sDrop, ifV, gPutD, wp_lenDT, sSeq, sIf, sAsg, sRet, sNil, gSet, gPut, tst, b2, b1, cal, on1, aCons, vget, mkL, mkT, calF, andT, orT, notT, andV, notV, wp_bind, wp_pure, wp_if, List.map, List.length, List.replicate, List.append, List.cons_append, List.nil_append, Nat.reduceSub, Nat.reduceAdd, Nat.reduceLeDiff, List.getElem?_cons_zero, List.getElem?_cons_succ, List.set_cons_zero, List.set_cons_succ, wp_int, wp_intb, wp_int20, wp_toB, wp_add, wp_abs, wp_neg, wp_lenL, pen0, pen1, pen2, put1, put2, decide_true, decide_false, if_true, if_false, Bool.false_eq_true, Nat.zero_le, exists_eq_left, and_true, true_and, Bool.not_true, Bool.not_false, reduceCtorEq, reduceIte, dpen0, dpen1, dpen2, dput1, dput2, wp_lenDL, wp_ixLs, wp_mod h1, wp_int2 (d1 _), hr]
    exact ⟨_, rfl, _, rfl, Int.emod_nonneg _ (by omega), Int.emod_lt_of_pos _ h1, fin _ _ (.inl rfl)⟩
  simp only [orV, sDrop, ifV, gPutD, wp_lenDT, sSeq, sIf, sAsg, sRet, sNil, gSet, gPut, tst, b2, b1, cal, on1, aCons, vget, mkL, mkT, calF, andT, orT, notT, andV, notV, wp_bind, wp_pure, wp_if, List.map, List.length, List.replicate, List.append, List.cons_append, List.nil_append, Nat.reduceSub, Nat.reduceAdd, Nat.reduceLeDiff, List.getElem?_cons_zero, List.getElem?_cons_succ, List.set_cons_zero, List.set_cons_succ, wp_int, wp_intb, wp_int20, wp_toB, wp_add, wp_abs, wp_neg, wp_lenL, pen0, pen1, pen2, put1, put2, decide_true, decide_false, if_true, if_false, Bool.false_eq_true, Nat.zero_le, exists_eq_left, and_true, true_and, Bool.not_true, Bool.not_false, reduceCtorEq, reduceIte, dpen0, dpen1, dpen2, dput1, dput2, wp_lenDL, wp_ixLs, hr]
  rw [wp_int2 (cmul1 (by decide) (by decide))]
  rcases Nat.eq_zero_or_pos cells.length with hz | hz
  · cases List.length_eq_zero_iff.1 hz
    have hl : ¬ a < 0 := by omega
    simp only [orV, sDrop, ifV, gPutD, wp_lenDT, sSeq, sIf, sAsg, sRet, sNil, gSet, gPut, tst, b2, b1, cal, on1, aCons, vget, mkL, mkT, calF, andT, orT, notT, andV, notV, wp_bind, wp_pure, wp_if, List.map, List.length, List.replicate, List.append, List.cons_append, List.nil_append, Nat.reduceSub, Nat.reduceAdd, Nat.reduceLeDiff, List.getElem?_cons_zero, List.getElem?_cons_succ, List.set_cons_zero, List.set_cons_succ, wp_int, wp_intb, wp_int20, wp_toB, wp_add, wp_abs, wp_neg, wp_lenL, pen0, pen1, pen2, put1, put2, decide_true, decide_false, if_true, if_false, Bool.false_eq_true, Nat.zero_le, exists_eq_left, and_true, true_and, Bool.not_true, Bool.not_false, reduceCtorEq, reduceIte, dpen0, dpen1, dpen2, dput1, dput2, wp_lenDL, wp_ixLs, wp_neNil0, List.length_nil, Int.ofNat_zero, Int.cast_ofNat_Int, hl]
    exact TL
  · have hl0 : ¬ (cells.map D.int).length = 0 := by rw [List.length_map]; omega
    have hm : 0 ≤ a % (cells.length : Int) ∧ a % (cells.length : Int) < cells.length := ⟨Int.emod_nonneg _ (by omega), Int.emod_lt_of_pos _ (by omega)⟩
    obtain ⟨k, hk⟩ : ∃ k : Nat, a % (cells.length : Int) = k := ⟨(a % (cells.length : Int)).toNat, by omega⟩
    have hk2 : k < cells.length := by omega
    obtain ⟨c, hcell⟩ : ∃ c, (cells.map D.int)[k]? = some (.int c) := ⟨_, map_at hk2⟩
    have hpos : (0 : Int) < (cells.length : Int) := by omega
    simp only [orV, sDrop, ifV, gPutD, wp_lenDT, sSeq, sIf, sAsg, sRet, sNil, gSet, gPut, tst, b2, b1, cal, on1, aCons, vget, mkL, mkT, calF, andT, orT, notT, andV, notV, wp_bind, wp_pure, wp_if, List.map, List.length, List.replicate, List.append, List.cons_append, List.nil_append, Nat.reduceSub, Nat.reduceAdd, Nat.reduceLeDiff, List.getElem?_cons_zero, List.getElem?_cons_succ, List.set_cons_zero, List.set_cons_succ, wp_int, wp_intb, wp_int20, wp_toB, wp_add, wp_abs, wp_neg, wp_lenL, pen0, pen1, pen2, put1, put2, decide_true, decide_false, if_true, if_false, Bool.false_eq_true, Nat.zero_le, exists_eq_left, and_true, true_and, Bool.not_true, Bool.not_false, reduceCtorEq, reduceIte, dpen0, dpen1, dpen2, dput1, dput2, wp_lenDL, wp_ixLs, wp_neNil hl0, List.length_map, wp_mod hpos, hk, wp_ixL hcell]
    by_cases h3 : a < (cells.length : Int)
    · simp only [orV, sDrop, ifV, gPutD, wp_lenDT, sSeq, sIf, sAsg, sRet, sNil, gSet, gPut, tst, b2, b1, cal, on1, aCons, vget, mkL, mkT, calF, andT, orT, notT, andV, notV, wp_bind, wp_pure, wp_if, List.map, List.length, List.replicate, List.append, List.cons_append, List.nil_append, Nat.reduceSub, Nat.reduceAdd, Nat.reduceLeDiff, List.getElem?_cons_zero, List.getElem?_cons_succ, List.set_cons_zero, List.set_cons_succ, wp_int, wp_intb, wp_int20, wp_toB, wp_add, wp_abs, wp_neg, wp_lenL, pen0, pen1, pen2, put1, put2, decide_true, decide_false, if_true, if_false, Bool.false_eq_true, Nat.zero_le, exists_eq_left, and_true, true_and, Bool.not_true, Bool.not_false, reduceCtorEq, reduceIte, dpen0, dpen1, dpen2, dput1, dput2, wp_lenDL, wp_ixLs, h3, wp_int2 cpow18, pow18]
      by_cases h4 : (1000000000000000000 : Int) ≤ (if c < 0 then -c else c)
      · simp only [orV, sDrop, ifV, gPutD, wp_lenDT, sSeq, sIf, sAsg, sRet, sNil, gSet, gPut, tst, b2, b1, cal, on1, aCons, vget, mkL, mkT, calF, andT, orT, notT, andV, notV, wp_bind, wp_pure, wp_if, List.map, List.length, List.replicate, List.append, List.cons_append, List.nil_append, Nat.reduceSub, Nat.reduceAdd, Nat.reduceLeDiff, List.getElem?_cons_zero, List.getElem?_cons_succ, List.set_cons_zero, List.set_cons_succ, wp_int, wp_intb, wp_int20, wp_toB, wp_add, wp_abs, wp_neg, wp_lenL, pen0, pen1, pen2, put1, put2, decide_true, decide_false, if_true, if_false, Bool.false_eq_true, Nat.zero_le, exists_eq_left, and_true, true_and, Bool.not_true, Bool.not_false, reduceCtorEq, reduceIte, dpen0, dpen1, dpen2, dput1, dput2, wp_lenDL, wp_ixLs, h4, wp_int2 cpow18, pow18]
        rw [wp_int2 (cmul1 (by decide) (by decide))]
        simp only [orV, sDrop, ifV, gPutD, wp_lenDT, sSeq, sIf, sAsg, sRet, sNil, gSet, gPut, tst, b2, b1, cal, on1, aCons, vget, mkL, mkT, calF, andT, orT, notT, andV, notV, wp_bind, wp_pure, wp_if, List.map, List.length, List.replicate, List.append, List.cons_append, List.nil_append, Nat.reduceSub, Nat.reduceAdd, Nat.reduceLeDiff, List.getElem?_cons_zero, List.getElem?_cons_succ, List.set_cons_zero, List.set_cons_succ, wp_int, wp_intb, wp_int20, wp_toB, wp_add, wp_abs, wp_neg, wp_lenL, pen0, pen1, pen2, put1, put2, decide_true, decide_false, if_true, if_false, Bool.false_eq_true, Nat.zero_le, exists_eq_left, and_true, true_and, Bool.not_true, Bool.not_false, reduceCtorEq, reduceIte, dpen0, dpen1, dpen2, dput1, dput2, wp_lenDL, wp_ixLs, wp_int2 (d1 _), wp_mod h1]
        exact ⟨_, rfl, _, rfl, Int.emod_nonneg _ (by omega), Int.emod_lt_of_pos _ h1, fin _ _ (.inr rfl)⟩
      · simp only [orV, sDrop, ifV, gPutD, wp_lenDT, sSeq, sIf, sAsg, sRet, sNil, gSet, gPut, tst, b2, b1, cal, on1, aCons, vget, mkL, mkT, calF, andT, orT, notT, andV, notV, wp_bind, wp_pure, wp_if, List.map, List.length, List.replicate, List.append, List.cons_append, List.nil_append, Nat.reduceSub, Nat.reduceAdd, Nat.reduceLeDiff, List.getElem?_cons_zero, List.getElem?_cons_succ, List.set_cons_zero, List.set_cons_succ, wp_int, wp_intb, wp_int20, wp_toB, wp_add, wp_abs, wp_neg, wp_lenL, pen0, pen1, pen2, put1, put2, decide_true, decide_false, if_true, if_false, Bool.false_eq_true, Nat.zero_le, exists_eq_left, and_true, true_and, Bool.not_true, Bool.not_false, reduceCtorEq, reduceIte, dpen0, dpen1, dpen2, dput1, dput2, wp_lenDL, wp_ixLs, h4]
        exact TL
    · simp only [orV, sDrop, ifV, gPutD, wp_lenDT, sSeq, sIf, sAsg, sRet, sNil, gSet, gPut, tst, b2, b1, cal, on1, aCons, vget, mkL, mkT, calF, andT, orT, notT, andV, notV, wp_bind, wp_pure, wp_if, List.map, List.length, List.replicate, List.append, List.cons_append, List.nil_append, Nat.reduceSub, Nat.reduceAdd, Nat.reduceLeDiff, List.getElem?_cons_zero, List.getElem?_cons_succ, List.set_cons_zero, List.set_cons_succ, wp_int, wp_intb, wp_int20, wp_toB, wp_add, wp_abs, wp_neg, wp_lenL, pen0, pen1, pen2, put1, put2, decide_true, decide_false, if_true, if_false, Bool.false_eq_true, Nat.zero_le, exists_eq_left, and_true, true_and, Bool.not_true, Bool.not_false, reduceCtorEq, reduceIte, dpen0, dpen1, dpen2, dput1, dput2, wp_lenDL, wp_ixLs, h3]
      exact TL

theorem pick_ok (P : D → Prop) {ds : List D} (hP : ∀ d ∈ ds, P d) (hn : 0 < ds.length) (hn2 : ds.length < 1000) (hc : cells.length ≤ 63) (hA : A ≤ 100000) (hp : Pen cells T A S) :
    Wp (m__law_pick [.ref 0, .lst ds]) S fun v S' => P v ∧ Pen cells T (A + 1) S' := by
  unfold m__law_pick
  refine wp_run ?_
  unfold b__law_pick
  simp only [orV, sDrop, ifV, gPutD, wp_lenDT, sSeq, sIf, sAsg, sRet, sNil, gSet, gPut, tst, b2, b1, cal, on1, aCons, vget, mkL, mkT, calF, andT, orT, notT, andV, notV, wp_bind, wp_pure, wp_if, List.map, List.length, List.replicate, List.append, List.cons_append, List.nil_append, Nat.reduceSub, Nat.reduceAdd, Nat.reduceLeDiff, List.getElem?_cons_zero, List.getElem?_cons_succ, List.set_cons_zero, List.set_cons_succ, wp_int, wp_intb, wp_int20, wp_toB, wp_add, wp_abs, wp_neg, wp_lenL, pen0, pen1, pen2, put1, put2, decide_true, decide_false, if_true, if_false, Bool.false_eq_true, Nat.zero_le, exists_eq_left, and_true, true_and, Bool.not_true, Bool.not_false, reduceCtorEq, reduceIte, wp_lenDL, wp_ixLs]
  refine (draw_ok hc hA hp (by omega) (by omega)).mono ?_
  rintro v S1 ⟨z, rfl, h0, h1, hp1⟩
  exact wp_pick (P := P) hP h0 h1 fun d hd => ⟨d, rfl, hd, hp1⟩
theorem odd_ok (hc : cells.length ≤ 63) (hA : A ≤ 90000) (hp : Pen cells T A S) : Wp (m__law_odd [.ref 0]) S fun v S' => G0 v ∧ Pen cells T (A + 1) S' := by
  unfold m__law_odd
  refine wp_run ?_
  unfold b__law_odd
  have c59 : CPow 10 59 := by decide
  simp only [orV, sDrop, ifV, gPutD, wp_lenDT, sSeq, sIf, sAsg, sRet, sNil, gSet, gPut, tst, b2, b1, cal, on1, aCons, vget, mkL, mkT, calF, andT, orT, notT, andV, notV, wp_bind, wp_pure, wp_if, List.map, List.length, List.replicate, List.append, List.cons_append, List.nil_append, Nat.reduceSub, Nat.reduceAdd, Nat.reduceLeDiff, List.getElem?_cons_zero, List.getElem?_cons_succ, List.set_cons_zero, List.set_cons_succ, wp_int, wp_intb, wp_int20, wp_toB, wp_add, wp_abs, wp_neg, wp_lenL, pen0, pen1, pen2, put1, put2, decide_true, decide_false, if_true, if_false, Bool.false_eq_true, Nat.zero_le, exists_eq_left, and_true, true_and, Bool.not_true, Bool.not_false, reduceCtorEq, reduceIte, wp_int2 c59, subM, pow59]
  rw [wp_addL (by simp)]
  simp only [orV, sDrop, ifV, gPutD, wp_lenDT, sSeq, sIf, sAsg, sRet, sNil, gSet, gPut, tst, b2, b1, cal, on1, aCons, vget, mkL, mkT, calF, andT, orT, notT, andV, notV, wp_bind, wp_pure, wp_if, List.map, List.length, List.replicate, List.append, List.cons_append, List.nil_append, Nat.reduceSub, Nat.reduceAdd, Nat.reduceLeDiff, List.getElem?_cons_zero, List.getElem?_cons_succ, List.set_cons_zero, List.set_cons_succ, wp_int, wp_intb, wp_int20, wp_toB, wp_add, wp_abs, wp_neg, wp_lenL, pen0, pen1, pen2, put1, put2, decide_true, decide_false, if_true, if_false, Bool.false_eq_true, Nat.zero_le, exists_eq_left, and_true, true_and, Bool.not_true, Bool.not_false, reduceCtorEq, reduceIte]
  rw [wp_addL (by simp)]
  simp only [orV, sDrop, ifV, gPutD, wp_lenDT, sSeq, sIf, sAsg, sRet, sNil, gSet, gPut, tst, b2, b1, cal, on1, aCons, vget, mkL, mkT, calF, andT, orT, notT, andV, notV, wp_bind, wp_pure, wp_if, List.map, List.length, List.replicate, List.append, List.cons_append, List.nil_append, Nat.reduceSub, Nat.reduceAdd, Nat.reduceLeDiff, List.getElem?_cons_zero, List.getElem?_cons_succ, List.set_cons_zero, List.set_cons_succ, wp_int, wp_intb, wp_int20, wp_toB, wp_add, wp_abs, wp_neg, wp_lenL, pen0, pen1, pen2, put1, put2, decide_true, decide_false, if_true, if_false, Bool.false_eq_true, Nat.zero_le, exists_eq_left, and_true, true_and, Bool.not_true, Bool.not_false, reduceCtorEq, reduceIte]
  rw [wp_addL (by simp)]
  simp only [orV, sDrop, ifV, gPutD, wp_lenDT, sSeq, sIf, sAsg, sRet, sNil, gSet, gPut, tst, b2, b1, cal, on1, aCons, vget, mkL, mkT, calF, andT, orT, notT, andV, notV, wp_bind, wp_pure, wp_if, List.map, List.length, List.replicate, List.append, List.cons_append, List.nil_append, Nat.reduceSub, Nat.reduceAdd, Nat.reduceLeDiff, List.getElem?_cons_zero, List.getElem?_cons_succ, List.set_cons_zero, List.set_cons_succ, wp_int, wp_intb, wp_int20, wp_toB, wp_add, wp_abs, wp_neg, wp_lenL, pen0, pen1, pen2, put1, put2, decide_true, decide_false, if_true, if_false, Bool.false_eq_true, Nat.zero_le, exists_eq_left, and_true, true_and, Bool.not_true, Bool.not_false, reduceCtorEq, reduceIte]
  refine (pick_ok G0 (fun d hd => ckG_ok (List.all_eq_true.1 ?_ d hd)) (by simp) (by simp) hc (by omega) hp).mono fun v S' q => by simpa using q
  decide +kernel
end
end Mi
namespace Mi
open PySem PySem.Spec PyProof.Rows L2
def nmX : List Str := [Str.ofString "InvalidKey", Str.ofString "InvalidValue", Str.ofString "InvalidView", Str.ofString "InvalidLoss", Str.ofString "InvalidPages", Str.ofString "InvalidRow", Str.ofString "InvalidText", Str.ofString "Barred", Str.ofString "Unplayed", Str.ofString "TooFew", Str.ofString "UnknownCommand", Str.ofString "NameTaken", Str.ofString "Ended", Str.ofString "Cancelled", Str.ofString "NotOuter", Str.ofString "Strayed", Str.ofString "Busy", Str.ofString "Blocked", Str.ofString "Taken", Str.ofString "Unsettled", Str.ofString "NoKey", Str.ofString "NoName", Str.ofString "NoPage", Str.ofString "NoRow", Str.ofString "NoSlot", Str.ofString "NotDead", Str.ofString "NotPrepared", Str.ofString "NotSpan", Str.ofString "NotCleaning", Str.ofString "NoNumber", Str.ofString "NoTransaction", Str.ofString "Full", Str.ofString "TooDeep", Str.ofString "TooLong"]
def errX (one two : D) : List D := [.exc "InvalidKey" [("value", one)], .exc "InvalidValue" [("value", one)], .exc "InvalidView" [("value", one)], .exc "InvalidLoss" [("value", one)], .exc "InvalidPages" [("value", one)], .exc "InvalidRow" [("index", one)], .exc "InvalidText" [("word", two), ("line", one)], .exc "Barred" [("bar", one)], .exc "Unplayed" [("index", one)], .exc "TooFew" [("least", one)], .exc "UnknownCommand" [], .exc "NameTaken" [("name", one)], .exc "Ended" [], .exc "Cancelled" [], .exc "NotOuter" [], .exc "Strayed" [("index", one)], .exc "Busy" [("number", one)], .exc "Blocked" [("number", one)], .exc "Taken" [("key", one)], .exc "Unsettled" [("number", one)], .exc "NoKey" [("key", one)], .exc "NoName" [("name", one)], .exc "NoPage" [("page", one)], .exc "NoRow" [("index", one)], .exc "NoSlot" [("slot", one)], .exc "NotDead" [("slot", one)], .exc "NotPrepared" [("number", one)], .exc "NotSpan" [("row", one)], .exc "NotCleaning" [("row", one)], .exc "NoNumber" [("number", one)], .exc "NoTransaction" [("number", one)], .exc "Full" [], .exc "TooDeep" [("limit", one)], .exc "TooLong" [("limit", one)]]
def mkIds : List Nat := [4, 5, 6, 7, 8, 9, 10, 11, 12, 13, 14, 15, 16, 17, 18, 19, 20, 21, 22, 23, 24, 25, 26, 27, 28, 29, 30, 31, 32, 33, 34, 35, 36, 37]
def bsIds : List Nat := [0, 1, 2, 3, 100, 101, 102, 103]
def famX (k : Nat) : List Bool := [decide (k < 12), decide (12 ≤ k) && decide (k < 20), decide (20 ≤ k) && decide (k < 31), decide (30 < k)]
def ckX (k : Nat) : Bool := match xtb.lookup (nmX.getD k "") with
  | some l => (mkIds.map fun n => l.contains n) == ((List.range 34).map fun j => decide (k = j)) && (bsIds.map fun n => l.contains n) == famX k ++ famX k
  | none => false
theorem ckX_all : ∀ k, k < 34 → ckX k = true := by decide +kernel
section
variable {S : Sto} {Q : D → Sto → Prop} {one two : D}
theorem xr_InvalidKey_value : Wp (xfM ["InvalidKey", "InvalidValue", "InvalidView", "InvalidLoss", "InvalidPages"] "value" (.exc "InvalidKey" [("value", one)])) S Q ↔ Q one S := wp_of rfl
theorem xr_InvalidValue_value : Wp (xfM ["InvalidKey", "InvalidValue", "InvalidView", "InvalidLoss", "InvalidPages"] "value" (.exc "InvalidValue" [("value", one)])) S Q ↔ Q one S := wp_of rfl
theorem xr_InvalidView_value : Wp (xfM ["InvalidKey", "InvalidValue", "InvalidView", "InvalidLoss", "InvalidPages"] "value" (.exc "InvalidView" [("value", one)])) S Q ↔ Q one S := wp_of rfl
theorem xr_InvalidLoss_value : Wp (xfM ["InvalidKey", "InvalidValue", "InvalidView", "InvalidLoss", "InvalidPages"] "value" (.exc "InvalidLoss" [("value", one)])) S Q ↔ Q one S := wp_of rfl
theorem xr_InvalidPages_value : Wp (xfM ["InvalidKey", "InvalidValue", "InvalidView", "InvalidLoss", "InvalidPages"] "value" (.exc "InvalidPages" [("value", one)])) S Q ↔ Q one S := wp_of rfl
theorem xr_InvalidRow_index : Wp (xfM ["InvalidRow", "Unplayed", "Strayed", "NoRow"] "index" (.exc "InvalidRow" [("index", one)])) S Q ↔ Q one S := wp_of rfl
theorem xr_InvalidText_line : Wp (xfM ["InvalidText"] "line" (.exc "InvalidText" [("word", two), ("line", one)])) S Q ↔ Q one S := wp_of rfl
theorem xr_InvalidText_word : Wp (xfM ["InvalidText"] "word" (.exc "InvalidText" [("word", two), ("line", one)])) S Q ↔ Q two S := wp_of rfl
theorem xr_Barred_bar : Wp (xfM ["Barred"] "bar" (.exc "Barred" [("bar", one)])) S Q ↔ Q one S := wp_of rfl
theorem xr_Unplayed_index : Wp (xfM ["InvalidRow", "Unplayed", "Strayed", "NoRow"] "index" (.exc "Unplayed" [("index", one)])) S Q ↔ Q one S := wp_of rfl
theorem xr_TooFew_least : Wp (xfM ["TooFew"] "least" (.exc "TooFew" [("least", one)])) S Q ↔ Q one S := wp_of rfl
theorem xr_NameTaken_name : Wp (xfM ["NameTaken", "NoName"] "name" (.exc "NameTaken" [("name", one)])) S Q ↔ Q one S := wp_of rfl
theorem xr_Strayed_index : Wp (xfM ["InvalidRow", "Unplayed", "Strayed", "NoRow"] "index" (.exc "Strayed" [("index", one)])) S Q ↔ Q one S := wp_of rfl
theorem xr_Busy_number : Wp (xfM ["Busy", "Blocked", "Unsettled", "NotPrepared", "NoNumber", "NoTransaction"] "number" (.exc "Busy" [("number", one)])) S Q ↔ Q one S := wp_of rfl
theorem xr_Blocked_number : Wp (xfM ["Busy", "Blocked", "Unsettled", "NotPrepared", "NoNumber", "NoTransaction"] "number" (.exc "Blocked" [("number", one)])) S Q ↔ Q one S := wp_of rfl
theorem xr_Taken_key : Wp (xfM ["Taken", "NoKey"] "key" (.exc "Taken" [("key", one)])) S Q ↔ Q one S := wp_of rfl
theorem xr_Unsettled_number : Wp (xfM ["Busy", "Blocked", "Unsettled", "NotPrepared", "NoNumber", "NoTransaction"] "number" (.exc "Unsettled" [("number", one)])) S Q ↔ Q one S := wp_of rfl
theorem xr_NoKey_key : Wp (xfM ["Taken", "NoKey"] "key" (.exc "NoKey" [("key", one)])) S Q ↔ Q one S := wp_of rfl
theorem xr_NoName_name : Wp (xfM ["NameTaken", "NoName"] "name" (.exc "NoName" [("name", one)])) S Q ↔ Q one S := wp_of rfl
theorem xr_NoPage_page : Wp (xfM ["NoPage"] "page" (.exc "NoPage" [("page", one)])) S Q ↔ Q one S := wp_of rfl
theorem xr_NoRow_index : Wp (xfM ["InvalidRow", "Unplayed", "Strayed", "NoRow"] "index" (.exc "NoRow" [("index", one)])) S Q ↔ Q one S := wp_of rfl
theorem xr_NoSlot_slot : Wp (xfM ["NoSlot", "NotDead"] "slot" (.exc "NoSlot" [("slot", one)])) S Q ↔ Q one S := wp_of rfl
theorem xr_NotDead_slot : Wp (xfM ["NoSlot", "NotDead"] "slot" (.exc "NotDead" [("slot", one)])) S Q ↔ Q one S := wp_of rfl
theorem xr_NotPrepared_number : Wp (xfM ["Busy", "Blocked", "Unsettled", "NotPrepared", "NoNumber", "NoTransaction"] "number" (.exc "NotPrepared" [("number", one)])) S Q ↔ Q one S := wp_of rfl
theorem xr_NotSpan_row : Wp (xfM ["NotSpan", "NotCleaning"] "row" (.exc "NotSpan" [("row", one)])) S Q ↔ Q one S := wp_of rfl
theorem xr_NotCleaning_row : Wp (xfM ["NotSpan", "NotCleaning"] "row" (.exc "NotCleaning" [("row", one)])) S Q ↔ Q one S := wp_of rfl
theorem xr_NoNumber_number : Wp (xfM ["Busy", "Blocked", "Unsettled", "NotPrepared", "NoNumber", "NoTransaction"] "number" (.exc "NoNumber" [("number", one)])) S Q ↔ Q one S := wp_of rfl
theorem xr_NoTransaction_number : Wp (xfM ["Busy", "Blocked", "Unsettled", "NotPrepared", "NoNumber", "NoTransaction"] "number" (.exc "NoTransaction" [("number", one)])) S Q ↔ Q one S := wp_of rfl
theorem xr_TooDeep_limit : Wp (xfM ["TooDeep", "TooLong"] "limit" (.exc "TooDeep" [("limit", one)])) S Q ↔ Q one S := wp_of rfl
theorem xr_TooLong_limit : Wp (xfM ["TooDeep", "TooLong"] "limit" (.exc "TooLong" [("limit", one)])) S Q ↔ Q one S := wp_of rfl
theorem xfs1 {f : Str} : xfs [f] [one] = [(f, one)] := rfl
theorem xfs2 {f g : Str} : xfs [f, g] [one, two] = [(g, two), (f, one)] := rfl
theorem prm1 : permL [0] [one] = [one] := rfl
theorem prm2 : permL [1, 0] [one, two] = [two, one] := rfl
theorem made_ok : Wp (m__law_made [one, two]) S Q ↔ Q (.lst (errX one two)) S := wp_of (eq_of_wp (by
  unfold m__law_made
  refine wp_run ?_
  unfold b__law_made
  simp only [orV, sDrop, ifV, gPutD, wp_lenDT, sSeq, sIf, sAsg, sRet, sNil, gSet, gPut, tst, b2, b1, cal, on1, aCons, vget, mkL, mkT, calF, andT, orT, notT, andV, notV, wp_bind, wp_pure, wp_if, List.map, List.length, List.replicate, List.append, List.cons_append, List.nil_append, Nat.reduceSub, Nat.reduceAdd, Nat.reduceLeDiff, List.getElem?_cons_zero, List.getElem?_cons_succ, List.set_cons_zero, List.set_cons_succ, wp_int, wp_intb, wp_int20, wp_toB, wp_add, wp_abs, wp_neg, wp_lenL, pen0, pen1, pen2, put1, put2, decide_true, decide_false, if_true, if_false, Bool.false_eq_true, Nat.zero_le, exists_eq_left, and_true, true_and, Bool.not_true, Bool.not_false, reduceCtorEq, reduceIte, mkX, xfs1, xfs2, wp_addL]
  first | exact ⟨_, rfl, rfl, rfl⟩ | exact ⟨_, rfl, rfl⟩ | rfl))
theorem wp_isx {c : Str} {fs : List (Str × D)} {l : List Nat} {n : Nat} (h : xtb.lookup c = some l) : Wp (isxM xtb n (.exc c fs)) S Q ↔ Q (.bl (l.contains n)) S := wp_of (by
  simp only [isxM, h]
  rfl)
theorem marks_ok {c : Str} {fs : List (Str × D)} {l : List Nat} (h : xtb.lookup c = some l) : Wp (m__law_marks [.exc c fs]) S Q ↔ Q (.lst ((mkIds.map fun n => l.contains n).map D.bl)) S := wp_of (eq_of_wp (by
  unfold m__law_marks
  refine wp_run ?_
  unfold b__law_marks
  simp only [orV, sDrop, ifV, gPutD, wp_lenDT, sSeq, sIf, sAsg, sRet, sNil, gSet, gPut, tst, b2, b1, cal, on1, aCons, vget, mkL, mkT, calF, andT, orT, notT, andV, notV, wp_bind, wp_pure, wp_if, List.map, List.length, List.replicate, List.append, List.cons_append, List.nil_append, Nat.reduceSub, Nat.reduceAdd, Nat.reduceLeDiff, List.getElem?_cons_zero, List.getElem?_cons_succ, List.set_cons_zero, List.set_cons_succ, wp_int, wp_intb, wp_int20, wp_toB, wp_add, wp_abs, wp_neg, wp_lenL, pen0, pen1, pen2, put1, put2, decide_true, decide_false, if_true, if_false, Bool.false_eq_true, Nat.zero_le, exists_eq_left, and_true, true_and, Bool.not_true, Bool.not_false, reduceCtorEq, reduceIte, wp_isx h, wp_addL]
  first | exact ⟨_, rfl, rfl, rfl⟩ | exact ⟨_, rfl, rfl⟩ | rfl))
theorem bases_ok {c : Str} {fs : List (Str × D)} {l : List Nat} (h : xtb.lookup c = some l) : Wp (m__law_bases [.exc c fs]) S Q ↔ Q (.lst ((bsIds.map fun n => l.contains n).map D.bl)) S := wp_of (eq_of_wp (by
  unfold m__law_bases
  refine wp_run ?_
  unfold b__law_bases
  simp only [orV, sDrop, ifV, gPutD, wp_lenDT, sSeq, sIf, sAsg, sRet, sNil, gSet, gPut, tst, b2, b1, cal, on1, aCons, vget, mkL, mkT, calF, andT, orT, notT, andV, notV, wp_bind, wp_pure, wp_if, List.map, List.length, List.replicate, List.append, List.cons_append, List.nil_append, Nat.reduceSub, Nat.reduceAdd, Nat.reduceLeDiff, List.getElem?_cons_zero, List.getElem?_cons_succ, List.set_cons_zero, List.set_cons_succ, wp_int, wp_intb, wp_int20, wp_toB, wp_add, wp_abs, wp_neg, wp_lenL, pen0, pen1, pen2, put1, put2, decide_true, decide_false, if_true, if_false, Bool.false_eq_true, Nat.zero_le, exists_eq_left, and_true, true_and, Bool.not_true, Bool.not_false, reduceCtorEq, reduceIte, wp_isx h, wp_addL]
  first | exact ⟨_, rfl, rfl, rfl⟩ | exact ⟨_, rfl, rfl⟩ | rfl))
theorem g29 (h : G0 one) : GD OB 3 87090 (.lst [one, one, one, one, one, one, one, one, one, one, one, one, one, one, one, one, one, one, one, one, one, one, one, one, one, one, one, one, one]) := by
  refine GD.lst ?_
  have : GL (GD OB 2) ((3000 + 2) * 29 + 3) [one, one, one, one, one, one, one, one, one, one, one, one, one, one, one, one, one, one, one, one, one, one, one, one, one, one, one, one, one] := GL_of (ds := List.replicate 29 one) (w := 3000) fun d hd => by rw [List.eq_of_mem_replicate hd]; exact h
  exact GL.mono (fun _ _ h => h) this (by decide)
theorem rep29 : Wp (repM (.lst [one]) (.int 29)) S Q ↔ Q (.lst [one, one, one, one, one, one, one, one, one, one, one, one, one, one, one, one, one, one, one, one, one, one, one, one, one, one, one, one, one]) S := wp_of rfl
theorem kept_ok (h1 : G0 one) (h2 : G0 two) : Wp (m__law_kept [one, two]) S Q ↔ Q (.bl true) S := wp_of (eq_of_wp (by
  unfold m__law_kept
  refine wp_run ?_
  unfold b__law_kept
  obtain ⟨x, hx, rx⟩ := (g29 h1).repr (by decide +kernel) (by decide) (by decide)
  obtain ⟨y, hy, ry⟩ := GD.repr (h := 2) (w := 3000) h2 (by decide +kernel) (by decide) (by decide)
  simp only [orV, sDrop, ifV, gPutD, wp_lenDT, sSeq, sIf, sAsg, sRet, sNil, gSet, gPut, tst, b2, b1, cal, on1, aCons, vget, mkL, mkT, calF, andT, orT, notT, andV, notV, wp_bind, wp_pure, wp_if, List.map, List.length, List.replicate, List.append, List.cons_append, List.nil_append, Nat.reduceSub, Nat.reduceAdd, Nat.reduceLeDiff, List.getElem?_cons_zero, List.getElem?_cons_succ, List.set_cons_zero, List.set_cons_succ, wp_int, wp_intb, wp_int20, wp_toB, wp_add, wp_abs, wp_neg, wp_lenL, pen0, pen1, pen2, put1, put2, decide_true, decide_false, if_true, if_false, Bool.false_eq_true, Nat.zero_le, exists_eq_left, and_true, true_and, Bool.not_true, Bool.not_false, reduceCtorEq, reduceIte, mkX, xfs1, xfs2, wp_addL, xr_InvalidKey_value, xr_InvalidValue_value, xr_InvalidView_value, xr_InvalidLoss_value, xr_InvalidPages_value, xr_InvalidRow_index, xr_InvalidText_line, xr_InvalidText_word, xr_Barred_bar, xr_Unplayed_index, xr_TooFew_least, xr_NameTaken_name, xr_Strayed_index, xr_Busy_number, xr_Blocked_number, xr_Taken_key, xr_Unsettled_number, xr_NoKey_key, xr_NoName_name, xr_NoPage_page, xr_NoRow_index, xr_NoSlot_slot, xr_NotDead_slot, xr_NotPrepared_number, xr_NotSpan_row, xr_NotCleaning_row, xr_NoNumber_number, xr_NoTransaction_number, xr_TooDeep_limit, xr_TooLong_limit, rep29, rx, ry, eqSS hx hx, eqSS hy hy, beq_self_eq_true]
  first | exact ⟨_, rfl, rfl, rfl⟩ | exact ⟨_, rfl, rfl⟩ | rfl))
theorem named_ok (h1 : G0 one) (h2 : G0 two) : Wp (m__law_kept_by_name [one, two]) S Q ↔ Q (.bl true) S := wp_of (eq_of_wp (by
  unfold m__law_kept_by_name
  refine wp_run ?_
  unfold b__law_kept_by_name
  obtain ⟨x, hx, rx⟩ := (g29 h1).repr (by decide +kernel) (by decide) (by decide)
  obtain ⟨y, hy, ry⟩ := GD.repr (h := 2) (w := 3000) h2 (by decide +kernel) (by decide) (by decide)
  simp only [orV, sDrop, ifV, gPutD, wp_lenDT, sSeq, sIf, sAsg, sRet, sNil, gSet, gPut, tst, b2, b1, cal, on1, aCons, vget, mkL, mkT, calF, andT, orT, notT, andV, notV, wp_bind, wp_pure, wp_if, List.map, List.length, List.replicate, List.append, List.cons_append, List.nil_append, Nat.reduceSub, Nat.reduceAdd, Nat.reduceLeDiff, List.getElem?_cons_zero, List.getElem?_cons_succ, List.set_cons_zero, List.set_cons_succ, wp_int, wp_intb, wp_int20, wp_toB, wp_add, wp_abs, wp_neg, wp_lenL, pen0, pen1, pen2, put1, put2, decide_true, decide_false, if_true, if_false, Bool.false_eq_true, Nat.zero_le, exists_eq_left, and_true, true_and, Bool.not_true, Bool.not_false, reduceCtorEq, reduceIte, mkXK, prm1, prm2, xfs1, xfs2, wp_addL, xr_InvalidKey_value, xr_InvalidValue_value, xr_InvalidView_value, xr_InvalidLoss_value, xr_InvalidPages_value, xr_InvalidRow_index, xr_InvalidText_line, xr_InvalidText_word, xr_Barred_bar, xr_Unplayed_index, xr_TooFew_least, xr_NameTaken_name, xr_Strayed_index, xr_Busy_number, xr_Blocked_number, xr_Taken_key, xr_Unsettled_number, xr_NoKey_key, xr_NoName_name, xr_NoPage_page, xr_NoRow_index, xr_NoSlot_slot, xr_NotDead_slot, xr_NotPrepared_number, xr_NotSpan_row, xr_NotCleaning_row, xr_NoNumber_number, xr_NoTransaction_number, xr_TooDeep_limit, xr_TooLong_limit, rep29, rx, ry, eqSS hx hx, eqSS hy hy, beq_self_eq_true]
  first | exact ⟨_, rfl, rfl, rfl⟩ | exact ⟨_, rfl, rfl⟩ | rfl))
end
end Mi
namespace Mi
open PySem PySem.Spec PyProof.Rows L2
def lwL2 : Env → M (Fl × Env) := (sSeq (sIf (tst (b2 neM (calF 1 m__law_marks (aCons (b2 ixD (vget 5) (vget 6)) (fun _ => M.pure []))) (eLc (len1 rngOf 1 (aCons (fun _ => M.pure (.int 34)) (fun _ => M.pure []))) (gSet 8) (fun _ => M.pure true) (b2 eqM (vget 6) (vget 8)) [8]))) (sSeq (sRet (fun _ => M.pure (.bl false)))
    sNil) sNil)
    (sSeq (sAsg (mkL (aCons (b2 ltM (vget 6) (fun _ => M.pure (.int 12))) (aCons (chn leM ltM (fun _ => M.pure (.int 12)) (vget 6) (fun _ => M.pure (.int 20))) (aCons (chn leM ltM (fun _ => M.pure (.int 20)) (vget 6) (fun _ => M.pure (.int 31))) (aCons (b2 gtM (vget 6) (fun _ => M.pure (.int 30))) (fun _ => M.pure [])))))) (gSet 7))
    (sSeq (sIf (tst (b2 neM (calF 1 m__law_bases (aCons (b2 ixD (vget 5) (vget 6)) (fun _ => M.pure []))) (b2 addM (vget 7) (vget 7)))) (sSeq (sRet (fun _ => M.pure (.bl false)))
    sNil) sNil)
    sNil)))
def lwL1 : Env → M (Fl × Env) := (sSeq (sPar 3 4 (calF 1 m__law_odd (aCons (vget 1) (fun _ => M.pure []))) (calF 1 m__law_odd (aCons (vget 1) (fun _ => M.pure []))))
    (sSeq (sAsg (calF 2 m__law_made (aCons (vget 3) (aCons (vget 4) (fun _ => M.pure [])))) (gSet 5))
    (sSeq (sFor (len1 rngOf 1 (aCons (fun _ => M.pure (.int 34)) (fun _ => M.pure []))) (gSet 6) lwL2)
    (sSeq (sIf (orT (notT (tst (calF 2 m__law_kept (aCons (vget 3) (aCons (vget 4) (fun _ => M.pure [])))))) (notT (tst (calF 2 m__law_kept_by_name (aCons (vget 3) (aCons (vget 4) (fun _ => M.pure []))))))) (sSeq (sRet (fun _ => M.pure (.bl false)))
    sNil) sNil)
    sNil))))
theorem lw_eq : b_law = (sSeq (sAsg (calF 1 m__law_pen (aCons (vget 0) (fun _ => M.pure []))) (gSet 1))
    (sSeq (sFor (len1 rngOf 1 (aCons (fun _ => M.pure (.int 4)) (fun _ => M.pure []))) (gSet 2) lwL1)
    (sSeq (sRet (fun _ => M.pure (.bl true)))
    sNil))) := rfl
theorem eqs_bls (bs : List Bool) : eqs 64 (.lst (bs.map D.bl)) := (eqs_lst (n := 1) fun d hd => by
  obtain ⟨b, _, rfl⟩ := List.mem_map.1 hd
  exact eqs_bl b).mono (by decide)
section
variable {cells : List Int} {T : Sto} {S : Sto} {one two : D} {A : Int}
theorem errX_at : ∀ k, k < 34 → ∃ fs, (errX one two)[k]? = some (.exc (nmX.getD k "") fs) := by
  intro k hk
  match k, hk with
  | 0, _ => exact ⟨_, rfl⟩
  | 1, _ => exact ⟨_, rfl⟩
  | 2, _ => exact ⟨_, rfl⟩
  | 3, _ => exact ⟨_, rfl⟩
  | 4, _ => exact ⟨_, rfl⟩
  | 5, _ => exact ⟨_, rfl⟩
  | 6, _ => exact ⟨_, rfl⟩
  | 7, _ => exact ⟨_, rfl⟩
  | 8, _ => exact ⟨_, rfl⟩
  | 9, _ => exact ⟨_, rfl⟩
  | 10, _ => exact ⟨_, rfl⟩
  | 11, _ => exact ⟨_, rfl⟩
  | 12, _ => exact ⟨_, rfl⟩
  | 13, _ => exact ⟨_, rfl⟩
  | 14, _ => exact ⟨_, rfl⟩
  | 15, _ => exact ⟨_, rfl⟩
  | 16, _ => exact ⟨_, rfl⟩
  | 17, _ => exact ⟨_, rfl⟩
  | 18, _ => exact ⟨_, rfl⟩
  | 19, _ => exact ⟨_, rfl⟩
  | 20, _ => exact ⟨_, rfl⟩
  | 21, _ => exact ⟨_, rfl⟩
  | 22, _ => exact ⟨_, rfl⟩
  | 23, _ => exact ⟨_, rfl⟩
  | 24, _ => exact ⟨_, rfl⟩
  | 25, _ => exact ⟨_, rfl⟩
  | 26, _ => exact ⟨_, rfl⟩
  | 27, _ => exact ⟨_, rfl⟩
  | 28, _ => exact ⟨_, rfl⟩
  | 29, _ => exact ⟨_, rfl⟩
  | 30, _ => exact ⟨_, rfl⟩
  | 31, _ => exact ⟨_, rfl⟩
  | 32, _ => exact ⟨_, rfl⟩
  | 33, _ => exact ⟨_, rfl⟩
  | k + 34, h => omega
theorem comp_ok {o0 o1 o2 o3 o4 o5 o7 o8 : Option D} {k : Nat} {Q : D → Sto → Prop} :
    Wp (eLc (len1 rngOf 1 (aCons (fun _ => M.pure (.int 34)) (fun _ => M.pure []))) (gSet 8) (fun _ => M.pure true) (b2 eqM (vget 6) (vget 8)) [8] [o0, o1, o2, o3, o4, o5, some (.int (k : Int)), o7, o8]) S Q ↔
      Q (.lst (((List.range 34).map fun j => decide (k = j)).map D.bl)) S := wp_of (eq_of_wp (by
  have e : rgD 0 (34 : Int).toNat = (List.range 34).map fun j : Nat => D.int (0 + (j : Int)) := rfl
  have hl : (rgD 0 (34 : Int).toNat).length ≤ 50000 := by rw [rgD_len]; decide
  simp only [orV, sDrop, ifV, gPutD, wp_lenDT, sSeq, sIf, sAsg, sRet, sNil, gSet, gPut, tst, b2, b1, cal, on1, aCons, vget, mkL, mkT, calF, andT, orT, notT, andV, notV, wp_bind, wp_pure, wp_if, List.map, List.length, List.replicate, List.append, List.cons_append, List.nil_append, Nat.reduceSub, Nat.reduceAdd, Nat.reduceLeDiff, List.getElem?_cons_zero, List.getElem?_cons_succ, List.set_cons_zero, List.set_cons_succ, wp_int, wp_intb, wp_int20, wp_toB, wp_add, wp_abs, wp_neg, wp_lenL, pen0, pen1, pen2, put1, put2, decide_true, decide_false, if_true, if_false, Bool.false_eq_true, Nat.zero_le, exists_eq_left, and_true, true_and, Bool.not_true, Bool.not_false, reduceCtorEq, reduceIte, eLc, len1, wp_rng (n := 34) (by decide), hl]
  refine wp_noErr ?_
  rw [e]
  have p := lcGo_pure (t := fun _ => M.pure true) (e := b2 eqM (vget 6) (vget 8)) (i := 8) (ρ := wipeE [8] [o0, o1, o2, o3, o4, o5, some (.int (k : Int)), o7, o8]) (S := S) (fun j : Nat => D.int (0 + (j : Int))) (fun j : Nat => D.bl (decide (k = j))) (fun _ => true) (List.range 34)
    (fun _ _ => rfl) (fun j _ _ => eq_of_wp (by
      show Wp (b2 eqM (vget 6) (vget 8) [o0, o1, o2, o3, o4, o5, some (.int (k : Int)), o7, some (.int (0 + (j : Int)))]) S _
      simp only [orV, sDrop, ifV, gPutD, wp_lenDT, sSeq, sIf, sAsg, sRet, sNil, gSet, gPut, tst, b2, b1, cal, on1, aCons, vget, mkL, mkT, calF, andT, orT, notT, andV, notV, wp_bind, wp_pure, wp_if, List.map, List.length, List.replicate, List.append, List.cons_append, List.nil_append, Nat.reduceSub, Nat.reduceAdd, Nat.reduceLeDiff, List.getElem?_cons_zero, List.getElem?_cons_succ, List.set_cons_zero, List.set_cons_succ, wp_int, wp_intb, wp_int20, wp_toB, wp_add, wp_abs, wp_neg, wp_lenL, pen0, pen1, pen2, put1, put2, decide_true, decide_false, if_true, if_false, Bool.false_eq_true, Nat.zero_le, exists_eq_left, and_true, true_and, Bool.not_true, Bool.not_false, reduceCtorEq, reduceIte, wp_eqI]
      by_cases h : k = j
      · subst h; simp
      · have : ¬ ((k : Int) = (j : Int)) := by omega
        simp [h, this]))
  refine (wp_of p).2 ?_
  rw [List.filter_eq_self.2 (fun _ _ => rfl), List.map_map]
  exact ⟨rfl, rfl⟩))
theorem chn_ok {k lo hi : Int} {o0 o1 o2 o3 o4 o5 o7 o8 : Option D} {Q : D → Sto → Prop} : Wp (chn leM ltM (fun _ => M.pure (.int lo)) (vget 6) (fun _ => M.pure (.int hi)) [o0, o1, o2, o3, o4, o5, some (.int k), o7, o8]) S Q ↔ Q (.bl (decide (lo ≤ k) && decide (k < hi))) S := wp_of (eq_of_wp (by
  simp only [orV, sDrop, ifV, gPutD, wp_lenDT, sSeq, sIf, sAsg, sRet, sNil, gSet, gPut, tst, b2, b1, cal, on1, aCons, vget, mkL, mkT, calF, andT, orT, notT, andV, notV, wp_bind, wp_pure, wp_if, List.map, List.length, List.replicate, List.append, List.cons_append, List.nil_append, Nat.reduceSub, Nat.reduceAdd, Nat.reduceLeDiff, List.getElem?_cons_zero, List.getElem?_cons_succ, List.set_cons_zero, List.set_cons_succ, wp_int, wp_intb, wp_int20, wp_toB, wp_add, wp_abs, wp_neg, wp_lenL, pen0, pen1, pen2, put1, put2, decide_true, decide_false, if_true, if_false, Bool.false_eq_true, Nat.zero_le, exists_eq_left, and_true, true_and, Bool.not_true, Bool.not_false, reduceCtorEq, reduceIte, chn]
  by_cases h : lo ≤ k <;> simp only [orV, sDrop, ifV, gPutD, wp_lenDT, sSeq, sIf, sAsg, sRet, sNil, gSet, gPut, tst, b2, b1, cal, on1, aCons, vget, mkL, mkT, calF, andT, orT, notT, andV, notV, wp_bind, wp_pure, wp_if, List.map, List.length, List.replicate, List.append, List.cons_append, List.nil_append, Nat.reduceSub, Nat.reduceAdd, Nat.reduceLeDiff, List.getElem?_cons_zero, List.getElem?_cons_succ, List.set_cons_zero, List.set_cons_succ, wp_int, wp_intb, wp_int20, wp_toB, wp_add, wp_abs, wp_neg, wp_lenL, pen0, pen1, pen2, put1, put2, decide_true, decide_false, if_true, if_false, Bool.false_eq_true, Nat.zero_le, exists_eq_left, and_true, true_and, Bool.not_true, Bool.not_false, reduceCtorEq, reduceIte, h] <;> simp))
theorem fam_eq {k : Nat} : [D.bl (decide ((k : Int) < 12)), D.bl (decide ((12 : Int) ≤ k) && decide ((k : Int) < 20)), D.bl (decide ((20 : Int) ≤ k) && decide ((k : Int) < 31)), D.bl (decide ((30 : Int) < k))] = (famX k).map D.bl := by
  have a1 : decide ((k : Int) < 12) = decide (k < 12) := by congr 1; apply propext; omega
  have a2 : decide ((12 : Int) ≤ k) = decide (12 ≤ k) := by congr 1; apply propext; omega
  have a3 : decide ((k : Int) < 20) = decide (k < 20) := by congr 1; apply propext; omega
  have a4 : decide ((20 : Int) ≤ k) = decide (20 ≤ k) := by congr 1; apply propext; omega
  have a5 : decide ((k : Int) < 31) = decide (k < 31) := by congr 1; apply propext; omega
  have a6 : decide ((30 : Int) < k) = decide (30 < k) := by congr 1; apply propext; omega
  rw [a1, a2, a3, a4, a5, a6]
  rfl
theorem step_ok {o0 o1 o2 o7 o8 : Option D} {k : Nat} (hk : k < 34) :
    Wp (lwL2 [o0, o1, o2, some one, some two, some (.lst (errX one two)), some (.int (k : Int)), o7, o8]) S fun r S' => (r.1 = .nx ∨ r.1 = .ct) ∧ S' = S ∧ ∃ a b c, r.2 = [o0, o1, o2, some one, some two, some (.lst (errX one two)), a, b, c] := by
  obtain ⟨fs, hf⟩ := errX_at (one := one) (two := two) k hk
  have ck := ckX_all k hk
  unfold ckX at ck
  split at ck
  · rename_i l hl
    rw [Bool.and_eq_true, beq_iff_eq, beq_iff_eq] at ck
    unfold lwL2
    have ix : ∀ {Q : D → Sto → Prop}, Wp (ixD (.lst (errX one two)) (.int (k : Int))) S Q ↔ Q (.exc (nmX.getD k "") fs) S := fun {Q} => wp_ixLs.trans (wp_ixL hf)
    simp only [orV, sDrop, ifV, gPutD, wp_lenDT, sSeq, sIf, sAsg, sRet, sNil, gSet, gPut, tst, b2, b1, cal, on1, aCons, vget, mkL, mkT, calF, andT, orT, notT, andV, notV, wp_bind, wp_pure, wp_if, List.map, List.length, List.replicate, List.append, List.cons_append, List.nil_append, Nat.reduceSub, Nat.reduceAdd, Nat.reduceLeDiff, List.getElem?_cons_zero, List.getElem?_cons_succ, List.set_cons_zero, List.set_cons_succ, wp_int, wp_intb, wp_int20, wp_toB, wp_add, wp_abs, wp_neg, wp_lenL, pen0, pen1, pen2, put1, put2, decide_true, decide_false, if_true, if_false, Bool.false_eq_true, Nat.zero_le, exists_eq_left, and_true, true_and, Bool.not_true, Bool.not_false, reduceCtorEq, reduceIte, calF, ix, marks_ok hl, ck.1]
    rw [comp_ok]
    simp only [orV, sDrop, ifV, gPutD, wp_lenDT, sSeq, sIf, sAsg, sRet, sNil, gSet, gPut, tst, b2, b1, cal, on1, aCons, vget, mkL, mkT, calF, andT, orT, notT, andV, notV, wp_bind, wp_pure, wp_if, List.map, List.length, List.replicate, List.append, List.cons_append, List.nil_append, Nat.reduceSub, Nat.reduceAdd, Nat.reduceLeDiff, List.getElem?_cons_zero, List.getElem?_cons_succ, List.set_cons_zero, List.set_cons_succ, wp_int, wp_intb, wp_int20, wp_toB, wp_add, wp_abs, wp_neg, wp_lenL, pen0, pen1, pen2, put1, put2, decide_true, decide_false, if_true, if_false, Bool.false_eq_true, Nat.zero_le, exists_eq_left, and_true, true_and, Bool.not_true, Bool.not_false, reduceCtorEq, reduceIte, ne_self (eqs_bls _), chn_ok, fam_eq]
    have ad : ∀ {Q : D → Sto → Prop}, Wp (addM (.lst ((famX k).map D.bl)) (.lst ((famX k).map D.bl))) S Q ↔ Q (.lst ((famX k ++ famX k).map D.bl)) S := fun {Q} => by
      rw [List.map_append]
      exact wp_addL (by simp [famX])
    simp only [orV, sDrop, ifV, gPutD, wp_lenDT, sSeq, sIf, sAsg, sRet, sNil, gSet, gPut, tst, b2, b1, cal, on1, aCons, vget, mkL, mkT, calF, andT, orT, notT, andV, notV, wp_bind, wp_pure, wp_if, List.map, List.length, List.replicate, List.append, List.cons_append, List.nil_append, Nat.reduceSub, Nat.reduceAdd, Nat.reduceLeDiff, List.getElem?_cons_zero, List.getElem?_cons_succ, List.set_cons_zero, List.set_cons_succ, wp_int, wp_intb, wp_int20, wp_toB, wp_add, wp_abs, wp_neg, wp_lenL, pen0, pen1, pen2, put1, put2, decide_true, decide_false, if_true, if_false, Bool.false_eq_true, Nat.zero_le, exists_eq_left, and_true, true_and, Bool.not_true, Bool.not_false, reduceCtorEq, reduceIte, calF, ix, bases_ok hl, ck.2, ad, ne_self (eqs_bls _)]
    first | exact ⟨.inl rfl, rfl, _, _, _, rfl⟩ | exact ⟨.inl trivial, _, _, _, rfl⟩ | exact ⟨_, _, _, rfl⟩
  · cases ck
theorem inner_ok {o0 o1 o2 o6 o7 o8 : Option D} : Wp (loop (gSet 6) lwL2 (rgD 0 34) [o0, o1, o2, some one, some two, some (.lst (errX one two)), o6, o7, o8]) S fun r S' => r.1 = .nx ∧ S' = S ∧ ∃ a b c, r.2 = [o0, o1, o2, some one, some two, some (.lst (errX one two)), a, b, c] := by
  refine wp_loop0 (fun _ ρ S' => S' = S ∧ ∃ a b c, ρ = [o0, o1, o2, some one, some two, some (.lst (errX one two)), a, b, c]) ⟨rfl, _, _, _, rfl⟩ ?_
  rintro k x ρ S1 hx ⟨rfl, a, b, c, rfl⟩
  obtain ⟨hk, rfl⟩ := rgD_at hx
  refine wp_pure.2 ?_
  have e : (0 : Int) + (k : Int) = (k : Int) := by omega
  rw [e]
  exact step_ok hk
theorem outer_ok (hc : cells.length ≤ 63) {o0 o2 o3 o4 o5 o6 o7 o8 : Option D} (hA : A ≤ 80000) (hp : Pen cells T A S) :
    Wp (lwL1 [o0, some (.ref 0), o2, o3, o4, o5, o6, o7, o8]) S fun r S' => (r.1 = .nx ∨ r.1 = .ct) ∧ Pen cells T (A + 2) S' ∧ ∃ a b c d e f, r.2 = [o0, some (.ref 0), o2, a, b, c, d, e, f] := by
  unfold lwL1
  simp only [orV, sDrop, ifV, gPutD, wp_lenDT, sSeq, sIf, sAsg, sRet, sNil, gSet, gPut, tst, b2, b1, cal, on1, aCons, vget, mkL, mkT, calF, andT, orT, notT, andV, notV, wp_bind, wp_pure, wp_if, List.map, List.length, List.replicate, List.append, List.cons_append, List.nil_append, Nat.reduceSub, Nat.reduceAdd, Nat.reduceLeDiff, List.getElem?_cons_zero, List.getElem?_cons_succ, List.set_cons_zero, List.set_cons_succ, wp_int, wp_intb, wp_int20, wp_toB, wp_add, wp_abs, wp_neg, wp_lenL, pen0, pen1, pen2, put1, put2, decide_true, decide_false, if_true, if_false, Bool.false_eq_true, Nat.zero_le, exists_eq_left, and_true, true_and, Bool.not_true, Bool.not_false, reduceCtorEq, reduceIte, sPar]
  refine (odd_ok hc (by omega) hp).mono ?_
  rintro one S1 ⟨g1, hp1⟩
  try simp only [orV, sDrop, ifV, gPutD, wp_lenDT, sSeq, sIf, sAsg, sRet, sNil, gSet, gPut, tst, b2, b1, cal, on1, aCons, vget, mkL, mkT, calF, andT, orT, notT, andV, notV, wp_bind, wp_pure, wp_if, List.map, List.length, List.replicate, List.append, List.cons_append, List.nil_append, Nat.reduceSub, Nat.reduceAdd, Nat.reduceLeDiff, List.getElem?_cons_zero, List.getElem?_cons_succ, List.set_cons_zero, List.set_cons_succ, wp_int, wp_intb, wp_int20, wp_toB, wp_add, wp_abs, wp_neg, wp_lenL, pen0, pen1, pen2, put1, put2, decide_true, decide_false, if_true, if_false, Bool.false_eq_true, Nat.zero_le, exists_eq_left, and_true, true_and, Bool.not_true, Bool.not_false, reduceCtorEq, reduceIte]
  refine (odd_ok hc (by omega) hp1).mono ?_
  rintro two S2 ⟨g2, hp2⟩
  simp only [orV, sDrop, ifV, gPutD, wp_lenDT, sSeq, sIf, sAsg, sRet, sNil, gSet, gPut, tst, b2, b1, cal, on1, aCons, vget, mkL, mkT, calF, andT, orT, notT, andV, notV, wp_bind, wp_pure, wp_if, List.map, List.length, List.replicate, List.append, List.cons_append, List.nil_append, Nat.reduceSub, Nat.reduceAdd, Nat.reduceLeDiff, List.getElem?_cons_zero, List.getElem?_cons_succ, List.set_cons_zero, List.set_cons_succ, wp_int, wp_intb, wp_int20, wp_toB, wp_add, wp_abs, wp_neg, wp_lenL, pen0, pen1, pen2, put1, put2, decide_true, decide_false, if_true, if_false, Bool.false_eq_true, Nat.zero_le, exists_eq_left, and_true, true_and, Bool.not_true, Bool.not_false, reduceCtorEq, reduceIte, made_ok, sFor, len1, wp_rng (n := 34) (by decide)]
  refine inner_ok.mono ?_
  rintro ⟨fl, ρ⟩ S3 ⟨e1, rfl, a, b, c, e2⟩
  cases (show fl = .nx from e1)
  cases (show ρ = _ from e2)
  simp only [orV, sDrop, ifV, gPutD, wp_lenDT, sSeq, sIf, sAsg, sRet, sNil, gSet, gPut, tst, b2, b1, cal, on1, aCons, vget, mkL, mkT, calF, andT, orT, notT, andV, notV, wp_bind, wp_pure, wp_if, List.map, List.length, List.replicate, List.append, List.cons_append, List.nil_append, Nat.reduceSub, Nat.reduceAdd, Nat.reduceLeDiff, List.getElem?_cons_zero, List.getElem?_cons_succ, List.set_cons_zero, List.set_cons_succ, wp_int, wp_intb, wp_int20, wp_toB, wp_add, wp_abs, wp_neg, wp_lenL, pen0, pen1, pen2, put1, put2, decide_true, decide_false, if_true, if_false, Bool.false_eq_true, Nat.zero_le, exists_eq_left, and_true, true_and, Bool.not_true, Bool.not_false, reduceCtorEq, reduceIte, kept_ok g1 g2, named_ok g1 g2]
  have hp3 : Pen cells T (A + 2) S3 := hp2.mono (by omega)
  first | exact ⟨.inl rfl, hp3, _, _, _, _, _, _, rfl⟩ | exact ⟨.inl trivial, hp3, _, _, _, _, _, _, rfl⟩ | exact ⟨hp3, _, _, _, _, _, _, rfl⟩
end
theorem pen_ok (ns : List Int) (hl : ns.length ≤ 63) : ∃ cells : List Int, cells.length ≤ 63 ∧ ∀ {Q : D → Sto → Prop}, Wp (m__law_pen [.lsr (ns.map D.int)]) [] Q ↔ Q (.ref 0) (penS cells 0 0 []) := by
  have hc : ∀ lo hi : Option Int, ∃ cells : List Int, cells.length ≤ ns.length ∧ cutD (ns.map D.int) lo hi = cells.map D.int := fun lo hi => by
    unfold cutD
    rw [← List.map_drop, ← List.map_take]
    exact ⟨_, by simp; omega, rfl⟩
  obtain ⟨cells, h1, h2⟩ := hc none (some 63)
  refine ⟨cells, by omega, ?_⟩
  intro Q
  refine wp_of (eq_of_wp ?_)
  unfold m__law_pen
  refine wp_run ?_
  unfold b__law_pen
  have e1 : ∀ {S : Sto} {Q : D → Sto → Prop}, Wp (slcM none (some 63) (.lsr (ns.map D.int))) S Q ↔ Q (.lst (cells.map D.int)) S := wp_of (by
    simp only [slcM, asR, h2])
  have e2 : ∀ {S : Sto} {ds : List D} {Q : D → Sto → Prop}, Wp (listM (.lst ds)) S Q ↔ Q (.lst ds) S := wp_of rfl
  have e3 : ∀ {ds : List D} {Q : D → Sto → Prop}, Wp (newL ds) [] Q ↔ Q (.ref 0) [.lst ds] := wp_of rfl
  simp only [orV, sDrop, ifV, gPutD, wp_lenDT, sSeq, sIf, sAsg, sRet, sNil, gSet, gPut, tst, b2, b1, cal, on1, aCons, vget, mkL, mkT, calF, andT, orT, notT, andV, notV, wp_bind, wp_pure, wp_if, List.map, List.length, List.replicate, List.append, List.cons_append, List.nil_append, Nat.reduceSub, Nat.reduceAdd, Nat.reduceLeDiff, List.getElem?_cons_zero, List.getElem?_cons_succ, List.set_cons_zero, List.set_cons_succ, wp_int, wp_intb, wp_int20, wp_toB, wp_add, wp_abs, wp_neg, wp_lenL, pen0, pen1, pen2, put1, put2, decide_true, decide_false, if_true, if_false, Bool.false_eq_true, Nat.zero_le, exists_eq_left, and_true, true_and, Bool.not_true, Bool.not_false, reduceCtorEq, reduceIte, slc, parts, optI, e1, e2, mkC, e3]
  exact ⟨_, rfl, rfl, rfl⟩
theorem math (ns : List Int) (hl : ns.length ≤ 63) : ∃ S, m_law [.lsr (ns.map D.int)] [] = some (.ok (.bl true), S) := by
  have h : Wp (m_law [.lsr (ns.map D.int)]) [] fun v S' => v = .bl true := by
    unfold m_law
    refine wp_run ?_
    rw [lw_eq]
    obtain ⟨cells, hc, hp⟩ := pen_ok ns hl
    simp only [orV, sDrop, ifV, gPutD, wp_lenDT, sSeq, sIf, sAsg, sRet, sNil, gSet, gPut, tst, b2, b1, cal, on1, aCons, vget, mkL, mkT, calF, andT, orT, notT, andV, notV, wp_bind, wp_pure, wp_if, List.map, List.length, List.replicate, List.append, List.cons_append, List.nil_append, Nat.reduceSub, Nat.reduceAdd, Nat.reduceLeDiff, List.getElem?_cons_zero, List.getElem?_cons_succ, List.set_cons_zero, List.set_cons_succ, wp_int, wp_intb, wp_int20, wp_toB, wp_add, wp_abs, wp_neg, wp_lenL, pen0, pen1, pen2, put1, put2, decide_true, decide_false, if_true, if_false, Bool.false_eq_true, Nat.zero_le, exists_eq_left, and_true, true_and, Bool.not_true, Bool.not_false, reduceCtorEq, reduceIte, hp, sFor, len1]
    rw [wp_rng (by decide)]
    refine (wp_loop0 (fun k ρ S' => Pen cells [] (2 * (k : Int)) S' ∧ ∃ a b c d e f g, ρ = [some (.lsr (ns.map D.int)), some (.ref 0), g, a, b, c, d, e, f]) ⟨⟨0, 0, Int.le_refl _, Int.le_refl _, rfl⟩, _, _, _, _, _, _, _, rfl⟩ ?_).mono ?_
    · rintro k x ρ S1 hx ⟨hp1, a, b, c, d, e, f, g, rfl⟩
      obtain ⟨hk, rfl⟩ := rgD_at hx
      have hk : k < 4 := hk
      refine wp_pure.2 ((outer_ok hc (by omega) hp1).mono ?_)
      rintro ⟨fl, ρ⟩ S2 ⟨e1, hp2, a, b, c, d, e, f, rfl⟩
      exact ⟨e1, hp2.mono (by omega), _, _, _, _, _, _, _, rfl⟩
    · rintro ⟨fl, ρ⟩ S' ⟨h1, _⟩
      have h1 : fl = .nx := h1
      subst h1
      simp only [orV, sDrop, ifV, gPutD, wp_lenDT, sSeq, sIf, sAsg, sRet, sNil, gSet, gPut, tst, b2, b1, cal, on1, aCons, vget, mkL, mkT, calF, andT, orT, notT, andV, notV, wp_bind, wp_pure, wp_if, List.map, List.length, List.replicate, List.append, List.cons_append, List.nil_append, Nat.reduceSub, Nat.reduceAdd, Nat.reduceLeDiff, List.getElem?_cons_zero, List.getElem?_cons_succ, List.set_cons_zero, List.set_cons_succ, wp_int, wp_intb, wp_int20, wp_toB, wp_add, wp_abs, wp_neg, wp_lenL, pen0, pen1, pen2, put1, put2, decide_true, decide_false, if_true, if_false, Bool.false_eq_true, Nat.zero_le, exists_eq_left, and_true, true_and, Bool.not_true, Bool.not_false, reduceCtorEq, reduceIte]
      exact ⟨_, rfl, rfl⟩
  obtain ⟨x, S', e, rfl⟩ := h
  exact ⟨S', e⟩
end Mi
namespace Mi
open PySem PySem.Spec PyProof.Rows L2
theorem fin {l : PySem.W.OpenLaw} {w : World} {K : PySem.W.Frag} {h : Heap} {mg : Str → Option Value} (X : K.In h) (G : h.Ns mainGlobals mg) {C_HoldError : Addr} {C_TurnError : Addr} {C_AbsentError : Addr} {C_SizeError : Addr} {C_InvalidKey : Addr} {C_InvalidValue : Addr} {C_InvalidView : Addr} {C_InvalidLoss : Addr} {C_InvalidPages : Addr} {C_InvalidRow : Addr} {C_InvalidText : Addr} {C_Barred : Addr} {C_Unplayed : Addr} {C_TooFew : Addr} {C_UnknownCommand : Addr} {C_NameTaken : Addr} {C_Ended : Addr} {C_Cancelled : Addr} {C_NotOuter : Addr} {C_Strayed : Addr} {C_Busy : Addr} {C_Blocked : Addr} {C_Taken : Addr} {C_Unsettled : Addr} {C_NoKey : Addr} {C_NoName : Addr} {C_NoPage : Addr} {C_NoRow : Addr} {C_NoSlot : Addr} {C_NotDead : Addr} {C_NotPrepared : Addr} {C_NotSpan : Addr} {C_NotCleaning : Addr} {C_NoNumber : Addr} {C_NoTransaction : Addr} {C_Full : Addr} {C_TooDeep : Addr} {C_TooLong : Addr} {f0 : Addr} {od0 an0 : Option Addr} {sl0 : Array (Option Value)} {oc0 kV0 dc0 pm0 cd0 ct0 : Value} {f1 : Addr} {od1 an1 : Option Addr} {sl1 : Array (Option Value)} {oc1 kV1 dc1 pm1 cd1 ct1 : Value} {f2 : Addr} {od2 an2 : Option Addr} {sl2 : Array (Option Value)} {oc2 kV2 dc2 pm2 cd2 ct2 : Value} {f3 : Addr} {od3 an3 : Option Addr} {sl3 : Array (Option Value)} {oc3 kV3 dc3 pm3 cd3 ct3 : Value} {f4 : Addr} {od4 an4 : Option Addr} {sl4 : Array (Option Value)} {oc4 kV4 dc4 pm4 cd4 ct4 : Value} {f5 : Addr} {od5 an5 : Option Addr} {sl5 : Array (Option Value)} {oc5 kV5 dc5 pm5 cd5 ct5 : Value} {f6 : Addr} {od6 an6 : Option Addr} {sl6 : Array (Option Value)} {oc6 kV6 dc6 pm6 cd6 ct6 : Value} {f7 : Addr} {od7 an7 : Option Addr} {sl7 : Array (Option Value)} {oc7 kV7 dc7 pm7 cd7 ct7 : Value} {f8 : Addr} {od8 an8 : Option Addr} {sl8 : Array (Option Value)} {oc8 kV8 dc8 pm8 cd8 ct8 : Value} {f9 : Addr} {od9 an9 : Option Addr} {sl9 : Array (Option Value)} {oc9 kV9 dc9 pm9 cd9 ct9 : Value} {f10 : Addr} {od10 an10 : Option Addr} {sl10 : Array (Option Value)} {oc10 kV10 dc10 pm10 cd10 ct10 : Value} {f11 : Addr} {od11 an11 : Option Addr} {sl11 : Array (Option Value)} {oc11 kV11 dc11 pm11 cd11 ct11 : Value} {f12 : Addr} {od12 an12 : Option Addr} {sl12 : Array (Option Value)} {oc12 kV12 dc12 pm12 cd12 ct12 : Value} {f13 : Addr} {od13 an13 : Option Addr} {sl13 : Array (Option Value)} {oc13 kV13 dc13 pm13 cd13 ct13 : Value} {f14 : Addr} {od14 an14 : Option Addr} {sl14 : Array (Option Value)} {oc14 kV14 dc14 pm14 cd14 ct14 : Value} {f15 : Addr} {od15 an15 : Option Addr} {sl15 : Array (Option Value)} {oc15 kV15 dc15 pm15 cd15 ct15 : Value} {f16 : Addr} {od16 an16 : Option Addr} {sl16 : Array (Option Value)} {oc16 kV16 dc16 pm16 cd16 ct16 : Value} {f17 : Addr} {od17 an17 : Option Addr} {sl17 : Array (Option Value)} {oc17 kV17 dc17 pm17 cd17 ct17 : Value} {f18 : Addr} {od18 an18 : Option Addr} {sl18 : Array (Option Value)} {oc18 kV18 dc18 pm18 cd18 ct18 : Value} {f19 : Addr} {od19 an19 : Option Addr} {sl19 : Array (Option Value)} {oc19 kV19 dc19 pm19 cd19 ct19 : Value} {f20 : Addr} {od20 an20 : Option Addr} {sl20 : Array (Option Value)} {oc20 kV20 dc20 pm20 cd20 ct20 : Value} {f21 : Addr} {od21 an21 : Option Addr} {sl21 : Array (Option Value)} {oc21 kV21 dc21 pm21 cd21 ct21 : Value} {f22 : Addr} {od22 an22 : Option Addr} {sl22 : Array (Option Value)} {oc22 kV22 dc22 pm22 cd22 ct22 : Value} {f23 : Addr} {od23 an23 : Option Addr} {sl23 : Array (Option Value)} {oc23 kV23 dc23 pm23 cd23 ct23 : Value} {f24 : Addr} {od24 an24 : Option Addr} {sl24 : Array (Option Value)} {oc24 kV24 dc24 pm24 cd24 ct24 : Value} {f25 : Addr} {od25 an25 : Option Addr} {sl25 : Array (Option Value)} {oc25 kV25 dc25 pm25 cd25 ct25 : Value} {f26 : Addr} {od26 an26 : Option Addr} {sl26 : Array (Option Value)} {oc26 kV26 dc26 pm26 cd26 ct26 : Value} {f27 : Addr} {od27 an27 : Option Addr} {sl27 : Array (Option Value)} {oc27 kV27 dc27 pm27 cd27 ct27 : Value} {f28 : Addr} {od28 an28 : Option Addr} {sl28 : Array (Option Value)} {oc28 kV28 dc28 pm28 cd28 ct28 : Value} {f29 : Addr} {od29 an29 : Option Addr} {sl29 : Array (Option Value)} {oc29 kV29 dc29 pm29 cd29 ct29 : Value} {f30 : Addr} {od30 an30 : Option Addr} {sl30 : Array (Option Value)} {oc30 kV30 dc30 pm30 cd30 ct30 : Value} {f31 : Addr} {od31 an31 : Option Addr} {sl31 : Array (Option Value)} {oc31 kV31 dc31 pm31 cd31 ct31 : Value} {f32 : Addr} {od32 an32 : Option Addr} {sl32 : Array (Option Value)} {oc32 kV32 dc32 pm32 cd32 ct32 : Value} {f33 : Addr} {od33 an33 : Option Addr} {sl33 : Array (Option Value)} {oc33 kV33 dc33 pm33 cd33 ct33 : Value} {f34 : Addr} {od34 an34 : Option Addr} {sl34 : Array (Option Value)} {oc34 kV34 dc34 pm34 cd34 ct34 : Value} {f35 : Addr} {od35 an35 : Option Addr} {sl35 : Array (Option Value)} {oc35 kV35 dc35 pm35 cd35 ct35 : Value} {f36 : Addr} {od36 an36 : Option Addr} {sl36 : Array (Option Value)} {oc36 kV36 dc36 pm36 cd36 ct36 : Value} {f37 : Addr} {od37 an37 : Option Addr} {sl37 : Array (Option Value)} {oc37 kV37 dc37 pm37 cd37 ct37 : Value} {f38 : Addr} {od38 an38 : Option Addr} {sl38 : Array (Option Value)} {oc38 kV38 dc38 pm38 cd38 ct38 : Value}
    (z0 : PySem.W.nsIn K mainGlobals "LookupError" = some none)
    (z1 : PySem.W.nsIn K mainGlobals "OverflowError" = some none)
    (z2 : PySem.W.nsIn K mainGlobals "RuntimeError" = some none)
    (z3 : PySem.W.nsIn K mainGlobals "ValueError" = some none)
    (z4 : PySem.W.nsIn K mainGlobals "abs" = some none)
    (z5 : PySem.W.nsIn K mainGlobals "int" = some none)
    (z6 : PySem.W.nsIn K mainGlobals "isinstance" = some none)
    (z7 : PySem.W.nsIn K mainGlobals "len" = some none)
    (z8 : PySem.W.nsIn K mainGlobals "list" = some none)
    (z9 : PySem.W.nsIn K mainGlobals "range" = some none)
    (z10 : PySem.W.nsIn K mainGlobals "repr" = some none)
    (wn_HoldError : PySem.W.nsIn K mainGlobals "HoldError" = some (some (.ref C_HoldError)))
    (xk_HoldError : xkB K C_HoldError [.type "ValueError", .type "Exception", .type "BaseException", .type "object"] "ValueError.__new__" = true)
    (wn_TurnError : PySem.W.nsIn K mainGlobals "TurnError" = some (some (.ref C_TurnError)))
    (xk_TurnError : xkB K C_TurnError [.type "RuntimeError", .type "Exception", .type "BaseException", .type "object"] "RuntimeError.__new__" = true)
    (wn_AbsentError : PySem.W.nsIn K mainGlobals "AbsentError" = some (some (.ref C_AbsentError)))
    (xk_AbsentError : xkB K C_AbsentError [.type "LookupError", .type "Exception", .type "BaseException", .type "object"] "LookupError.__new__" = true)
    (wn_SizeError : PySem.W.nsIn K mainGlobals "SizeError" = some (some (.ref C_SizeError)))
    (xk_SizeError : xkB K C_SizeError [.type "OverflowError", .type "ArithmeticError", .type "Exception", .type "BaseException", .type "object"] "OverflowError.__new__" = true)
    (wn_InvalidKey : PySem.W.nsIn K mainGlobals "InvalidKey" = some (some (.ref C_InvalidKey)))
    (xk_InvalidKey : xkB K C_InvalidKey [.type "ValueError", .type "Exception", .type "BaseException", .type "object"] "ValueError.__new__" = true)
    (x_InvalidKey_value : PySem.W.findIn K (.ref C_InvalidKey) "value" = some none)
    (wn_InvalidValue : PySem.W.nsIn K mainGlobals "InvalidValue" = some (some (.ref C_InvalidValue)))
    (xk_InvalidValue : xkB K C_InvalidValue [.type "ValueError", .type "Exception", .type "BaseException", .type "object"] "ValueError.__new__" = true)
    (x_InvalidValue_value : PySem.W.findIn K (.ref C_InvalidValue) "value" = some none)
    (wn_InvalidView : PySem.W.nsIn K mainGlobals "InvalidView" = some (some (.ref C_InvalidView)))
    (xk_InvalidView : xkB K C_InvalidView [.type "ValueError", .type "Exception", .type "BaseException", .type "object"] "ValueError.__new__" = true)
    (x_InvalidView_value : PySem.W.findIn K (.ref C_InvalidView) "value" = some none)
    (wn_InvalidLoss : PySem.W.nsIn K mainGlobals "InvalidLoss" = some (some (.ref C_InvalidLoss)))
    (xk_InvalidLoss : xkB K C_InvalidLoss [.type "ValueError", .type "Exception", .type "BaseException", .type "object"] "ValueError.__new__" = true)
    (x_InvalidLoss_value : PySem.W.findIn K (.ref C_InvalidLoss) "value" = some none)
    (wn_InvalidPages : PySem.W.nsIn K mainGlobals "InvalidPages" = some (some (.ref C_InvalidPages)))
    (xk_InvalidPages : xkB K C_InvalidPages [.type "ValueError", .type "Exception", .type "BaseException", .type "object"] "ValueError.__new__" = true)
    (x_InvalidPages_value : PySem.W.findIn K (.ref C_InvalidPages) "value" = some none)
    (wn_InvalidRow : PySem.W.nsIn K mainGlobals "InvalidRow" = some (some (.ref C_InvalidRow)))
    (xk_InvalidRow : xkB K C_InvalidRow [.type "ValueError", .type "Exception", .type "BaseException", .type "object"] "ValueError.__new__" = true)
    (x_InvalidRow_index : PySem.W.findIn K (.ref C_InvalidRow) "index" = some none)
    (wn_InvalidText : PySem.W.nsIn K mainGlobals "InvalidText" = some (some (.ref C_InvalidText)))
    (xk_InvalidText : xkB K C_InvalidText [.type "ValueError", .type "Exception", .type "BaseException", .type "object"] "ValueError.__new__" = true)
    (x_InvalidText_line : PySem.W.findIn K (.ref C_InvalidText) "line" = some none)
    (x_InvalidText_word : PySem.W.findIn K (.ref C_InvalidText) "word" = some none)
    (wn_Barred : PySem.W.nsIn K mainGlobals "Barred" = some (some (.ref C_Barred)))
    (xk_Barred : xkB K C_Barred [.type "ValueError", .type "Exception", .type "BaseException", .type "object"] "ValueError.__new__" = true)
    (x_Barred_bar : PySem.W.findIn K (.ref C_Barred) "bar" = some none)
    (wn_Unplayed : PySem.W.nsIn K mainGlobals "Unplayed" = some (some (.ref C_Unplayed)))
    (xk_Unplayed : xkB K C_Unplayed [.type "ValueError", .type "Exception", .type "BaseException", .type "object"] "ValueError.__new__" = true)
    (x_Unplayed_index : PySem.W.findIn K (.ref C_Unplayed) "index" = some none)
    (wn_TooFew : PySem.W.nsIn K mainGlobals "TooFew" = some (some (.ref C_TooFew)))
    (xk_TooFew : xkB K C_TooFew [.type "ValueError", .type "Exception", .type "BaseException", .type "object"] "ValueError.__new__" = true)
    (x_TooFew_least : PySem.W.findIn K (.ref C_TooFew) "least" = some none)
    (wn_UnknownCommand : PySem.W.nsIn K mainGlobals "UnknownCommand" = some (some (.ref C_UnknownCommand)))
    (xk_UnknownCommand : xkB K C_UnknownCommand [.type "ValueError", .type "Exception", .type "BaseException", .type "object"] "ValueError.__new__" = true)
    (wn_NameTaken : PySem.W.nsIn K mainGlobals "NameTaken" = some (some (.ref C_NameTaken)))
    (xk_NameTaken : xkB K C_NameTaken [.type "ValueError", .type "Exception", .type "BaseException", .type "object"] "ValueError.__new__" = true)
    (x_NameTaken_name : PySem.W.findIn K (.ref C_NameTaken) "name" = some none)
    (wn_Ended : PySem.W.nsIn K mainGlobals "Ended" = some (some (.ref C_Ended)))
    (xk_Ended : xkB K C_Ended [.type "RuntimeError", .type "Exception", .type "BaseException", .type "object"] "RuntimeError.__new__" = true)
    (wn_Cancelled : PySem.W.nsIn K mainGlobals "Cancelled" = some (some (.ref C_Cancelled)))
    (xk_Cancelled : xkB K C_Cancelled [.type "RuntimeError", .type "Exception", .type "BaseException", .type "object"] "RuntimeError.__new__" = true)
    (wn_NotOuter : PySem.W.nsIn K mainGlobals "NotOuter" = some (some (.ref C_NotOuter)))
    (xk_NotOuter : xkB K C_NotOuter [.type "RuntimeError", .type "Exception", .type "BaseException", .type "object"] "RuntimeError.__new__" = true)
    (wn_Strayed : PySem.W.nsIn K mainGlobals "Strayed" = some (some (.ref C_Strayed)))
    (xk_Strayed : xkB K C_Strayed [.type "RuntimeError", .type "Exception", .type "BaseException", .type "object"] "RuntimeError.__new__" = true)
    (x_Strayed_index : PySem.W.findIn K (.ref C_Strayed) "index" = some none)
    (wn_Busy : PySem.W.nsIn K mainGlobals "Busy" = some (some (.ref C_Busy)))
    (xk_Busy : xkB K C_Busy [.type "RuntimeError", .type "Exception", .type "BaseException", .type "object"] "RuntimeError.__new__" = true)
    (x_Busy_number : PySem.W.findIn K (.ref C_Busy) "number" = some none)
    (wn_Blocked : PySem.W.nsIn K mainGlobals "Blocked" = some (some (.ref C_Blocked)))
    (xk_Blocked : xkB K C_Blocked [.type "RuntimeError", .type "Exception", .type "BaseException", .type "object"] "RuntimeError.__new__" = true)
    (x_Blocked_number : PySem.W.findIn K (.ref C_Blocked) "number" = some none)
    (wn_Taken : PySem.W.nsIn K mainGlobals "Taken" = some (some (.ref C_Taken)))
    (xk_Taken : xkB K C_Taken [.type "RuntimeError", .type "Exception", .type "BaseException", .type "object"] "RuntimeError.__new__" = true)
    (x_Taken_key : PySem.W.findIn K (.ref C_Taken) "key" = some none)
    (wn_Unsettled : PySem.W.nsIn K mainGlobals "Unsettled" = some (some (.ref C_Unsettled)))
    (xk_Unsettled : xkB K C_Unsettled [.type "RuntimeError", .type "Exception", .type "BaseException", .type "object"] "RuntimeError.__new__" = true)
    (x_Unsettled_number : PySem.W.findIn K (.ref C_Unsettled) "number" = some none)
    (wn_NoKey : PySem.W.nsIn K mainGlobals "NoKey" = some (some (.ref C_NoKey)))
    (xk_NoKey : xkB K C_NoKey [.type "LookupError", .type "Exception", .type "BaseException", .type "object"] "LookupError.__new__" = true)
    (x_NoKey_key : PySem.W.findIn K (.ref C_NoKey) "key" = some none)
    (wn_NoName : PySem.W.nsIn K mainGlobals "NoName" = some (some (.ref C_NoName)))
    (xk_NoName : xkB K C_NoName [.type "LookupError", .type "Exception", .type "BaseException", .type "object"] "LookupError.__new__" = true)
    (x_NoName_name : PySem.W.findIn K (.ref C_NoName) "name" = some none)
    (wn_NoPage : PySem.W.nsIn K mainGlobals "NoPage" = some (some (.ref C_NoPage)))
    (xk_NoPage : xkB K C_NoPage [.type "LookupError", .type "Exception", .type "BaseException", .type "object"] "LookupError.__new__" = true)
    (x_NoPage_page : PySem.W.findIn K (.ref C_NoPage) "page" = some none)
    (wn_NoRow : PySem.W.nsIn K mainGlobals "NoRow" = some (some (.ref C_NoRow)))
    (xk_NoRow : xkB K C_NoRow [.type "LookupError", .type "Exception", .type "BaseException", .type "object"] "LookupError.__new__" = true)
    (x_NoRow_index : PySem.W.findIn K (.ref C_NoRow) "index" = some none)
    (wn_NoSlot : PySem.W.nsIn K mainGlobals "NoSlot" = some (some (.ref C_NoSlot)))
    (xk_NoSlot : xkB K C_NoSlot [.type "LookupError", .type "Exception", .type "BaseException", .type "object"] "LookupError.__new__" = true)
    (x_NoSlot_slot : PySem.W.findIn K (.ref C_NoSlot) "slot" = some none)
    (wn_NotDead : PySem.W.nsIn K mainGlobals "NotDead" = some (some (.ref C_NotDead)))
    (xk_NotDead : xkB K C_NotDead [.type "LookupError", .type "Exception", .type "BaseException", .type "object"] "LookupError.__new__" = true)
    (x_NotDead_slot : PySem.W.findIn K (.ref C_NotDead) "slot" = some none)
    (wn_NotPrepared : PySem.W.nsIn K mainGlobals "NotPrepared" = some (some (.ref C_NotPrepared)))
    (xk_NotPrepared : xkB K C_NotPrepared [.type "LookupError", .type "Exception", .type "BaseException", .type "object"] "LookupError.__new__" = true)
    (x_NotPrepared_number : PySem.W.findIn K (.ref C_NotPrepared) "number" = some none)
    (wn_NotSpan : PySem.W.nsIn K mainGlobals "NotSpan" = some (some (.ref C_NotSpan)))
    (xk_NotSpan : xkB K C_NotSpan [.type "LookupError", .type "Exception", .type "BaseException", .type "object"] "LookupError.__new__" = true)
    (x_NotSpan_row : PySem.W.findIn K (.ref C_NotSpan) "row" = some none)
    (wn_NotCleaning : PySem.W.nsIn K mainGlobals "NotCleaning" = some (some (.ref C_NotCleaning)))
    (xk_NotCleaning : xkB K C_NotCleaning [.type "LookupError", .type "Exception", .type "BaseException", .type "object"] "LookupError.__new__" = true)
    (x_NotCleaning_row : PySem.W.findIn K (.ref C_NotCleaning) "row" = some none)
    (wn_NoNumber : PySem.W.nsIn K mainGlobals "NoNumber" = some (some (.ref C_NoNumber)))
    (xk_NoNumber : xkB K C_NoNumber [.type "LookupError", .type "Exception", .type "BaseException", .type "object"] "LookupError.__new__" = true)
    (x_NoNumber_number : PySem.W.findIn K (.ref C_NoNumber) "number" = some none)
    (wn_NoTransaction : PySem.W.nsIn K mainGlobals "NoTransaction" = some (some (.ref C_NoTransaction)))
    (xk_NoTransaction : xkB K C_NoTransaction [.type "LookupError", .type "Exception", .type "BaseException", .type "object"] "LookupError.__new__" = true)
    (x_NoTransaction_number : PySem.W.findIn K (.ref C_NoTransaction) "number" = some none)
    (wn_Full : PySem.W.nsIn K mainGlobals "Full" = some (some (.ref C_Full)))
    (xk_Full : xkB K C_Full [.type "OverflowError", .type "ArithmeticError", .type "Exception", .type "BaseException", .type "object"] "OverflowError.__new__" = true)
    (wn_TooDeep : PySem.W.nsIn K mainGlobals "TooDeep" = some (some (.ref C_TooDeep)))
    (xk_TooDeep : xkB K C_TooDeep [.type "OverflowError", .type "ArithmeticError", .type "Exception", .type "BaseException", .type "object"] "OverflowError.__new__" = true)
    (x_TooDeep_limit : PySem.W.findIn K (.ref C_TooDeep) "limit" = some none)
    (wn_TooLong : PySem.W.nsIn K mainGlobals "TooLong" = some (some (.ref C_TooLong)))
    (xk_TooLong : xkB K C_TooLong [.type "OverflowError", .type "ArithmeticError", .type "Exception", .type "BaseException", .type "object"] "OverflowError.__new__" = true)
    (x_TooLong_limit : PySem.W.findIn K (.ref C_TooLong) "limit" = some none)
    (xi_Full : PySem.W.excIn K C_Full [.type "OverflowError", .type "ArithmeticError", .type "Exception", .type "BaseException", .type "object"] "OverflowError.__new__" = true)
    (xi_NotOuter : PySem.W.excIn K C_NotOuter [.type "RuntimeError", .type "Exception", .type "BaseException", .type "object"] "RuntimeError.__new__" = true)
    (xi_Cancelled : PySem.W.excIn K C_Cancelled [.type "RuntimeError", .type "Exception", .type "BaseException", .type "object"] "RuntimeError.__new__" = true)
    (xi_Ended : PySem.W.excIn K C_Ended [.type "RuntimeError", .type "Exception", .type "BaseException", .type "object"] "RuntimeError.__new__" = true)
    (xi_UnknownCommand : PySem.W.excIn K C_UnknownCommand [.type "ValueError", .type "Exception", .type "BaseException", .type "object"] "ValueError.__new__" = true)
    (xis : xisB K [(Str.ofString "HoldError", C_HoldError), (Str.ofString "TurnError", C_TurnError), (Str.ofString "AbsentError", C_AbsentError), (Str.ofString "SizeError", C_SizeError), (Str.ofString "InvalidKey", C_InvalidKey), (Str.ofString "InvalidValue", C_InvalidValue), (Str.ofString "InvalidView", C_InvalidView), (Str.ofString "InvalidLoss", C_InvalidLoss), (Str.ofString "InvalidPages", C_InvalidPages), (Str.ofString "InvalidRow", C_InvalidRow), (Str.ofString "InvalidText", C_InvalidText), (Str.ofString "Barred", C_Barred), (Str.ofString "Unplayed", C_Unplayed), (Str.ofString "TooFew", C_TooFew), (Str.ofString "UnknownCommand", C_UnknownCommand), (Str.ofString "NameTaken", C_NameTaken), (Str.ofString "Ended", C_Ended), (Str.ofString "Cancelled", C_Cancelled), (Str.ofString "NotOuter", C_NotOuter), (Str.ofString "Strayed", C_Strayed), (Str.ofString "Busy", C_Busy), (Str.ofString "Blocked", C_Blocked), (Str.ofString "Taken", C_Taken), (Str.ofString "Unsettled", C_Unsettled), (Str.ofString "NoKey", C_NoKey), (Str.ofString "NoName", C_NoName), (Str.ofString "NoPage", C_NoPage), (Str.ofString "NoRow", C_NoRow), (Str.ofString "NoSlot", C_NoSlot), (Str.ofString "NotDead", C_NotDead), (Str.ofString "NotPrepared", C_NotPrepared), (Str.ofString "NotSpan", C_NotSpan), (Str.ofString "NotCleaning", C_NotCleaning), (Str.ofString "NoNumber", C_NoNumber), (Str.ofString "NoTransaction", C_NoTransaction), (Str.ofString "Full", C_Full), (Str.ofString "TooDeep", C_TooDeep), (Str.ofString "TooLong", C_TooLong)] xtb [((37, "TooLong"), C_TooLong), ((36, "TooDeep"), C_TooDeep), ((35, "Full"), C_Full), ((34, "NoTransaction"), C_NoTransaction), ((33, "NoNumber"), C_NoNumber), ((32, "NotCleaning"), C_NotCleaning), ((31, "NotSpan"), C_NotSpan), ((30, "NotPrepared"), C_NotPrepared), ((29, "NotDead"), C_NotDead), ((28, "NoSlot"), C_NoSlot), ((27, "NoRow"), C_NoRow), ((26, "NoPage"), C_NoPage), ((25, "NoName"), C_NoName), ((24, "NoKey"), C_NoKey), ((23, "Unsettled"), C_Unsettled), ((22, "Taken"), C_Taken), ((21, "Blocked"), C_Blocked), ((20, "Busy"), C_Busy), ((19, "Strayed"), C_Strayed), ((18, "NotOuter"), C_NotOuter), ((17, "Cancelled"), C_Cancelled), ((16, "Ended"), C_Ended), ((15, "NameTaken"), C_NameTaken), ((14, "UnknownCommand"), C_UnknownCommand), ((13, "TooFew"), C_TooFew), ((12, "Unplayed"), C_Unplayed), ((11, "Barred"), C_Barred), ((10, "InvalidText"), C_InvalidText), ((9, "InvalidRow"), C_InvalidRow), ((8, "InvalidPages"), C_InvalidPages), ((7, "InvalidLoss"), C_InvalidLoss), ((6, "InvalidView"), C_InvalidView), ((5, "InvalidValue"), C_InvalidValue), ((4, "InvalidKey"), C_InvalidKey), ((3, "SizeError"), C_SizeError), ((2, "AbsentError"), C_AbsentError), ((1, "TurnError"), C_TurnError), ((0, "HoldError"), C_HoldError)] xbl = true)
    (a0 : PySem.W.findIn K (.ref C_TooLong) "__init__" = some (some (.ref f0)))
    (t0 : PySem.W.typeIn K (.ref f0) = some (.type "function"))
    (l0 : K.lookup f0 = some ⟨oc0, od0, .func (PySem.W.fnOf "__init__" "TooLong.__init__" (defArgs s_TooLong___init__) (defBody s_TooLong___init__) (defScope s_TooLong___init__) .none kV0 dc0 pm0 an0 cd0 ct0), sl0⟩)
    (c0 : PySem.W.codeIn K cd0 "TooLong.__init__" = true)
    (k0 : PySem.W.keepIn K (.ref f0) = true)
    (a1 : PySem.W.findIn K (.ref C_TooDeep) "__init__" = some (some (.ref f1)))
    (t1 : PySem.W.typeIn K (.ref f1) = some (.type "function"))
    (l1 : K.lookup f1 = some ⟨oc1, od1, .func (PySem.W.fnOf "__init__" "TooDeep.__init__" (defArgs s_TooDeep___init__) (defBody s_TooDeep___init__) (defScope s_TooDeep___init__) .none kV1 dc1 pm1 an1 cd1 ct1), sl1⟩)
    (c1 : PySem.W.codeIn K cd1 "TooDeep.__init__" = true)
    (k1 : PySem.W.keepIn K (.ref f1) = true)
    (a2 : PySem.W.findIn K (.ref C_NoTransaction) "__init__" = some (some (.ref f2)))
    (t2 : PySem.W.typeIn K (.ref f2) = some (.type "function"))
    (l2 : K.lookup f2 = some ⟨oc2, od2, .func (PySem.W.fnOf "__init__" "NoTransaction.__init__" (defArgs s_NoTransaction___init__) (defBody s_NoTransaction___init__) (defScope s_NoTransaction___init__) .none kV2 dc2 pm2 an2 cd2 ct2), sl2⟩)
    (c2 : PySem.W.codeIn K cd2 "NoTransaction.__init__" = true)
    (k2 : PySem.W.keepIn K (.ref f2) = true)
    (a3 : PySem.W.findIn K (.ref C_NoNumber) "__init__" = some (some (.ref f3)))
    (t3 : PySem.W.typeIn K (.ref f3) = some (.type "function"))
    (l3 : K.lookup f3 = some ⟨oc3, od3, .func (PySem.W.fnOf "__init__" "NoNumber.__init__" (defArgs s_NoNumber___init__) (defBody s_NoNumber___init__) (defScope s_NoNumber___init__) .none kV3 dc3 pm3 an3 cd3 ct3), sl3⟩)
    (c3 : PySem.W.codeIn K cd3 "NoNumber.__init__" = true)
    (k3 : PySem.W.keepIn K (.ref f3) = true)
    (a4 : PySem.W.findIn K (.ref C_NotCleaning) "__init__" = some (some (.ref f4)))
    (t4 : PySem.W.typeIn K (.ref f4) = some (.type "function"))
    (l4 : K.lookup f4 = some ⟨oc4, od4, .func (PySem.W.fnOf "__init__" "NotCleaning.__init__" (defArgs s_NotCleaning___init__) (defBody s_NotCleaning___init__) (defScope s_NotCleaning___init__) .none kV4 dc4 pm4 an4 cd4 ct4), sl4⟩)
    (c4 : PySem.W.codeIn K cd4 "NotCleaning.__init__" = true)
    (k4 : PySem.W.keepIn K (.ref f4) = true)
    (a5 : PySem.W.findIn K (.ref C_NotSpan) "__init__" = some (some (.ref f5)))
    (t5 : PySem.W.typeIn K (.ref f5) = some (.type "function"))
    (l5 : K.lookup f5 = some ⟨oc5, od5, .func (PySem.W.fnOf "__init__" "NotSpan.__init__" (defArgs s_NotSpan___init__) (defBody s_NotSpan___init__) (defScope s_NotSpan___init__) .none kV5 dc5 pm5 an5 cd5 ct5), sl5⟩)
    (c5 : PySem.W.codeIn K cd5 "NotSpan.__init__" = true)
    (k5 : PySem.W.keepIn K (.ref f5) = true)
    (a6 : PySem.W.findIn K (.ref C_NotPrepared) "__init__" = some (some (.ref f6)))
    (t6 : PySem.W.typeIn K (.ref f6) = some (.type "function"))
    (l6 : K.lookup f6 = some ⟨oc6, od6, .func (PySem.W.fnOf "__init__" "NotPrepared.__init__" (defArgs s_NotPrepared___init__) (defBody s_NotPrepared___init__) (defScope s_NotPrepared___init__) .none kV6 dc6 pm6 an6 cd6 ct6), sl6⟩)
    (c6 : PySem.W.codeIn K cd6 "NotPrepared.__init__" = true)
    (k6 : PySem.W.keepIn K (.ref f6) = true)
    (a7 : PySem.W.findIn K (.ref C_NotDead) "__init__" = some (some (.ref f7)))
    (t7 : PySem.W.typeIn K (.ref f7) = some (.type "function"))
    (l7 : K.lookup f7 = some ⟨oc7, od7, .func (PySem.W.fnOf "__init__" "NotDead.__init__" (defArgs s_NotDead___init__) (defBody s_NotDead___init__) (defScope s_NotDead___init__) .none kV7 dc7 pm7 an7 cd7 ct7), sl7⟩)
    (c7 : PySem.W.codeIn K cd7 "NotDead.__init__" = true)
    (k7 : PySem.W.keepIn K (.ref f7) = true)
    (a8 : PySem.W.findIn K (.ref C_NoSlot) "__init__" = some (some (.ref f8)))
    (t8 : PySem.W.typeIn K (.ref f8) = some (.type "function"))
    (l8 : K.lookup f8 = some ⟨oc8, od8, .func (PySem.W.fnOf "__init__" "NoSlot.__init__" (defArgs s_NoSlot___init__) (defBody s_NoSlot___init__) (defScope s_NoSlot___init__) .none kV8 dc8 pm8 an8 cd8 ct8), sl8⟩)
    (c8 : PySem.W.codeIn K cd8 "NoSlot.__init__" = true)
    (k8 : PySem.W.keepIn K (.ref f8) = true)
    (a9 : PySem.W.findIn K (.ref C_NoRow) "__init__" = some (some (.ref f9)))
    (t9 : PySem.W.typeIn K (.ref f9) = some (.type "function"))
    (l9 : K.lookup f9 = some ⟨oc9, od9, .func (PySem.W.fnOf "__init__" "NoRow.__init__" (defArgs s_NoRow___init__) (defBody s_NoRow___init__) (defScope s_NoRow___init__) .none kV9 dc9 pm9 an9 cd9 ct9), sl9⟩)
    (c9 : PySem.W.codeIn K cd9 "NoRow.__init__" = true)
    (k9 : PySem.W.keepIn K (.ref f9) = true)
    (a10 : PySem.W.findIn K (.ref C_NoPage) "__init__" = some (some (.ref f10)))
    (t10 : PySem.W.typeIn K (.ref f10) = some (.type "function"))
    (l10 : K.lookup f10 = some ⟨oc10, od10, .func (PySem.W.fnOf "__init__" "NoPage.__init__" (defArgs s_NoPage___init__) (defBody s_NoPage___init__) (defScope s_NoPage___init__) .none kV10 dc10 pm10 an10 cd10 ct10), sl10⟩)
    (c10 : PySem.W.codeIn K cd10 "NoPage.__init__" = true)
    (k10 : PySem.W.keepIn K (.ref f10) = true)
    (a11 : PySem.W.findIn K (.ref C_NoName) "__init__" = some (some (.ref f11)))
    (t11 : PySem.W.typeIn K (.ref f11) = some (.type "function"))
    (l11 : K.lookup f11 = some ⟨oc11, od11, .func (PySem.W.fnOf "__init__" "NoName.__init__" (defArgs s_NoName___init__) (defBody s_NoName___init__) (defScope s_NoName___init__) .none kV11 dc11 pm11 an11 cd11 ct11), sl11⟩)
    (c11 : PySem.W.codeIn K cd11 "NoName.__init__" = true)
    (k11 : PySem.W.keepIn K (.ref f11) = true)
    (a12 : PySem.W.findIn K (.ref C_NoKey) "__init__" = some (some (.ref f12)))
    (t12 : PySem.W.typeIn K (.ref f12) = some (.type "function"))
    (l12 : K.lookup f12 = some ⟨oc12, od12, .func (PySem.W.fnOf "__init__" "NoKey.__init__" (defArgs s_NoKey___init__) (defBody s_NoKey___init__) (defScope s_NoKey___init__) .none kV12 dc12 pm12 an12 cd12 ct12), sl12⟩)
    (c12 : PySem.W.codeIn K cd12 "NoKey.__init__" = true)
    (k12 : PySem.W.keepIn K (.ref f12) = true)
    (a13 : PySem.W.findIn K (.ref C_Unsettled) "__init__" = some (some (.ref f13)))
    (t13 : PySem.W.typeIn K (.ref f13) = some (.type "function"))
    (l13 : K.lookup f13 = some ⟨oc13, od13, .func (PySem.W.fnOf "__init__" "Unsettled.__init__" (defArgs s_Unsettled___init__) (defBody s_Unsettled___init__) (defScope s_Unsettled___init__) .none kV13 dc13 pm13 an13 cd13 ct13), sl13⟩)
    (c13 : PySem.W.codeIn K cd13 "Unsettled.__init__" = true)
    (k13 : PySem.W.keepIn K (.ref f13) = true)
    (a14 : PySem.W.findIn K (.ref C_Taken) "__init__" = some (some (.ref f14)))
    (t14 : PySem.W.typeIn K (.ref f14) = some (.type "function"))
    (l14 : K.lookup f14 = some ⟨oc14, od14, .func (PySem.W.fnOf "__init__" "Taken.__init__" (defArgs s_Taken___init__) (defBody s_Taken___init__) (defScope s_Taken___init__) .none kV14 dc14 pm14 an14 cd14 ct14), sl14⟩)
    (c14 : PySem.W.codeIn K cd14 "Taken.__init__" = true)
    (k14 : PySem.W.keepIn K (.ref f14) = true)
    (a15 : PySem.W.findIn K (.ref C_Blocked) "__init__" = some (some (.ref f15)))
    (t15 : PySem.W.typeIn K (.ref f15) = some (.type "function"))
    (l15 : K.lookup f15 = some ⟨oc15, od15, .func (PySem.W.fnOf "__init__" "Blocked.__init__" (defArgs s_Blocked___init__) (defBody s_Blocked___init__) (defScope s_Blocked___init__) .none kV15 dc15 pm15 an15 cd15 ct15), sl15⟩)
    (c15 : PySem.W.codeIn K cd15 "Blocked.__init__" = true)
    (k15 : PySem.W.keepIn K (.ref f15) = true)
    (a16 : PySem.W.findIn K (.ref C_Busy) "__init__" = some (some (.ref f16)))
    (t16 : PySem.W.typeIn K (.ref f16) = some (.type "function"))
    (l16 : K.lookup f16 = some ⟨oc16, od16, .func (PySem.W.fnOf "__init__" "Busy.__init__" (defArgs s_Busy___init__) (defBody s_Busy___init__) (defScope s_Busy___init__) .none kV16 dc16 pm16 an16 cd16 ct16), sl16⟩)
    (c16 : PySem.W.codeIn K cd16 "Busy.__init__" = true)
    (k16 : PySem.W.keepIn K (.ref f16) = true)
    (a17 : PySem.W.findIn K (.ref C_Strayed) "__init__" = some (some (.ref f17)))
    (t17 : PySem.W.typeIn K (.ref f17) = some (.type "function"))
    (l17 : K.lookup f17 = some ⟨oc17, od17, .func (PySem.W.fnOf "__init__" "Strayed.__init__" (defArgs s_Strayed___init__) (defBody s_Strayed___init__) (defScope s_Strayed___init__) .none kV17 dc17 pm17 an17 cd17 ct17), sl17⟩)
    (c17 : PySem.W.codeIn K cd17 "Strayed.__init__" = true)
    (k17 : PySem.W.keepIn K (.ref f17) = true)
    (a18 : PySem.W.findIn K (.ref C_NameTaken) "__init__" = some (some (.ref f18)))
    (t18 : PySem.W.typeIn K (.ref f18) = some (.type "function"))
    (l18 : K.lookup f18 = some ⟨oc18, od18, .func (PySem.W.fnOf "__init__" "NameTaken.__init__" (defArgs s_NameTaken___init__) (defBody s_NameTaken___init__) (defScope s_NameTaken___init__) .none kV18 dc18 pm18 an18 cd18 ct18), sl18⟩)
    (c18 : PySem.W.codeIn K cd18 "NameTaken.__init__" = true)
    (k18 : PySem.W.keepIn K (.ref f18) = true)
    (a19 : PySem.W.findIn K (.ref C_TooFew) "__init__" = some (some (.ref f19)))
    (t19 : PySem.W.typeIn K (.ref f19) = some (.type "function"))
    (l19 : K.lookup f19 = some ⟨oc19, od19, .func (PySem.W.fnOf "__init__" "TooFew.__init__" (defArgs s_TooFew___init__) (defBody s_TooFew___init__) (defScope s_TooFew___init__) .none kV19 dc19 pm19 an19 cd19 ct19), sl19⟩)
    (c19 : PySem.W.codeIn K cd19 "TooFew.__init__" = true)
    (k19 : PySem.W.keepIn K (.ref f19) = true)
    (a20 : PySem.W.findIn K (.ref C_Unplayed) "__init__" = some (some (.ref f20)))
    (t20 : PySem.W.typeIn K (.ref f20) = some (.type "function"))
    (l20 : K.lookup f20 = some ⟨oc20, od20, .func (PySem.W.fnOf "__init__" "Unplayed.__init__" (defArgs s_Unplayed___init__) (defBody s_Unplayed___init__) (defScope s_Unplayed___init__) .none kV20 dc20 pm20 an20 cd20 ct20), sl20⟩)
    (c20 : PySem.W.codeIn K cd20 "Unplayed.__init__" = true)
    (k20 : PySem.W.keepIn K (.ref f20) = true)
    (a21 : PySem.W.findIn K (.ref C_Barred) "__init__" = some (some (.ref f21)))
    (t21 : PySem.W.typeIn K (.ref f21) = some (.type "function"))
    (l21 : K.lookup f21 = some ⟨oc21, od21, .func (PySem.W.fnOf "__init__" "Barred.__init__" (defArgs s_Barred___init__) (defBody s_Barred___init__) (defScope s_Barred___init__) .none kV21 dc21 pm21 an21 cd21 ct21), sl21⟩)
    (c21 : PySem.W.codeIn K cd21 "Barred.__init__" = true)
    (k21 : PySem.W.keepIn K (.ref f21) = true)
    (a22 : PySem.W.findIn K (.ref C_InvalidText) "__init__" = some (some (.ref f22)))
    (t22 : PySem.W.typeIn K (.ref f22) = some (.type "function"))
    (l22 : K.lookup f22 = some ⟨oc22, od22, .func (PySem.W.fnOf "__init__" "InvalidText.__init__" (defArgs s_InvalidText___init__) (defBody s_InvalidText___init__) (defScope s_InvalidText___init__) .none kV22 dc22 pm22 an22 cd22 ct22), sl22⟩)
    (c22 : PySem.W.codeIn K cd22 "InvalidText.__init__" = true)
    (k22 : PySem.W.keepIn K (.ref f22) = true)
    (a23 : PySem.W.findIn K (.ref C_InvalidRow) "__init__" = some (some (.ref f23)))
    (t23 : PySem.W.typeIn K (.ref f23) = some (.type "function"))
    (l23 : K.lookup f23 = some ⟨oc23, od23, .func (PySem.W.fnOf "__init__" "InvalidRow.__init__" (defArgs s_InvalidRow___init__) (defBody s_InvalidRow___init__) (defScope s_InvalidRow___init__) .none kV23 dc23 pm23 an23 cd23 ct23), sl23⟩)
    (c23 : PySem.W.codeIn K cd23 "InvalidRow.__init__" = true)
    (k23 : PySem.W.keepIn K (.ref f23) = true)
    (a24 : PySem.W.findIn K (.ref C_InvalidPages) "__init__" = some (some (.ref f24)))
    (t24 : PySem.W.typeIn K (.ref f24) = some (.type "function"))
    (l24 : K.lookup f24 = some ⟨oc24, od24, .func (PySem.W.fnOf "__init__" "InvalidPages.__init__" (defArgs s_InvalidPages___init__) (defBody s_InvalidPages___init__) (defScope s_InvalidPages___init__) .none kV24 dc24 pm24 an24 cd24 ct24), sl24⟩)
    (c24 : PySem.W.codeIn K cd24 "InvalidPages.__init__" = true)
    (k24 : PySem.W.keepIn K (.ref f24) = true)
    (a25 : PySem.W.findIn K (.ref C_InvalidLoss) "__init__" = some (some (.ref f25)))
    (t25 : PySem.W.typeIn K (.ref f25) = some (.type "function"))
    (l25 : K.lookup f25 = some ⟨oc25, od25, .func (PySem.W.fnOf "__init__" "InvalidLoss.__init__" (defArgs s_InvalidLoss___init__) (defBody s_InvalidLoss___init__) (defScope s_InvalidLoss___init__) .none kV25 dc25 pm25 an25 cd25 ct25), sl25⟩)
    (c25 : PySem.W.codeIn K cd25 "InvalidLoss.__init__" = true)
    (k25 : PySem.W.keepIn K (.ref f25) = true)
    (a26 : PySem.W.findIn K (.ref C_InvalidView) "__init__" = some (some (.ref f26)))
    (t26 : PySem.W.typeIn K (.ref f26) = some (.type "function"))
    (l26 : K.lookup f26 = some ⟨oc26, od26, .func (PySem.W.fnOf "__init__" "InvalidView.__init__" (defArgs s_InvalidView___init__) (defBody s_InvalidView___init__) (defScope s_InvalidView___init__) .none kV26 dc26 pm26 an26 cd26 ct26), sl26⟩)
    (c26 : PySem.W.codeIn K cd26 "InvalidView.__init__" = true)
    (k26 : PySem.W.keepIn K (.ref f26) = true)
    (a27 : PySem.W.findIn K (.ref C_InvalidValue) "__init__" = some (some (.ref f27)))
    (t27 : PySem.W.typeIn K (.ref f27) = some (.type "function"))
    (l27 : K.lookup f27 = some ⟨oc27, od27, .func (PySem.W.fnOf "__init__" "InvalidValue.__init__" (defArgs s_InvalidValue___init__) (defBody s_InvalidValue___init__) (defScope s_InvalidValue___init__) .none kV27 dc27 pm27 an27 cd27 ct27), sl27⟩)
    (c27 : PySem.W.codeIn K cd27 "InvalidValue.__init__" = true)
    (k27 : PySem.W.keepIn K (.ref f27) = true)
    (a28 : PySem.W.findIn K (.ref C_InvalidKey) "__init__" = some (some (.ref f28)))
    (t28 : PySem.W.typeIn K (.ref f28) = some (.type "function"))
    (l28 : K.lookup f28 = some ⟨oc28, od28, .func (PySem.W.fnOf "__init__" "InvalidKey.__init__" (defArgs s_InvalidKey___init__) (defBody s_InvalidKey___init__) (defScope s_InvalidKey___init__) .none kV28 dc28 pm28 an28 cd28 ct28), sl28⟩)
    (c28 : PySem.W.codeIn K cd28 "InvalidKey.__init__" = true)
    (k28 : PySem.W.keepIn K (.ref f28) = true)
    (a29 : PySem.W.nsIn K mainGlobals "_law_pen" = some (some (.ref f29)))
    (l29 : K.lookup f29 = some ⟨oc29, od29, .func (PySem.W.fnOf "_law_pen" "_law_pen" (defArgs s__law_pen) (defBody s__law_pen) (defScope s__law_pen) .none kV29 dc29 pm29 an29 cd29 ct29), sl29⟩)
    (c29 : PySem.W.codeIn K cd29 "_law_pen" = true) (k29 : PySem.W.keepIn K (.ref f29) = true)
    (a30 : PySem.W.nsIn K mainGlobals "_law_draw" = some (some (.ref f30)))
    (l30 : K.lookup f30 = some ⟨oc30, od30, .func (PySem.W.fnOf "_law_draw" "_law_draw" (defArgs s__law_draw) (defBody s__law_draw) (defScope s__law_draw) .none kV30 dc30 pm30 an30 cd30 ct30), sl30⟩)
    (c30 : PySem.W.codeIn K cd30 "_law_draw" = true) (k30 : PySem.W.keepIn K (.ref f30) = true)
    (a31 : PySem.W.nsIn K mainGlobals "_law_pick" = some (some (.ref f31)))
    (l31 : K.lookup f31 = some ⟨oc31, od31, .func (PySem.W.fnOf "_law_pick" "_law_pick" (defArgs s__law_pick) (defBody s__law_pick) (defScope s__law_pick) .none kV31 dc31 pm31 an31 cd31 ct31), sl31⟩)
    (c31 : PySem.W.codeIn K cd31 "_law_pick" = true) (k31 : PySem.W.keepIn K (.ref f31) = true)
    (a32 : PySem.W.nsIn K mainGlobals "_law_odd" = some (some (.ref f32)))
    (l32 : K.lookup f32 = some ⟨oc32, od32, .func (PySem.W.fnOf "_law_odd" "_law_odd" (defArgs s__law_odd) (defBody s__law_odd) (defScope s__law_odd) .none kV32 dc32 pm32 an32 cd32 ct32), sl32⟩)
    (c32 : PySem.W.codeIn K cd32 "_law_odd" = true) (k32 : PySem.W.keepIn K (.ref f32) = true)
    (a33 : PySem.W.nsIn K mainGlobals "_law_made" = some (some (.ref f33)))
    (l33 : K.lookup f33 = some ⟨oc33, od33, .func (PySem.W.fnOf "_law_made" "_law_made" (defArgs s__law_made) (defBody s__law_made) (defScope s__law_made) .none kV33 dc33 pm33 an33 cd33 ct33), sl33⟩)
    (c33 : PySem.W.codeIn K cd33 "_law_made" = true) (k33 : PySem.W.keepIn K (.ref f33) = true)
    (a34 : PySem.W.nsIn K mainGlobals "_law_marks" = some (some (.ref f34)))
    (l34 : K.lookup f34 = some ⟨oc34, od34, .func (PySem.W.fnOf "_law_marks" "_law_marks" (defArgs s__law_marks) (defBody s__law_marks) (defScope s__law_marks) .none kV34 dc34 pm34 an34 cd34 ct34), sl34⟩)
    (c34 : PySem.W.codeIn K cd34 "_law_marks" = true) (k34 : PySem.W.keepIn K (.ref f34) = true)
    (a35 : PySem.W.nsIn K mainGlobals "_law_bases" = some (some (.ref f35)))
    (l35 : K.lookup f35 = some ⟨oc35, od35, .func (PySem.W.fnOf "_law_bases" "_law_bases" (defArgs s__law_bases) (defBody s__law_bases) (defScope s__law_bases) .none kV35 dc35 pm35 an35 cd35 ct35), sl35⟩)
    (c35 : PySem.W.codeIn K cd35 "_law_bases" = true) (k35 : PySem.W.keepIn K (.ref f35) = true)
    (a36 : PySem.W.nsIn K mainGlobals "_law_kept" = some (some (.ref f36)))
    (l36 : K.lookup f36 = some ⟨oc36, od36, .func (PySem.W.fnOf "_law_kept" "_law_kept" (defArgs s__law_kept) (defBody s__law_kept) (defScope s__law_kept) .none kV36 dc36 pm36 an36 cd36 ct36), sl36⟩)
    (c36 : PySem.W.codeIn K cd36 "_law_kept" = true) (k36 : PySem.W.keepIn K (.ref f36) = true)
    (a37 : PySem.W.nsIn K mainGlobals "_law_kept_by_name" = some (some (.ref f37)))
    (l37 : K.lookup f37 = some ⟨oc37, od37, .func (PySem.W.fnOf "_law_kept_by_name" "_law_kept_by_name" (defArgs s__law_kept_by_name) (defBody s__law_kept_by_name) (defScope s__law_kept_by_name) .none kV37 dc37 pm37 an37 cd37 ct37), sl37⟩)
    (c37 : PySem.W.codeIn K cd37 "_law_kept_by_name" = true) (k37 : PySem.W.keepIn K (.ref f37) = true)
    (a38 : PySem.W.nsIn K mainGlobals "law" = some (some (.ref f38)))
    (l38 : K.lookup f38 = some ⟨oc38, od38, .func (PySem.W.fnOf "law" "law" (defArgs s_law) (defBody s_law) (defScope s_law) .none kV38 dc38 pm38 an38 cd38 ct38), sl38⟩)
    (c38 : PySem.W.codeIn K cd38 "law" = true) (k38 : PySem.W.keepIn K (.ref f38) = true) : ∀ fa, mg "law" = some (.ref fa) → TopOk l.prog w K mg fa "_law_script" (spM K 1 m_law) := by
  have cx_HoldError : XCl K C_HoldError := xk_of PySem.F.excBase_ValueError PySem.F.store_ValueError xk_HoldError
  have cx_TurnError : XCl K C_TurnError := xk_of PySem.F.excBase_RuntimeError PySem.F.store_RuntimeError xk_TurnError
  have cx_AbsentError : XCl K C_AbsentError := xk_of PySem.F.excBase_LookupError PySem.F.store_LookupError xk_AbsentError
  have cx_SizeError : XCl K C_SizeError := xk_of PySem.F.excBase_OverflowError PySem.F.store_OverflowError xk_SizeError
  have cx_InvalidKey : XCl K C_InvalidKey := xk_of PySem.F.excBase_ValueError PySem.F.store_ValueError xk_InvalidKey
  have cx_InvalidValue : XCl K C_InvalidValue := xk_of PySem.F.excBase_ValueError PySem.F.store_ValueError xk_InvalidValue
  have cx_InvalidView : XCl K C_InvalidView := xk_of PySem.F.excBase_ValueError PySem.F.store_ValueError xk_InvalidView
  have cx_InvalidLoss : XCl K C_InvalidLoss := xk_of PySem.F.excBase_ValueError PySem.F.store_ValueError xk_InvalidLoss
  have cx_InvalidPages : XCl K C_InvalidPages := xk_of PySem.F.excBase_ValueError PySem.F.store_ValueError xk_InvalidPages
  have cx_InvalidRow : XCl K C_InvalidRow := xk_of PySem.F.excBase_ValueError PySem.F.store_ValueError xk_InvalidRow
  have cx_InvalidText : XCl K C_InvalidText := xk_of PySem.F.excBase_ValueError PySem.F.store_ValueError xk_InvalidText
  have cx_Barred : XCl K C_Barred := xk_of PySem.F.excBase_ValueError PySem.F.store_ValueError xk_Barred
  have cx_Unplayed : XCl K C_Unplayed := xk_of PySem.F.excBase_ValueError PySem.F.store_ValueError xk_Unplayed
  have cx_TooFew : XCl K C_TooFew := xk_of PySem.F.excBase_ValueError PySem.F.store_ValueError xk_TooFew
  have cx_UnknownCommand : XCl K C_UnknownCommand := xk_of PySem.F.excBase_ValueError PySem.F.store_ValueError xk_UnknownCommand
  have cx_NameTaken : XCl K C_NameTaken := xk_of PySem.F.excBase_ValueError PySem.F.store_ValueError xk_NameTaken
  have cx_Ended : XCl K C_Ended := xk_of PySem.F.excBase_RuntimeError PySem.F.store_RuntimeError xk_Ended
  have cx_Cancelled : XCl K C_Cancelled := xk_of PySem.F.excBase_RuntimeError PySem.F.store_RuntimeError xk_Cancelled
  have cx_NotOuter : XCl K C_NotOuter := xk_of PySem.F.excBase_RuntimeError PySem.F.store_RuntimeError xk_NotOuter
  have cx_Strayed : XCl K C_Strayed := xk_of PySem.F.excBase_RuntimeError PySem.F.store_RuntimeError xk_Strayed
  have cx_Busy : XCl K C_Busy := xk_of PySem.F.excBase_RuntimeError PySem.F.store_RuntimeError xk_Busy
  have cx_Blocked : XCl K C_Blocked := xk_of PySem.F.excBase_RuntimeError PySem.F.store_RuntimeError xk_Blocked
  have cx_Taken : XCl K C_Taken := xk_of PySem.F.excBase_RuntimeError PySem.F.store_RuntimeError xk_Taken
  have cx_Unsettled : XCl K C_Unsettled := xk_of PySem.F.excBase_RuntimeError PySem.F.store_RuntimeError xk_Unsettled
  have cx_NoKey : XCl K C_NoKey := xk_of PySem.F.excBase_LookupError PySem.F.store_LookupError xk_NoKey
  have cx_NoName : XCl K C_NoName := xk_of PySem.F.excBase_LookupError PySem.F.store_LookupError xk_NoName
  have cx_NoPage : XCl K C_NoPage := xk_of PySem.F.excBase_LookupError PySem.F.store_LookupError xk_NoPage
  have cx_NoRow : XCl K C_NoRow := xk_of PySem.F.excBase_LookupError PySem.F.store_LookupError xk_NoRow
  have cx_NoSlot : XCl K C_NoSlot := xk_of PySem.F.excBase_LookupError PySem.F.store_LookupError xk_NoSlot
  have cx_NotDead : XCl K C_NotDead := xk_of PySem.F.excBase_LookupError PySem.F.store_LookupError xk_NotDead
  have cx_NotPrepared : XCl K C_NotPrepared := xk_of PySem.F.excBase_LookupError PySem.F.store_LookupError xk_NotPrepared
  have cx_NotSpan : XCl K C_NotSpan := xk_of PySem.F.excBase_LookupError PySem.F.store_LookupError xk_NotSpan
  have cx_NotCleaning : XCl K C_NotCleaning := xk_of PySem.F.excBase_LookupError PySem.F.store_LookupError xk_NotCleaning
  have cx_NoNumber : XCl K C_NoNumber := xk_of PySem.F.excBase_LookupError PySem.F.store_LookupError xk_NoNumber
  have cx_NoTransaction : XCl K C_NoTransaction := xk_of PySem.F.excBase_LookupError PySem.F.store_LookupError xk_NoTransaction
  have cx_Full : XCl K C_Full := xk_of PySem.F.excBase_OverflowError PySem.F.store_OverflowError xk_Full
  have cx_TooDeep : XCl K C_TooDeep := xk_of PySem.F.excBase_OverflowError PySem.F.store_OverflowError xk_TooDeep
  have cx_TooLong : XCl K C_TooLong := xk_of PySem.F.excBase_OverflowError PySem.F.store_OverflowError xk_TooLong
  have T : Txt K mg := ⟨PySem.W.mg_none_of X G z0, PySem.W.mg_none_of X G z1, PySem.W.mg_none_of X G z2, PySem.W.mg_none_of X G z3, PySem.W.mg_none_of X G z4, PySem.W.mg_none_of X G z5, PySem.W.mg_none_of X G z6, PySem.W.mg_none_of X G z7, PySem.W.mg_none_of X G z8, PySem.W.mg_none_of X G z9, PySem.W.mg_none_of X G z10, ⟨_, _, _, _, _, wn_Full, PySem.W.mg_of X G wn_Full, cx_Full, PySem.F.excBase_OverflowError, xi_Full⟩, ⟨_, _, _, _, _, wn_NotOuter, PySem.W.mg_of X G wn_NotOuter, cx_NotOuter, PySem.F.excBase_RuntimeError, xi_NotOuter⟩, ⟨_, _, _, _, _, wn_Cancelled, PySem.W.mg_of X G wn_Cancelled, cx_Cancelled, PySem.F.excBase_RuntimeError, xi_Cancelled⟩, ⟨_, _, _, _, _, wn_Ended, PySem.W.mg_of X G wn_Ended, cx_Ended, PySem.F.excBase_RuntimeError, xi_Ended⟩, ⟨_, _, _, _, _, wn_UnknownCommand, PySem.W.mg_of X G wn_UnknownCommand, cx_UnknownCommand, PySem.F.excBase_ValueError, xi_UnknownCommand⟩, (xfld_cons wn_Barred cx_Barred x_Barred_bar xfld_nil), (xfld_cons wn_InvalidRow cx_InvalidRow x_InvalidRow_index (xfld_cons wn_Unplayed cx_Unplayed x_Unplayed_index (xfld_cons wn_Strayed cx_Strayed x_Strayed_index (xfld_cons wn_NoRow cx_NoRow x_NoRow_index xfld_nil)))), (xfld_cons wn_Taken cx_Taken x_Taken_key (xfld_cons wn_NoKey cx_NoKey x_NoKey_key xfld_nil)), (xfld_cons wn_TooFew cx_TooFew x_TooFew_least xfld_nil), (xfld_cons wn_TooDeep cx_TooDeep x_TooDeep_limit (xfld_cons wn_TooLong cx_TooLong x_TooLong_limit xfld_nil)), (xfld_cons wn_InvalidText cx_InvalidText x_InvalidText_line xfld_nil), (xfld_cons wn_NameTaken cx_NameTaken x_NameTaken_name (xfld_cons wn_NoName cx_NoName x_NoName_name xfld_nil)), (xfld_cons wn_Busy cx_Busy x_Busy_number (xfld_cons wn_Blocked cx_Blocked x_Blocked_number (xfld_cons wn_Unsettled cx_Unsettled x_Unsettled_number (xfld_cons wn_NotPrepared cx_NotPrepared x_NotPrepared_number (xfld_cons wn_NoNumber cx_NoNumber x_NoNumber_number (xfld_cons wn_NoTransaction cx_NoTransaction x_NoTransaction_number xfld_nil)))))), (xfld_cons wn_NoPage cx_NoPage x_NoPage_page xfld_nil), (xfld_cons wn_NotSpan cx_NotSpan x_NotSpan_row (xfld_cons wn_NotCleaning cx_NotCleaning x_NotCleaning_row xfld_nil)), (xfld_cons wn_NoSlot cx_NoSlot x_NoSlot_slot (xfld_cons wn_NotDead cx_NotDead x_NotDead_slot xfld_nil)), (xfld_cons wn_InvalidKey cx_InvalidKey x_InvalidKey_value (xfld_cons wn_InvalidValue cx_InvalidValue x_InvalidValue_value (xfld_cons wn_InvalidView cx_InvalidView x_InvalidView_value (xfld_cons wn_InvalidLoss cx_InvalidLoss x_InvalidLoss_value (xfld_cons wn_InvalidPages cx_InvalidPages x_InvalidPages_value xfld_nil))))), (xfld_cons wn_InvalidText cx_InvalidText x_InvalidText_word xfld_nil), ⟨_, PySem.W.mg_of X G wn_TooLong⟩, ⟨_, PySem.W.mg_of X G wn_TooDeep⟩, ⟨_, PySem.W.mg_of X G wn_Full⟩, ⟨_, PySem.W.mg_of X G wn_NoTransaction⟩, ⟨_, PySem.W.mg_of X G wn_NoNumber⟩, ⟨_, PySem.W.mg_of X G wn_NotCleaning⟩, ⟨_, PySem.W.mg_of X G wn_NotSpan⟩, ⟨_, PySem.W.mg_of X G wn_NotPrepared⟩, ⟨_, PySem.W.mg_of X G wn_NotDead⟩, ⟨_, PySem.W.mg_of X G wn_NoSlot⟩, ⟨_, PySem.W.mg_of X G wn_NoRow⟩, ⟨_, PySem.W.mg_of X G wn_NoPage⟩, ⟨_, PySem.W.mg_of X G wn_NoName⟩, ⟨_, PySem.W.mg_of X G wn_NoKey⟩, ⟨_, PySem.W.mg_of X G wn_Unsettled⟩, ⟨_, PySem.W.mg_of X G wn_Taken⟩, ⟨_, PySem.W.mg_of X G wn_Blocked⟩, ⟨_, PySem.W.mg_of X G wn_Busy⟩, ⟨_, PySem.W.mg_of X G wn_Strayed⟩, ⟨_, PySem.W.mg_of X G wn_NotOuter⟩, ⟨_, PySem.W.mg_of X G wn_Cancelled⟩, ⟨_, PySem.W.mg_of X G wn_Ended⟩, ⟨_, PySem.W.mg_of X G wn_NameTaken⟩, ⟨_, PySem.W.mg_of X G wn_UnknownCommand⟩, ⟨_, PySem.W.mg_of X G wn_TooFew⟩, ⟨_, PySem.W.mg_of X G wn_Unplayed⟩, ⟨_, PySem.W.mg_of X G wn_Barred⟩, ⟨_, PySem.W.mg_of X G wn_InvalidText⟩, ⟨_, PySem.W.mg_of X G wn_InvalidRow⟩, ⟨_, PySem.W.mg_of X G wn_InvalidPages⟩, ⟨_, PySem.W.mg_of X G wn_InvalidLoss⟩, ⟨_, PySem.W.mg_of X G wn_InvalidView⟩, ⟨_, PySem.W.mg_of X G wn_InvalidValue⟩, ⟨_, PySem.W.mg_of X G wn_InvalidKey⟩, ⟨_, PySem.W.mg_of X G wn_SizeError⟩, ⟨_, PySem.W.mg_of X G wn_AbsentError⟩, ⟨_, PySem.W.mg_of X G wn_TurnError⟩, ⟨_, PySem.W.mg_of X G wn_HoldError⟩, xis_of (cs := [(Str.ofString "HoldError", C_HoldError), (Str.ofString "TurnError", C_TurnError), (Str.ofString "AbsentError", C_AbsentError), (Str.ofString "SizeError", C_SizeError), (Str.ofString "InvalidKey", C_InvalidKey), (Str.ofString "InvalidValue", C_InvalidValue), (Str.ofString "InvalidView", C_InvalidView), (Str.ofString "InvalidLoss", C_InvalidLoss), (Str.ofString "InvalidPages", C_InvalidPages), (Str.ofString "InvalidRow", C_InvalidRow), (Str.ofString "InvalidText", C_InvalidText), (Str.ofString "Barred", C_Barred), (Str.ofString "Unplayed", C_Unplayed), (Str.ofString "TooFew", C_TooFew), (Str.ofString "UnknownCommand", C_UnknownCommand), (Str.ofString "NameTaken", C_NameTaken), (Str.ofString "Ended", C_Ended), (Str.ofString "Cancelled", C_Cancelled), (Str.ofString "NotOuter", C_NotOuter), (Str.ofString "Strayed", C_Strayed), (Str.ofString "Busy", C_Busy), (Str.ofString "Blocked", C_Blocked), (Str.ofString "Taken", C_Taken), (Str.ofString "Unsettled", C_Unsettled), (Str.ofString "NoKey", C_NoKey), (Str.ofString "NoName", C_NoName), (Str.ofString "NoPage", C_NoPage), (Str.ofString "NoRow", C_NoRow), (Str.ofString "NoSlot", C_NoSlot), (Str.ofString "NotDead", C_NotDead), (Str.ofString "NotPrepared", C_NotPrepared), (Str.ofString "NotSpan", C_NotSpan), (Str.ofString "NotCleaning", C_NotCleaning), (Str.ofString "NoNumber", C_NoNumber), (Str.ofString "NoTransaction", C_NoTransaction), (Str.ofString "Full", C_Full), (Str.ofString "TooDeep", C_TooDeep), (Str.ofString "TooLong", C_TooLong)]) (ow := [((37, "TooLong"), C_TooLong), ((36, "TooDeep"), C_TooDeep), ((35, "Full"), C_Full), ((34, "NoTransaction"), C_NoTransaction), ((33, "NoNumber"), C_NoNumber), ((32, "NotCleaning"), C_NotCleaning), ((31, "NotSpan"), C_NotSpan), ((30, "NotPrepared"), C_NotPrepared), ((29, "NotDead"), C_NotDead), ((28, "NoSlot"), C_NoSlot), ((27, "NoRow"), C_NoRow), ((26, "NoPage"), C_NoPage), ((25, "NoName"), C_NoName), ((24, "NoKey"), C_NoKey), ((23, "Unsettled"), C_Unsettled), ((22, "Taken"), C_Taken), ((21, "Blocked"), C_Blocked), ((20, "Busy"), C_Busy), ((19, "Strayed"), C_Strayed), ((18, "NotOuter"), C_NotOuter), ((17, "Cancelled"), C_Cancelled), ((16, "Ended"), C_Ended), ((15, "NameTaken"), C_NameTaken), ((14, "UnknownCommand"), C_UnknownCommand), ((13, "TooFew"), C_TooFew), ((12, "Unplayed"), C_Unplayed), ((11, "Barred"), C_Barred), ((10, "InvalidText"), C_InvalidText), ((9, "InvalidRow"), C_InvalidRow), ((8, "InvalidPages"), C_InvalidPages), ((7, "InvalidLoss"), C_InvalidLoss), ((6, "InvalidView"), C_InvalidView), ((5, "InvalidValue"), C_InvalidValue), ((4, "InvalidKey"), C_InvalidKey), ((3, "SizeError"), C_SizeError), ((2, "AbsentError"), C_AbsentError), ((1, "TurnError"), C_TurnError), ((0, "HoldError"), C_HoldError)]) (List.forall_mem_cons.2 ⟨⟨wn_HoldError, cx_HoldError⟩, (List.forall_mem_cons.2 ⟨⟨wn_TurnError, cx_TurnError⟩, (List.forall_mem_cons.2 ⟨⟨wn_AbsentError, cx_AbsentError⟩, (List.forall_mem_cons.2 ⟨⟨wn_SizeError, cx_SizeError⟩, (List.forall_mem_cons.2 ⟨⟨wn_InvalidKey, cx_InvalidKey⟩, (List.forall_mem_cons.2 ⟨⟨wn_InvalidValue, cx_InvalidValue⟩, (List.forall_mem_cons.2 ⟨⟨wn_InvalidView, cx_InvalidView⟩, (List.forall_mem_cons.2 ⟨⟨wn_InvalidLoss, cx_InvalidLoss⟩, (List.forall_mem_cons.2 ⟨⟨wn_InvalidPages, cx_InvalidPages⟩, (List.forall_mem_cons.2 ⟨⟨wn_InvalidRow, cx_InvalidRow⟩, (List.forall_mem_cons.2 ⟨⟨wn_InvalidText, cx_InvalidText⟩, (List.forall_mem_cons.2 ⟨⟨wn_Barred, cx_Barred⟩, (List.forall_mem_cons.2 ⟨⟨wn_Unplayed, cx_Unplayed⟩, (List.forall_mem_cons.2 ⟨⟨wn_TooFew, cx_TooFew⟩, (List.forall_mem_cons.2 ⟨⟨wn_UnknownCommand, cx_UnknownCommand⟩, (List.forall_mem_cons.2 ⟨⟨wn_NameTaken, cx_NameTaken⟩, (List.forall_mem_cons.2 ⟨⟨wn_Ended, cx_Ended⟩, (List.forall_mem_cons.2 ⟨⟨wn_Cancelled, cx_Cancelled⟩, (List.forall_mem_cons.2 ⟨⟨wn_NotOuter, cx_NotOuter⟩, (List.forall_mem_cons.2 ⟨⟨wn_Strayed, cx_Strayed⟩, (List.forall_mem_cons.2 ⟨⟨wn_Busy, cx_Busy⟩, (List.forall_mem_cons.2 ⟨⟨wn_Blocked, cx_Blocked⟩, (List.forall_mem_cons.2 ⟨⟨wn_Taken, cx_Taken⟩, (List.forall_mem_cons.2 ⟨⟨wn_Unsettled, cx_Unsettled⟩, (List.forall_mem_cons.2 ⟨⟨wn_NoKey, cx_NoKey⟩, (List.forall_mem_cons.2 ⟨⟨wn_NoName, cx_NoName⟩, (List.forall_mem_cons.2 ⟨⟨wn_NoPage, cx_NoPage⟩, (List.forall_mem_cons.2 ⟨⟨wn_NoRow, cx_NoRow⟩, (List.forall_mem_cons.2 ⟨⟨wn_NoSlot, cx_NoSlot⟩, (List.forall_mem_cons.2 ⟨⟨wn_NotDead, cx_NotDead⟩, (List.forall_mem_cons.2 ⟨⟨wn_NotPrepared, cx_NotPrepared⟩, (List.forall_mem_cons.2 ⟨⟨wn_NotSpan, cx_NotSpan⟩, (List.forall_mem_cons.2 ⟨⟨wn_NotCleaning, cx_NotCleaning⟩, (List.forall_mem_cons.2 ⟨⟨wn_NoNumber, cx_NoNumber⟩, (List.forall_mem_cons.2 ⟨⟨wn_NoTransaction, cx_NoTransaction⟩, (List.forall_mem_cons.2 ⟨⟨wn_Full, cx_Full⟩, (List.forall_mem_cons.2 ⟨⟨wn_TooDeep, cx_TooDeep⟩, (List.forall_mem_cons.2 ⟨⟨wn_TooLong, cx_TooLong⟩, (fun _ h => absurd h List.not_mem_nil)⟩)⟩)⟩)⟩)⟩)⟩)⟩)⟩)⟩)⟩)⟩)⟩)⟩)⟩)⟩)⟩)⟩)⟩)⟩)⟩)⟩)⟩)⟩)⟩)⟩)⟩)⟩)⟩)⟩)⟩)⟩)⟩)⟩)⟩)⟩)⟩)⟩)⟩) rfl (List.forall_mem_cons.2 ⟨PySem.W.mg_of X G wn_TooLong, (List.forall_mem_cons.2 ⟨PySem.W.mg_of X G wn_TooDeep, (List.forall_mem_cons.2 ⟨PySem.W.mg_of X G wn_Full, (List.forall_mem_cons.2 ⟨PySem.W.mg_of X G wn_NoTransaction, (List.forall_mem_cons.2 ⟨PySem.W.mg_of X G wn_NoNumber, (List.forall_mem_cons.2 ⟨PySem.W.mg_of X G wn_NotCleaning, (List.forall_mem_cons.2 ⟨PySem.W.mg_of X G wn_NotSpan, (List.forall_mem_cons.2 ⟨PySem.W.mg_of X G wn_NotPrepared, (List.forall_mem_cons.2 ⟨PySem.W.mg_of X G wn_NotDead, (List.forall_mem_cons.2 ⟨PySem.W.mg_of X G wn_NoSlot, (List.forall_mem_cons.2 ⟨PySem.W.mg_of X G wn_NoRow, (List.forall_mem_cons.2 ⟨PySem.W.mg_of X G wn_NoPage, (List.forall_mem_cons.2 ⟨PySem.W.mg_of X G wn_NoName, (List.forall_mem_cons.2 ⟨PySem.W.mg_of X G wn_NoKey, (List.forall_mem_cons.2 ⟨PySem.W.mg_of X G wn_Unsettled, (List.forall_mem_cons.2 ⟨PySem.W.mg_of X G wn_Taken, (List.forall_mem_cons.2 ⟨PySem.W.mg_of X G wn_Blocked, (List.forall_mem_cons.2 ⟨PySem.W.mg_of X G wn_Busy, (List.forall_mem_cons.2 ⟨PySem.W.mg_of X G wn_Strayed, (List.forall_mem_cons.2 ⟨PySem.W.mg_of X G wn_NotOuter, (List.forall_mem_cons.2 ⟨PySem.W.mg_of X G wn_Cancelled, (List.forall_mem_cons.2 ⟨PySem.W.mg_of X G wn_Ended, (List.forall_mem_cons.2 ⟨PySem.W.mg_of X G wn_NameTaken, (List.forall_mem_cons.2 ⟨PySem.W.mg_of X G wn_UnknownCommand, (List.forall_mem_cons.2 ⟨PySem.W.mg_of X G wn_TooFew, (List.forall_mem_cons.2 ⟨PySem.W.mg_of X G wn_Unplayed, (List.forall_mem_cons.2 ⟨PySem.W.mg_of X G wn_Barred, (List.forall_mem_cons.2 ⟨PySem.W.mg_of X G wn_InvalidText, (List.forall_mem_cons.2 ⟨PySem.W.mg_of X G wn_InvalidRow, (List.forall_mem_cons.2 ⟨PySem.W.mg_of X G wn_InvalidPages, (List.forall_mem_cons.2 ⟨PySem.W.mg_of X G wn_InvalidLoss, (List.forall_mem_cons.2 ⟨PySem.W.mg_of X G wn_InvalidView, (List.forall_mem_cons.2 ⟨PySem.W.mg_of X G wn_InvalidValue, (List.forall_mem_cons.2 ⟨PySem.W.mg_of X G wn_InvalidKey, (List.forall_mem_cons.2 ⟨PySem.W.mg_of X G wn_SizeError, (List.forall_mem_cons.2 ⟨PySem.W.mg_of X G wn_AbsentError, (List.forall_mem_cons.2 ⟨PySem.W.mg_of X G wn_TurnError, (List.forall_mem_cons.2 ⟨PySem.W.mg_of X G wn_HoldError, (fun _ h => absurd h List.not_mem_nil)⟩)⟩)⟩)⟩)⟩)⟩)⟩)⟩)⟩)⟩)⟩)⟩)⟩)⟩)⟩)⟩)⟩)⟩)⟩)⟩)⟩)⟩)⟩)⟩)⟩)⟩)⟩)⟩)⟩)⟩)⟩)⟩)⟩)⟩)⟩)⟩)⟩)⟩) rfl xis⟩
  have D_TooLong___init__ : XMkAt K mg "TooLong" "TooLong.__init__" s_TooLong___init__ ps_TooLong___init__ ["limit"] := ⟨_, _, _, wn_TooLong, PySem.W.mg_of X G wn_TooLong, cx_TooLong, (List.forall_mem_cons.2 ⟨taker_of x_TooLong_limit, (fun _ h => absurd h List.not_mem_nil)⟩), a0, t0, fun_mk (st := s_TooLong___init__) l0 c0 k0, (fun_mk (st := s_TooLong___init__) l0 c0 k0).binds (ps := ps_TooLong___init__) fun _ _ _ _ _ _ us hl => match us, hl with | [_, _], _ => rfl, rfl⟩
  have D_TooDeep___init__ : XMkAt K mg "TooDeep" "TooDeep.__init__" s_TooDeep___init__ ps_TooDeep___init__ ["limit"] := ⟨_, _, _, wn_TooDeep, PySem.W.mg_of X G wn_TooDeep, cx_TooDeep, (List.forall_mem_cons.2 ⟨taker_of x_TooDeep_limit, (fun _ h => absurd h List.not_mem_nil)⟩), a1, t1, fun_mk (st := s_TooDeep___init__) l1 c1 k1, (fun_mk (st := s_TooDeep___init__) l1 c1 k1).binds (ps := ps_TooDeep___init__) fun _ _ _ _ _ _ us hl => match us, hl with | [_, _], _ => rfl, rfl⟩
  have D_NoTransaction___init__ : XMkAt K mg "NoTransaction" "NoTransaction.__init__" s_NoTransaction___init__ ps_NoTransaction___init__ ["number"] := ⟨_, _, _, wn_NoTransaction, PySem.W.mg_of X G wn_NoTransaction, cx_NoTransaction, (List.forall_mem_cons.2 ⟨taker_of x_NoTransaction_number, (fun _ h => absurd h List.not_mem_nil)⟩), a2, t2, fun_mk (st := s_NoTransaction___init__) l2 c2 k2, (fun_mk (st := s_NoTransaction___init__) l2 c2 k2).binds (ps := ps_NoTransaction___init__) fun _ _ _ _ _ _ us hl => match us, hl with | [_, _], _ => rfl, rfl⟩
  have D_NoNumber___init__ : XMkAt K mg "NoNumber" "NoNumber.__init__" s_NoNumber___init__ ps_NoNumber___init__ ["number"] := ⟨_, _, _, wn_NoNumber, PySem.W.mg_of X G wn_NoNumber, cx_NoNumber, (List.forall_mem_cons.2 ⟨taker_of x_NoNumber_number, (fun _ h => absurd h List.not_mem_nil)⟩), a3, t3, fun_mk (st := s_NoNumber___init__) l3 c3 k3, (fun_mk (st := s_NoNumber___init__) l3 c3 k3).binds (ps := ps_NoNumber___init__) fun _ _ _ _ _ _ us hl => match us, hl with | [_, _], _ => rfl, rfl⟩
  have D_NotCleaning___init__ : XMkAt K mg "NotCleaning" "NotCleaning.__init__" s_NotCleaning___init__ ps_NotCleaning___init__ ["row"] := ⟨_, _, _, wn_NotCleaning, PySem.W.mg_of X G wn_NotCleaning, cx_NotCleaning, (List.forall_mem_cons.2 ⟨taker_of x_NotCleaning_row, (fun _ h => absurd h List.not_mem_nil)⟩), a4, t4, fun_mk (st := s_NotCleaning___init__) l4 c4 k4, (fun_mk (st := s_NotCleaning___init__) l4 c4 k4).binds (ps := ps_NotCleaning___init__) fun _ _ _ _ _ _ us hl => match us, hl with | [_, _], _ => rfl, rfl⟩
  have D_NotSpan___init__ : XMkAt K mg "NotSpan" "NotSpan.__init__" s_NotSpan___init__ ps_NotSpan___init__ ["row"] := ⟨_, _, _, wn_NotSpan, PySem.W.mg_of X G wn_NotSpan, cx_NotSpan, (List.forall_mem_cons.2 ⟨taker_of x_NotSpan_row, (fun _ h => absurd h List.not_mem_nil)⟩), a5, t5, fun_mk (st := s_NotSpan___init__) l5 c5 k5, (fun_mk (st := s_NotSpan___init__) l5 c5 k5).binds (ps := ps_NotSpan___init__) fun _ _ _ _ _ _ us hl => match us, hl with | [_, _], _ => rfl, rfl⟩
  have D_NotPrepared___init__ : XMkAt K mg "NotPrepared" "NotPrepared.__init__" s_NotPrepared___init__ ps_NotPrepared___init__ ["number"] := ⟨_, _, _, wn_NotPrepared, PySem.W.mg_of X G wn_NotPrepared, cx_NotPrepared, (List.forall_mem_cons.2 ⟨taker_of x_NotPrepared_number, (fun _ h => absurd h List.not_mem_nil)⟩), a6, t6, fun_mk (st := s_NotPrepared___init__) l6 c6 k6, (fun_mk (st := s_NotPrepared___init__) l6 c6 k6).binds (ps := ps_NotPrepared___init__) fun _ _ _ _ _ _ us hl => match us, hl with | [_, _], _ => rfl, rfl⟩
  have D_NotDead___init__ : XMkAt K mg "NotDead" "NotDead.__init__" s_NotDead___init__ ps_NotDead___init__ ["slot"] := ⟨_, _, _, wn_NotDead, PySem.W.mg_of X G wn_NotDead, cx_NotDead, (List.forall_mem_cons.2 ⟨taker_of x_NotDead_slot, (fun _ h => absurd h List.not_mem_nil)⟩), a7, t7, fun_mk (st := s_NotDead___init__) l7 c7 k7, (fun_mk (st := s_NotDead___init__) l7 c7 k7).binds (ps := ps_NotDead___init__) fun _ _ _ _ _ _ us hl => match us, hl with | [_, _], _ => rfl, rfl⟩
  have D_NoSlot___init__ : XMkAt K mg "NoSlot" "NoSlot.__init__" s_NoSlot___init__ ps_NoSlot___init__ ["slot"] := ⟨_, _, _, wn_NoSlot, PySem.W.mg_of X G wn_NoSlot, cx_NoSlot, (List.forall_mem_cons.2 ⟨taker_of x_NoSlot_slot, (fun _ h => absurd h List.not_mem_nil)⟩), a8, t8, fun_mk (st := s_NoSlot___init__) l8 c8 k8, (fun_mk (st := s_NoSlot___init__) l8 c8 k8).binds (ps := ps_NoSlot___init__) fun _ _ _ _ _ _ us hl => match us, hl with | [_, _], _ => rfl, rfl⟩
  have D_NoRow___init__ : XMkAt K mg "NoRow" "NoRow.__init__" s_NoRow___init__ ps_NoRow___init__ ["index"] := ⟨_, _, _, wn_NoRow, PySem.W.mg_of X G wn_NoRow, cx_NoRow, (List.forall_mem_cons.2 ⟨taker_of x_NoRow_index, (fun _ h => absurd h List.not_mem_nil)⟩), a9, t9, fun_mk (st := s_NoRow___init__) l9 c9 k9, (fun_mk (st := s_NoRow___init__) l9 c9 k9).binds (ps := ps_NoRow___init__) fun _ _ _ _ _ _ us hl => match us, hl with | [_, _], _ => rfl, rfl⟩
  have D_NoPage___init__ : XMkAt K mg "NoPage" "NoPage.__init__" s_NoPage___init__ ps_NoPage___init__ ["page"] := ⟨_, _, _, wn_NoPage, PySem.W.mg_of X G wn_NoPage, cx_NoPage, (List.forall_mem_cons.2 ⟨taker_of x_NoPage_page, (fun _ h => absurd h List.not_mem_nil)⟩), a10, t10, fun_mk (st := s_NoPage___init__) l10 c10 k10, (fun_mk (st := s_NoPage___init__) l10 c10 k10).binds (ps := ps_NoPage___init__) fun _ _ _ _ _ _ us hl => match us, hl with | [_, _], _ => rfl, rfl⟩
  have D_NoName___init__ : XMkAt K mg "NoName" "NoName.__init__" s_NoName___init__ ps_NoName___init__ ["name"] := ⟨_, _, _, wn_NoName, PySem.W.mg_of X G wn_NoName, cx_NoName, (List.forall_mem_cons.2 ⟨taker_of x_NoName_name, (fun _ h => absurd h List.not_mem_nil)⟩), a11, t11, fun_mk (st := s_NoName___init__) l11 c11 k11, (fun_mk (st := s_NoName___init__) l11 c11 k11).binds (ps := ps_NoName___init__) fun _ _ _ _ _ _ us hl => match us, hl with | [_, _], _ => rfl, rfl⟩
  have D_NoKey___init__ : XMkAt K mg "NoKey" "NoKey.__init__" s_NoKey___init__ ps_NoKey___init__ ["key"] := ⟨_, _, _, wn_NoKey, PySem.W.mg_of X G wn_NoKey, cx_NoKey, (List.forall_mem_cons.2 ⟨taker_of x_NoKey_key, (fun _ h => absurd h List.not_mem_nil)⟩), a12, t12, fun_mk (st := s_NoKey___init__) l12 c12 k12, (fun_mk (st := s_NoKey___init__) l12 c12 k12).binds (ps := ps_NoKey___init__) fun _ _ _ _ _ _ us hl => match us, hl with | [_, _], _ => rfl, rfl⟩
  have D_Unsettled___init__ : XMkAt K mg "Unsettled" "Unsettled.__init__" s_Unsettled___init__ ps_Unsettled___init__ ["number"] := ⟨_, _, _, wn_Unsettled, PySem.W.mg_of X G wn_Unsettled, cx_Unsettled, (List.forall_mem_cons.2 ⟨taker_of x_Unsettled_number, (fun _ h => absurd h List.not_mem_nil)⟩), a13, t13, fun_mk (st := s_Unsettled___init__) l13 c13 k13, (fun_mk (st := s_Unsettled___init__) l13 c13 k13).binds (ps := ps_Unsettled___init__) fun _ _ _ _ _ _ us hl => match us, hl with | [_, _], _ => rfl, rfl⟩
  have D_Taken___init__ : XMkAt K mg "Taken" "Taken.__init__" s_Taken___init__ ps_Taken___init__ ["key"] := ⟨_, _, _, wn_Taken, PySem.W.mg_of X G wn_Taken, cx_Taken, (List.forall_mem_cons.2 ⟨taker_of x_Taken_key, (fun _ h => absurd h List.not_mem_nil)⟩), a14, t14, fun_mk (st := s_Taken___init__) l14 c14 k14, (fun_mk (st := s_Taken___init__) l14 c14 k14).binds (ps := ps_Taken___init__) fun _ _ _ _ _ _ us hl => match us, hl with | [_, _], _ => rfl, rfl⟩
  have D_Blocked___init__ : XMkAt K mg "Blocked" "Blocked.__init__" s_Blocked___init__ ps_Blocked___init__ ["number"] := ⟨_, _, _, wn_Blocked, PySem.W.mg_of X G wn_Blocked, cx_Blocked, (List.forall_mem_cons.2 ⟨taker_of x_Blocked_number, (fun _ h => absurd h List.not_mem_nil)⟩), a15, t15, fun_mk (st := s_Blocked___init__) l15 c15 k15, (fun_mk (st := s_Blocked___init__) l15 c15 k15).binds (ps := ps_Blocked___init__) fun _ _ _ _ _ _ us hl => match us, hl with | [_, _], _ => rfl, rfl⟩
  have D_Busy___init__ : XMkAt K mg "Busy" "Busy.__init__" s_Busy___init__ ps_Busy___init__ ["number"] := ⟨_, _, _, wn_Busy, PySem.W.mg_of X G wn_Busy, cx_Busy, (List.forall_mem_cons.2 ⟨taker_of x_Busy_number, (fun _ h => absurd h List.not_mem_nil)⟩), a16, t16, fun_mk (st := s_Busy___init__) l16 c16 k16, (fun_mk (st := s_Busy___init__) l16 c16 k16).binds (ps := ps_Busy___init__) fun _ _ _ _ _ _ us hl => match us, hl with | [_, _], _ => rfl, rfl⟩
  have D_Strayed___init__ : XMkAt K mg "Strayed" "Strayed.__init__" s_Strayed___init__ ps_Strayed___init__ ["index"] := ⟨_, _, _, wn_Strayed, PySem.W.mg_of X G wn_Strayed, cx_Strayed, (List.forall_mem_cons.2 ⟨taker_of x_Strayed_index, (fun _ h => absurd h List.not_mem_nil)⟩), a17, t17, fun_mk (st := s_Strayed___init__) l17 c17 k17, (fun_mk (st := s_Strayed___init__) l17 c17 k17).binds (ps := ps_Strayed___init__) fun _ _ _ _ _ _ us hl => match us, hl with | [_, _], _ => rfl, rfl⟩
  have D_NameTaken___init__ : XMkAt K mg "NameTaken" "NameTaken.__init__" s_NameTaken___init__ ps_NameTaken___init__ ["name"] := ⟨_, _, _, wn_NameTaken, PySem.W.mg_of X G wn_NameTaken, cx_NameTaken, (List.forall_mem_cons.2 ⟨taker_of x_NameTaken_name, (fun _ h => absurd h List.not_mem_nil)⟩), a18, t18, fun_mk (st := s_NameTaken___init__) l18 c18 k18, (fun_mk (st := s_NameTaken___init__) l18 c18 k18).binds (ps := ps_NameTaken___init__) fun _ _ _ _ _ _ us hl => match us, hl with | [_, _], _ => rfl, rfl⟩
  have D_TooFew___init__ : XMkAt K mg "TooFew" "TooFew.__init__" s_TooFew___init__ ps_TooFew___init__ ["least"] := ⟨_, _, _, wn_TooFew, PySem.W.mg_of X G wn_TooFew, cx_TooFew, (List.forall_mem_cons.2 ⟨taker_of x_TooFew_least, (fun _ h => absurd h List.not_mem_nil)⟩), a19, t19, fun_mk (st := s_TooFew___init__) l19 c19 k19, (fun_mk (st := s_TooFew___init__) l19 c19 k19).binds (ps := ps_TooFew___init__) fun _ _ _ _ _ _ us hl => match us, hl with | [_, _], _ => rfl, rfl⟩
  have D_Unplayed___init__ : XMkAt K mg "Unplayed" "Unplayed.__init__" s_Unplayed___init__ ps_Unplayed___init__ ["index"] := ⟨_, _, _, wn_Unplayed, PySem.W.mg_of X G wn_Unplayed, cx_Unplayed, (List.forall_mem_cons.2 ⟨taker_of x_Unplayed_index, (fun _ h => absurd h List.not_mem_nil)⟩), a20, t20, fun_mk (st := s_Unplayed___init__) l20 c20 k20, (fun_mk (st := s_Unplayed___init__) l20 c20 k20).binds (ps := ps_Unplayed___init__) fun _ _ _ _ _ _ us hl => match us, hl with | [_, _], _ => rfl, rfl⟩
  have D_Barred___init__ : XMkAt K mg "Barred" "Barred.__init__" s_Barred___init__ ps_Barred___init__ ["bar"] := ⟨_, _, _, wn_Barred, PySem.W.mg_of X G wn_Barred, cx_Barred, (List.forall_mem_cons.2 ⟨taker_of x_Barred_bar, (fun _ h => absurd h List.not_mem_nil)⟩), a21, t21, fun_mk (st := s_Barred___init__) l21 c21 k21, (fun_mk (st := s_Barred___init__) l21 c21 k21).binds (ps := ps_Barred___init__) fun _ _ _ _ _ _ us hl => match us, hl with | [_, _], _ => rfl, rfl⟩
  have D_InvalidText___init__ : XMkAt K mg "InvalidText" "InvalidText.__init__" s_InvalidText___init__ ps_InvalidText___init__ ["line", "word"] := ⟨_, _, _, wn_InvalidText, PySem.W.mg_of X G wn_InvalidText, cx_InvalidText, (List.forall_mem_cons.2 ⟨taker_of x_InvalidText_line, (List.forall_mem_cons.2 ⟨taker_of x_InvalidText_word, (fun _ h => absurd h List.not_mem_nil)⟩)⟩), a22, t22, fun_mk (st := s_InvalidText___init__) l22 c22 k22, (fun_mk (st := s_InvalidText___init__) l22 c22 k22).binds (ps := ps_InvalidText___init__) fun _ _ _ _ _ _ us hl => match us, hl with | [_, _, _], _ => rfl, rfl⟩
  have D_InvalidRow___init__ : XMkAt K mg "InvalidRow" "InvalidRow.__init__" s_InvalidRow___init__ ps_InvalidRow___init__ ["index"] := ⟨_, _, _, wn_InvalidRow, PySem.W.mg_of X G wn_InvalidRow, cx_InvalidRow, (List.forall_mem_cons.2 ⟨taker_of x_InvalidRow_index, (fun _ h => absurd h List.not_mem_nil)⟩), a23, t23, fun_mk (st := s_InvalidRow___init__) l23 c23 k23, (fun_mk (st := s_InvalidRow___init__) l23 c23 k23).binds (ps := ps_InvalidRow___init__) fun _ _ _ _ _ _ us hl => match us, hl with | [_, _], _ => rfl, rfl⟩
  have D_InvalidPages___init__ : XMkAt K mg "InvalidPages" "InvalidPages.__init__" s_InvalidPages___init__ ps_InvalidPages___init__ ["value"] := ⟨_, _, _, wn_InvalidPages, PySem.W.mg_of X G wn_InvalidPages, cx_InvalidPages, (List.forall_mem_cons.2 ⟨taker_of x_InvalidPages_value, (fun _ h => absurd h List.not_mem_nil)⟩), a24, t24, fun_mk (st := s_InvalidPages___init__) l24 c24 k24, (fun_mk (st := s_InvalidPages___init__) l24 c24 k24).binds (ps := ps_InvalidPages___init__) fun _ _ _ _ _ _ us hl => match us, hl with | [_, _], _ => rfl, rfl⟩
  have D_InvalidLoss___init__ : XMkAt K mg "InvalidLoss" "InvalidLoss.__init__" s_InvalidLoss___init__ ps_InvalidLoss___init__ ["value"] := ⟨_, _, _, wn_InvalidLoss, PySem.W.mg_of X G wn_InvalidLoss, cx_InvalidLoss, (List.forall_mem_cons.2 ⟨taker_of x_InvalidLoss_value, (fun _ h => absurd h List.not_mem_nil)⟩), a25, t25, fun_mk (st := s_InvalidLoss___init__) l25 c25 k25, (fun_mk (st := s_InvalidLoss___init__) l25 c25 k25).binds (ps := ps_InvalidLoss___init__) fun _ _ _ _ _ _ us hl => match us, hl with | [_, _], _ => rfl, rfl⟩
  have D_InvalidView___init__ : XMkAt K mg "InvalidView" "InvalidView.__init__" s_InvalidView___init__ ps_InvalidView___init__ ["value"] := ⟨_, _, _, wn_InvalidView, PySem.W.mg_of X G wn_InvalidView, cx_InvalidView, (List.forall_mem_cons.2 ⟨taker_of x_InvalidView_value, (fun _ h => absurd h List.not_mem_nil)⟩), a26, t26, fun_mk (st := s_InvalidView___init__) l26 c26 k26, (fun_mk (st := s_InvalidView___init__) l26 c26 k26).binds (ps := ps_InvalidView___init__) fun _ _ _ _ _ _ us hl => match us, hl with | [_, _], _ => rfl, rfl⟩
  have D_InvalidValue___init__ : XMkAt K mg "InvalidValue" "InvalidValue.__init__" s_InvalidValue___init__ ps_InvalidValue___init__ ["value"] := ⟨_, _, _, wn_InvalidValue, PySem.W.mg_of X G wn_InvalidValue, cx_InvalidValue, (List.forall_mem_cons.2 ⟨taker_of x_InvalidValue_value, (fun _ h => absurd h List.not_mem_nil)⟩), a27, t27, fun_mk (st := s_InvalidValue___init__) l27 c27 k27, (fun_mk (st := s_InvalidValue___init__) l27 c27 k27).binds (ps := ps_InvalidValue___init__) fun _ _ _ _ _ _ us hl => match us, hl with | [_, _], _ => rfl, rfl⟩
  have D_InvalidKey___init__ : XMkAt K mg "InvalidKey" "InvalidKey.__init__" s_InvalidKey___init__ ps_InvalidKey___init__ ["value"] := ⟨_, _, _, wn_InvalidKey, PySem.W.mg_of X G wn_InvalidKey, cx_InvalidKey, (List.forall_mem_cons.2 ⟨taker_of x_InvalidKey_value, (fun _ h => absurd h List.not_mem_nil)⟩), a28, t28, fun_mk (st := s_InvalidKey___init__) l28 c28 k28, (fun_mk (st := s_InvalidKey___init__) l28 c28 k28).binds (ps := ps_InvalidKey___init__) fun _ _ _ _ _ _ us hl => match us, hl with | [_, _], _ => rfl, rfl⟩
  have D__law_pen : DefAt K mg "_law_pen" s__law_pen ps__law_pen := ⟨⟨_, _, fun_mk (st := s__law_pen) l29 c29 k29, PySem.W.mg_of X G a29, (fun_mk (st := s__law_pen) l29 c29 k29).binds (ps := ps__law_pen) fun _ _ _ _ _ _ us hl => match us, hl with | [_], _ => rfl⟩⟩
  have D__law_draw : DefAt K mg "_law_draw" s__law_draw ps__law_draw := ⟨⟨_, _, fun_mk (st := s__law_draw) l30 c30 k30, PySem.W.mg_of X G a30, (fun_mk (st := s__law_draw) l30 c30 k30).binds (ps := ps__law_draw) fun _ _ _ _ _ _ us hl => match us, hl with | [_, _], _ => rfl⟩⟩
  have D__law_pick : DefAt K mg "_law_pick" s__law_pick ps__law_pick := ⟨⟨_, _, fun_mk (st := s__law_pick) l31 c31 k31, PySem.W.mg_of X G a31, (fun_mk (st := s__law_pick) l31 c31 k31).binds (ps := ps__law_pick) fun _ _ _ _ _ _ us hl => match us, hl with | [_, _], _ => rfl⟩⟩
  have D__law_odd : DefAt K mg "_law_odd" s__law_odd ps__law_odd := ⟨⟨_, _, fun_mk (st := s__law_odd) l32 c32 k32, PySem.W.mg_of X G a32, (fun_mk (st := s__law_odd) l32 c32 k32).binds (ps := ps__law_odd) fun _ _ _ _ _ _ us hl => match us, hl with | [_], _ => rfl⟩⟩
  have D__law_made : DefAt K mg "_law_made" s__law_made ps__law_made := ⟨⟨_, _, fun_mk (st := s__law_made) l33 c33 k33, PySem.W.mg_of X G a33, (fun_mk (st := s__law_made) l33 c33 k33).binds (ps := ps__law_made) fun _ _ _ _ _ _ us hl => match us, hl with | [_, _], _ => rfl⟩⟩
  have D__law_marks : DefAt K mg "_law_marks" s__law_marks ps__law_marks := ⟨⟨_, _, fun_mk (st := s__law_marks) l34 c34 k34, PySem.W.mg_of X G a34, (fun_mk (st := s__law_marks) l34 c34 k34).binds (ps := ps__law_marks) fun _ _ _ _ _ _ us hl => match us, hl with | [_], _ => rfl⟩⟩
  have D__law_bases : DefAt K mg "_law_bases" s__law_bases ps__law_bases := ⟨⟨_, _, fun_mk (st := s__law_bases) l35 c35 k35, PySem.W.mg_of X G a35, (fun_mk (st := s__law_bases) l35 c35 k35).binds (ps := ps__law_bases) fun _ _ _ _ _ _ us hl => match us, hl with | [_], _ => rfl⟩⟩
  have D__law_kept : DefAt K mg "_law_kept" s__law_kept ps__law_kept := ⟨⟨_, _, fun_mk (st := s__law_kept) l36 c36 k36, PySem.W.mg_of X G a36, (fun_mk (st := s__law_kept) l36 c36 k36).binds (ps := ps__law_kept) fun _ _ _ _ _ _ us hl => match us, hl with | [_, _], _ => rfl⟩⟩
  have D__law_kept_by_name : DefAt K mg "_law_kept_by_name" s__law_kept_by_name ps__law_kept_by_name := ⟨⟨_, _, fun_mk (st := s__law_kept_by_name) l37 c37 k37, PySem.W.mg_of X G a37, (fun_mk (st := s__law_kept_by_name) l37 c37 k37).binds (ps := ps__law_kept_by_name) fun _ _ _ _ _ _ us hl => match us, hl with | [_, _], _ => rfl⟩⟩
  have D_law : DefAt K mg "law" s_law ps_law := ⟨⟨_, _, fun_mk (st := s_law) l38 c38 k38, PySem.W.mg_of X G a38, (fun_mk (st := s_law) l38 c38 k38).binds (ps := ps_law) fun _ _ _ _ _ _ us hl => match us, hl with | [_], _ => rfl⟩⟩
  refine ok_law T D_law fun base _ _ => ?_
  have O_TooLong___init__ := ok_TooLong___init__ (P := l.prog) (w := w) (base := base) T D_TooLong___init__ 
  have O_TooDeep___init__ := ok_TooDeep___init__ (P := l.prog) (w := w) (base := base) T D_TooDeep___init__ 
  have O_NoTransaction___init__ := ok_NoTransaction___init__ (P := l.prog) (w := w) (base := base) T D_NoTransaction___init__ 
  have O_NoNumber___init__ := ok_NoNumber___init__ (P := l.prog) (w := w) (base := base) T D_NoNumber___init__ 
  have O_NotCleaning___init__ := ok_NotCleaning___init__ (P := l.prog) (w := w) (base := base) T D_NotCleaning___init__ 
  have O_NotSpan___init__ := ok_NotSpan___init__ (P := l.prog) (w := w) (base := base) T D_NotSpan___init__ 
  have O_NotPrepared___init__ := ok_NotPrepared___init__ (P := l.prog) (w := w) (base := base) T D_NotPrepared___init__ 
  have O_NotDead___init__ := ok_NotDead___init__ (P := l.prog) (w := w) (base := base) T D_NotDead___init__ 
  have O_NoSlot___init__ := ok_NoSlot___init__ (P := l.prog) (w := w) (base := base) T D_NoSlot___init__ 
  have O_NoRow___init__ := ok_NoRow___init__ (P := l.prog) (w := w) (base := base) T D_NoRow___init__ 
  have O_NoPage___init__ := ok_NoPage___init__ (P := l.prog) (w := w) (base := base) T D_NoPage___init__ 
  have O_NoName___init__ := ok_NoName___init__ (P := l.prog) (w := w) (base := base) T D_NoName___init__ 
  have O_NoKey___init__ := ok_NoKey___init__ (P := l.prog) (w := w) (base := base) T D_NoKey___init__ 
  have O_Unsettled___init__ := ok_Unsettled___init__ (P := l.prog) (w := w) (base := base) T D_Unsettled___init__ 
  have O_Taken___init__ := ok_Taken___init__ (P := l.prog) (w := w) (base := base) T D_Taken___init__ 
  have O_Blocked___init__ := ok_Blocked___init__ (P := l.prog) (w := w) (base := base) T D_Blocked___init__ 
  have O_Busy___init__ := ok_Busy___init__ (P := l.prog) (w := w) (base := base) T D_Busy___init__ 
  have O_Strayed___init__ := ok_Strayed___init__ (P := l.prog) (w := w) (base := base) T D_Strayed___init__ 
  have O_NameTaken___init__ := ok_NameTaken___init__ (P := l.prog) (w := w) (base := base) T D_NameTaken___init__ 
  have O_TooFew___init__ := ok_TooFew___init__ (P := l.prog) (w := w) (base := base) T D_TooFew___init__ 
  have O_Unplayed___init__ := ok_Unplayed___init__ (P := l.prog) (w := w) (base := base) T D_Unplayed___init__ 
  have O_Barred___init__ := ok_Barred___init__ (P := l.prog) (w := w) (base := base) T D_Barred___init__ 
  have O_InvalidText___init__ := ok_InvalidText___init__ (P := l.prog) (w := w) (base := base) T D_InvalidText___init__ 
  have O_InvalidRow___init__ := ok_InvalidRow___init__ (P := l.prog) (w := w) (base := base) T D_InvalidRow___init__ 
  have O_InvalidPages___init__ := ok_InvalidPages___init__ (P := l.prog) (w := w) (base := base) T D_InvalidPages___init__ 
  have O_InvalidLoss___init__ := ok_InvalidLoss___init__ (P := l.prog) (w := w) (base := base) T D_InvalidLoss___init__ 
  have O_InvalidView___init__ := ok_InvalidView___init__ (P := l.prog) (w := w) (base := base) T D_InvalidView___init__ 
  have O_InvalidValue___init__ := ok_InvalidValue___init__ (P := l.prog) (w := w) (base := base) T D_InvalidValue___init__ 
  have O_InvalidKey___init__ := ok_InvalidKey___init__ (P := l.prog) (w := w) (base := base) T D_InvalidKey___init__ 
  have O__law_pen := ok__law_pen (P := l.prog) (w := w) (base := base) T D__law_pen 
  have O__law_draw := ok__law_draw (P := l.prog) (w := w) (base := base) T D__law_draw 
  have O__law_pick := ok__law_pick (P := l.prog) (w := w) (base := base) T D__law_pick O__law_draw
  have O__law_odd := ok__law_odd (P := l.prog) (w := w) (base := base) T D__law_odd O__law_pick
  have O__law_made := ok__law_made (P := l.prog) (w := w) (base := base) T D__law_made O_TooLong___init__ O_TooDeep___init__ O_NoTransaction___init__ O_NoNumber___init__ O_NotCleaning___init__ O_NotSpan___init__ O_NotPrepared___init__ O_NotDead___init__ O_NoSlot___init__ O_NoRow___init__ O_NoPage___init__ O_NoName___init__ O_NoKey___init__ O_Unsettled___init__ O_Taken___init__ O_Blocked___init__ O_Busy___init__ O_Strayed___init__ O_NameTaken___init__ O_TooFew___init__ O_Unplayed___init__ O_Barred___init__ O_InvalidText___init__ O_InvalidRow___init__ O_InvalidPages___init__ O_InvalidLoss___init__ O_InvalidView___init__ O_InvalidValue___init__ O_InvalidKey___init__
  have O__law_marks := ok__law_marks (P := l.prog) (w := w) (base := base) T D__law_marks 
  have O__law_bases := ok__law_bases (P := l.prog) (w := w) (base := base) T D__law_bases 
  have O__law_kept := ok__law_kept (P := l.prog) (w := w) (base := base) T D__law_kept O_InvalidText___init__ O_TooLong___init__ O_TooDeep___init__ O_NoTransaction___init__ O_NoNumber___init__ O_NotCleaning___init__ O_NotSpan___init__ O_NotPrepared___init__ O_NotDead___init__ O_NoSlot___init__ O_NoRow___init__ O_NoPage___init__ O_NoName___init__ O_NoKey___init__ O_Unsettled___init__ O_Taken___init__ O_Blocked___init__ O_Busy___init__ O_Strayed___init__ O_NameTaken___init__ O_TooFew___init__ O_Unplayed___init__ O_Barred___init__ O_InvalidRow___init__ O_InvalidPages___init__ O_InvalidLoss___init__ O_InvalidView___init__ O_InvalidValue___init__ O_InvalidKey___init__
  have O__law_kept_by_name := ok__law_kept_by_name (P := l.prog) (w := w) (base := base) T D__law_kept_by_name O_TooLong___init__ O_TooDeep___init__ O_NoTransaction___init__ O_NoNumber___init__ O_NotCleaning___init__ O_NotPrepared___init__ O_NotSpan___init__ O_NotDead___init__ O_NoSlot___init__ O_NoRow___init__ O_NoPage___init__ O_NoName___init__ O_NoKey___init__ O_Unsettled___init__ O_Taken___init__ O_Blocked___init__ O_Busy___init__ O_Strayed___init__ O_NameTaken___init__ O_TooFew___init__ O_Unplayed___init__ O_Barred___init__ O_InvalidRow___init__ O_InvalidPages___init__ O_InvalidLoss___init__ O_InvalidView___init__ O_InvalidValue___init__ O_InvalidKey___init__ O_InvalidText___init__
  exact ⟨O__law_kept, O__law_kept_by_name, O__law_bases, O__law_marks, O__law_made, O__law_odd, O__law_pen⟩
end Mi
open PySem PySem.W PyProof.Rows
set_option maxRecDepth 100000 in
set_option maxHeartbeats 0 in
theorem PySem.Challenge.cw_whoheld_k01_errors_holds : PySem.Challenge.rw_whoheld_k01_errors.Holds := by
  refine K01head ?_
  k_fill
  refine Mi.walk_top (n := 63) (sp := fun K => Mi.spM K 1 Mi.m_law) (x := "_law_script") rfl (by decide) rfl (fun w h Y => PySem.W.kIn_of Y) ?Himp ?Hkno ?F ?S
  case Himp => decide +kernel
  case Hkno => intro p; rfl
  case F =>
    intro w mg fa h KX G hmg
    refine' Mi.fin KX G ?z0 ?z1 ?z2 ?z3 ?z4 ?z5 ?z6 ?z7 ?z8 ?z9 ?z10 ?wn_HoldError ?xk_HoldError ?wn_TurnError ?xk_TurnError ?wn_AbsentError ?xk_AbsentError ?wn_SizeError ?xk_SizeError ?wn_InvalidKey ?xk_InvalidKey ?x_InvalidKey_value ?wn_InvalidValue ?xk_InvalidValue ?x_InvalidValue_value ?wn_InvalidView ?xk_InvalidView ?x_InvalidView_value ?wn_InvalidLoss ?xk_InvalidLoss ?x_InvalidLoss_value ?wn_InvalidPages ?xk_InvalidPages ?x_InvalidPages_value ?wn_InvalidRow ?xk_InvalidRow ?x_InvalidRow_index ?wn_InvalidText ?xk_InvalidText ?x_InvalidText_line ?x_InvalidText_word ?wn_Barred ?xk_Barred ?x_Barred_bar ?wn_Unplayed ?xk_Unplayed ?x_Unplayed_index ?wn_TooFew ?xk_TooFew ?x_TooFew_least ?wn_UnknownCommand ?xk_UnknownCommand ?wn_NameTaken ?xk_NameTaken ?x_NameTaken_name ?wn_Ended ?xk_Ended ?wn_Cancelled ?xk_Cancelled ?wn_NotOuter ?xk_NotOuter ?wn_Strayed ?xk_Strayed ?x_Strayed_index ?wn_Busy ?xk_Busy ?x_Busy_number ?wn_Blocked ?xk_Blocked ?x_Blocked_number ?wn_Taken ?xk_Taken ?x_Taken_key ?wn_Unsettled ?xk_Unsettled ?x_Unsettled_number ?wn_NoKey ?xk_NoKey ?x_NoKey_key ?wn_NoName ?xk_NoName ?x_NoName_name ?wn_NoPage ?xk_NoPage ?x_NoPage_page ?wn_NoRow ?xk_NoRow ?x_NoRow_index ?wn_NoSlot ?xk_NoSlot ?x_NoSlot_slot ?wn_NotDead ?xk_NotDead ?x_NotDead_slot ?wn_NotPrepared ?xk_NotPrepared ?x_NotPrepared_number ?wn_NotSpan ?xk_NotSpan ?x_NotSpan_row ?wn_NotCleaning ?xk_NotCleaning ?x_NotCleaning_row ?wn_NoNumber ?xk_NoNumber ?x_NoNumber_number ?wn_NoTransaction ?xk_NoTransaction ?x_NoTransaction_number ?wn_Full ?xk_Full ?wn_TooDeep ?xk_TooDeep ?x_TooDeep_limit ?wn_TooLong ?xk_TooLong ?x_TooLong_limit ?xi_Full ?xi_NotOuter ?xi_Cancelled ?xi_Ended ?xi_UnknownCommand ?xis ?a0 ?t0 ?l0 ?c0 ?k0 ?a1 ?t1 ?l1 ?c1 ?k1 ?a2 ?t2 ?l2 ?c2 ?k2 ?a3 ?t3 ?l3 ?c3 ?k3 ?a4 ?t4 ?l4 ?c4 ?k4 ?a5 ?t5 ?l5 ?c5 ?k5 ?a6 ?t6 ?l6 ?c6 ?k6 ?a7 ?t7 ?l7 ?c7 ?k7 ?a8 ?t8 ?l8 ?c8 ?k8 ?a9 ?t9 ?l9 ?c9 ?k9 ?a10 ?t10 ?l10 ?c10 ?k10 ?a11 ?t11 ?l11 ?c11 ?k11 ?a12 ?t12 ?l12 ?c12 ?k12 ?a13 ?t13 ?l13 ?c13 ?k13 ?a14 ?t14 ?l14 ?c14 ?k14 ?a15 ?t15 ?l15 ?c15 ?k15 ?a16 ?t16 ?l16 ?c16 ?k16 ?a17 ?t17 ?l17 ?c17 ?k17 ?a18 ?t18 ?l18 ?c18 ?k18 ?a19 ?t19 ?l19 ?c19 ?k19 ?a20 ?t20 ?l20 ?c20 ?k20 ?a21 ?t21 ?l21 ?c21 ?k21 ?a22 ?t22 ?l22 ?c22 ?k22 ?a23 ?t23 ?l23 ?c23 ?k23 ?a24 ?t24 ?l24 ?c24 ?k24 ?a25 ?t25 ?l25 ?c25 ?k25 ?a26 ?t26 ?l26 ?c26 ?k26 ?a27 ?t27 ?l27 ?c27 ?k27 ?a28 ?t28 ?l28 ?c28 ?k28 ?a29 ?l29 ?c29 ?k29 ?a30 ?l30 ?c30 ?k30 ?a31 ?l31 ?c31 ?k31 ?a32 ?l32 ?c32 ?k32 ?a33 ?l33 ?c33 ?k33 ?a34 ?l34 ?c34 ?k34 ?a35 ?l35 ?c35 ?k35 ?a36 ?l36 ?c36 ?k36 ?a37 ?l37 ?c37 ?k37 ?a38 ?l38 ?c38 ?k38 _ hmg
    (case z0 => k_is)
    (case z1 => k_is)
    (case z2 => k_is)
    (case z3 => k_is)
    (case z4 => k_is)
    (case z5 => k_is)
    (case z6 => k_is)
    (case z7 => k_is)
    (case z8 => k_is)
    (case z9 => k_is)
    (case z10 => k_is)
    (case wn_HoldError => k_is)
    (case xk_HoldError => kernel_rfl)
    (case wn_TurnError => k_is)
    (case xk_TurnError => kernel_rfl)
    (case wn_AbsentError => k_is)
    (case xk_AbsentError => kernel_rfl)
    (case wn_SizeError => k_is)
    (case xk_SizeError => kernel_rfl)
    (case wn_InvalidKey => k_is)
    (case xk_InvalidKey => kernel_rfl)
    (case x_InvalidKey_value => k_is)
    (case wn_InvalidValue => k_is)
    (case xk_InvalidValue => kernel_rfl)
    (case x_InvalidValue_value => k_is)
    (case wn_InvalidView => k_is)
    (case xk_InvalidView => kernel_rfl)
    (case x_InvalidView_value => k_is)
    (case wn_InvalidLoss => k_is)
    (case xk_InvalidLoss => kernel_rfl)
    (case x_InvalidLoss_value => k_is)
    (case wn_InvalidPages => k_is)
    (case xk_InvalidPages => kernel_rfl)
    (case x_InvalidPages_value => k_is)
    (case wn_InvalidRow => k_is)
    (case xk_InvalidRow => kernel_rfl)
    (case x_InvalidRow_index => k_is)
    (case wn_InvalidText => k_is)
    (case xk_InvalidText => kernel_rfl)
    (case x_InvalidText_line => k_is)
    (case x_InvalidText_word => k_is)
    (case wn_Barred => k_is)
    (case xk_Barred => kernel_rfl)
    (case x_Barred_bar => k_is)
    (case wn_Unplayed => k_is)
    (case xk_Unplayed => kernel_rfl)
    (case x_Unplayed_index => k_is)
    (case wn_TooFew => k_is)
    (case xk_TooFew => kernel_rfl)
    (case x_TooFew_least => k_is)
    (case wn_UnknownCommand => k_is)
    (case xk_UnknownCommand => kernel_rfl)
    (case wn_NameTaken => k_is)
    (case xk_NameTaken => kernel_rfl)
    (case x_NameTaken_name => k_is)
    (case wn_Ended => k_is)
    (case xk_Ended => kernel_rfl)
    (case wn_Cancelled => k_is)
    (case xk_Cancelled => kernel_rfl)
    (case wn_NotOuter => k_is)
    (case xk_NotOuter => kernel_rfl)
    (case wn_Strayed => k_is)
    (case xk_Strayed => kernel_rfl)
    (case x_Strayed_index => k_is)
    (case wn_Busy => k_is)
    (case xk_Busy => kernel_rfl)
    (case x_Busy_number => k_is)
    (case wn_Blocked => k_is)
    (case xk_Blocked => kernel_rfl)
    (case x_Blocked_number => k_is)
    (case wn_Taken => k_is)
    (case xk_Taken => kernel_rfl)
    (case x_Taken_key => k_is)
    (case wn_Unsettled => k_is)
    (case xk_Unsettled => kernel_rfl)
    (case x_Unsettled_number => k_is)
    (case wn_NoKey => k_is)
    (case xk_NoKey => kernel_rfl)
    (case x_NoKey_key => k_is)
    (case wn_NoName => k_is)
    (case xk_NoName => kernel_rfl)
    (case x_NoName_name => k_is)
    (case wn_NoPage => k_is)
    (case xk_NoPage => kernel_rfl)
    (case x_NoPage_page => k_is)
    (case wn_NoRow => k_is)
    (case xk_NoRow => kernel_rfl)
    (case x_NoRow_index => k_is)
    (case wn_NoSlot => k_is)
    (case xk_NoSlot => kernel_rfl)
    (case x_NoSlot_slot => k_is)
    (case wn_NotDead => k_is)
    (case xk_NotDead => kernel_rfl)
    (case x_NotDead_slot => k_is)
    (case wn_NotPrepared => k_is)
    (case xk_NotPrepared => kernel_rfl)
    (case x_NotPrepared_number => k_is)
    (case wn_NotSpan => k_is)
    (case xk_NotSpan => kernel_rfl)
    (case x_NotSpan_row => k_is)
    (case wn_NotCleaning => k_is)
    (case xk_NotCleaning => kernel_rfl)
    (case x_NotCleaning_row => k_is)
    (case wn_NoNumber => k_is)
    (case xk_NoNumber => kernel_rfl)
    (case x_NoNumber_number => k_is)
    (case wn_NoTransaction => k_is)
    (case xk_NoTransaction => kernel_rfl)
    (case x_NoTransaction_number => k_is)
    (case wn_Full => k_is)
    (case xk_Full => kernel_rfl)
    (case wn_TooDeep => k_is)
    (case xk_TooDeep => kernel_rfl)
    (case x_TooDeep_limit => k_is)
    (case wn_TooLong => k_is)
    (case xk_TooLong => kernel_rfl)
    (case x_TooLong_limit => k_is)
    (case xi_Full => kernel_rfl)
    (case xi_NotOuter => kernel_rfl)
    (case xi_Cancelled => kernel_rfl)
    (case xi_Ended => kernel_rfl)
    (case xi_UnknownCommand => kernel_rfl)
    (case xis => kernel_rfl)
    (case a0 => k_is)
    (case t0 => k_is)
    (case l0 => k_is)
    (case c0 => k_is)
    (case k0 => k_is)
    (case a1 => k_is)
    (case t1 => k_is)
    (case l1 => k_is)
    (case c1 => k_is)
    (case k1 => k_is)
    (case a2 => k_is)
    (case t2 => k_is)
    (case l2 => k_is)
    (case c2 => k_is)
    (case k2 => k_is)
    (case a3 => k_is)
    (case t3 => k_is)
    (case l3 => k_is)
    (case c3 => k_is)
    (case k3 => k_is)
    (case a4 => k_is)
    (case t4 => k_is)
    (case l4 => k_is)
    (case c4 => k_is)
    (case k4 => k_is)
    (case a5 => k_is)
    (case t5 => k_is)
    (case l5 => k_is)
    (case c5 => k_is)
    (case k5 => k_is)
    (case a6 => k_is)
    (case t6 => k_is)
    (case l6 => k_is)
    (case c6 => k_is)
    (case k6 => k_is)
    (case a7 => k_is)
    (case t7 => k_is)
    (case l7 => k_is)
    (case c7 => k_is)
    (case k7 => k_is)
    (case a8 => k_is)
    (case t8 => k_is)
    (case l8 => k_is)
    (case c8 => k_is)
    (case k8 => k_is)
    (case a9 => k_is)
    (case t9 => k_is)
    (case l9 => k_is)
    (case c9 => k_is)
    (case k9 => k_is)
    (case a10 => k_is)
    (case t10 => k_is)
    (case l10 => k_is)
    (case c10 => k_is)
    (case k10 => k_is)
    (case a11 => k_is)
    (case t11 => k_is)
    (case l11 => k_is)
    (case c11 => k_is)
    (case k11 => k_is)
    (case a12 => k_is)
    (case t12 => k_is)
    (case l12 => k_is)
    (case c12 => k_is)
    (case k12 => k_is)
    (case a13 => k_is)
    (case t13 => k_is)
    (case l13 => k_is)
    (case c13 => k_is)
    (case k13 => k_is)
    (case a14 => k_is)
    (case t14 => k_is)
    (case l14 => k_is)
    (case c14 => k_is)
    (case k14 => k_is)
    (case a15 => k_is)
    (case t15 => k_is)
    (case l15 => k_is)
    (case c15 => k_is)
    (case k15 => k_is)
    (case a16 => k_is)
    (case t16 => k_is)
    (case l16 => k_is)
    (case c16 => k_is)
    (case k16 => k_is)
    (case a17 => k_is)
    (case t17 => k_is)
    (case l17 => k_is)
    (case c17 => k_is)
    (case k17 => k_is)
    (case a18 => k_is)
    (case t18 => k_is)
    (case l18 => k_is)
    (case c18 => k_is)
    (case k18 => k_is)
    (case a19 => k_is)
    (case t19 => k_is)
    (case l19 => k_is)
    (case c19 => k_is)
    (case k19 => k_is)
    (case a20 => k_is)
    (case t20 => k_is)
    (case l20 => k_is)
    (case c20 => k_is)
    (case k20 => k_is)
    (case a21 => k_is)
    (case t21 => k_is)
    (case l21 => k_is)
    (case c21 => k_is)
    (case k21 => k_is)
    (case a22 => k_is)
    (case t22 => k_is)
    (case l22 => k_is)
    (case c22 => k_is)
    (case k22 => k_is)
    (case a23 => k_is)
    (case t23 => k_is)
    (case l23 => k_is)
    (case c23 => k_is)
    (case k23 => k_is)
    (case a24 => k_is)
    (case t24 => k_is)
    (case l24 => k_is)
    (case c24 => k_is)
    (case k24 => k_is)
    (case a25 => k_is)
    (case t25 => k_is)
    (case l25 => k_is)
    (case c25 => k_is)
    (case k25 => k_is)
    (case a26 => k_is)
    (case t26 => k_is)
    (case l26 => k_is)
    (case c26 => k_is)
    (case k26 => k_is)
    (case a27 => k_is)
    (case t27 => k_is)
    (case l27 => k_is)
    (case c27 => k_is)
    (case k27 => k_is)
    (case a28 => k_is)
    (case t28 => k_is)
    (case l28 => k_is)
    (case c28 => k_is)
    (case k28 => k_is)
    (case a29 => k_is)
    (case l29 => k_is)
    (case c29 => k_is)
    (case k29 => k_is)
    (case a30 => k_is)
    (case l30 => k_is)
    (case c30 => k_is)
    (case k30 => k_is)
    (case a31 => k_is)
    (case l31 => k_is)
    (case c31 => k_is)
    (case k31 => k_is)
    (case a32 => k_is)
    (case l32 => k_is)
    (case c32 => k_is)
    (case k32 => k_is)
    (case a33 => k_is)
    (case l33 => k_is)
    (case c33 => k_is)
    (case k33 => k_is)
    (case a34 => k_is)
    (case l34 => k_is)
    (case c34 => k_is)
    (case k34 => k_is)
    (case a35 => k_is)
    (case l35 => k_is)
    (case c35 => k_is)
    (case k35 => k_is)
    (case a36 => k_is)
    (case l36 => k_is)
    (case c36 => k_is)
    (case k36 => k_is)
    (case a37 => k_is)
    (case l37 => k_is)
    (case c37 => k_is)
    (case k37 => k_is)
    (case a38 => k_is)
    (case l38 => k_is)
    (case c38 => k_is)
    (case k38 => k_is)
  case S =>
    intro K H a ns φ hl hO hS
    exact Mi.script_in hO hS (Mi.math ns hl)
