import PyProof.Rows.All
import Wide.All
import OpenK.AllK
import Wide.FinOn
import HandS.ForMost
import HandS.Walk
import HandS.IsInst
import HandS.TupAny
import HandS.Style
import HandS.Flow
import HandS.Zip
import PyProof.ReprRoads
import HandS.Text
import PyProof.ListStr
import HandS.Conv
import HandS.TupMul
import PyProof.Rows.IntBool
import PyProof.EqKinds
import PyProof.Rows.RuleB_bool
import HandS.StrMore
import HandS.SetFor
import HandS.Strs
import KE.GoesEnum
import HandS.DeepEq
import HandS.More
import HandS.CallLocal
import PyProof.ReprLen
import PyProof.FitsInt
import PyProof.Rows.ReprOcc
import PySem.Challenge.RW_whoheld_k03_forms_of_rows
set_option Elab.async false
set_option linter.all false
set_option maxRecDepth 100000
set_option maxHeartbeats 4000000
/-! Mi: mirrors. A def of the text is walked once, by one rule a construct, into a plain function over data D and a store of cells. -/
namespace Mi
open PySem PySem.Spec L2

/-- data: what never changes is a tree; what changes is a cell, by its number. lsr: a list that is only read -/
inductive D where
  | non | bl (b : Bool) | int (i : Int) | str (x : Str)
  | tup (ds : List D) | lst (ds : List D) | lsr (ds : List D) | dct (kvs : List (D × D)) | ref (n : Nat)
inductive Cell where
  | lst (ds : List D)
abbrev Sto := List Cell
structure Exn where
  cls : Nat
  args : List D
abbrev M (α : Type) := Sto → Option (Except Exn α × Sto)
def M.bind {α β : Type} (m : M α) (f : α → M β) : M β := fun S => match m S with
  | none => none
  | some (.ok a, S') => f a S'
  | some (.error x, S') => some (.error x, S')
def M.pure {α : Type} (a : α) : M α := fun S => some (.ok a, S)
instance : Monad M := { pure := M.pure, bind := M.bind }
def bad {α : Type} : M α := fun _ => none

structure Wd where
  A : List Addr
  G : Hp
  F : Hp
def kD : Key → D
  | .inl i => .int i
  | .inr x => .str x
mutual
inductive Rv (K : PySem.W.Frag) (w : Wd) : V → D → Prop
  | non : Rv K w .non .non
  | bl (b : Bool) : Rv K w (.bl b) (.bl b)
  | int (i : Int) : Rv K w (.int i) (.int i)
  | str (x : Str) : Rv K w (.str x) (.str x)
  | tup {a : Addr} {xs : List V} {ds : List D} (h : SqT K w.G a xs) (r : RvL K w xs ds) : Rv K w (.ref a) (.tup ds)
  | lst {a : Addr} {xs : List V} {ds : List D} (h : w.G a = some (.lst xs)) (r : RvL K w xs ds) : Rv K w (.ref a) (.lst ds)
  | lsr {a : Addr} {xs : List V} {ds : List D} (h : SqL K w.G a xs) (r : RvL K w xs ds) : Rv K w (.ref a) (.lsr ds)
  | dct {a : Addr} {xs : List (Key × V)} {ds : List (D × D)} (h : w.G a = some (.dK xs)) (r : RvK K w xs ds) : Rv K w (.ref a) (.dct ds)
  | ref {a : Addr} {n : Nat} (h : w.A[n]? = some a) : Rv K w (.ref a) (.ref n)
inductive RvL (K : PySem.W.Frag) (w : Wd) : List V → List D → Prop
  | nil : RvL K w [] []
  | cons {v : V} {d : D} {vs : List V} {ds : List D} (h : Rv K w v d) (r : RvL K w vs ds) : RvL K w (v :: vs) (d :: ds)
inductive RvK (K : PySem.W.Frag) (w : Wd) : List (Key × V) → List (D × D) → Prop
  | nil : RvK K w [] []
  | cons {k : Key} {v : V} {d : D} {vs : List (Key × V)} {ds : List (D × D)} (h : Rv K w v d) (r : RvK K w vs ds) : RvK K w ((k, v) :: vs) ((kD k, d) :: ds)
end
structure Lv (w w' : Wd) : Prop where
  a : ∃ more, w'.A = w.A ++ more
  g : ∀ b o, w.G b = some o → w'.G b = some o
structure Le (w w' : Wd) : Prop where
  a : ∃ more, w'.A = w.A ++ more
  g : ∀ b o, w.G b = some o → w'.G b = some o
  f : w'.F = w.F
theorem Le.v {w w' : Wd} (l : Le w w') : Lv w w' := ⟨l.a, l.g⟩
theorem Lv.refl (w : Wd) : Lv w w := ⟨⟨[], by simp⟩, fun _ _ h => h⟩
theorem Le.refl (w : Wd) : Le w w := ⟨⟨[], by simp⟩, fun _ _ h => h, rfl⟩
theorem Le.trans {w w1 w2 : Wd} (x : Le w w1) (y : Le w1 w2) : Le w w2 := by
  obtain ⟨m1, e1⟩ := x.a
  obtain ⟨m2, e2⟩ := y.a
  exact ⟨⟨m1 ++ m2, by rw [e2, e1, List.append_assoc]⟩, fun b o h => y.g b o (x.g b o h), y.f.trans x.f⟩
theorem Lv.at {w w' : Wd} (l : Lv w w') {n : Nat} {a : Addr} (h : w.A[n]? = some a) : w'.A[n]? = some a := by
  obtain ⟨m, e⟩ := l.a
  have hn := (List.getElem?_eq_some_iff.mp h).1
  rw [e, List.getElem?_append_left hn]
  exact h
section
variable {K : PySem.W.Frag} {w w' : Wd}
theorem sqT_le (l : Lv w w') {a : Addr} {xs : List V} (h : SqT K w.G a xs) : SqT K w'.G a xs := by
  rcases h with (h | ⟨o, h⟩) | h
  · exact .inl (.inl (l.g _ _ h))
  · exact .inl (.inr ⟨o, l.g _ _ h⟩)
  · exact .inr h
theorem sqL_le (l : Lv w w') {a : Addr} {xs : List V} (h : SqL K w.G a xs) : SqL K w'.G a xs := by
  rcases h with (h | ⟨o, h⟩) | h
  · exact .inl (.inl (l.g _ _ h))
  · exact .inl (.inr ⟨o, l.g _ _ h⟩)
  · exact .inr h
mutual
theorem Rv.monoV (l : Lv w w') : ∀ {v : V} {d : D}, Rv K w v d → Rv K w' v d
  | _, _, .non => .non
  | _, _, .bl b => .bl b
  | _, _, .int i => .int i
  | _, _, .str x => .str x
  | _, _, .tup h r => .tup (sqT_le l h) (RvL.monoV l r)
  | _, _, .lst h r => .lst (l.g _ _ h) (RvL.monoV l r)
  | _, _, .lsr h r => .lsr (sqL_le l h) (RvL.monoV l r)
  | _, _, .dct h r => .dct (l.g _ _ h) (RvK.monoV l r)
  | _, _, .ref h => .ref (l.at h)
theorem RvL.monoV (l : Lv w w') : ∀ {v : List V} {d : List D}, RvL K w v d → RvL K w' v d
  | _, _, .nil => .nil
  | _, _, .cons h r => .cons (Rv.monoV l h) (RvL.monoV l r)
theorem RvK.monoV (l : Lv w w') : ∀ {v : List (Key × V)} {d : List (D × D)}, RvK K w v d → RvK K w' v d
  | _, _, .nil => .nil
  | _, _, .cons h r => .cons (Rv.monoV l h) (RvK.monoV l r)
end
theorem Rv.mono (l : Le w w') {v : V} {d : D} (h : Rv K w v d) : Rv K w' v d := Rv.monoV l.v h
theorem RvL.mono (l : Le w w') {v : List V} {d : List D} (h : RvL K w v d) : RvL K w' v d := RvL.monoV l.v h
theorem RvL.length : ∀ {v : List V} {d : List D}, RvL K w v d → v.length = d.length
  | _, _, .nil => rfl
  | _, _, .cons _ r => by simp [RvL.length r]
theorem RvL.append : ∀ {v v' : List V} {d d' : List D}, RvL K w v d → RvL K w v' d' → RvL K w (v ++ v') (d ++ d')
  | _, _, _, _, .nil, q => q
  | _, _, _, _, .cons h r, q => .cons h (RvL.append r q)
theorem RvL.one {v : V} {d : D} (h : Rv K w v d) : RvL K w [v] [d] := .cons h .nil
theorem RvL.get : ∀ {v : List V} {d : List D} {i : Nat} {x : D}, RvL K w v d → d[i]? = some x → ∃ y, v[i]? = some y ∧ Rv K w y x
  | _, _, _, _, .nil, e => by simp at e
  | _, _, 0, _, .cons h _, e => by
    simp at e
    subst e
    exact ⟨_, rfl, h⟩
  | _, _, i + 1, _, .cons _ r, e => by
    obtain ⟨y, h1, h2⟩ := RvL.get (i := i) r (by simpa using e)
    exact ⟨y, by simpa using h1, h2⟩
theorem RvL.getV : ∀ {v : List V} {d : List D} {i : Nat} {y : V}, RvL K w v d → v[i]? = some y → ∃ x, d[i]? = some x ∧ Rv K w y x
  | _, _, _, _, .nil, e => by simp at e
  | _, _, 0, _, .cons h _, e => by
    simp at e
    subst e
    exact ⟨_, rfl, h⟩
  | _, _, i + 1, _, .cons _ r, e => by
    obtain ⟨y, h1, h2⟩ := RvL.getV (i := i) r (by simpa using e)
    exact ⟨y, by simpa using h1, h2⟩
theorem RvL.set {x : V} {y : D} (h : Rv K w x y) : ∀ {v : List V} {d : List D} (i : Nat), RvL K w v d → RvL K w (v.set i x) (d.set i y)
  | _, _, _, .nil => .nil
  | _, _, 0, .cons _ r => .cons h r
  | _, _, i + 1, .cons q r => .cons q (RvL.set h i r)
theorem RvL.take : ∀ {v : List V} {d : List D} (n : Nat), RvL K w v d → RvL K w (v.take n) (d.take n)
  | _, _, 0, _ => .nil
  | _, _, _ + 1, .nil => .nil
  | _, _, n + 1, .cons h r => .cons h (RvL.take n r)
theorem RvL.drop : ∀ {v : List V} {d : List D} (n : Nat), RvL K w v d → RvL K w (v.drop n) (d.drop n)
  | _, _, 0, r => r
  | _, _, _ + 1, .nil => .nil
  | _, _, n + 1, .cons _ r => RvL.drop n r
theorem RvL.reverse {v : List V} {d : List D} : RvL K w v d → RvL K w v.reverse d.reverse := by
  intro r
  induction v generalizing d with
  | nil => cases r; exact .nil
  | cons x xs ih =>
    cases r with
    | cons h r =>
      rw [List.reverse_cons, List.reverse_cons]
      exact (ih r).append (.one h)
end

def CellR (K : PySem.W.Frag) (w : Wd) (H : Hp) (a : Addr) : Cell → Prop
  | .lst ds => ∃ xs, H a = some (.lst xs) ∧ RvL K w xs ds
theorem CellR.monoV {K : PySem.W.Frag} {w w' : Wd} {H H' : Hp} {a : Addr} {c : Cell} (l : Lv w w') (e : ∀ o, H a = some o → H' a = some o) (h : CellR K w H a c) : CellR K w' H' a c := by
  cases c with
  | lst ds =>
    obtain ⟨xs, h1, h2⟩ := h
    exact ⟨xs, e _ h1, h2.monoV l⟩
theorem CellR.mono {K : PySem.W.Frag} {w w' : Wd} {H H' : Hp} {a : Addr} {c : Cell} (l : Le w w') (e : ∀ o, H a = some o → H' a = some o) (h : CellR K w H a c) : CellR K w' H' a c := h.monoV l.v e
theorem CellR.there {K : PySem.W.Frag} {w : Wd} {H : Hp} {a : Addr} {c : Cell} (h : CellR K w H a c) : ∃ o, H a = some o := by
  cases c with
  | lst ds =>
    obtain ⟨xs, h1, h2⟩ := h
    exact ⟨_, h1⟩
/-- an object of the interpreter's own is known to be there: no list of ours is it -/
def SysF (F : Hp) : Prop := ∃ φ, F sysModules = some (.ext φ)
structure Rs (K : PySem.W.Frag) (w : Wd) (S : Sto) (H : Hp) : Prop where
  g : ∀ a o, w.G a = some o → H a = some o
  f : ∀ a o, w.F a = some o → H a = some o
  gf : ∀ a o, w.F a = some o → w.G a = none
  len : w.A.length = S.length
  nd : w.A.Nodup
  ag : ∀ a, a ∈ w.A → w.G a = none ∧ w.F a = none
  cell : ∀ (n : Nat) (a : Addr) (c : Cell), w.A[n]? = some a → S[n]? = some c → CellR K w H a c
  sy : SysF w.F
section
variable {K : PySem.W.Frag} {w w' : Wd} {S S' : Sto} {H H' : Hp}
theorem Rs.fresh (r : Rs K w S H) {p : Addr} (h : H p = none) : w.G p = none ∧ w.F p = none ∧ p ∉ w.A := by
  refine ⟨?_, ?_, fun hm => ?_⟩
  · cases e : w.G p with
    | none => rfl
    | some o => rw [r.g p o e] at h; cases h
  · cases e : w.F p with
    | none => rfl
    | some o => rw [r.f p o e] at h; cases h
  · obtain ⟨n, hn, e⟩ := List.mem_iff_getElem.mp hm
    have hn' : n < S.length := by rw [← r.len]; exact hn
    obtain ⟨o, ho⟩ := (r.cell n p S[n] (by rw [List.getElem?_eq_getElem hn, e]) (by rw [List.getElem?_eq_getElem hn'])).there
    rw [ho] at h
    cases h
/-- a new object that stays as it is -/
def Wd.lay (w : Wd) (p : Addr) (o : HO) : Wd := { w with G := upd w.G p o }
theorem Rs.le_lay (r : Rs K w S H) {p : Addr} {o : HO} (h : H p = none) : Le w (w.lay p o) :=
  ⟨⟨[], by simp [Wd.lay]⟩, fun b u e => by
    show upd w.G p o b = some u
    rw [upd_ne (ne_of_none e (r.fresh h).1)]
    exact e, rfl⟩
theorem Rs.lay (r : Rs K w S H) {p : Addr} {o : HO} (h : H p = none) : Rs K (w.lay p o) S (upd H p o) := by
  obtain ⟨f1, f2, f3⟩ := r.fresh h
  refine ⟨fun a u e => ?_, fun a u e => ?_, fun a u e => ?_, r.len, r.nd, fun a ha => ⟨?_, (r.ag a ha).2⟩, fun n a c h1 h2 => ?_, r.sy⟩
  · by_cases q : a = p
    · subst q
      have e' : upd w.G a o a = some u := e
      rw [upd_same] at e' ⊢
      exact e'
    · have e' : upd w.G p o a = some u := e
      rw [upd_ne q] at e' ⊢
      exact r.g a u e'
  · rw [upd_ne (ne_of_none e f2)]
    exact r.f a u e
  · show upd w.G p o a = none
    rw [upd_ne (ne_of_none e f2)]
    exact r.gf a u e
  · show upd w.G p o a = none
    rw [upd_ne (show a ≠ p by rintro rfl; exact f3 ha)]
    exact (r.ag a ha).1
  · refine (r.cell n a c h1 h2).mono (r.le_lay h) fun u e => ?_
    rw [upd_ne (show a ≠ p by rintro rfl; exact f3 (List.mem_of_getElem? h1))]
    exact e
/-- a new cell -/
def Wd.add (w : Wd) (p : Addr) : Wd := { w with A := w.A ++ [p] }
theorem le_add {p : Addr} : Le w (w.add p) := ⟨⟨[p], rfl⟩, fun _ _ h => h, rfl⟩
theorem Rs.add (r : Rs K w S H) {p : Addr} {o : HO} {c : Cell} (h : H p = none) (hc : CellR K (w.add p) (upd H p o) p c) : Rs K (w.add p) (S ++ [c]) (upd H p o) := by
  obtain ⟨f1, f2, f3⟩ := r.fresh h
  refine ⟨fun a u e => ?_, fun a u e => ?_, r.gf, by simp [Wd.add, r.len], ?_, fun a ha => ?_, fun n a c' h1 h2 => ?_, r.sy⟩
  · rw [upd_ne (ne_of_none e f1)]
    exact r.g a u e
  · rw [upd_ne (ne_of_none e f2)]
    exact r.f a u e
  · show (w.A ++ [p]).Nodup
    refine List.nodup_append.mpr ⟨r.nd, by simp, fun a ha b hb => ?_⟩
    simp at hb
    rintro rfl
    exact f3 (hb ▸ ha)
  · have ha' : a ∈ w.A ++ [p] := ha
    rcases List.mem_append.mp ha' with z | z
    · exact r.ag a z
    · simp at z
      subst z
      exact ⟨f1, f2⟩
  · have h1' : (w.A ++ [p])[n]? = some a := h1
    by_cases q : n < w.A.length
    · rw [List.getElem?_append_left q] at h1'
      rw [List.getElem?_append_left (by rw [← r.len]; exact q)] at h2
      refine (r.cell n a c' h1' h2).mono le_add fun u e => ?_
      rw [upd_ne (show a ≠ p by rintro rfl; exact f3 (List.mem_of_getElem? h1'))]
      exact e
    · have hn : n = w.A.length := by
        have := (List.getElem?_eq_some_iff.mp h1').1
        simp at this
        omega
      subst hn
      rw [List.getElem?_append_right (Nat.le_refl _)] at h1'
      rw [r.len, List.getElem?_append_right (Nat.le_refl _)] at h2
      simp at h1' h2
      subst h1' h2
      exact hc
/-- a cell is written -/
theorem Rs.put (r : Rs K w S H) {n : Nat} {p : Addr} {o : HO} {c : Cell} (hn : w.A[n]? = some p) (hc : CellR K w (upd H p o) p c) : Rs K w (S.set n c) (upd H p o) := by
  have hp := r.ag p (List.mem_of_getElem? hn)
  refine ⟨fun a u e => ?_, fun a u e => ?_, r.gf, by simp [r.len], r.nd, r.ag, fun m a c' h1 h2 => ?_, r.sy⟩
  · rw [upd_ne (ne_of_none e hp.1)]
    exact r.g a u e
  · rw [upd_ne (ne_of_none e hp.2)]
    exact r.f a u e
  · by_cases q : m = n
    · subst q
      rw [hn] at h1
      cases h1
      have hl : m < S.length := by rw [← r.len]; exact (List.getElem?_eq_some_iff.mp hn).1
      rw [List.getElem?_set_self hl] at h2
      cases h2
      exact hc
    · rw [List.getElem?_set_ne (Ne.symm q)] at h2
      have hne : a ≠ p := by
        rintro rfl
        exact q ((List.getElem?_inj (List.getElem?_eq_some_iff.mp h1).1 r.nd).mp (h1.trans hn.symm))
      refine (r.cell m a c' h1 h2).mono (Le.refl w) fun u e => ?_
      rw [upd_ne hne]
      exact e
end

abbrev Env := List (Option D)
structure Rn (K : PySem.W.Frag) (w : Wd) (σ : L2.St) (ρ : Env) : Prop where
  len : σ.length = ρ.length
  at' : ∀ (i : Nat) (d : D), ρ[i]? = some (some d) → ∃ v, σ[i]? = some (some v) ∧ Rv K w v d
section
variable {K : PySem.W.Frag} {w w' : Wd} {S S' : Sto} {H H' : Hp} {σ : L2.St} {ρ : Env}
theorem Rn.mono (l : Le w w') (r : Rn K w σ ρ) : Rn K w' σ ρ := ⟨r.len, fun i d h => let ⟨v, h1, h2⟩ := r.at' i d h; ⟨v, h1, Rv.mono l h2⟩⟩
theorem Rn.v (r : Rn K w σ ρ) (l : Lv w w') : Rn K w' σ ρ := ⟨r.len, fun i d h => let ⟨v, h1, h2⟩ := r.at' i d h; ⟨v, h1, Rv.monoV l h2⟩⟩
theorem Rn.set (r : Rn K w σ ρ) {i : Nat} {v : V} {d : D} (h : Rv K w v d) : Rn K w (σ.set i (some v)) (ρ.set i (some d)) := by
  refine ⟨by simp [r.len], fun j e hj => ?_⟩
  by_cases q : j = i
  · subst q
    have hl : j < ρ.length := by
      have := (List.getElem?_eq_some_iff.mp hj).1
      simpa using this
    rw [List.getElem?_set_self hl] at hj
    cases hj
    exact ⟨v, by rw [List.getElem?_set_self (by rw [r.len]; exact hl)], h⟩
  · rw [List.getElem?_set_ne (Ne.symm q)] at hj ⊢
    exact r.at' j e hj
theorem Rn.wipe (r : Rn K w σ ρ) (vs : List Nat) : Rn K w (wipe σ vs) (vs.foldr (fun i ρ => ρ.set i none) ρ) := by
  induction vs with
  | nil => exact r
  | cons i vs ih =>
    show Rn K w ((L2.wipe σ vs).set i none) ((vs.foldr (fun i ρ => ρ.set i none) ρ).set i none)
    refine ⟨by simp [ih.len], fun j e hj => ?_⟩
    by_cases q : j = i
    · subst q
      have hl := (List.getElem?_eq_some_iff.mp hj).1
      rw [List.getElem?_set_self (by simpa using hl)] at hj
      cases hj
    · rw [List.getElem?_set_ne (Ne.symm q)] at hj ⊢
      exact ih.at' j e hj
theorem Rn.start {vs : List V} {ds : List D} (h : RvL K w vs ds) (N : List Str) : Rn K w (start N vs) (ds.map some ++ List.replicate (N.length - ds.length) none) := by
  have hl := h.length
  unfold L2.start
  refine ⟨by simp [hl], fun i d e => ?_⟩
  by_cases q : i < ds.length
  · rw [List.getElem?_append_left (by simpa using q)] at e
    rw [List.getElem?_append_left (by simpa [hl] using q)]
    rw [List.getElem?_map] at e ⊢
    obtain ⟨x, hx, e'⟩ := Option.map_eq_some_iff.mp e
    cases e'
    obtain ⟨y, hy, r⟩ := h.get hx
    exact ⟨y, by rw [hy]; rfl, r⟩
  · rw [List.getElem?_append_right (by simpa using Nat.le_of_not_lt q)] at e
    have := List.mem_of_getElem? e
    have := (List.mem_replicate.mp this).2
    cases this
end

/-- what is wanted of an exception -/
abbrev EK := Exn → Wd → Hp → Prop
def Fin {α : Type} (K : PySem.W.Frag) (E : EK) (w : Wd) (o : Option (Except Exn α × Sto)) (P : Wd → Sto → Hp → α → Prop) : Prop := match o with
  | none => False
  | some (.ok a, S') => ∀ w' H', Le w w' → Rs K w' S' H' → P w' S' H' a
  | some (.error x, S') => ∀ w' H', Le w w' → Rs K w' S' H' → E x w' H'
section
variable {α β : Type} {K : PySem.W.Frag} {E : EK} {w w' : Wd} {S S' : Sto} {o : Option (Except Exn α × Sto)} {P P' : Wd → Sto → Hp → α → Prop} {R : Wd → Sto → Hp → β → Prop} {m : M α} {f : α → M β}
theorem Fin.mono (h : Fin K E w o P) (l : Le w w') : Fin K E w' o P := by
  rcases o with _ | ⟨_ | _, S'⟩
  · exact h
  · exact fun w2 H' l2 r => h w2 H' (l.trans l2) r
  · exact fun w2 H' l2 r => h w2 H' (l.trans l2) r
theorem Fin.imp (h : Fin K E w o P) (k : ∀ w' S' H' a, Le w w' → Rs K w' S' H' → P w' S' H' a → P' w' S' H' a) : Fin K E w o P' := by
  rcases o with _ | ⟨_ | _, S'⟩
  · exact h
  · exact h
  · exact fun w2 H' l2 r => k w2 S' H' _ l2 r (h w2 H' l2 r)
theorem Fin.bind (h : Fin K E w (M.bind m f S) R) : Fin K E w (m S) fun w' S' _ a => Fin K E w' (f a S') R := by
  unfold M.bind at h
  rcases hm : m S with _ | ⟨_ | a, S1⟩
  · rw [hm] at h; exact h
  · rw [hm] at h; exact h
  · rw [hm] at h
    exact fun w2 H' l2 r => Fin.mono (show Fin K E w (f a S1) R from h) l2
theorem Fin.ok {a : α} (h : Fin K E w (some (.ok a, S)) P) {H : Hp} (r : Rs K w S H) : P w S H a := h w H (Le.refl w) r
end
end Mi
namespace Mi
open PySem PySem.Spec L2

/-! ### weaker readings -/
section
variable {X : Cx}
theorem pe_imp {e : Expr} {t t' : TE} (h : PE X e t) (k : ∀ σ H Q, t' σ H Q → t σ H Q) : PE X e t' := ⟨fun pins s σ H Q I q => h.run pins s σ H Q I (k σ H Q q)⟩
theorem pt_imp {e : Expr} {t t' : TT} (h : PT X e t) (k : ∀ σ H Q, t' σ H Q → t σ H Q) : PT X e t' := ⟨fun pins s σ H Q I q => h.run pins s σ H Q I (k σ H Q q)⟩
theorem pw_imp {e : Expr} {t t' : TT} (h : PW X e t) (k : ∀ σ H Q, t' σ H Q → t σ H Q) : PW X e t' := ⟨fun wh pins s σ H Q I q => h.run wh pins s σ H Q I (k σ H Q q)⟩
theorem pa_imp {e : List Expr} {t t' : TA} (h : PA X e t) (k : ∀ σ H Q, t' σ H Q → t σ H Q) : PA X e t' := ⟨fun pos pins s σ H Q I q => h.run pos pins s σ H Q I (k σ H Q q)⟩
theorem ps_imp {e : Stmt} {t t' : TS} (h : PS X e t) (k : ∀ D σ H, t' D σ H → t D σ H) : PS X e t' := ⟨fun pins s σ H D I q => h.run pins s σ H D I (k D σ H q)⟩
theorem pss_imp {e : List Stmt} {t t' : TS} (h : PSs X e t) (k : ∀ D σ H, t' D σ H → t D σ H) : PSs X e t' := ⟨fun pins s σ H D I q => h.run pins s σ H D I (k D σ H q)⟩
theorem pg_imp {e : Expr} {t t' : TG} (h : PG X e t) (k : ∀ v σ H Q, t' v σ H Q → t v σ H Q) : PG X e t' := ⟨fun pins s σ H v u Q I r q => h.run pins s σ H v u Q I r (k v σ H Q q)⟩
theorem pts_imp {e : List Expr} {t t' : TT} (h : PTs X e t) (k : ∀ σ H Q, t' σ H Q → t σ H Q) : PTs X e t' := ⟨fun pins s σ H Q I q => h.run pins s σ H Q I (k σ H Q q)⟩
end

/-! ### readings by mirrors -/
inductive Fl where
  | nx | bk | ct | rt (d : D)
def tM (K : PySem.W.Frag) (E : EK) (m : Env → M D) : TE := fun σ H Q => ∃ w S ρ, Rs K w S H ∧ Rn K w σ ρ ∧ Fin K E w (m ρ S) fun w' _ H' d => ∀ v, Rv K w' v d → Q v H'
def tMt (K : PySem.W.Frag) (E : EK) (m : Env → M Bool) : TT := fun σ H Q => ∃ w S ρ, Rs K w S H ∧ Rn K w σ ρ ∧ Fin K E w (m ρ S) fun _ _ H' b => Q b H'
def tMa (K : PySem.W.Frag) (E : EK) (m : Env → M (List D)) : TA := fun σ H Q => ∃ w S ρ, Rs K w S H ∧ Rn K w σ ρ ∧ Fin K E w (m ρ S) fun w' _ H' ds => ∀ vs, RvL K w' vs ds → Q vs H'
def Land (K : PySem.W.Frag) (D : Ends) : Wd → Sto → Hp → Fl × Env → Prop := fun w' _ H' r => match r with
  | (.nx, ρ') => ∀ σ', Rn K w' σ' ρ' → D.nx σ' H'
  | (.bk, ρ') => ∀ σ', Rn K w' σ' ρ' → D.bk σ' H'
  | (.ct, ρ') => ∀ σ', Rn K w' σ' ρ' → D.ct σ' H'
  | (.rt d, _) => ∀ v, Rv K w' v d → D.rt v H'
def tMs (K : PySem.W.Frag) (E : EK) (m : Env → M (Fl × Env)) : TS := fun D σ H => ∃ w S ρ, Rs K w S H ∧ Rn K w σ ρ ∧ Fin K E w (m ρ S) (Land K D)
def gM (K : PySem.W.Frag) (E : EK) (m : D → Env → M Env) : TG := fun v σ H Q => ∃ w S ρ d, Rs K w S H ∧ Rn K w σ ρ ∧ Rv K w v d ∧ Fin K E w (m d ρ S) fun w' _ H' ρ' => ∀ σ', Rn K w' σ' ρ' → Q σ' H'

/-! ### names, constants -/
def vget (i : Nat) (ρ : Env) : M D := match ρ[i]? with
  | some (some d) => M.pure d
  | _ => bad
section
variable {X : Cx} {E : EK}
theorem me_of {e : Expr} {i : Nat} (h : PE X e (tVar i)) : PE X e (tM X.K E (vget i)) := pe_imp h fun σ H Q ⟨w, S, ρ, hs, hn, h⟩ => by
  unfold vget at h
  rcases hd : ρ[i]? with _ | _ | d
  · rw [hd] at h; exact h.elim
  · rw [hd] at h; exact h.elim
  · rw [hd] at h
    obtain ⟨v, h1, h2⟩ := hn.at' i d hd
    exact ⟨v, h1, Fin.ok h hs v h2⟩
theorem me_cst {e : Expr} {v : V} {d : D} (h : PE X e (tC v)) (r : ∀ w, Rv X.K w v d) : PE X e (tM X.K E fun _ => M.pure d) := pe_imp h fun σ H Q ⟨w, S, ρ, hs, hn, h⟩ => h.ok hs v (r w)
theorem me_int {i j pos} : PE X (.Constant (.int i) j pos) (tM X.K E fun _ => M.pure (.int i)) := me_cst pe_int fun _ => .int i
theorem me_bl {i j pos} : PE X (.Constant (.bool i) j pos) (tM X.K E fun _ => M.pure (.bl i)) := me_cst pe_bl fun _ => .bl i
theorem me_non {j pos} : PE X (.Constant .none j pos) (tM X.K E fun _ => M.pure .non) := me_cst pe_non fun _ => .non
theorem me_str {i j pos} : PE X (.Constant (.str i) j pos) (tM X.K E fun _ => M.pure (.str i)) := me_cst pe_str fun _ => .str i

/-! ### operators -/
def OpM (K : PySem.W.Frag) (r : R2) (f : D → D → M D) : Prop := ∀ (E : EK) (w : Wd) (S : Sto) (H : Hp) (v u : V) (x y : D) (Q : VK), Rs K w S H → Rv K w v x → Rv K w u y →
  Fin K E w (f x y S) (fun w' _ H' d => ∀ z, Rv K w' z d → Q z H') → r v u H Q
def UnM (K : PySem.W.Frag) (r : V → Hp → VK → Prop) (f : D → M D) : Prop := ∀ (E : EK) (w : Wd) (S : Sto) (H : Hp) (v : V) (x : D) (Q : VK), Rs K w S H → Rv K w v x →
  Fin K E w (f x S) (fun w' _ H' d => ∀ z, Rv K w' z d → Q z H') → r v H Q
def CaM (K : PySem.W.Frag) (r : List V → Hp → VK → Prop) (f : List D → M D) : Prop := ∀ (E : EK) (w : Wd) (S : Sto) (H : Hp) (vs : List V) (xs : List D) (Q : VK), Rs K w S H → RvL K w vs xs →
  Fin K E w (f xs S) (fun w' _ H' d => ∀ z, Rv K w' z d → Q z H') → r vs H Q
def b2 (f : D → D → M D) (a b : Env → M D) : Env → M D := fun ρ => M.bind (a ρ) fun x => M.bind (b ρ) fun y => f x y
def b1 (f : D → M D) (a : Env → M D) : Env → M D := fun ρ => M.bind (a ρ) f
variable {a b c : Expr} {ma mb mc : Env → M D} {pos : Pos}
theorem two {r : R2} {f : D → D → M D} (hf : OpM X.K r f) {σ : L2.St} {H : Hp} {Q : VK} (h : tM X.K E (b2 f ma mb) σ H Q) : tOp r (tM X.K E ma) (tM X.K E mb) σ H Q := by
  obtain ⟨w, S, ρ, hs, hn, h⟩ := h
  refine ⟨w, S, ρ, hs, hn, h.bind.imp fun w1 S1 H1 x l1 s1 h1 v rv => ?_⟩
  refine ⟨w1, S1, ρ, s1, hn.mono l1, h1.bind.imp fun w2 S2 H2 y l2 s2 h2 u ru => ?_⟩
  exact hf E w2 S2 H2 v u x y Q s2 (rv.mono l2) ru h2
theorem me_op {op : Operator} {r : R2} {f : D → D → M D} (ho : OpR X (binaryOp op) r) (hf : OpM X.K r f) (ha : PE X a (tM X.K E ma)) (hb : PE X b (tM X.K E mb)) : PE X (.BinOp a op b pos) (tM X.K E (b2 f ma mb)) :=
  pe_imp (pe_op ho ha hb) fun _ _ _ h => two hf h
theorem me_cmp {op : CmpOp} {r : R2} {f : D → D → M D} (ho : OpR X (compareOp op) r) (hf : OpM X.K r f) (ha : PE X a (tM X.K E ma)) (hb : PE X b (tM X.K E mb)) (hm : behindInMarks op b = false) : PE X (.Compare a [op] [b] pos) (tM X.K E (b2 f ma mb)) :=
  pe_imp (pe_cmpR ho ha hb hm) fun _ _ _ h => two hf h
theorem me_ix {r : R2} {f : D → D → M D} (ho : IxR X r) (hf : OpM X.K r f) (ha : PE X a (tM X.K E ma)) (hb : PE X b (tM X.K E mb)) (hs : PlainIx b) : PE X (.Subscript a b pos) (tM X.K E (b2 f ma mb)) :=
  pe_imp (pe_ix ho ha hb hs) fun _ _ _ h => two hf h
theorem me_un {op : UnaryOp} {r : V → Hp → VK → Prop} {f : D → M D} (ho : UnR X (unaryOp op) r) (hf : UnM X.K r f) (ha : PE X a (tM X.K E ma)) : PE X (.UnaryOp op a pos) (tM X.K E (b1 f ma)) :=
  pe_imp (pe_un ho ha) fun σ H Q ⟨w, S, ρ, hs, hn, h⟩ => ⟨w, S, ρ, hs, hn, h.bind.imp fun w1 S1 H1 x l1 s1 h1 v rv => hf E w1 S1 H1 v x Q s1 rv h1⟩

/-! ### truth: bools -/
def toB : D → M Bool
  | .bl b => M.pure b
  | _ => bad
def tst (m : Env → M D) : Env → M Bool := fun ρ => M.bind (m ρ) toB
def ofB (m : Env → M Bool) : Env → M D := fun ρ => M.bind (m ρ) fun b => M.pure (.bl b)
theorem toB_go {w : Wd} {S : Sto} {H : Hp} {d : D} {v : V} {P : Bool → Hp → Prop} (h : Fin X.K E w (toB d S) fun _ _ H' b => P b H') (hs : Rs X.K w S H) (rv : Rv X.K w v d) : ∃ k, v = .bl k ∧ P k H := by
  cases rv with
  | bl k => exact ⟨k, rfl, h.ok hs⟩
  | _ => exact h.elim
theorem mt_val {e : Expr} {m : Env → M D} (h : PE X e (tM X.K E m)) (he : ∀ whole, isTrue e X.env whole = (do let v ← whole; standAt e.pos; holding [v] (truthy v)) := by intro _; rfl) : PT X e (tMt X.K E (tst m)) :=
  pt_imp (pt_val h he) fun σ H Q ⟨w, S, ρ, hs, hn, h⟩ => ⟨w, S, ρ, hs, hn, h.bind.imp fun w1 S1 H1 x l1 s1 h1 v rv => toB_go h1 s1 rv⟩
theorem mt_cmp {op : CmpOp} {r : R2} {f : D → D → M D} (ho : OpR X (compareOp op) r) (hf : OpM X.K r f) (ha : PE X a (tM X.K E ma)) (hb : PE X b (tM X.K E mb)) (hm : behindInMarks op b = false) : PT X (.Compare a [op] [b] pos) (tMt X.K E (tst (b2 f ma mb))) := by
  refine pt_imp (pt_cmpR ho ha hb hm) fun σ H Q ⟨w, S, ρ, hs, hn, h⟩ => ?_
  exact two hf ⟨w, S, ρ, hs, hn, h.bind.imp fun w1 S1 H1 x l1 s1 h1 v rv => toB_go h1 s1 rv⟩
def notT (m : Env → M Bool) : Env → M Bool := fun ρ => M.bind (m ρ) fun b => M.pure (!b)
def andT (m n : Env → M Bool) : Env → M Bool := fun ρ => M.bind (m ρ) fun b => if b = true then n ρ else M.pure false
def orT (m n : Env → M Bool) : Env → M Bool := fun ρ => M.bind (m ρ) fun b => if b = true then M.pure true else n ρ
variable {ta tb : Env → M Bool} {rest : List Expr}
theorem mt_not (ha : PT X a (tMt X.K E ta)) : PT X (.UnaryOp .Not a pos) (tMt X.K E (notT ta)) :=
  pt_imp (pt_not ha) fun σ H Q ⟨w, S, ρ, hs, hn, h⟩ => ⟨w, S, ρ, hs, hn, h.bind.imp fun w1 S1 H1 x l1 s1 h1 => h1.ok s1⟩
theorem mw_and1 (ha : PT X a (tMt X.K E ta)) : PW X (.BoolOp .And [a] pos) (tMt X.K E ta) := pw_and1 ha
theorem mw_or1 (ha : PT X a (tMt X.K E ta)) : PW X (.BoolOp .Or [a] pos) (tMt X.K E ta) := pw_or1 ha
theorem mw_and (ha : PT X a (tMt X.K E ta)) (hb : PW X (.BoolOp .And (b :: rest) pos) (tMt X.K E tb)) : PW X (.BoolOp .And (a :: b :: rest) pos) (tMt X.K E (andT ta tb)) :=
  pw_imp (pw_and ha hb) fun σ H Q ⟨w, S, ρ, hs, hn, h⟩ => ⟨w, S, ρ, hs, hn, h.bind.imp fun w1 S1 H1 x l1 s1 h1 => by
    cases x with
    | true => exact iteT ⟨w1, S1, ρ, s1, hn.mono l1, h1⟩
    | false => exact iteF (h1.ok s1)⟩
theorem mw_or (ha : PT X a (tMt X.K E ta)) (hb : PW X (.BoolOp .Or (b :: rest) pos) (tMt X.K E tb)) : PW X (.BoolOp .Or (a :: b :: rest) pos) (tMt X.K E (orT ta tb)) :=
  pw_imp (pw_or ha hb) fun σ H Q ⟨w, S, ρ, hs, hn, h⟩ => ⟨w, S, ρ, hs, hn, h.bind.imp fun w1 S1 H1 x l1 s1 h1 => by
    cases x with
    | false => exact iteF ⟨w1, S1, ρ, s1, hn.mono l1, h1⟩
    | true => exact iteT (h1.ok s1)⟩
/-- and, or, not as values -/
def andV (m n : Env → M D) : Env → M D := fun ρ => M.bind (m ρ) fun x => M.bind (toB x) fun b => if b = true then n ρ else M.pure (.bl false)
def orV (m n : Env → M D) : Env → M D := fun ρ => M.bind (m ρ) fun x => M.bind (toB x) fun b => if b = true then M.pure (.bl true) else n ρ
def notV (m : Env → M D) : Env → M D := fun ρ => M.bind (m ρ) fun x => M.bind (toB x) fun b => M.pure (.bl (!b))
theorem me_one {op} {t : TE} (h : PE X a t) : PE X (.BoolOp op [a] pos) t := pe_one h
theorem me_and (ha : PE X a (tM X.K E ma)) (hb : PE X (.BoolOp .And (b :: rest) pos) (tM X.K E mb)) : PE X (.BoolOp .And (a :: b :: rest) pos) (tM X.K E (andV ma mb)) :=
  pe_imp (pe_and ha hb) fun σ H Q ⟨w, S, ρ, hs, hn, h⟩ => ⟨w, S, ρ, hs, hn, h.bind.imp fun w1 S1 H1 x l1 s1 h1 v rv => by
    cases rv with
    | bl k =>
      refine ⟨k, rfl, ?_⟩
      cases k with
      | true => exact iteT ⟨w1, S1, ρ, s1, hn.mono l1, h1⟩
      | false => exact iteF (Fin.ok h1 s1 _ (.bl false))
    | _ => exact h1.elim⟩
theorem me_or (ha : PE X a (tM X.K E ma)) (hb : PE X (.BoolOp .Or (b :: rest) pos) (tM X.K E mb)) : PE X (.BoolOp .Or (a :: b :: rest) pos) (tM X.K E (orV ma mb)) :=
  pe_imp (pe_or ha hb) fun σ H Q ⟨w, S, ρ, hs, hn, h⟩ => ⟨w, S, ρ, hs, hn, h.bind.imp fun w1 S1 H1 x l1 s1 h1 v rv => by
    cases rv with
    | bl k =>
      refine ⟨k, rfl, ?_⟩
      cases k with
      | false => exact iteF ⟨w1, S1, ρ, s1, hn.mono l1, h1⟩
      | true => exact iteT (Fin.ok h1 s1 _ (.bl true))
    | _ => exact h1.elim⟩
theorem me_not (ha : PE X a (tM X.K E ma)) : PE X (.UnaryOp .Not a pos) (tM X.K E (notV ma)) :=
  pe_imp (pe_not ha) fun σ H Q ⟨w, S, ρ, hs, hn, h⟩ => ⟨w, S, ρ, hs, hn, h.bind.imp fun w1 S1 H1 x l1 s1 h1 v rv => by
    cases rv with
    | bl k => exact ⟨k, rfl, Fin.ok h1 s1 _ (.bl _)⟩
    | _ => exact h1.elim⟩
/-- a chain of two -/
def chn (f g : D → D → M D) (a b c : Env → M D) : Env → M D := fun ρ => M.bind (a ρ) fun x => M.bind (b ρ) fun y => M.bind (f x y) fun z => M.bind (toB z) fun k => if k = true then M.bind (c ρ) fun u => g y u else M.pure (.bl false)
theorem chn_go {r r' : R2} {f g : D → D → M D} (hf : OpM X.K r f) (hg : OpM X.K r' g) {σ : L2.St} {H : Hp} {Q : VK} (h : tM X.K E (chn f g ma mb mc) σ H Q) : tChain r r' (tM X.K E ma) (tM X.K E mb) (tM X.K E mc) σ H Q := by
  obtain ⟨w, S, ρ, hs, hn, h⟩ := h
  refine ⟨w, S, ρ, hs, hn, h.bind.imp fun w1 S1 H1 x l1 s1 h1 v rv => ?_⟩
  refine ⟨w1, S1, ρ, s1, hn.mono l1, h1.bind.imp fun w2 S2 H2 y l2 s2 h2 u ru => ?_⟩
  refine hf E w2 S2 H2 v u x y _ s2 (rv.mono l2) ru (h2.bind.imp fun w3 S3 H3 z l3 s3 h3 z' rz => ?_)
  cases rz with
  | bl k =>
    refine ⟨k, rfl, ?_⟩
    have h4 := h3.bind.ok s3
    cases k with
    | true =>
      refine iteT ⟨w3, S3, ρ, s3, hn.mono (l1.trans (l2.trans l3)), Fin.imp (Fin.bind h4) fun w4 S4 H4 t l4 s4 h5 t' rt => ?_⟩
      exact hg E w4 S4 H4 u t' y t Q s4 ((ru.mono l3).mono l4) rt h5
    | false => exact iteF (Fin.ok h4 s3 _ (.bl false))
  | _ => exact (Fin.bind h3).elim
theorem marks_two (op op' : CmpOp) (b c : Expr) : lastMarks [op, op'] [b, c] = behindInMarks op' c := by simp [lastMarks]
theorem me_chain {op op' : CmpOp} {r r' : R2} {f g : D → D → M D} (ho : OpR X (compareOp op) r) (hf : OpM X.K r f) (ho' : OpR X (compareOp op') r') (hg : OpM X.K r' g) (ha : PE X a (tM X.K E ma)) (hb : PE X b (tM X.K E mb)) (hc : PE X c (tM X.K E mc))
    (hm : behindInMarks op' c = false) : PE X (.Compare a [op, op'] [b, c] pos) (tM X.K E (chn f g ma mb mc)) := pe_imp (pe_chain ho ho' ha hb hc ((marks_two op op' b c).trans hm)) fun _ _ _ h => chn_go hf hg h
theorem mt_chain {op op' : CmpOp} {r r' : R2} {f g : D → D → M D} (ho : OpR X (compareOp op) r) (hf : OpM X.K r f) (ho' : OpR X (compareOp op') r') (hg : OpM X.K r' g) (ha : PE X a (tM X.K E ma)) (hb : PE X b (tM X.K E mb)) (hc : PE X c (tM X.K E mc))
    (hm : behindInMarks op' c = false) : PT X (.Compare a [op, op'] [b, c] pos) (tMt X.K E (tst (chn f g ma mb mc))) :=
  pt_imp (pt_chain ho ho' ha hb hc ((marks_two op op' b c).trans hm)) fun σ H Q ⟨w, S, ρ, hs, hn, h⟩ => chn_go hf hg ⟨w, S, ρ, hs, hn, h.bind.imp fun w1 S1 H1 x l1 s1 h1 v rv => toB_go h1 s1 rv⟩
/-- a if t else b -/
def ifV (t : Env → M Bool) (m n : Env → M D) : Env → M D := fun ρ => M.bind (t ρ) fun k => if k = true then m ρ else n ρ
theorem me_ife (hc : PT X c (tMt X.K E ta)) (ha : PE X a (tM X.K E ma)) (hb : PE X b (tM X.K E mb)) : PE X (.IfExp c a b pos) (tM X.K E (ifV ta ma mb)) :=
  pe_imp (pe_ifExp hc ha hb) fun σ H Q ⟨w, S, ρ, hs, hn, h⟩ => ⟨w, S, ρ, hs, hn, h.bind.imp fun w1 S1 H1 x l1 s1 h1 => by
    cases x with
    | true => exact iteT ⟨w1, S1, ρ, s1, hn.mono l1, h1⟩
    | false => exact iteF ⟨w1, S1, ρ, s1, hn.mono l1, h1⟩⟩

/-! ### arguments, displays -/
variable {es : List Expr} {mas : Env → M (List D)}
def aCons (m : Env → M D) (n : Env → M (List D)) : Env → M (List D) := fun ρ => M.bind (m ρ) fun x => M.bind (n ρ) fun xs => M.pure (x :: xs)
theorem ma_nil : PA X [] (tMa X.K E fun _ => M.pure []) := pa_imp pa_nil fun σ H Q ⟨w, S, ρ, hs, hn, h⟩ => Fin.ok h hs _ .nil
theorem ma_cons (ha : PE X a (tM X.K E ma)) (hr : PA X es (tMa X.K E mas)) (hst : starEach (a :: es) X.env = (false, eval a X.env) :: starEach es X.env := by rfl) : PA X (a :: es) (tMa X.K E (aCons ma mas)) :=
  pa_imp (pa_cons ha hr hst) fun σ H Q ⟨w, S, ρ, hs, hn, h⟩ => ⟨w, S, ρ, hs, hn, h.bind.imp fun w1 S1 H1 x l1 s1 h1 v rv =>
    ⟨w1, S1, ρ, s1, hn.mono l1, h1.bind.imp fun w2 S2 H2 xs l2 s2 h2 vs rvs => Fin.ok h2 s2 _ (.cons (rv.mono l2) rvs)⟩⟩
def mkL (m : Env → M (List D)) : Env → M D := fun ρ => M.bind (m ρ) fun xs => if xs.length ≤ 100000 then M.pure (.lst xs) else bad
def mkT (m : Env → M (List D)) : Env → M D := fun ρ => M.bind (m ρ) fun xs => if xs.length ≤ 100000 then M.pure (.tup xs) else bad
/-- a list that will be changed: a cell -/
def newL (xs : List D) : M D := fun S => some (.ok (.ref S.length), S ++ [.lst xs])
def mkC (m : Env → M (List D)) : Env → M D := fun ρ => M.bind (m ρ) fun xs => if xs.length ≤ 100000 then newL xs else bad
theorem sz_of {n : Nat} (h : n ≤ 100000) : n ≤ sizeLine := Nat.le_trans h (by decide)
theorem sz_lt {n : Nat} (h : n < 100000) : n < sizeLine := Nat.lt_of_lt_of_le h (by decide)
theorem lay_lst {w : Wd} {S : Sto} {H : Hp} {xs : List D} {vs : List V} {p : Addr} {P : Wd → Sto → Hp → D → Prop} (h : Fin X.K E w (some (.ok (.lst xs), S)) P) (hs : Rs X.K w S H) (rv : RvL X.K w vs xs) (hp : H p = none) :
    ∃ w', Le w w' ∧ Rv X.K w' (.ref p) (.lst xs) ∧ P w' S (upd H p (.lst vs)) (.lst xs) :=
  ⟨w.lay p (.lst vs), hs.le_lay hp, .lst (by show upd w.G p _ p = _; rw [upd_same]) (rv.mono (hs.le_lay hp)), h _ _ (hs.le_lay hp) (hs.lay hp)⟩
theorem lay_tup {w : Wd} {S : Sto} {H : Hp} {xs : List D} {vs : List V} {p : Addr} {P : Wd → Sto → Hp → D → Prop} (h : Fin X.K E w (some (.ok (.tup xs), S)) P) (hs : Rs X.K w S H) (rv : RvL X.K w vs xs) (hp : H p = none) :
    ∃ w', Le w w' ∧ Rv X.K w' (.ref p) (.tup xs) ∧ P w' S (upd H p (.tup vs)) (.tup xs) :=
  ⟨w.lay p (.tup vs), hs.le_lay hp, .tup (.of (by show upd w.G p _ p = _; rw [upd_same])) (rv.mono (hs.le_lay hp)), h _ _ (hs.le_lay hp) (hs.lay hp)⟩
theorem lay_new {w : Wd} {S : Sto} {H : Hp} {xs : List D} {vs : List V} {p : Addr} {P : Wd → Sto → Hp → D → Prop} (h : Fin X.K E w (newL xs S) P) (hs : Rs X.K w S H) (rv : RvL X.K w vs xs) (hp : H p = none) :
    ∃ w', Le w w' ∧ Rv X.K w' (.ref p) (.ref S.length) ∧ P w' (S ++ [.lst xs]) (upd H p (.lst vs)) (.ref S.length) :=
  ⟨w.add p, le_add, .ref (by show (w.A ++ [p])[S.length]? = some p; rw [← hs.len]; simp), h _ _ le_add (hs.add hp ⟨vs, by rw [upd_same], rv.mono le_add⟩)⟩
theorem me_lst {k} (ha : PA X es (tMa X.K E mas)) : PE X (.List es k) (tM X.K E (mkL mas)) := pe_imp (pe_lst ha) fun σ H Q ⟨w, S, ρ, hs, hn, h⟩ => ⟨w, S, ρ, hs, hn, h.bind.imp fun w1 S1 H1 xs l1 s1 h1 vs rvs => by
  by_cases hl : xs.length ≤ 100000
  · rw [if_pos hl] at h1
    refine ⟨sz_of (by rw [rvs.length]; exact hl), fun p hp => ?_⟩
    obtain ⟨w', _, r, q⟩ := lay_lst h1 s1 rvs hp
    exact q _ r
  · rw [if_neg hl] at h1
    exact h1.elim⟩
theorem me_new {k} (ha : PA X es (tMa X.K E mas)) : PE X (.List es k) (tM X.K E (mkC mas)) := pe_imp (pe_lst ha) fun σ H Q ⟨w, S, ρ, hs, hn, h⟩ => ⟨w, S, ρ, hs, hn, h.bind.imp fun w1 S1 H1 xs l1 s1 h1 vs rvs => by
  by_cases hl : xs.length ≤ 100000
  · rw [if_pos hl] at h1
    refine ⟨sz_of (by rw [rvs.length]; exact hl), fun p hp => ?_⟩
    obtain ⟨w', _, r, q⟩ := lay_new h1 s1 rvs hp
    exact q _ r
  · rw [if_neg hl] at h1
    exact h1.elim⟩
theorem me_tup {x k} (ha : PA X es (tMa X.K E mas)) : PE X (.Tuple es x k) (tM X.K E (mkT mas)) := pe_imp (pe_tup ha) fun σ H Q ⟨w, S, ρ, hs, hn, h⟩ => ⟨w, S, ρ, hs, hn, h.bind.imp fun w1 S1 H1 xs l1 s1 h1 vs rvs => by
  by_cases hl : xs.length ≤ 100000
  · rw [if_pos hl] at h1
    refine ⟨sz_of (by rw [rvs.length]; exact hl), fun p hp => ?_⟩
    obtain ⟨w', _, r, q⟩ := lay_tup h1 s1 rvs hp
    exact q _ r
  · rw [if_neg hl] at h1
    exact h1.elim⟩
/-! ### calls of built-ins -/
def cal (f : List D → M D) (m : Env → M (List D)) : Env → M D := fun ρ => M.bind (m ρ) f
variable {x : Str} {p : Pos} {id T : String} {r : List V → Hp → VK → Prop} {f : List D → M D}
theorem cal_go (hf : CaM X.K r f) {σ : L2.St} {H : Hp} {Q : VK} (h : tM X.K E (cal f mas) σ H Q) : tCB r (tMa X.K E mas) σ H Q := by
  obtain ⟨w, S, ρ, hs, hn, h⟩ := h
  exact ⟨w, S, ρ, hs, hn, h.bind.imp fun w1 S1 H1 xs l1 s1 h1 vs rvs => hf E w1 S1 H1 vs xs Q s1 rvs h1⟩
theorem me_callB (hc : CallR X (.builtin id) r) (hf : CaM X.K r f) (hg : Gl X x) (hm : X.mg x = none) (hv : bootBuiltins x = some (.builtin id)) (ha : PA X (a :: es) (tMa X.K E mas)) (hn : x ≠ "__name__" := by decide) (hdb : (x == ("__debug__" : Str)) = false := by decide)
    (he : starEach (a :: es) X.env = (false, eval a X.env) :: starEach es X.env := by rfl) (hpl : (backTo pos (starEach es X.env)).any (·.1) = false := by rfl) : PE X (.Call (.Name x p) (a :: es) [] pos) (tM X.K E (cal f mas)) :=
  pe_imp (pe_callB hc hg hm hv ha hn hdb he hpl) fun _ _ _ h => cal_go hf h
theorem me_callTy (hc : CallR X (.type T) r) (hf : CaM X.K r f) (hg : Gl X x) (hm : X.mg x = none) (hv : bootBuiltins x = some (.type T)) (ha : PA X (a :: es) (tMa X.K E mas)) (hn : x ≠ "__name__" := by decide) (hdb : (x == ("__debug__" : Str)) = false := by decide)
    (he : starEach (a :: es) X.env = (false, eval a X.env) :: starEach es X.env := by rfl) (hpl : (backTo pos (starEach es X.env)).any (·.1) = false := by rfl) : PE X (.Call (.Name x p) (a :: es) [] pos) (tM X.K E (cal f mas)) :=
  pe_imp (pe_callTy hc hg hm hv ha hn hdb he hpl) fun _ _ _ h => cal_go hf h
/-! ### calls of defs -/
def EK0 : EK := fun _ _ _ => False
def spM (K : PySem.W.Frag) (n : Nat) (f : List D → M D) : Sp := fun vs H Q _ => vs.length = n ∧ ∃ w S ds, Rs K w S H ∧ RvL K w vs ds ∧ Fin K EK0 w (f ds S) fun w' _ H' d => ∀ v, Rv K w' v d → Q v H'
variable {CX : CXT} {k : Nat} {fa : Addr} {fd : FuncData} {ps : List Str}
def calF (n : Nat) (f : List D → M D) (m : Env → M (List D)) : Env → M D := fun ρ => M.bind (m ρ) fun xs => if xs.length = n then f xs else bad
theorem me_call {n : Nat} (F : FnOk X.prog X.w X.K X.mg X.base CX k fa fd ps (spM X.K n f)) (hr : Room k X.A) (hg : Gl X x) (hm : X.mg x = some (.ref fa)) (hk : PySem.W.keepIn X.K (.ref fa) = true) (hb : Binds X.K fd ps []) {E' : XK} (hx : Passes CX X E')
    (ha : PA X (a :: es) (tMa X.K EK0 mas)) (hdb : (x == ("__debug__" : Str)) = false := by decide) (he : starEach (a :: es) X.env = (false, eval a X.env) :: starEach es X.env := by rfl) (hpl : (backTo pos (starEach es X.env)).any (·.1) = false := by rfl) :
    PE X (.Call (.Name x p) (a :: es) [] pos) (tM X.K EK0 (calF n f mas)) :=
  pe_imp (pe_call F hr hg hm hk hb .nil hx ha hdb he hpl) fun σ H Q ⟨w, S, ρ, hs, hn, h⟩ => ⟨w, S, ρ, hs, hn, h.bind.imp fun w1 S1 H1 xs l1 s1 h1 vs rvs => by
    by_cases hl : xs.length = n
    · rw [if_pos hl] at h1
      exact ⟨by rw [List.append_nil, rvs.length, hl], w1, S1, xs, s1, by rw [List.append_nil]; exact rvs, h1⟩
    · rw [if_neg hl] at h1
      exact h1.elim⟩
end
end Mi
namespace Mi
open PySem PySem.Spec L2

/-! ### statements -/
section
variable {X : Cx} {E : EK} {st : Stmt} {rest body : List Stmt} {e c o i : Expr} {pos : Pos} {m n : Env → M D} {t : Env → M Bool} {ms ns : Env → M (Fl × Env)}
def sSeq (a b : Env → M (Fl × Env)) : Env → M (Fl × Env) := fun ρ => M.bind (a ρ) fun r => match r with
  | (.nx, ρ') => b ρ'
  | r => M.pure r
def sNil : Env → M (Fl × Env) := fun ρ => M.pure (.nx, ρ)
def sRet (m : Env → M D) : Env → M (Fl × Env) := fun ρ => M.bind (m ρ) fun d => M.pure (.rt d, ρ)
def sDrop (m : Env → M D) : Env → M (Fl × Env) := fun ρ => M.bind (m ρ) fun _ => M.pure (.nx, ρ)
def sIf (t : Env → M Bool) (a b : Env → M (Fl × Env)) : Env → M (Fl × Env) := fun ρ => M.bind (t ρ) fun k => if k = true then a ρ else b ρ
def sAsg (m : Env → M D) (g : D → Env → M Env) : Env → M (Fl × Env) := fun ρ => M.bind (m ρ) fun d => M.bind (g d ρ) fun ρ' => M.pure (.nx, ρ')
def gSet (i : Nat) : D → Env → M Env := fun d ρ => M.pure (ρ.set i (some d))
theorem mss_nil : PSs X [] (tMs X.K E sNil) := pss_imp pss_nil fun D σ H ⟨w, S, ρ, hs, hn, h⟩ => Fin.ok h hs σ hn
theorem mss_cons (h1 : PS X st (tMs X.K E ms)) (h2 : PSs X rest (tMs X.K E ns)) : PSs X (st :: rest) (tMs X.K E (sSeq ms ns)) :=
  pss_imp (pss_cons h1 h2) fun D σ H ⟨w, S, ρ, hs, hn, h⟩ => ⟨w, S, ρ, hs, hn, h.bind.imp fun w1 S1 H1 r l1 s1 q => by
    obtain ⟨fl, ρ'⟩ := r
    cases fl with
    | nx => exact fun σ' hn' => ⟨w1, S1, ρ', s1, hn', q⟩
    | bk => exact Fin.ok q s1
    | ct => exact Fin.ok q s1
    | rt d => exact Fin.ok q s1⟩
theorem ms_pass : PS X (.Pass pos) (tMs X.K E sNil) := ps_imp ps_pass fun D σ H ⟨w, S, ρ, hs, hn, h⟩ => Fin.ok h hs σ hn
theorem ms_break : PS X (.Break pos) (tMs X.K E fun ρ => M.pure (.bk, ρ)) := ps_imp ps_break fun D σ H ⟨w, S, ρ, hs, hn, h⟩ => Fin.ok h hs σ hn
theorem ms_continue : PS X (.Continue pos) (tMs X.K E fun ρ => M.pure (.ct, ρ)) := ps_imp ps_continue fun D σ H ⟨w, S, ρ, hs, hn, h⟩ => Fin.ok h hs σ hn
theorem ms_ret (he : PE X e (tM X.K E m)) : PS X (.Return (some e) pos) (tMs X.K E (sRet m)) :=
  ps_imp (ps_ret he) fun D σ H ⟨w, S, ρ, hs, hn, h⟩ => ⟨w, S, ρ, hs, hn, h.bind.imp fun w1 S1 H1 d l1 s1 q v rv => Fin.ok q s1 v rv⟩
theorem ms_retN : PS X (.Return none pos) (tMs X.K E fun ρ => M.pure (.rt .non, ρ)) := ps_imp ps_retN fun D σ H ⟨w, S, ρ, hs, hn, h⟩ => Fin.ok h hs .non .non
theorem ms_expr (he : PE X e (tM X.K E m)) (hs : swapsWith e none pos.line X.env = pure false := by rfl) : PS X (.Expr e pos) (tMs X.K E (sDrop m)) :=
  ps_imp (ps_expr he hs) fun D σ H ⟨w, S, ρ, hs, hn, h⟩ => ⟨w, S, ρ, hs, hn, h.bind.imp fun w1 S1 H1 d l1 s1 q v rv => Fin.ok q s1 σ (hn.mono l1)⟩
theorem ms_if (hc : PT X c (tMt X.K E t)) (ha : PSs X body (tMs X.K E ms)) (hb : PSs X rest (tMs X.K E ns)) : PS X (.If c body rest pos) (tMs X.K E (sIf t ms ns)) :=
  ps_imp (ps_if hc ha hb) fun D σ H ⟨w, S, ρ, hs, hn, h⟩ => ⟨w, S, ρ, hs, hn, h.bind.imp fun w1 S1 H1 k l1 s1 q => by
    cases k with
    | true => exact iteT ⟨w1, S1, ρ, s1, hn.mono l1, q⟩
    | false => exact iteF ⟨w1, S1, ρ, s1, hn.mono l1, q⟩⟩
theorem mg_name {i : Nat} {x : Str} (hN : X.N.Nodup) (hi : X.N[i]? = some x) (hx : Loc X.env.scope x) (hf : X.fn x = true ∨ X.env.scope.names.lookup x = some .local := by first | exact .inl rfl | exact .inr rfl | assumption) : PG X (.Name x pos) (gM X.K E (gSet i)) :=
  pg_imp (pg_name hN hi hx hf) fun v σ H Q ⟨w, S, ρ, d, hs, hn, rv, h⟩ => Fin.ok h hs _ (hn.set rv)
theorem asg_go {g : D → Env → M Env} {D : Ends} {σ : L2.St} {H : Hp} (h : tMs X.K E (sAsg m g) D σ H) : tAsg (tM X.K E m) (gM X.K E g) D σ H := by
  obtain ⟨w, S, ρ, hs, hn, h⟩ := h
  exact ⟨w, S, ρ, hs, hn, h.bind.imp fun w1 S1 H1 d l1 s1 q v rv => ⟨w1, S1, ρ, d, s1, hn.mono l1, rv, q.bind.imp fun w2 S2 H2 ρ' l2 s2 q2 σ' hn' => Fin.ok q2 s2 σ' hn'⟩⟩
theorem ms_asg {g : D → Env → M Env} {tg : Expr} (he : PE X e (tM X.K E m)) (hg : PG X tg (gM X.K E g)) (hs : swapsWithSole [tg] e pos.line X.env = pure false := by rfl) (hw : swappedStores [tg] e X.env = pure none := by rfl)
    (h1 : (assignEach [tg] X.env).map (·.2) = [assign tg X.env] := by rfl) : PS X (.Assign [tg] e pos) (tMs X.K E (sAsg m g)) := ps_imp (ps_asg he hg hs hw h1) fun _ _ _ h => asg_go h
theorem ms_set {i : Nat} {x : Str} {pos' : Pos} (hN : X.N.Nodup) (hi : X.N[i]? = some x) (hx : Loc X.env.scope x) (he : PE X e (tM X.K E m)) (hs : swapsWith e (some (.Name x pos')) pos.line X.env = pure false := by rfl) (hf : X.fn x = true ∨ X.env.scope.names.lookup x = some .local := by first | exact .inl rfl | exact .inr rfl | assumption) :
    PS X (.Assign [.Name x pos'] e pos) (tMs X.K E (sAsg m (gSet i))) := ps_imp (ps_set hN hi hx he hs hf) fun D σ H ⟨w, S, ρ, hs, hn, h⟩ =>
  ⟨w, S, ρ, hs, hn, h.bind.imp fun w1 S1 H1 d l1 s1 q v rv => Fin.ok (Fin.bind q |>.ok s1) s1 _ ((hn.mono l1).set rv)⟩
/-- a, b = x, y -/
def sPar (i j : Nat) (m n : Env → M D) : Env → M (Fl × Env) := fun ρ => M.bind (m ρ) fun x => M.bind (n ρ) fun y => M.pure (.nx, (ρ.set i (some x)).set j (some y))
theorem ms_par {i j : Nat} {x y : Str} {a b : Expr} {px py pt : Pos} {kt k2 pt2} (hc : X.calm = true) (hN : X.N.Nodup) (hi : X.N[i]? = some x) (hj : X.N[j]? = some y) (hij : i ≠ j)
    (hx : X.env.scope.names.lookup x = some .local) (hy : X.env.scope.names.lookup y = some .local) (ha : PE X a (tM X.K E m)) (hb : PE X b (tM X.K E n)) (hst : swappedStores [.Tuple [.Name x px, .Name y py] kt pt] (.Tuple [a, b] k2 pt2) X.env = pure (some [x, y]) := by rfl)
    (h1 : starEach [a, b] X.env = (false, eval a X.env) :: starEach [b] X.env := by rfl) (h2 : starEach [b] X.env = (false, eval b X.env) :: starEach [] X.env := by rfl) :
    PS X (.Assign [.Tuple [.Name x px, .Name y py] kt pt] (.Tuple [a, b] k2 pt2) pos) (tMs X.K E (sPar i j m n)) :=
  ps_imp (ps_par hc hN hi hj hij hx hy (pa_cons ha (pa_cons hb pa_nil h2) h1) hst) fun D σ H ⟨w, S, ρ, hs, hn, h⟩ =>
    ⟨w, S, ρ, hs, hn, h.bind.imp fun w1 S1 H1 d l1 s1 q v rv => ⟨w1, S1, ρ, s1, hn.mono l1, q.bind.imp fun w2 S2 H2 d2 l2 s2 q2 v2 rv2 =>
      ⟨v, v2, rfl, Fin.ok q2 s2 _ (((hn.mono (l1.trans l2)).set (rv.mono l2)).set rv2)⟩⟩⟩
end

/-! ### what is walked -/
/-- the items of a walk, one by one; a turn may lay a new pair -/
structure Out (w : Wd) (p : Addr) : Prop where
  g : w.G p = none
  f : w.F p = none
  a : p ∉ w.A
def YM (K : PySem.W.Frag) (w : Wd) (ds : List D) (Y : Nat → Hp → V → Hp → Prop) : Prop := ∀ i H x H' w2 S2, Le w w2 → Rs K w2 S2 H → i < ds.length → Y i H x H' →
  ∃ w3 d, Le w2 w3 ∧ Rs K w3 S2 H' ∧ ds[i]? = some d ∧ Rv K w3 x d ∧ ∀ p o, H p = some o → H' p = some o ∧ (Out w2 p → Out w3 p)
def tMi (K : PySem.W.Frag) (E : EK) (m : Env → M (List D)) : TI := fun σ H R => ∃ w S ρ, Rs K w S H ∧ Rn K w σ ρ ∧ Fin K E w (m ρ S) fun w' _ H' ds =>
  ∀ J G Y, Walk J ds.length G Y → (∀ w2 S2 H2, Le w' w2 → Rs K w2 S2 H2 → G H2) → YM K w' ds Y → R J H'
section
variable {X : Cx} {E : EK} {tg iter : Expr} {body rest : List Stmt} {pos : Pos} {wi : TI} {mi : Env → M (List D)} {ms : Env → M (Fl × Env)} {g : D → Env → M Env}
theorem pi_imp {wi wi' : TI} (h : PI X tg iter wi) (k : ∀ σ H R, wi' σ H R → wi σ H R) : PI X tg iter wi' := ⟨fun pins s σ H R I q => h.run pins s σ H R I (k σ H R q)⟩
def loop (g : D → Env → M Env) (body : Env → M (Fl × Env)) : List D → Env → M (Fl × Env)
  | [], ρ => M.pure (.nx, ρ)
  | x :: xs, ρ => M.bind (g x ρ) fun ρ1 => M.bind (body ρ1) fun r => match r with
    | (.nx, ρ2) => loop g body xs ρ2
    | (.ct, ρ2) => loop g body xs ρ2
    | (.bk, ρ2) => M.pure (.nx, ρ2)
    | (.rt d, ρ2) => M.pure (.rt d, ρ2)
def sFor (mi : Env → M (List D)) (g : D → Env → M Env) (body : Env → M (Fl × Env)) : Env → M (Fl × Env) := fun ρ => M.bind (mi ρ) fun xs => loop g body xs ρ
theorem ms_for (hp : PassesOwn (model X.prog X.w) X.A X.env X.xe) (hc : X.calm = true) (hi : PI X tg iter (tMi X.K E mi)) (hg : PG X tg (gM X.K E g)) (hb : PSs X body (tMs X.K E ms)) (hfs : ∀ x, foldedSetIterable iter X.env x = pure x := by intro _; rfl) :
    PS X (.For tg iter body [] pos) (tMs X.K E (sFor mi g ms)) := ps_imp (ps_for hp hc hi hg hb hfs) fun D σ H ⟨w, S, ρ, hs, hn, h⟩ => by
  refine ⟨w, S, ρ, hs, hn, h.bind.imp fun w1 S1 H1 ds l1 s1 q J G Y W hG hY => ?_⟩
  refine for_it W (fun i σ' H' => ∃ w' S' ρ', Le w1 w' ∧ Rs X.K w' S' H' ∧ Rn X.K w' σ' ρ' ∧ Fin X.K E w' (loop g ms (ds.drop i) ρ' S') (Land X.K D)) ⟨w1, S1, ρ, Le.refl w1, s1, hn.mono l1, q⟩
    (fun i σ' H' _ ⟨w', S', ρ', l, s, _⟩ => hG w' S' H' l s) (fun i x σ' H2 H3 hi ⟨w', S', ρ', l, s, n, q⟩ y => ?_) (fun σ' H' ⟨w', S', ρ', l, s, n, q⟩ => ?_)
  · obtain ⟨w3, d, l3, s3, hd, rv, _⟩ := hY i H2 x H3 w' S' l s hi y
    have e : ds.drop i = d :: ds.drop (i + 1) := by
      rw [List.drop_eq_getElem_cons hi]
      rw [List.getElem?_eq_getElem hi] at hd
      cases hd
      rfl
    rw [e] at q
    refine ⟨w3, S', ρ', d, s3, n.mono l3, rv, (Fin.bind (Fin.mono q l3)).imp fun w4 S4 H4 ρ1 l4 s4 q4 σ4 n4 => ⟨w4, S4, ρ1, s4, n4, q4.bind.imp fun w5 S5 H5 r l5 s5 q5 => ?_⟩⟩
    have ll : Le w1 w5 := l.trans (l3.trans (l4.trans l5))
    obtain ⟨fl, ρ2⟩ := r
    cases fl with
    | nx => exact fun σ5 n5 => ⟨w5, S5, ρ2, ll, s5, n5, q5⟩
    | ct => exact fun σ5 n5 => ⟨w5, S5, ρ2, ll, s5, n5, q5⟩
    | bk => exact fun σ5 n5 => Fin.ok q5 s5 σ5 n5
    | rt d => exact fun v rv => Fin.ok q5 s5 v rv
  · rw [List.drop_length] at q
    exact Fin.ok q s σ' n

end
/-! ### a frame: an object of our own, to be kept while others run -/
def Wd.fr (w : Wd) (p : Addr) (o : HO) : Wd := { w with F := upd w.F p o }
def Wd.un (w : Wd) (F : Hp) : Wd := { w with F := F }
theorem lv_of {w w' : Wd} (a : w'.A = w.A) (g : w'.G = w.G) : Lv w w' := ⟨⟨[], by rw [a]; simp⟩, fun b o h => by rw [g]; exact h⟩
section
variable {K : PySem.W.Frag} {w w2 : Wd} {S : Sto} {H : Hp} {p : Addr} {o : HO}
theorem cell_fr {a : Addr} {c : Cell} (h : CellR K w H a c) : CellR K (w.fr p o) H a c := CellR.monoV (w := w) (w' := w.fr p o) (lv_of rfl rfl) (fun _ e => e) h
theorem cell_un {a : Addr} {c : Cell} {F : Hp} (h : CellR K w H a c) : CellR K (w.un F) H a c := CellR.monoV (w := w) (w' := w.un F) (lv_of rfl rfl) (fun _ e => e) h
theorem rv_fr {v : V} {d : D} (h : Rv K w v d) : Rv K (w.fr p o) v d := Rv.monoV (w := w) (w' := w.fr p o) (lv_of rfl rfl) h
theorem rv_un {v : V} {d : D} {F : Hp} (h : Rv K w v d) : Rv K (w.un F) v d := Rv.monoV (w := w) (w' := w.un F) (lv_of rfl rfl) h
theorem rn_fr {σ : L2.St} {ρ : Env} (h : Rn K w σ ρ) : Rn K (w.fr p o) σ ρ := Rn.v (w := w) (w' := w.fr p o) h (lv_of rfl rfl)
theorem rn_un {σ : L2.St} {ρ : Env} {F : Hp} (h : Rn K w σ ρ) : Rn K (w.un F) σ ρ := Rn.v (w := w) (w' := w.un F) h (lv_of rfl rfl)
theorem Rs.outs (r : Rs K w S H) (x : Out w p) : Rs K w S (upd H p o) := by
  refine ⟨fun a u e => ?_, fun a u e => ?_, r.gf, r.len, r.nd, r.ag, fun n a c h1 h2 => ?_, r.sy⟩
  · rw [upd_ne (ne_of_none e x.g)]
    exact r.g a u e
  · rw [upd_ne (ne_of_none e x.f)]
    exact r.f a u e
  · refine (r.cell n a c h1 h2).mono (Le.refl w) fun u e => ?_
    rw [upd_ne (show a ≠ p by rintro rfl; exact x.a (List.mem_of_getElem? h1))]
    exact e
theorem Rs.fr (r : Rs K w S H) (x : Out w p) (h : H p = some o) : Rs K (w.fr p o) S H := by
  refine ⟨r.g, fun a u e => ?_, fun a u e => ?_, r.len, r.nd, fun a ha => ⟨(r.ag a ha).1, ?_⟩, fun n a c h1 h2 => cell_fr (r.cell n a c h1 h2), ?_⟩
  · have e' : upd w.F p o a = some u := e
    by_cases q : a = p
    · subst q
      rw [upd_same] at e'
      rw [h, e']
    · rw [upd_ne q] at e'
      exact r.f a u e'
  · have e' : upd w.F p o a = some u := e
    by_cases q : a = p
    · subst q
      exact x.g
    · rw [upd_ne q] at e'
      exact r.gf a u e'
  · show upd w.F p o a = none
    rw [upd_ne (show a ≠ p by rintro rfl; exact x.a ha)]
    exact (r.ag a ha).2
  · obtain ⟨φ, hφ⟩ := r.sy
    exact ⟨φ, by
      show upd w.F p o sysModules = _
      rw [upd_ne (ne_of_none hφ x.f)]
      exact hφ⟩
theorem Rs.lay' (r : Rs K w S H) (x : Out w p) (h : H p = some o) : Le w (w.lay p o) ∧ Rs K (w.lay p o) S H := by
  have l : Le w (w.lay p o) := ⟨⟨[], by simp [Wd.lay]⟩, fun b u e => by
    show upd w.G p o b = some u
    rw [upd_ne (ne_of_none e x.g)]
    exact e, rfl⟩
  refine ⟨l, fun a u e => ?_, r.f, fun a u e => ?_, r.len, r.nd, fun a ha => ⟨?_, (r.ag a ha).2⟩, fun n a c h1 h2 => (r.cell n a c h1 h2).monoV l.v fun _ e => e, r.sy⟩
  · have e' : upd w.G p o a = some u := e
    by_cases q : a = p
    · subst q
      rw [upd_same] at e'
      rw [h, e']
    · rw [upd_ne q] at e'
      exact r.g a u e'
  · show upd w.G p o a = none
    rw [upd_ne (ne_of_none e x.f)]
    exact r.gf a u e
  · show upd w.G p o a = none
    rw [upd_ne (show a ≠ p by rintro rfl; exact x.a ha)]
    exact (r.ag a ha).1
/-- behind a framed run -/
structure Kept (K : PySem.W.Frag) (w w' : Wd) (S : Sto) (H : Hp) (p : Addr) (o : HO) : Prop where
  le : Le w w'
  rs : Rs K w' S H
  out : Out w' p
  at' : H p = some o
theorem Fin.fr {α : Type} {r : Option (Except Exn α × Sto)} {P : Wd → Sto → Hp → α → Prop} (hf : w.F p = none) (sy : SysF w.F) (h : Fin K EK0 w r P) : Fin K EK0 (w.fr p o) r fun w2 S' H' a => Kept K w (w2.un w.F) S' H' p o ∧ P (w2.un w.F) S' H' a := by
  rcases r with _ | ⟨_ | a, S'⟩
  · exact h
  · intro w2 H' l2 r2
    have hF : w2.F = upd w.F p o := l2.f
    refine h (w2.un w.F) H' ⟨l2.a, l2.g, rfl⟩ ⟨r2.g, fun b u e => ?_, fun b u e => ?_, r2.len, r2.nd, fun b hb => ⟨(r2.ag b hb).1, ?_⟩, fun n b c h1 h2 => cell_un (r2.cell n b c h1 h2), sy⟩
    · have e' : w.F b = some u := e
      refine r2.f b u ?_
      rw [hF, upd_ne (ne_of_none e' hf)]
      exact e'
    · have e' : w.F b = some u := e
      refine r2.gf b u ?_
      rw [hF, upd_ne (ne_of_none e' hf)]
      exact e'
    · have q := (r2.ag b hb).2
      rw [hF] at q
      by_cases z : b = p
      · rw [z]; exact hf
      · rw [upd_ne z] at q
        exact q
  · intro w2 H' l2 r2
    have hF : w2.F = upd w.F p o := l2.f
    have l : Le w (w2.un w.F) := ⟨l2.a, l2.g, rfl⟩
    have rr : Rs K (w2.un w.F) S' H' := ⟨r2.g, fun b u e => by
      have e' : w.F b = some u := e
      refine r2.f b u ?_
      rw [hF, upd_ne (ne_of_none e' hf)]
      exact e', fun b u e => by
      have e' : w.F b = some u := e
      refine r2.gf b u ?_
      rw [hF, upd_ne (ne_of_none e' hf)]
      exact e', r2.len, r2.nd, fun b hb => ⟨(r2.ag b hb).1, by
      have q := (r2.ag b hb).2
      rw [hF] at q
      by_cases z : b = p
      · rw [z]; exact hf
      · rw [upd_ne z] at q
        exact q⟩, fun n b c h1 h2 => cell_un (r2.cell n b c h1 h2), sy⟩
    have hp : w2.F p = some o := by rw [hF, upd_same]
    exact ⟨⟨l, rr, ⟨r2.gf p o hp, hf, fun z => by have := (r2.ag p z).2; rw [hp] at this; cases this⟩, r2.f p o hp⟩, h (w2.un w.F) H' l rr⟩
end
/-! ### comprehensions -/
def noErr {α : Type} (m : M α) : M α := fun S => match m S with
  | some (.ok a, S') => some (.ok a, S')
  | _ => none
theorem Fin.noErr {α : Type} {K : PySem.W.Frag} {E : EK} {w : Wd} {m : M α} {S : Sto} {P : Wd → Sto → Hp → α → Prop} (h : Fin K E w (noErr m S) P) : Fin K EK0 w (m S) P := by
  unfold Mi.noErr at h
  rcases hm : m S with _ | ⟨_ | a, S'⟩
  · rw [hm] at h; exact h.elim
  · rw [hm] at h; exact h.elim
  · rw [hm] at h; exact h
def lcGo (g : D → Env → M Env) (t : Env → M Bool) (e : Env → M D) (ρ : Env) : List D → M (List D)
  | [] => M.pure []
  | x :: xs => M.bind (g x ρ) fun ρ1 => M.bind (t ρ1) fun k => if k = true then M.bind (e ρ1) fun y => M.bind (lcGo g t e ρ xs) fun ys => M.pure (y :: ys) else lcGo g t e ρ xs
def wipeE (vs : List Nat) (ρ : Env) : Env := vs.foldr (fun i ρ => ρ.set i none) ρ
def eLc (mi : Env → M (List D)) (g : D → Env → M Env) (t : Env → M Bool) (e : Env → M D) (vs : List Nat) : Env → M D := fun ρ => M.bind (mi ρ) fun xs =>
  if xs.length ≤ 50000 then M.bind (noErr (lcGo g t e (wipeE vs ρ) xs)) fun ys => M.pure (.lst ys) else bad
theorem wipe_get (σ : L2.St) : ∀ (vs : List Nat) (j : Nat), (L2.wipe σ vs)[j]? = if j ∈ vs then σ[j]?.map (fun _ => none) else σ[j]?
  | [], j => by simp [L2.wipe]
  | v :: vs, j => by
    show ((L2.wipe σ vs).set v none)[j]? = _
    rw [List.getElem?_set]
    by_cases h : v = j
    · subst h
      have e := L2.wipe_length σ vs
      by_cases hl : v < σ.length
      · simp [e, hl]
      · simp [e, hl]
    · rw [if_neg h, wipe_get σ vs j]
      have : j ∈ v :: vs ↔ j ∈ vs := by simp [Ne.symm h]
      simp only [this]
theorem wipe_wipe (σ : L2.St) (vs : List Nat) : L2.wipe (L2.wipe σ vs) vs = L2.wipe σ vs := by
  apply List.ext_getElem?
  intro j
  rw [wipe_get, wipe_get]
  split
  · cases σ[j]? <;> rfl
  · rfl
theorem wipe_set {σ : L2.St} {vs : List Nat} {i : Nat} {x : Option V} (h : i ∈ vs) : L2.wipe (σ.set i x) vs = L2.wipe σ vs := by
  apply List.ext_getElem?
  intro j
  rw [wipe_get, wipe_get]
  split
  · rw [List.getElem?_set]
    split
    · rename_i e
      subst e
      split
      · rename_i hl
        simp [hl]
      · rename_i hl
        simp [hl]
    · rfl
  · rename_i hj
    rw [List.getElem?_set_ne (show i ≠ j by rintro rfl; exact hj h)]
/-- how a raw target answers a mirrored one: slots of vs alone change -/
def GW (K : PySem.W.Frag) (vs : List Nat) (g : D → Env → M Env) (raw : TG) : Prop := ∀ (w : Wd) (S : Sto) (ρ : Env) (H : Hp) (v : V) (d : D) (σ : L2.St) (Q : L2.St → Hp → Prop), Rs K w S H → Rn K w σ ρ → Rv K w v d →
  Fin K EK0 w (g d ρ S) (fun w' _ H' ρ' => ∀ σ', Rn K w' σ' ρ' → L2.wipe σ' vs = L2.wipe σ vs → Q σ' H') → raw v σ H Q
theorem gw_name {K : PySem.W.Frag} {vs : List Nat} {i : Nat} (h : i ∈ vs) : GW K vs (gSet i) (gName i) := fun w S ρ H v d σ Q hs hn rv q => Fin.ok q hs _ (hn.set rv) (wipe_set h)
section
variable {X : Cx} {E : EK} {elt tg iter : Expr} {ifs : List Expr} {scope : Scope} {own : List (Str × Nat)} {pos : Pos} {raw : TG} {mi : Env → M (List D)} {g : D → Env → M Env} {t : Env → M Bool} {m : Env → M D}
theorem lc_go (hw : GW X.K (own.map (·.2)) g raw) {σ : L2.St} {H : Hp} {Q : VK} (h : tM X.K E (eLc mi g t m (own.map (·.2))) σ H Q) :
    tLc (tMi X.K E mi) raw (tMt X.K EK0 t) (tM X.K EK0 m) (own.map (·.2)) σ H Q := by
  generalize own.map (·.2) = vs at *
  obtain ⟨w, S, ρ, hs, hn, h⟩ := h
  refine ⟨w, S, ρ, hs, hn, h.bind.imp fun w1 S1 H1 ds l1 s1 q J G Y W hG hY D hD => ?_⟩
  by_cases hz : ds.length ≤ 50000
  case neg => rw [if_neg hz] at q; exact q.elim
  rw [if_pos hz] at q
  have q := Fin.noErr (Fin.bind q)
  have hn1 : Rn X.K w1 (L2.wipe σ vs) (wipeE vs ρ) := (hn.mono l1).wipe vs
  obtain ⟨f1, f2, f3⟩ := s1.fresh hD
  refine lc_it W (fun i H' => ∃ w' S' va ys, Le w1 w' ∧ Rs X.K w' S' H' ∧ H' D = some (.lst va) ∧ Out w' D ∧ RvL X.K w' va ys ∧ ys.length ≤ i ∧ i ≤ ds.length ∧
      Fin X.K EK0 w' (lcGo g t m (wipeE vs ρ) (ds.drop i) S') fun w2 S2 H2 more => Fin X.K E w2 (M.pure (Mi.D.lst (ys ++ more)) S2) fun w3 _ H3 d => ∀ v, Rv X.K w3 v d → Q v H3)
    ⟨w1, S1, [], [], Le.refl w1, s1.outs ⟨f1, f2, f3⟩, upd_same, ⟨f1, f2, f3⟩, .nil, Nat.le_refl _, Nat.zero_le _, q⟩
    (fun i H' _ ⟨w', S', va, ys, l, s, _⟩ => hG w' S' H' l s) (fun i x H2 H3 hi ⟨w', S', va, ys, l, s, hd, ho, rv, hl, _, q⟩ y => ?_) (fun H' ⟨w', S', va, ys, l, s, hd, ho, rv, hl, _, q⟩ => ?_)
  · obtain ⟨w3, d, l3, s3, hdi, rx, hkeep⟩ := hY i H2 x H3 w' S' l s hi y
    obtain ⟨hd3, ho3⟩ := hkeep D _ hd
    have ho3 := ho3 ho
    have e : ds.drop i = d :: ds.drop (i + 1) := by
      rw [List.drop_eq_getElem_cons hi]
      rw [List.getElem?_eq_getElem hi] at hdi
      cases hdi
      rfl
    rw [e] at q
    have s3f := s3.fr (o := .lst va) ho3 hd3
    have n3 : Rn X.K (w3.fr D (.lst va)) (L2.wipe σ vs) (wipeE vs ρ) := rn_fr (hn1.mono (l.trans l3))
    have q3 := Fin.fr (p := D) (o := .lst va) ho3.f s3.sy (Fin.bind (Fin.mono q l3))
    refine hw (w3.fr D (.lst va)) S' (wipeE vs ρ) H3 x d (L2.wipe σ vs) _ s3f n3 (rv_fr rx) (q3.imp fun w4 S4 H4 ρ1 l4 s4 q4 σ4 n4 hw4 => ?_)
    rw [wipe_wipe] at hw4
    refine ⟨hw4, ?_⟩
    obtain ⟨k4, q4⟩ := q4
    have q5 := Fin.fr (p := D) (o := .lst va) k4.out.f k4.rs.sy (Fin.bind q4)
    refine ⟨(w4.un w3.F).fr D (.lst va), S4, ρ1, k4.rs.fr k4.out k4.at', rn_fr (rn_un n4), q5.imp fun w5 S5 H5 b l5 s5 q5 => ?_⟩
    obtain ⟨k5, q5⟩ := q5
    have ll : Le w1 (w5.un (w4.un w3.F).F) := l.trans (l3.trans (k4.le.trans k5.le))
    cases b with
    | false => exact iteF ⟨_, S5, va, ys, ll, k5.rs, k5.at', k5.out, rv.mono (l3.trans (k4.le.trans k5.le)), Nat.le_succ_of_le hl, hi, q5⟩
    | true =>
      refine iteT ?_
      have q6 := Fin.fr (p := D) (o := .lst va) k5.out.f k5.rs.sy (Fin.bind q5)
      refine ⟨(w5.un (w4.un w3.F).F).fr D (.lst va), S5, ρ1, k5.rs.fr k5.out k5.at', (rn_fr (rn_un (Rn.mono l5 (rn_fr (rn_un n4))))), q6.imp fun w6 S6 H6 z l6 s6 q6 v6 r6 => ?_⟩
      obtain ⟨k6, q6⟩ := q6
      refine ⟨va, k6.at', sz_lt (by rw [rv.length]; omega), _, S6, va ++ [v6], ys ++ [z], ll.trans k6.le, k6.rs.outs k6.out, upd_same, k6.out, (rv.mono (l3.trans (k4.le.trans (k5.le.trans k6.le)))).append (.one (rv_un r6)), by simp; omega, hi, ?_⟩
      refine (Fin.bind q6).imp fun w7 S7 H7 more l7 s7 q7 => ?_
      have q8 := Fin.ok q7 s7
      rw [show ys ++ [z] ++ more = ys ++ z :: more by simp]
      exact q8
  · rw [List.drop_length] at q
    have q := Fin.ok q s
    rw [List.append_nil] at q
    obtain ⟨l2, s2⟩ := s.lay' ho hd
    exact q _ _ l2 s2 _ (.lst (by show upd w'.G D _ D = _; rw [upd_same]) (rv.mono l2))
end
end Mi
namespace Mi
open PySem PySem.Spec L2
section
variable {X : Cx} {E : EK} {elt tg iter l : Expr} {ifs : List Expr} {scope : Scope} {own : List (Str × Nat)} {pos p : Pos} {raw : TG} {mi : Env → M (List D)} {g : D → Env → M Env} {t : Env → M Bool} {m : Env → M D}
theorem me_lc (hc : X.calm = true) (hN : X.N.Nodup) (hi : PI X tg iter (tMi X.K E mi)) (ok : BlkOk X.N X.env.scope scope own) (hw : GW X.K (own.map (·.2)) g raw)
    (hg : ∀ (s : Shared) (H : Hp) (C : Addr) (cl : List (Str × Addr)) (fp : List Addr), PG (X.blk s H scope (compEnvC scope cl C X.env) fp) tg raw) (ht : ∀ (s : Shared) (H : Hp) (C : Addr) (cl : List (Str × Addr)) (fp : List Addr), PTs (X.blk s H scope (compEnvC scope cl C X.env) fp) ifs (tMt X.K EK0 t))
    (he : ∀ (s : Shared) (H : Hp) (C : Addr) (cl : List (Str × Addr)) (fp : List Addr), PE (X.blk s H scope (compEnvC scope cl C X.env) fp) elt (tM X.K EK0 m)) (hs : ∀ x, foldedSetIterable iter X.env x = pure x := by intro _; rfl) :
    PE X (.ListComp elt [⟨tg, iter, ifs, 0⟩] scope pos) (tM X.K E (eLc mi g t m (own.map (·.2)))) := pe_imp (pe_lc hc hN hi ok hg ht he hs) fun _ _ _ h => lc_go hw h
theorem ms_setLc {i : Nat} {y : Str} {py spos : Pos} (hc : X.calm = true) (hN : X.N.Nodup) (hy : X.N[i]? = some y) (hyl : X.env.scope.names.lookup y = some .local)
    (hsw : swapsWith (.ListComp elt [⟨tg, iter, ifs, 0⟩] scope pos) (some (.Name y py)) spos.line X.env = pure true) (hi : PI X tg iter (tMi X.K E mi)) (ok : BlkOk X.N X.env.scope scope own) (hw : GW X.K (own.map (·.2)) g raw)
    (hg : ∀ (s : Shared) (H : Hp) (C : Addr) (cl : List (Str × Addr)) (fp : List Addr), PG (X.blk s H scope (compEnvC scope cl C X.env) fp) tg raw) (ht : ∀ (s : Shared) (H : Hp) (C : Addr) (cl : List (Str × Addr)) (fp : List Addr), PTs (X.blk s H scope (compEnvC scope cl C X.env) fp) ifs (tMt X.K EK0 t))
    (he : ∀ (s : Shared) (H : Hp) (C : Addr) (cl : List (Str × Addr)) (fp : List Addr), PE (X.blk s H scope (compEnvC scope cl C X.env) fp) elt (tM X.K EK0 m)) (hs : ∀ x, foldedSetIterable iter X.env x = pure x := by intro _; rfl) :
    PS X (.Assign [.Name y py] (.ListComp elt [⟨tg, iter, ifs, 0⟩] scope pos) spos) (tMs X.K E (sAsg (eLc mi g t m (own.map (·.2))) (gSet i))) :=
  ps_imp (ps_setLc hc hN hy hyl hsw hi ok hg ht he hs) fun D σ H ⟨w, S, ρ, hs, hn, h⟩ => lc_go hw ⟨w, S, ρ, hs, hn, h.bind.imp fun w1 S1 H1 d l1 s1 q v rv => Fin.ok (Fin.ok (Fin.bind q) s1) s1 _ ((hn.mono l1).set rv)⟩
theorem mts_nil : PTs X [] (tMt X.K E fun _ => M.pure true) := pts_imp pts_nil fun σ H Q ⟨w, S, ρ, hs, hn, h⟩ => Fin.ok h hs
theorem mts_one {c : Expr} (h : PT X c (tMt X.K E t)) : PTs X [c] (tMt X.K E t) := pts_one h

/-! ### what may be walked -/
def sgn (c : Nat) : D := .str ⟨#[c]⟩
def itemsOf : D → M (List D)
  | .lst ds => M.pure ds
  | .lsr ds => M.pure ds
  | .tup ds => M.pure ds
  | .str x => M.pure (x.cps.toList.map sgn)
  | _ => bad
def iSeq (m : Env → M D) : Env → M (List D) := fun ρ => M.bind (m ρ) itemsOf
theorem pi_or {wi wi' : TI} (h : PI X tg iter wi) (h' : PI X tg iter wi') : PI X tg iter fun σ H R => wi σ H R ∨ wi' σ H R := ⟨fun pins s σ H R I q => q.elim (h.run pins s σ H R I) (h'.run pins s σ H R I)⟩
theorem ym_at {K : PySem.W.Frag} {w : Wd} {xs : List V} {ds : List D} (r : RvL K w xs ds) : YM K w ds (YAt xs) := fun i H x H' w2 S2 l2 s2 hi y => by
  obtain ⟨rfl, e⟩ := y
  obtain ⟨d, hd, rd⟩ := (r.mono l2).getV e
  exact ⟨w2, d, Le.refl w2, s2, hd, rd, fun p o h => ⟨h, id⟩⟩
theorem sqL_up {K : PySem.W.Frag} {w w2 : Wd} {S : Sto} {H : Hp} {a : Addr} {xs : List V} (h : SqL K w.G a xs) (l : Le w w2) (s : Rs K w2 S H) : SqL K H a xs := by
  rcases h with (h | ⟨o, h⟩) | h
  · exact .inl (.inl (s.g _ _ (l.g _ _ h)))
  · exact .inl (.inr ⟨o, s.g _ _ (l.g _ _ h)⟩)
  · exact .inr h
theorem sqT_up {K : PySem.W.Frag} {w w2 : Wd} {S : Sto} {H : Hp} {a : Addr} {xs : List V} (h : SqT K w.G a xs) (l : Le w w2) (s : Rs K w2 S H) : SqT K H a xs := by
  rcases h with (h | ⟨o, h⟩) | h
  · exact .inl (.inl (s.g _ _ (l.g _ _ h)))
  · exact .inl (.inr ⟨o, s.g _ _ (l.g _ _ h)⟩)
  · exact .inr h
theorem tM_at {K : PySem.W.Frag} {σ : L2.St} {H : Hp} {w : Wd} {S : Sto} {ρ : Env} {P : Wd → Sto → Hp → D → Prop} {R : V → Hp → Prop} (hs : Rs K w S H) (hn : Rn K w σ ρ) (h : Fin K E w (m ρ S) P)
    (k : ∀ w1 S1 H1 d v, m ρ S = some (.ok d, S1) → Le w w1 → Rs K w1 S1 H1 → P w1 S1 H1 d → Rv K w1 v d → R v H1) : tM K E m σ H R := ⟨w, S, ρ, hs, hn, by
  rcases hm : m ρ S with _ | ⟨_ | d, S1⟩
  · rw [hm] at h; exact h
  · rw [hm] at h; exact h
  · rw [hm] at h
    exact fun w1 H1 l1 s1 v rv => k w1 S1 H1 d v hm l1 s1 (h w1 H1 l1 s1) rv⟩
theorem mi_seq (h : PE X l (tM X.K E m)) : PI X tg l (tMi X.K E (iSeq m)) := pi_imp (pi_or (pi_list h) (pi_or (pi_tup h) (pi_str h))) fun σ H R ⟨w, S, ρ, hs, hn, h⟩ => by
  have h := h.bind
  have err : (∀ d S1, m ρ S = some (.ok d, S1) → False) → tM X.K E m σ H (fun x H1 => ∃ a, x = .ref a ∧ (∃ xs, SqL X.K H1 a xs) ∧ R (Itl X.K a) H1) := fun no =>
    tM_at hs hn h fun w1 S1 H1 d v hm _ _ _ _ => (no d S1 hm).elim
  rcases hm : m ρ S with _ | ⟨x | d, S1⟩
  · exact .inl (err fun d S1 e => by rw [hm] at e; cases e)
  · exact .inl (err fun d S1 e => by rw [hm] at e; cases e)
  · cases d with
    | lst ds =>
      refine .inl (tM_at hs hn h fun w1 S2 H1 d v e l1 s1 q rv => ?_)
      rw [hm] at e
      cases e
      cases rv with
      | lst hG r => exact ⟨_, rfl, ⟨_, sqL_up (.of hG) (Le.refl _) s1⟩, Fin.ok q s1 _ _ _ (by rw [← r.length]; exact walk_list) (fun w2 S2 H2 l2 s2 => sqL_up (.of hG) l2 s2) (ym_at r)⟩
    | lsr ds =>
      refine .inl (tM_at hs hn h fun w1 S2 H1 d v e l1 s1 q rv => ?_)
      rw [hm] at e
      cases e
      cases rv with
      | lsr hG r => exact ⟨_, rfl, ⟨_, sqL_up hG (Le.refl _) s1⟩, Fin.ok q s1 _ _ _ (by rw [← r.length]; exact walk_list) (fun w2 S2 H2 l2 s2 => sqL_up hG l2 s2) (ym_at r)⟩
    | tup ds =>
      refine .inr (.inl (tM_at hs hn h fun w1 S2 H1 d v e l1 s1 q rv => ?_))
      rw [hm] at e
      cases e
      cases rv with
      | tup hG r => exact ⟨_, rfl, ⟨_, sqT_up hG (Le.refl _) s1⟩, Fin.ok q s1 _ _ _ (by rw [← r.length]; exact walk_tup) (fun w2 S2 H2 l2 s2 => sqT_up hG l2 s2) (ym_at r)⟩
    | str x =>
      refine .inr (.inr (tM_at hs hn h fun w1 S2 H1 d v e l1 s1 q rv => ?_))
      rw [hm] at e
      cases e
      cases rv with
      | str x =>
        refine ⟨x, rfl, Fin.ok q s1 _ _ _ (by rw [List.length_map, Array.length_toList]; exact walk_str) (fun _ _ _ _ _ => trivial) fun i H x' H' w2 S2 l2 s2 hi y => ?_⟩
        obtain ⟨rfl, c, hc, rfl⟩ := y
        exact ⟨w2, sgn c, Le.refl w2, s2, by rw [List.getElem?_map, Array.getElem?_toList, hc]; rfl, .str _, fun p o h => ⟨h, id⟩⟩
    | _ =>
      refine .inl (tM_at hs hn h fun w1 S2 H1 d v e l1 s1 q rv => ?_)
      rw [hm] at e
      cases e
      exact q.elim
/-- range(n), range(a, b) -/
def rgD (lo : Int) (n : Nat) : List D := (List.range n).map fun (i : Nat) => .int (lo + (i : Int))
theorem ym_rg {K : PySem.W.Frag} {w : Wd} {lo : Int} {n : Nat} : YM K w (rgD lo n) (YFn fun i => .int (lo + i)) := fun i H x H' w2 S2 l2 s2 hi y => by
  obtain ⟨rfl, rfl⟩ := y
  have hi' : i < n := by simpa [rgD] using hi
  exact ⟨w2, .int (lo + i), Le.refl w2, s2, by simp [rgD, hi'], .int _, fun p o h => ⟨h, id⟩⟩
def rngOf : List D → M (List D)
  | [.int n] => if -100000 ≤ n ∧ n ≤ 100000 then M.pure (rgD 0 n.toNat) else bad
  | [.int a, .int b] => if -100000 ≤ a ∧ a ≤ 100000 ∧ -100000 ≤ b ∧ b ≤ 100000 then M.pure (rgD a (b - a).toNat) else bad
  | _ => bad
def iRng (m : Env → M (List D)) : Env → M (List D) := fun ρ => M.bind (m ρ) rngOf
variable {a b : Expr} {ma : Env → M (List D)}
theorem rng1_go {w : Wd} {S : Sto} {H : Hp} {xs : List D} {vs : List V} {R : It → Hp → Prop} (hl : xs.length = 1) (hs : Rs X.K w S H) (rv : RvL X.K w vs xs)
    (q : Fin X.K E w (rngOf xs S) fun w' _ H' ds => ∀ J G Y, Walk J ds.length G Y → (∀ w2 S2 H2, Le w' w2 → Rs X.K w2 S2 H2 → G H2) → YM X.K w' ds Y → R J H') : ∃ j : Int, vs = [.int j] ∧ -(2 ^ 62) ≤ j ∧ j < 2 ^ 62 ∧ R (Itr 0 j.toNat) H := by
  cases rv with
  | nil => cases hl
  | cons r rr =>
    cases rr with
    | cons _ _ => simp at hl
    | nil =>
      cases r with
      | int n =>
        by_cases h : -100000 ≤ n ∧ n ≤ 100000
        · have q : Fin X.K E w ((if -100000 ≤ n ∧ n ≤ 100000 then M.pure (rgD 0 n.toNat) else bad) S) _ := q
          rw [if_pos h] at q
          refine ⟨n, rfl, by omega, by omega, Fin.ok q hs _ _ _ ?_ (fun _ _ _ _ _ => trivial) ym_rg⟩
          have e : (rgD 0 n.toNat).length = n.toNat := by simp [rgD]
          rw [e]
          exact walk_range
        · have q : Fin X.K E w ((if -100000 ≤ n ∧ n ≤ 100000 then M.pure (rgD 0 n.toNat) else bad) S) _ := q
          rw [if_neg h] at q
          exact q.elim
      | _ => exact q.elim
theorem rng2_go {w : Wd} {S : Sto} {H : Hp} {xs : List D} {vs : List V} {R : It → Hp → Prop} (hl : xs.length = 2) (hs : Rs X.K w S H) (rv : RvL X.K w vs xs)
    (q : Fin X.K E w (rngOf xs S) fun w' _ H' ds => ∀ J G Y, Walk J ds.length G Y → (∀ w2 S2 H2, Le w' w2 → Rs X.K w2 S2 H2 → G H2) → YM X.K w' ds Y → R J H') :
    ∃ i j : Int, vs = [.int i, .int j] ∧ (-(2 ^ 62) ≤ i ∧ i < 2 ^ 62 ∧ -(2 ^ 62) ≤ j ∧ j < 2 ^ 62) ∧ R (Itr i (j - i).toNat) H := by
  cases rv with
  | nil => cases hl
  | cons r rr =>
    cases rr with
    | nil => cases hl
    | cons r2 rr =>
      cases rr with
      | cons _ _ => simp at hl
      | nil =>
        cases r with
        | int n =>
          cases r2 with
          | int b =>
            by_cases h : -100000 ≤ n ∧ n ≤ 100000 ∧ -100000 ≤ b ∧ b ≤ 100000
            · have q : Fin X.K E w ((if -100000 ≤ n ∧ n ≤ 100000 ∧ -100000 ≤ b ∧ b ≤ 100000 then M.pure (rgD n (b - n).toNat) else bad) S) _ := q
              rw [if_pos h] at q
              refine ⟨n, b, rfl, ⟨by omega, by omega, by omega, by omega⟩, Fin.ok q hs _ _ _ ?_ (fun _ _ _ _ _ => trivial) ym_rg⟩
              have e : (rgD n (b - n).toNat).length = (b - n).toNat := by simp [rgD]
              rw [e]
              exact walk_range
            · have q : Fin X.K E w ((if -100000 ≤ n ∧ n ≤ 100000 ∧ -100000 ≤ b ∧ b ≤ 100000 then M.pure (rgD n (b - n).toNat) else bad) S) _ := q
              rw [if_neg h] at q
              exact q.elim
          | _ => exact q.elim
        | _ => exact q.elim
def len1 (f : List D → M (List D)) (n : Nat) (m : Env → M (List D)) : Env → M (List D) := fun ρ => M.bind (m ρ) fun xs => if xs.length = n then f xs else bad
theorem mi_range1 (hg : Gl X "range") (hm : X.mg "range" = none) (ha : PA X [a] (tMa X.K E ma)) (hs : starEach [a] X.env = [(false, eval a X.env)] := by rfl) : PI X tg (.Call (.Name "range" p) [a] [] pos) (tMi X.K E (len1 rngOf 1 ma)) :=
  pi_imp (pi_range1 hg hm ha hs) fun σ H R ⟨w, S, ρ, hs, hn, h⟩ => ⟨w, S, ρ, hs, hn, h.bind.imp fun w1 S1 H1 xs l1 s1 q vs rv => by
    by_cases hl : xs.length = 1
    · rw [if_pos hl] at q
      exact rng1_go hl s1 rv q
    · rw [if_neg hl] at q
      exact q.elim⟩
theorem mi_range2 (hg : Gl X "range") (hm : X.mg "range" = none) (ha : PA X [a, b] (tMa X.K E ma)) (hs : starEach [a, b] X.env = [(false, eval a X.env), (false, eval b X.env)] := by rfl) (hs2 : starEach [b] X.env = [(false, eval b X.env)] := by rfl) :
    PI X tg (.Call (.Name "range" p) [a, b] [] pos) (tMi X.K E (len1 rngOf 2 ma)) :=
  pi_imp (pi_range2 hg hm ha hs hs2) fun σ H R ⟨w, S, ρ, hs, hn, h⟩ => ⟨w, S, ρ, hs, hn, h.bind.imp fun w1 S1 H1 xs l1 s1 q vs rv => by
    by_cases hl : xs.length = 2
    · rw [if_pos hl] at q
      exact rng2_go hl s1 rv q
    · rw [if_neg hl] at q
      exact q.elim⟩
end

/-! ### a def by its body -/
def runM (N : Nat) (ms : Env → M (Fl × Env)) : List D → M D := fun ds => M.bind (ms (ds.map some ++ List.replicate (N - ds.length) none)) fun r => match r with
  | (.nx, _) => M.pure .non
  | (.rt d, _) => M.pure d
  | _ => bad
theorem body_go {K : PySem.W.Frag} {N : List Str} {n : Nat} {ms : Env → M (Fl × Env)} {vs : List V} {H : Hp} {Q : VK} {E : XK} (h : spM K n (runM N.length ms) vs H Q E) :
    tMs K EK0 ms { nx := fun _ H' => Q .non H', rt := Q } (start N vs) H := by
  obtain ⟨_, w, S, ds, hs, rv, h⟩ := h
  refine ⟨w, S, _, hs, Rn.start rv N, h.bind.imp fun w1 S1 H1 r l1 s1 q => ?_⟩
  obtain ⟨fl, ρ'⟩ := r
  cases fl with
  | nx => exact fun σ' _ => Fin.ok q s1 _ .non
  | rt d => exact fun v rv => Fin.ok q s1 v rv
  | bk => exact q.elim
  | ct => exact q.elim
theorem spM_len {K : PySem.W.Frag} {n : Nat} {f : List D → M D} {ps : List Str} (e : ps.length = n) : ∀ vs H Q E, spM K n f vs H Q E → vs.length = ps.length := fun vs H Q E h => h.1.trans e.symm
end Mi
namespace Mi
open PySem PySem.Spec L2

/-! ### lists as they stand -/
def asC (S : Sto) : D → Option (List D)
  | .lst ds => some ds
  | .ref n => match S[n]? with
    | some (.lst ds) => some ds
    | none => none
  | _ => none
def asR (S : Sto) : D → Option (List D)
  | .lsr ds => some ds
  | d => asC S d
section
variable {K : PySem.W.Frag} {E : EK} {w : Wd} {S : Sto} {H : Hp} {v u : V} {d : D} {ds : List D}
theorem asC_go (hs : Rs K w S H) (rv : Rv K w v d) (h : asC S d = some ds) : ∃ a xs, v = .ref a ∧ H a = some (.lst xs) ∧ RvL K w xs ds := by
  cases rv with
  | lst hG r =>
    cases h
    exact ⟨_, _, rfl, hs.g _ _ hG, r⟩
  | ref hA =>
    rename_i a n
    rcases hc : S[n]? with _ | ⟨es⟩
    · simp only [asC, hc] at h; cases h
    · simp only [asC, hc] at h
      cases h
      obtain ⟨xs, h1, h2⟩ := hs.cell n a _ hA hc
      exact ⟨_, _, rfl, h1, h2⟩
  | _ => cases h
theorem asR_go (hs : Rs K w S H) (rv : Rv K w v d) (h : asR S d = some ds) : ∃ a xs, v = .ref a ∧ SqL K H a xs ∧ RvL K w xs ds := by
  cases rv with
  | lsr hG r =>
    cases h
    exact ⟨_, _, rfl, sqL_up hG (Le.refl w) hs, r⟩
  | lst hG r =>
    obtain ⟨a, xs, e, h1, h2⟩ := asC_go hs (.lst hG r) h
    exact ⟨a, xs, e, .of h1, h2⟩
  | ref hA =>
    obtain ⟨a, xs, e, h1, h2⟩ := asC_go hs (.ref hA) h
    exact ⟨a, xs, e, .of h1, h2⟩
  | _ => cases h
theorem tup_go (hs : Rs K w S H) (rv : Rv K w v (.tup ds)) : ∃ a xs, v = .ref a ∧ SqT K H a xs ∧ RvL K w xs ds := by
  cases rv with
  | tup hG r => exact ⟨_, _, rfl, sqT_up hG (Le.refl w) hs, r⟩
end
/-! ### + -/
def addM (x y : D) : M D := fun S => match x, y with
  | .int i, .int j => some (.ok (.int (i + j)), S)
  | .int i, .bl b => some (.ok (.int (i + PyProof.Rows.b2i b)), S)
  | .str i, .str j => if i.length + j.length ≤ 100000 then some (.ok (.str (i ++ j)), S) else none
  | .tup a, .tup b => if a.length + b.length ≤ 100000 then some (.ok (.tup (a ++ b)), S) else none
  | x, y => match asC S x, asC S y with
    | some a, some b => if a.length + b.length ≤ 100000 then some (.ok (.lst (a ++ b)), S) else none
    | _, _ => none
def rAddU (K : PySem.W.Frag) : R2 := fun x y H Q => rI0 (fun i j => .int (i + j)) x y H Q ∨ (∃ i k, x = .int i ∧ y = .bl k ∧ Q (.int (i + PyProof.Rows.b2i k)) H) ∨
  (∃ i j, x = .str i ∧ y = .str j ∧ i.length + j.length ≤ sizeLine ∧ Q (.str (i ++ j)) H) ∨ rCatA K x y H Q ∨ rCat x y H Q
theorem op_addU {X : Cx} : OpR X (binaryOp .Add) (rAddU X.K) := op_add.or (op_add_ib.or (op_add_str.or (op_catA.or op_cat)))
theorem cat_list {K : PySem.W.Frag} {E : EK} {w : Wd} {S : Sto} {H : Hp} {v u : V} {x y : D} {Q : VK} (hs : Rs K w S H) (rv : Rv K w v x) (ru : Rv K w u y)
    (h : Fin K E w (match asC S x, asC S y with | some a, some b => if a.length + b.length ≤ 100000 then some (.ok (D.lst (a ++ b)), S) else none | _, _ => none) (fun w' _ H' d => ∀ z, Rv K w' z d → Q z H')) : rCat v u H Q := by
  rcases h1 : asC S x with _ | a
  · rw [h1] at h; exact h.elim
  · rcases h2 : asC S y with _ | b
    · rw [h1, h2] at h; exact h.elim
    · rw [h1, h2] at h
      obtain ⟨p, xs, rfl, hp, rx⟩ := asC_go hs rv h1
      obtain ⟨q, ys, rfl, hq, ry⟩ := asC_go hs ru h2
      by_cases hl : a.length + b.length ≤ 100000
      · simp only [if_pos hl] at h
        refine ⟨p, q, xs, ys, rfl, rfl, hp, hq, sz_of (by rw [rx.length, ry.length]; exact hl), fun l hl' => ?_⟩
        have hs' := hs.lay (o := .lst (xs ++ ys)) hl'
        exact h _ _ (hs.le_lay hl') hs' _ (.lst (by show upd w.G l _ l = _; rw [upd_same]) ((rx.append ry).mono (hs.le_lay hl')))
      · simp only [if_neg hl] at h
        exact h.elim
theorem addM_ok {K : PySem.W.Frag} : OpM K (rAddU K) addM := by
  intro E w S H v u x y Q hs rv ru h
  have lst : ∀ (h' : Fin K E w (match asC S x, asC S y with | some a, some b => if a.length + b.length ≤ 100000 then some (.ok (D.lst (a ++ b)), S) else none | _, _ => none) (fun w' _ H' d => ∀ z, Rv K w' z d → Q z H')), rAddU K v u H Q :=
    fun h' => .inr (.inr (.inr (.inr (cat_list hs rv ru h'))))
  cases x with
  | int i =>
    cases rv
    cases y with
    | int j => cases ru; exact .inl ⟨i, j, rfl, rfl, Fin.ok h hs _ (.int _)⟩
    | bl j => cases ru; exact .inr (.inl ⟨i, j, rfl, rfl, Fin.ok h hs _ (.int _)⟩)
    | _ => exact h.elim
  | str i =>
    cases rv
    cases y with
    | str j =>
      cases ru
      have h : Fin K E w (if i.length + j.length ≤ 100000 then some (.ok (D.str (i ++ j)), S) else none) _ := h
      by_cases hl : i.length + j.length ≤ 100000
      · rw [if_pos hl] at h
        exact .inr (.inr (.inl ⟨i, j, rfl, rfl, sz_of hl, Fin.ok h hs _ (.str _)⟩))
      · rw [if_neg hl] at h
        exact h.elim
    | _ => exact h.elim
  | tup a =>
    cases y with
    | tup b =>
      have h : Fin K E w (if a.length + b.length ≤ 100000 then some (.ok (D.tup (a ++ b)), S) else none) _ := h
      by_cases hl : a.length + b.length ≤ 100000
      · rw [if_pos hl] at h
        obtain ⟨p, xs, rfl, hp, rx⟩ := tup_go hs rv
        obtain ⟨q, ys, rfl, hq, ry⟩ := tup_go hs ru
        refine .inr (.inr (.inr (.inl ⟨p, q, xs, ys, rfl, rfl, hp, hq, sz_of (by rw [rx.length, ry.length]; exact hl), fun e => ?_, fun _ e => ?_, fun _ _ l hl' => ?_⟩)))
        · subst e
          cases rx
          exact Fin.ok h hs _ ru
        · subst e
          cases ry
          have h := Fin.ok h hs
          rw [List.append_nil] at h
          exact h _ rv
        · exact h _ _ (hs.le_lay hl') (hs.lay (o := .tup (xs ++ ys)) hl') _ (.tup (.of (by show upd w.G l _ l = _; rw [upd_same])) ((rx.append ry).mono (hs.le_lay hl')))
      · rw [if_neg hl] at h
        exact h.elim
    | _ => exact h.elim
  | _ => exact lst h
theorem me_add {X : Cx} {E : EK} {a b : Expr} {ma mb : Env → M D} {pos : Pos} (ha : PE X a (tM X.K E ma)) (hb : PE X b (tM X.K E mb)) : PE X (.BinOp a .Add b pos) (tM X.K E (b2 addM ma mb)) := me_op op_addU addM_ok ha hb

/-! ### ints -/
def int2 (C : Int → Int → Prop) [DecidableRel C] (g : Int → Int → D) (x y : D) : M D := match x, y with
  | .int i, .int j => if C i j then M.pure (g i j) else bad
  | _, _ => bad
theorem int2_ok {K : PySem.W.Frag} {C : Int → Int → Prop} [DecidableRel C] {g : Int → Int → D} {gv : Int → Int → V} (hg : ∀ w i j, Rv K w (gv i j) (g i j)) : OpM K (rI C gv) (int2 C g) := by
  intro E w S H v u x y Q hs rv ru h
  cases x with
  | int i =>
    cases rv
    cases y with
    | int j =>
      cases ru
      have h : Fin K E w ((if C i j then M.pure (g i j) else bad) S) _ := h
      by_cases hc : C i j
      · rw [if_pos hc] at h
        exact ⟨i, j, rfl, rfl, hc, Fin.ok h hs _ (hg w i j)⟩
      · rw [if_neg hc] at h
        exact h.elim
    | _ => exact h.elim
  | _ => exact h.elim
def int20 (g : Int → Int → D) (x y : D) : M D := match x, y with
  | .int i, .int j => M.pure (g i j)
  | _, _ => bad
theorem int20_ok {K : PySem.W.Frag} {g : Int → Int → D} {gv : Int → Int → V} (hg : ∀ w i j, Rv K w (gv i j) (g i j)) : OpM K (rI0 gv) (int20 g) := by
  intro E w S H v u x y Q hs rv ru h
  cases x with
  | int i =>
    cases rv
    cases y with
    | int j =>
      cases ru
      exact ⟨i, j, rfl, rfl, Fin.ok h hs _ (hg w i j)⟩
    | _ => exact h.elim
  | _ => exact h.elim
instance : DecidableRel CMul := fun i j => by unfold CMul; infer_instance
instance : DecidableRel CDiv := fun i j => by unfold CDiv; infer_instance
instance : DecidableRel CPow := fun i j => by unfold CPow; infer_instance
abbrev subM := int20 fun i j => .int (i - j)
abbrev mulM := int2 CMul fun i j => .int (i * j)
abbrev fdivM := int2 CDiv fun i j => .int (i / j)
abbrev modM := int2 (fun _ j => 0 < j) fun i j => .int (i % j)
abbrev powM := int2 CPow fun i j => .int (i ^ j.toNat)
abbrev ltM := int20 fun i j => .bl (decide (i < j))
abbrev leM := int20 fun i j => .bl (decide (i ≤ j))
abbrev gtM := int20 fun i j => .bl (decide (j < i))
abbrev geM := int20 fun i j => .bl (decide (j ≤ i))
section
variable {X : Cx} {E : EK} {a b c : Expr} {ma mb mc : Env → M D} {pos : Pos}
theorem me_sub (ha : PE X a (tM X.K E ma)) (hb : PE X b (tM X.K E mb)) : PE X (.BinOp a .Sub b pos) (tM X.K E (b2 subM ma mb)) := me_op op_sub (int20_ok fun _ _ _ => .int _) ha hb
theorem me_mul (ha : PE X a (tM X.K E ma)) (hb : PE X b (tM X.K E mb)) : PE X (.BinOp a .Mult b pos) (tM X.K E (b2 mulM ma mb)) := me_op op_mul (int2_ok fun _ _ _ => .int _) ha hb
theorem me_fdiv (ha : PE X a (tM X.K E ma)) (hb : PE X b (tM X.K E mb)) : PE X (.BinOp a .FloorDiv b pos) (tM X.K E (b2 fdivM ma mb)) := me_op op_fdiv (int2_ok fun _ _ _ => .int _) ha hb
theorem me_mod (ha : PE X a (tM X.K E ma)) (hb : PE X b (tM X.K E mb)) : PE X (.BinOp a .Mod b pos) (tM X.K E (b2 modM ma mb)) := me_op op_mod (int2_ok fun _ _ _ => .int _) ha hb
theorem me_pow (ha : PE X a (tM X.K E ma)) (hb : PE X b (tM X.K E mb)) : PE X (.BinOp a .Pow b pos) (tM X.K E (b2 powM ma mb)) := me_op op_pow (int2_ok fun _ _ _ => .int _) ha hb
theorem ltM_ok {K : PySem.W.Frag} : OpM K (rI0 fun i j => .bl (decide (i < j))) ltM := int20_ok fun _ _ _ => .bl _
theorem leM_ok {K : PySem.W.Frag} : OpM K (rI0 fun i j => .bl (decide (i ≤ j))) leM := int20_ok fun _ _ _ => .bl _
theorem gtM_ok {K : PySem.W.Frag} : OpM K (rI0 fun i j => .bl (decide (j < i))) gtM := int20_ok fun _ _ _ => .bl _
theorem geM_ok {K : PySem.W.Frag} : OpM K (rI0 fun i j => .bl (decide (j ≤ i))) geM := int20_ok fun _ _ _ => .bl _
def negM : D → M D
  | .int i => M.pure (.int (-i))
  | _ => bad
theorem me_neg (ha : PE X a (tM X.K E ma)) : PE X (.UnaryOp .USub a pos) (tM X.K E (b1 negM ma)) := me_un un_neg (fun E w S H v x Q hs rv h => by
  cases x with
  | int i => cases rv; exact ⟨i, rfl, Fin.ok h hs _ (.int _)⟩
  | _ => exact h.elim) ha
end
end Mi
namespace Mi
open PySem PySem.Spec L2

/-! ### data -/
def deS (S : Sto) : D → D
  | .ref n => match S[n]? with
    | some (.lst ds) => .lst ds
    | none => .ref n
  | d => d
mutual
def toPy : D → Option PyData
  | .non => some .none
  | .bl b => some (.bool b)
  | .int i => some (.int i)
  | .str x => some (.str x)
  | .tup ds => (toPyL ds).map .tuple
  | .lst ds => (toPyL ds).map .list
  | .lsr _ => none
  | .dct kvs => (toPyK kvs).map .dict
  | .ref _ => none
def toPyL : List D → Option (List PyData)
  | [] => some []
  | d :: ds => (toPy d).bind fun p => (toPyL ds).map fun ps => p :: ps
def toPyK : List (D × D) → Option (List (PyData × PyData))
  | [] => some []
  | (k, d) :: ds => (toPy k).bind fun q => (toPy d).bind fun p => (toPyK ds).map fun ps => (q, p) :: ps
end
/-- what its repr asks: dicts of plain things -/
def plainP : PyData → Bool
  | .none => true
  | .bool _ => true
  | .int _ => true
  | .str _ => true
  | _ => false
section
variable {X : Cx} {pins : List (Addr × Obj)} {σ : L2.St} {H : Hp} {s : Shared} {w : Wd} {S : Sto}
/-- a cell read as it stands -/
inductive Rd2 (K : PySem.W.Frag) (w : Wd) (H : Hp) : V → D → Prop
  | of {v : V} {d : D} (h : Rv K w v d) : Rd2 K w H v d
  | cell {a : Addr} {xs : List V} {ds : List D} (h : H a = some (.lst xs)) (r : RvL K w xs ds) : Rd2 K w H (.ref a) (.lst ds)
theorem deS_go {K : PySem.W.Frag} {v : V} {d : D} (hs : Rs K w S H) (rv : Rv K w v d) : Rd2 K w H v (deS S d) := by
  cases rv with
  | ref hA =>
    rename_i a n
    rcases hc : S[n]? with _ | ⟨ds⟩
    · simp only [deS, hc]
      exact .of (.ref hA)
    · simp only [deS, hc]
      obtain ⟨xs, h1, h2⟩ := hs.cell n a _ hA hc
      exact .cell h1 h2
  | non => exact .of .non
  | bl b => exact .of (.bl b)
  | int i => exact .of (.int i)
  | str x => exact .of (.str x)
  | tup h r => exact .of (.tup h r)
  | lst h r => exact .of (.lst h r)
  | lsr h r => exact .of (.lsr h r)
  | dct h r => exact .of (.dct h r)
theorem mapO {α β : Type} {f : α → β} {o : Option α} {b : β} (h : o.map f = some b) : ∃ a, o = some a ∧ f a = b := Option.map_eq_some_iff.mp h
theorem bindO {α β : Type} {f : α → Option β} {o : Option α} {b : β} (h : o.bind f = some b) : ∃ a, o = some a ∧ f a = some b := Option.bind_eq_some_iff.mp h
mutual
theorem dp_of {K : PySem.W.Frag} (hs : Rs K w S H) : ∀ {d : D} {v : V} {p : PyData}, Rv K w v d → toPy d = some p → p.canLay0 = true → Dp K H v p
  | _, _, _, .non, h, _ => by cases h; exact .non
  | _, _, _, .bl b, h, _ => by cases h; exact .bl b
  | _, _, _, .int i, h, _ => by cases h; exact .int i
  | _, _, _, .str x, h, _ => by cases h; exact .str x
  | _, _, _, .tup hG r, h, c => by
    simp only [toPy] at h
    obtain ⟨ps, h1, rfl⟩ := mapO h
    exact .tup (sqT_up hG (Le.refl w) hs) (dp_ofL hs r h1 (by simpa [PyData.canLay0] using c))
  | _, _, _, .lst hG r, h, c => by
    simp only [toPy] at h
    obtain ⟨ps, h1, rfl⟩ := mapO h
    exact .lst (.of (hs.g _ _ hG)) (dp_ofL hs r h1 (by simpa [PyData.canLay0] using c))
  | _, _, _, .lsr _ _, h, _ => by simp only [toPy] at h; cases h
  | _, _, _, .dct hG r, h, c => by
    simp only [toPy] at h
    obtain ⟨ps, h1, rfl⟩ := mapO h
    simp [PyData.canLay0] at c
  | _, _, _, .ref _, h, _ => by simp only [toPy] at h; cases h
theorem dp_ofL {K : PySem.W.Frag} (hs : Rs K w S H) : ∀ {d : List D} {v : List V} {p : List PyData}, RvL K w v d → toPyL d = some p → PyData.canLayAll0 p = true → DpAll K H v p
  | _, _, _, .nil, h, _ => by cases h; exact .nil
  | _, _, _, .cons h1 r, h, c => by
    simp only [toPyL] at h
    obtain ⟨p, e1, h⟩ := bindO h
    obtain ⟨ps, e2, rfl⟩ := mapO h
    have c' : p.canLay0 = true ∧ PyData.canLayAll0 ps = true := by simpa [PyData.canLayAll0] using c
    exact .cons (dp_of hs h1 e1 c'.1) (dp_ofL hs r e2 c'.2)
end
theorem dp_of2 {K : PySem.W.Frag} {d : D} {v : V} {p : PyData} (hs : Rs K w S H) (rv : Rd2 K w H v d) (h : toPy d = some p) (c : p.canLay0 = true) : Dp K H v p := by
  cases rv with
  | of r => exact dp_of hs r h c
  | cell hH r =>
    simp only [toPy] at h
    obtain ⟨ps, h1, rfl⟩ := mapO h
    exact .lst (.of hH) (dp_ofL hs r h1 (by simpa [PyData.canLay0] using c))
end
def lenDiff (S : Sto) (x y : D) : Bool := match asC S x, asC S y with
  | some a, some b => a.length != b.length
  | _, _ => false
def eqB (neg : Bool) (x y : D) : M D := fun S => if lenDiff S x y = true then some (.ok (.bl neg), S) else match toPy (deS S x), toPy (deS S y) with
  | some p, some q => if SeqAt.shaped p = true ∧ SeqAt.shaped q = true then some (.ok (.bl (if neg then !PyData.eqv p q else PyData.eqv p q)), S) else none
  | _, _ => none
abbrev eqM := eqB false
abbrev neM := eqB true
theorem shaped_lay {p : PyData} (h : SeqAt.shaped p = true) : p.canLay0 = true := by
  unfold SeqAt.shaped at h
  simp only [Bool.and_eq_true] at h
  exact h.1
def rLenD (neg : Bool) : R2 := fun x y H Q => ∃ a b xs ys, x = .ref a ∧ y = .ref b ∧ H a = some (.lst xs) ∧ H b = some (.lst ys) ∧ xs.length ≠ ys.length ∧ Q (.bl neg) H
theorem op_eqLen {X : Cx} (hu : X.A.units < cLine) : OpR X (compareOp .Eq) (rLenD false) := fun pins s σ H x y v u Q I rx ry ⟨a, b, xs, ys, e1, e2, h1, h2, hl, q⟩ => by
  subst e1 e2
  cases rx
  cases ry
  obtain ⟨its, r1, p1, _⟩ := I.list (.of h1)
  obtain ⟨its2, r2, p2, _⟩ := I.list (.of h2)
  have l1 := r1.length
  have l2 := r2.length
  exact SeqAt.RcAt.lists_lengths p1.isList p2.isList (by simp; omega) hu _ _ _ _ ⟨.bl false, H, I, rfl, q⟩
theorem op_neLen {X : Cx} (hu : X.A.units < cLine) : OpR X (compareOp .NotEq) (rLenD true) := fun pins s σ H x y v u Q I rx ry ⟨a, b, xs, ys, e1, e2, h1, h2, hl, q⟩ => by
  subst e1 e2
  cases rx
  cases ry
  obtain ⟨its, r1, p1, _⟩ := I.list (.of h1)
  obtain ⟨its2, r2, p2, _⟩ := I.list (.of h2)
  have l1 := r1.length
  have l2 := r2.length
  exact SeqAt.RcNeAt.lists_lengths p1.isList p2.isList (by simp; omega) hu _ _ _ _ ⟨.bl true, H, I, rfl, q⟩
def rEqU (K : PySem.W.Frag) : R2 := fun x y H Q => rLenD false x y H Q ∨ rEqD K x y H Q
def rNeU (K : PySem.W.Frag) : R2 := fun x y H Q => rLenD true x y H Q ∨ rNeD K x y H Q
theorem op_eqU {X : Cx} (hu : X.A.units + 64 < cLine) : OpR X (compareOp .Eq) (rEqU X.K) := OpR.or (op_eqLen (by omega)) (op_eqD hu)
theorem op_neU {X : Cx} (hu : X.A.units + 64 < cLine) : OpR X (compareOp .NotEq) (rNeU X.K) := OpR.or (op_neLen (by omega)) (op_neD hu)
theorem eqB_get {K : PySem.W.Frag} {E : EK} {w : Wd} {S : Sto} {H : Hp} {neg : Bool} {v u : V} {x y : D} {Q : VK} (hs : Rs K w S H) (rv : Rv K w v x) (ru : Rv K w u y) (h : Fin K E w (eqB neg x y S) fun w' _ H' d => ∀ z, Rv K w' z d → Q z H') :
    rLenD neg v u H Q ∨ ∃ p q, Dp K H v p ∧ Dp K H u q ∧ SeqAt.shaped p = true ∧ SeqAt.shaped q = true ∧ Q (.bl (if neg then !PyData.eqv p q else PyData.eqv p q)) H := by
  unfold eqB at h
  by_cases hd : lenDiff S x y = true
  · rw [if_pos hd] at h
    unfold lenDiff at hd
    rcases h1 : asC S x with _ | a
    · rw [h1] at hd; cases hd
    · rcases h2 : asC S y with _ | b
      · rw [h1, h2] at hd; cases hd
      · rw [h1, h2] at hd
        obtain ⟨p, xs, rfl, hp, rx⟩ := asC_go hs rv h1
        obtain ⟨q, ys, rfl, hq, ry⟩ := asC_go hs ru h2
        have hd : (a.length != b.length) = true := hd
        exact .inl ⟨p, q, xs, ys, rfl, rfl, hp, hq, by rw [rx.length, ry.length]; simpa using hd, Fin.ok h hs _ (.bl _)⟩
  · rw [if_neg hd] at h
    rcases h1 : toPy (deS S x) with _ | p
    · simp only [h1] at h; exact h.elim
    · rcases h2 : toPy (deS S y) with _ | q
      · simp only [h1, h2] at h; exact h.elim
      · simp only [h1, h2] at h
        by_cases hc : SeqAt.shaped p = true ∧ SeqAt.shaped q = true
        · rw [if_pos hc] at h
          exact .inr ⟨p, q, dp_of2 hs (deS_go hs rv) h1 (shaped_lay hc.1), dp_of2 hs (deS_go hs ru) h2 (shaped_lay hc.2), hc.1, hc.2, Fin.ok h hs _ (.bl _)⟩
        · rw [if_neg hc] at h
          exact h.elim
theorem eqM_ok {K : PySem.W.Frag} : OpM K (rEqU K) eqM := fun E w S H v u x y Q hs rv ru h => by
  rcases eqB_get hs rv ru h with h | ⟨p, q, h1, h2, h3, h4, h5⟩
  · exact .inl h
  · exact .inr ⟨p, q, h1, h2, h3, h4, h5⟩
theorem neM_ok {K : PySem.W.Frag} : OpM K (rNeU K) neM := fun E w S H v u x y Q hs rv ru h => by
  rcases eqB_get hs rv ru h with h | ⟨p, q, h1, h2, h3, h4, h5⟩
  · exact .inl h
  · exact .inr ⟨p, q, h1, h2, h3, h4, h5⟩
/-! ### is None -/
def isNon : D → Bool
  | .non => true
  | _ => false
def isN : D → D → M D
  | x, .non => M.pure (.bl (isNon x))
  | _, _ => bad
def notN : D → D → M D
  | x, .non => M.pure (.bl (!isNon x))
  | _, _ => bad
theorem non_iff {K : PySem.W.Frag} {w : Wd} {v : V} {x : D} (rv : Rv K w v x) : decide (v = .non) = isNon x := by
  cases rv <;> simp [isNon]
theorem isN_ok {K : PySem.W.Frag} : OpM K (fun x y H Q => y = .non ∧ Q (.bl (decide (x = .non))) H) isN := fun E w S H v u x y Q hs rv ru h => by
  cases ru with
  | non => exact ⟨rfl, by rw [non_iff rv]; exact Fin.ok h hs _ (.bl _)⟩
  | _ => cases rv <;> exact h.elim
theorem notN_ok {K : PySem.W.Frag} : OpM K (fun x y H Q => y = .non ∧ Q (.bl (!decide (x = .non))) H) notN := fun E w S H v u x y Q hs rv ru h => by
  cases ru with
  | non => exact ⟨rfl, by rw [non_iff rv]; exact Fin.ok h hs _ (.bl _)⟩
  | _ => cases rv <;> exact h.elim

/-! ### in -/
/-- flat things alone -/
def flatD : D → Option V
  | .non => some .non
  | .bl b => some (.bl b)
  | .int i => some (.int i)
  | .str x => some (.str x)
  | _ => none
def flatL : List D → Option (List V)
  | [] => some []
  | d :: ds => (flatD d).bind fun v => (flatL ds).map fun vs => v :: vs
def asQ (S : Sto) : D → Option (List D)
  | .tup ds => some ds
  | d => asR S d
def inB (neg : Bool) (x y : D) : M D := fun S => match x, y with
  | .str z, .str y => match z.cps.toList with
    | [c] => some (.ok (.bl (if neg then !decide (c ∈ y.cps.toList) else decide (c ∈ y.cps.toList))), S)
    | _ => none
  | x, y => match flatD x, asQ S y with
    | some u, some ds => match flatL ds with
      | some vs => if flatV u = true ∧ vs.all flatV = true then some (.ok (.bl (if neg then !inV u vs else inV u vs)), S) else none
      | none => none
    | _, _ => none
abbrev inM := inB false
abbrev ninM := inB true
theorem flat_go {K : PySem.W.Frag} {w : Wd} {v u : V} {d : D} (rv : Rv K w v d) (h : flatD d = some u) : v = u := by
  cases rv <;> (try cases h) <;> rfl
theorem flatL_go {K : PySem.W.Frag} {w : Wd} : ∀ {vs us : List V} {ds : List D}, RvL K w vs ds → flatL ds = some us → vs = us
  | _, _, _, .nil, h => by cases h; rfl
  | _, _, _, .cons r rr, h => by
    simp only [flatL] at h
    obtain ⟨u, e1, h⟩ := bindO h
    obtain ⟨us, e2, rfl⟩ := mapO h
    rw [flat_go r e1, flatL_go rr e2]
theorem asQ_go {K : PySem.W.Frag} {w : Wd} {S : Sto} {H : Hp} {v : V} {d : D} {ds : List D} (hs : Rs K w S H) (rv : Rv K w v d) (h : asQ S d = some ds) : ∃ a xs, v = .ref a ∧ (SqL K H a xs ∨ SqT K H a xs) ∧ RvL K w xs ds := by
  cases rv with
  | tup hG r =>
    cases h
    exact ⟨_, _, rfl, .inr (sqT_up hG (Le.refl w) hs), r⟩
  | lsr hG r => obtain ⟨a, xs, e, h1, h2⟩ := asR_go hs (.lsr hG r) h; exact ⟨a, xs, e, .inl h1, h2⟩
  | lst hG r => obtain ⟨a, xs, e, h1, h2⟩ := asR_go hs (.lst hG r) h; exact ⟨a, xs, e, .inl h1, h2⟩
  | ref hA => obtain ⟨a, xs, e, h1, h2⟩ := asR_go hs (.ref hA) h; exact ⟨a, xs, e, .inl h1, h2⟩
  | _ => cases h
def rInSg (neg : Bool) : R2 := fun x y H Q => ∃ (c : Nat) (z : Str), x = .str ⟨#[c]⟩ ∧ y = .str z ∧ Q (.bl (if neg then !decide (c ∈ z.cps.toList) else decide (c ∈ z.cps.toList))) H
def rInU (K : PySem.W.Frag) (neg : Bool) : R2 := fun x y H Q => rInSg neg x y H Q ∨ rIn K neg x y H Q
theorem inB_ok {K : PySem.W.Frag} {neg : Bool} : OpM K (rInU K neg) (inB neg) := fun E w S H v u x y Q hs rv ru h => by
  have seq : ∀ (h' : Fin K E w (match flatD x, asQ S y with
    | some u, some ds => match flatL ds with
      | some vs => if flatV u = true ∧ vs.all flatV = true then some (.ok (.bl (if neg then !inV u vs else inV u vs)), S) else none
      | none => none
    | _, _ => none) (fun w' _ H' d => ∀ z, Rv K w' z d → Q z H')), rInU K neg v u H Q := fun h' => by
    rcases h1 : flatD x with _ | f
    · simp only [h1] at h'; exact h'.elim
    · rcases h2 : asQ S y with _ | ds
      · simp only [h1, h2] at h'; exact h'.elim
      · rcases h3 : flatL ds with _ | vs
        · simp only [h1, h2, h3] at h'; exact h'.elim
        · simp only [h1, h2, h3] at h'
          by_cases hc : flatV f = true ∧ vs.all flatV = true
          · rw [if_pos hc] at h'
            obtain ⟨a, xs, rfl, hq, rx⟩ := asQ_go hs ru h2
            have e1 := flat_go rv h1
            have e2 := flatL_go rx h3
            subst e1 e2
            exact .inr ⟨a, xs, rfl, hq, hc.1, hc.2, Fin.ok h' hs _ (.bl _)⟩
          · rw [if_neg hc] at h'
            exact h'.elim
  cases x with
  | str z =>
    cases y with
    | str y =>
      cases rv
      cases ru
      rcases hz : z.cps.toList with _ | ⟨c, _ | ⟨c2, r⟩⟩
      · simp only [inB, hz] at h; exact h.elim
      · simp only [inB, hz] at h
        refine .inl ⟨c, y, ?_, rfl, Fin.ok h hs _ (.bl _)⟩
        have e : z.cps = #[c] := by rw [← Array.toList_inj, hz]
        show V.str z = V.str ⟨#[c]⟩
        rw [← e]
      · simp only [inB, hz] at h; exact h.elim
    | _ => exact seq h
  | _ => exact seq h
theorem op_inU {X : Cx} : OpR X (compareOp .In) (rInU X.K false) := OpR.or (fun pins s σ H x y v u Q I rx ry ⟨c, z, e1, e2, q⟩ => op_in_sign pins s σ H x y v u Q I rx ry ⟨c, z, e1, e2, q⟩) op_in_seq
end Mi
namespace Mi
open PySem PySem.Spec L2
theorem op_ninU {X : Cx} : OpR X (compareOp .NotIn) (rInU X.K true) := OpR.or (fun pins s σ H x y v u Q I rx ry ⟨c, z, e1, e2, q⟩ => op_notIn_sign pins s σ H x y v u Q I rx ry ⟨c, z, e1, e2, q⟩) op_notIn_seq
/-! ### an item, a slice -/
def ixM (x y : D) : M D := fun S => match y with
  | .int i => match x with
    | .str z => match atI z.cps.toList i with
      | some c => if z.length ≤ 100000 then some (.ok (sgn c), S) else none
      | none => none
    | x => match asQ S x with
      | some ds => match atI ds i with
        | some d => some (.ok d, S)
        | none => none
      | none => none
  | _ => none
theorem at_rel {K : PySem.W.Frag} {w : Wd} {xs : List V} {ds : List D} {i : Int} {d : D} (r : RvL K w xs ds) (h : atI ds i = some d) : ∃ v, atI xs i = some v ∧ Rv K w v d := by
  unfold L2.atI at h ⊢
  rw [r.length]
  rcases hj : ixN ds.length i with _ | j
  · rw [hj] at h; cases h
  · rw [hj] at h
    exact r.get h
theorem ixM_ok {K : PySem.W.Frag} : OpM K (rIx K) ixM := fun E w S H v u x y Q hs rv ru h => by
  cases y with
  | int i =>
    cases ru
    have seq : ∀ (h' : Fin K E w (match asQ S x with
      | some ds => match atI ds i with
        | some d => some (.ok d, S)
        | none => none
      | none => none) (fun w' _ H' d => ∀ z, Rv K w' z d → Q z H')), rIx K v (.int i) H Q := fun h' => by
      rcases h1 : asQ S x with _ | ds
      · simp only [h1] at h'; exact h'.elim
      · rcases h2 : atI ds i with _ | d
        · simp only [h1, h2] at h'; exact h'.elim
        · simp only [h1, h2] at h'
          obtain ⟨a, xs, rfl, hq, rx⟩ := asQ_go hs rv h1
          obtain ⟨z, e1, e2⟩ := at_rel rx h2
          have q := Fin.ok h' hs z e2
          rcases hq with hq | hq
          · exact .inl ⟨a, xs, i, z, rfl, rfl, hq, e1, q⟩
          · exact .inr (.inl ⟨a, xs, i, z, rfl, rfl, hq, e1, q⟩)
    cases x with
    | str z =>
      cases rv
      rcases hz : atI z.cps.toList i with _ | c
      · simp only [ixM, hz] at h; exact h.elim
      · simp only [ixM, hz] at h
        by_cases hl : z.length ≤ 100000
        · rw [if_pos hl] at h
          exact .inr (.inr ⟨z, i, c, rfl, rfl, sz_of hl, hz, Fin.ok h hs _ (.str _)⟩)
        · rw [if_neg hl] at h
          exact h.elim
    | _ => exact seq h
  | _ => exact h.elim
def cutD (xs : List D) (lo hi : Option Int) : List D := (xs.drop (HT.sIx xs.length 0 lo)).take (HT.sIx xs.length xs.length hi - HT.sIx xs.length 0 lo)
theorem cut_rel {K : PySem.W.Frag} {w : Wd} {xs : List V} {ds : List D} {lo hi : Option Int} (r : RvL K w xs ds) : RvL K w (cutV xs lo hi) (cutD ds lo hi) := by
  unfold L2.cutV cutD
  rw [r.length]
  exact (r.drop _).take _
def slcM (lo hi : Option Int) (x : D) : M D := fun S => match x with
  | .str z => if z.length ≤ 100000 then some (.ok (.str (cutS z lo hi)), S) else none
  | .tup ds => some (.ok (.tup (cutD ds lo hi)), S)
  | x => match asR S x with
    | some ds => some (.ok (.lst (cutD ds lo hi)), S)
    | none => none
def optI : Option D → M (Option Int)
  | none => M.pure none
  | some (.int i) => M.pure (some i)
  | _ => bad
def parts (m : Option (Env → M D)) : Env → M (Option Int) := match m with
  | none => fun _ => M.pure none
  | some m => fun ρ => M.bind (m ρ) fun d => optI (some d)
def slc (m : Env → M D) (lo hi : Option (Env → M D)) : Env → M D := fun ρ => M.bind (m ρ) fun x => M.bind (parts lo ρ) fun a => M.bind (parts hi ρ) fun b => slcM a b x
def rSlU (K : PySem.W.Frag) : V → Option Int → Option Int → Hp → VK → Prop := fun x lo hi H Q => rSlL K x lo hi H Q ∨ rSlA K x lo hi H Q ∨ rSlS x lo hi H Q
theorem slcM_ok {K : PySem.W.Frag} {E : EK} {w : Wd} {S : Sto} {H : Hp} {v : V} {x : D} {lo hi : Option Int} {Q : VK} (hs : Rs K w S H) (rv : Rv K w v x) (h : Fin K E w (slcM lo hi x S) fun w' _ H' d => ∀ z, Rv K w' z d → Q z H') : rSlU K v lo hi H Q := by
  have seq : ∀ (h' : Fin K E w (match asR S x with
    | some ds => some (.ok (D.lst (cutD ds lo hi)), S)
    | none => none) (fun w' _ H' d => ∀ z, Rv K w' z d → Q z H')), rSlU K v lo hi H Q := fun h' => by
    rcases h1 : asR S x with _ | ds
    · simp only [h1] at h'; exact h'.elim
    · simp only [h1] at h'
      obtain ⟨a, xs, rfl, hq, rx⟩ := asR_go hs rv h1
      refine .inl ⟨a, xs, rfl, hq, fun p hp => ?_⟩
      exact h' _ _ (hs.le_lay hp) (hs.lay (o := .lst (cutV xs lo hi)) hp) _ (.lst (by show upd w.G p _ p = _; rw [upd_same]) ((cut_rel rx).mono (hs.le_lay hp)))
  cases x with
  | str z =>
    cases rv
    have h : Fin K E w (if z.length ≤ 100000 then some (.ok (D.str (cutS z lo hi)), S) else none) _ := h
    by_cases hl : z.length ≤ 100000
    · rw [if_pos hl] at h
      exact .inr (.inr ⟨z, rfl, sz_of hl, Fin.ok h hs _ (.str _)⟩)
    · rw [if_neg hl] at h
      exact h.elim
  | tup ds =>
    obtain ⟨a, xs, rfl, hq, rx⟩ := tup_go hs rv
    have h : Fin K E w (some (.ok (D.tup (cutD ds lo hi)), S)) _ := h
    refine .inr (.inl ⟨a, xs, rfl, hq, fun ⟨e1, e2⟩ => ?_, fun _ p hp => ?_⟩)
    · rw [rx.length] at e1 e2
      have e : cutD ds lo hi = ds := by
        unfold cutD
        rw [e1, e2]
        simp
      rw [e] at h
      exact Fin.ok h hs _ rv
    · exact h _ _ (hs.le_lay hp) (hs.lay (o := .tup (cutV xs lo hi)) hp) _ (.tup (.of (by show upd w.G p _ p = _; rw [upd_same])) ((cut_rel rx).mono (hs.le_lay hp)))
  | _ => exact seq h
section
variable {X : Cx} {E : EK} {a b e : Expr} {ma mb m : Env → M D} {pos p2 : Pos} {lo hi : Option Expr} {ml mh : Option (Env → M D)}
theorem me_item (ha : PE X a (tM X.K E ma)) (hb : PE X b (tM X.K E mb)) (hs : PlainIx b) : PE X (.Subscript a b pos) (tM X.K E (b2 ixM ma mb)) := me_ix ix_seq ixM_ok ha hb hs
def tMo (K : PySem.W.Frag) (E : EK) (m : Env → M (Option Int)) : TO := fun σ H Q => ∃ w S ρ, Rs K w S H ∧ Rn K w σ ρ ∧ Fin K E w (m ρ S) fun _ _ H' o => Q o H'
theorem mo_none : PO X none (tMo X.K E (parts none)) := ⟨fun pins s σ H Q I ⟨w, S, ρ, hs, hn, h⟩ => po_none.run pins s σ H Q I (Fin.ok h hs)⟩
theorem mo_some (h : PE X e (tM X.K E m)) : PO X (some e) (tMo X.K E (parts (some m))) := ⟨fun pins s σ H Q I ⟨w, S, ρ, hs, hn, q⟩ => (po_some h).run pins s σ H Q I ⟨w, S, ρ, hs, hn, q.bind.imp fun w1 S1 H1 d l1 s1 q v rv => by
  cases d with
  | int i => cases rv; exact ⟨i, rfl, Fin.ok q s1⟩
  | _ => exact q.elim⟩⟩
theorem me_slice (he : PE X e (tM X.K E m)) (hl : PO X lo (tMo X.K E (parts ml))) (hh : PO X hi (tMo X.K E (parts mh))) : PE X (.Subscript e (.Slice lo hi none p2) pos) (tM X.K E (slc m ml mh)) :=
  pe_imp (pe_slice (sl_list.or (sl_tupA.or sl_str)) he hl hh) fun σ H Q ⟨w, S, ρ, hs, hn, h⟩ => ⟨w, S, ρ, hs, hn, h.bind.imp fun w1 S1 H1 x l1 s1 q v rv =>
    ⟨w1, S1, ρ, s1, hn.mono l1, q.bind.imp fun w2 S2 H2 o l2 s2 q => ⟨w2, S2, ρ, s2, hn.mono (l1.trans l2), q.bind.imp fun w3 S3 H3 o2 l3 s3 q => slcM_ok s3 (rv.mono (l2.trans l3)) q⟩⟩⟩
def revM (x : D) : M D := fun S => match asR S x with
  | some ds => some (.ok (.lst ds.reverse), S)
  | none => none
theorem me_rev {k : Nat} {p1 p3 : Pos} (he : PE X e (tM X.K E m)) : PE X (.Subscript e (.Slice none none (some (.UnaryOp .USub (.Constant (.int 1) k p1) p2)) p3) pos) (tM X.K E (b1 revM m)) :=
  pe_imp (pe_revL he) fun σ H Q ⟨w, S, ρ, hs, hn, h⟩ => ⟨w, S, ρ, hs, hn, h.bind.imp fun w1 S1 H1 x l1 s1 q v rv => by
    rcases h1 : asR S1 x with _ | ds
    · simp only [revM, h1] at q; exact q.elim
    · simp only [revM, h1] at q
      obtain ⟨a, xs, rfl, hq, rx⟩ := asR_go s1 rv h1
      exact ⟨a, xs, rfl, hq, fun p hp => q _ _ (s1.le_lay hp) (s1.lay (o := .lst xs.reverse) hp) _ (.lst (by show upd w1.G p _ p = _; rw [upd_same]) (rx.reverse.mono (s1.le_lay hp)))⟩⟩
/-! ### xs[i] = v -/
def putM (o : D) (i : D) (v : D) (ρ : Env) : M Env := fun S => match o, i with
  | .ref n, .int k => match S[n]? with
    | some (.lst ds) => match ixN ds.length k with
      | some j => some (.ok ρ, S.set n (.lst (ds.set j v)))
      | none => none
    | none => none
  | _, _ => none
def gPut (mo mi : Env → M D) : D → Env → M Env := fun v ρ => M.bind (mo ρ) fun o => M.bind (mi ρ) fun i => putM o i v ρ
theorem mg_sub {o i : Expr} {mo mi : Env → M D} (ho : PE X o (tM X.K E mo)) (hi : PE X i (tM X.K E mi))
    (ha : ∀ v, assign (.Subscript o i pos) X.env v = (do
      let ov ← holding [v] (eval o X.env)
      let iv ← holding [v, ov] (eval i X.env)
      standAt pos
      holding [v, ov, iv] (setItem ov iv v)
      release [v, ov, iv] []) := by intro _; rfl) : PG X (.Subscript o i pos) (gM X.K E (gPut mo mi)) :=
  pg_imp (pg_sub ho hi set_list ha) fun v σ H Q ⟨w, S, ρ, d, hs, hn, rv, h⟩ => ⟨w, S, ρ, hs, hn, h.bind.imp fun w1 S1 H1 x l1 s1 q ov ro => ⟨w1, S1, ρ, s1, hn.mono l1, q.bind.imp fun w2 S2 H2 y l2 s2 q iv ri => by
    have ro2 := ro.mono l2
    cases x with
    | ref n =>
      cases y with
      | int k =>
        cases ri
        cases ro2 with
        | ref hA =>
          rcases hc : S2[n]? with _ | ⟨⟨ds⟩⟩
          · simp only [putM, hc] at q; exact q.elim
          · rcases hj : ixN ds.length k with _ | j
            · simp only [putM, hc, hj] at q; exact q.elim
            · simp only [putM, hc, hj] at q
              obtain ⟨xs, h1, h2⟩ := s2.cell n _ _ hA hc
              refine ⟨_, xs, k, j, rfl, rfl, h1, by rw [h2.length]; exact hj, ?_⟩
              exact q w2 _ (Le.refl w2) (s2.put hA ⟨_, upd_same, h2.set (rv.mono (l1.trans l2)) j⟩) σ (hn.mono (l1.trans l2))
      | _ => exact q.elim
    | _ => cases y <;> exact q.elim⟩⟩
/-! ### methods of lists and texts -/
def appM (o : D) (xs : List D) : M D := fun S => match o, xs with
  | .ref n, [d] => match S[n]? with
    | some (.lst ds) => if ds.length < 100000 then some (.ok .non, S.set n (.lst (ds ++ [d]))) else none
    | none => none
  | _, _ => none
def extM (o : D) (xs : List D) : M D := fun S => match o, xs with
  | .ref n, [d] => match S[n]?, asC S d with
    | some (.lst ds), some es => if ds.length + es.length ≤ 100000 then some (.ok .non, S.set n (.lst (ds ++ es))) else none
    | _, _ => none
  | _, _ => none
def strsOf : List D → Option (List Str)
  | [] => some []
  | .str x :: ds => (strsOf ds).map fun xs => x :: xs
  | _ => none
def joinM (o : D) (xs : List D) : M D := fun S => match o, xs with
  | .str a, [d] => match asQ S d with
    | some ds => match strsOf ds with
      | some ys => if (ys.map (·.length)).sum + ys.length * a.length ≤ 100000 then some (.ok (.str (Txt.join a ys)), S) else none
      | none => none
    | none => none
  | _, _ => none
def chkL (o : D) : M Unit := fun S => match o with
  | .ref n => match S[n]? with
    | some (.lst _) => some (.ok (), S)
    | none => none
  | _ => none
def chkS (o : D) : M Unit := fun S => match o with
  | .str _ => some (.ok (), S)
  | _ => none
def mth (c : D → M Unit) (f : D → List D → M D) (m : Env → M D) (ma : Env → M (List D)) : Env → M D := fun ρ => M.bind (m ρ) fun o => M.bind (c o) fun _ => M.bind (ma ρ) fun xs => f o xs
theorem strs_rel {K : PySem.W.Frag} {w : Wd} : ∀ {xs : List V} {ds : List D} {ys : List Str}, RvL K w xs ds → strsOf ds = some ys → xs = ys.map V.str
  | _, _, _, .nil, h => by cases h; rfl
  | _, _, _, .cons r rr, h => by
    cases r with
    | str x =>
      simp only [strsOf] at h
      obtain ⟨ys, h1, rfl⟩ := mapO h
      rw [strs_rel rr h1]
      rfl
    | _ => cases h
theorem ref_ty {K : PySem.W.Frag} {w : Wd} {S : Sto} {H : Hp} {v : V} {n : Nat} (hs : Rs K w S H) (rv : Rv K w v (.ref n)) (hc : ∃ ds, S[n]? = some (.lst ds)) : tyV K "list" v H := by
  obtain ⟨ds, hc⟩ := hc
  cases rv with
  | ref hA =>
    obtain ⟨xs, h1, h2⟩ := hs.cell n _ _ hA hc
    exact .inl ⟨rfl, xs, .of h1⟩
variable {o : Expr} {es : List Expr} {mo : Env → M D} {ma' : Env → M (List D)} {cpos apos : Pos}
theorem args1 {K : PySem.W.Frag} {w : Wd} {vs : List V} {d : D} (r : RvL K w vs [d]) : ∃ v, vs = [v] ∧ Rv K w v d := by
  cases r with
  | cons h r => cases r; exact ⟨_, rfl, h⟩
def ChkM (K : PySem.W.Frag) (T : String) (c : D → M Unit) : Prop := ∀ (E : EK) (w : Wd) (S : Sto) (H : Hp) (v : V) (x : D) (P : Wd → Sto → Hp → Unit → Prop), Rs K w S H → Rv K w v x → Fin K E w (c x S) P → tyV K T v H ∧ P w S H ()
theorem chkL_ok {K : PySem.W.Frag} : ChkM K "list" chkL := fun E w S H v x P hs rv h => by
  cases x with
  | ref n =>
    rcases hc : S[n]? with _ | ⟨⟨ds⟩⟩
    · simp only [chkL, hc] at h; exact h.elim
    · simp only [chkL, hc] at h
      exact ⟨ref_ty hs rv ⟨ds, hc⟩, Fin.ok h hs⟩
  | _ => exact h.elim
theorem chkS_ok {K : PySem.W.Frag} : ChkM K "str" chkS := fun E w S H v x P hs rv h => by
  cases x with
  | str z => cases rv; exact ⟨rfl, Fin.ok h hs⟩
  | _ => exact h.elim
/-- a method on values -/
def MeM (K : PySem.W.Frag) (r : V → List V → Hp → VK → Prop) (f : D → List D → M D) : Prop := ∀ (E : EK) (w : Wd) (S : Sto) (H : Hp) (v : V) (vs : List V) (x : D) (xs : List D) (Q : VK), Rs K w S H → Rv K w v x → RvL K w vs xs →
  Fin K E w (f x xs S) (fun w' _ H' d => ∀ z, Rv K w' z d → Q z H') → r v vs H Q
theorem mth_go {T : String} {c : D → M Unit} {r : V → List V → Hp → VK → Prop} {f : D → List D → M D} (hc : ChkM X.K T c) (hf : MeM X.K r f) {σ : L2.St} {H : Hp} {Q : VK} (h : tM X.K E (mth c f mo ma') σ H Q) : tBM X.K T r (tM X.K E mo) (tMa X.K E ma') σ H Q := by
  obtain ⟨w, S, ρ, hs, hn, h⟩ := h
  refine ⟨w, S, ρ, hs, hn, h.bind.imp fun w1 S1 H1 x l1 s1 q v rv => ?_⟩
  obtain ⟨ty, q⟩ := hc E w1 S1 H1 v x _ s1 rv q.bind
  exact ⟨ty, w1, S1, ρ, s1, hn.mono l1, q.bind.imp fun w2 S2 H2 xs l2 s2 q vs rvs => hf E w2 S2 H2 v vs x xs Q s2 (rv.mono l2) rvs q⟩
theorem appM_ok {K : PySem.W.Frag} : MeM K rAppend appM := fun E w S H v vs x xs Q hs rv rvs h => by
  cases x with
  | ref n =>
    rcases xs with _ | ⟨d, _ | ⟨d2, r⟩⟩
    · exact h.elim
    · rcases hc : S[n]? with _ | ⟨⟨ds⟩⟩
      · simp only [appM, hc] at h; exact h.elim
      · simp only [appM, hc] at h
        by_cases hl : ds.length < 100000
        · rw [if_pos hl] at h
          obtain ⟨u, rfl, ru⟩ := args1 rvs
          cases rv with
          | ref hA =>
            obtain ⟨ys, h1, h2⟩ := hs.cell n _ _ hA hc
            exact ⟨_, ys, u, rfl, rfl, h1, sz_lt (by rw [h2.length]; exact hl), h w _ (Le.refl w) (hs.put hA ⟨_, upd_same, h2.append (.one ru)⟩) _ .non⟩
        · rw [if_neg hl] at h
          exact h.elim
    · exact h.elim
  | _ => exact h.elim
theorem extM_ok {K : PySem.W.Frag} : MeM K rExtend extM := fun E w S H v vs x xs Q hs rv rvs h => by
  cases x with
  | ref n =>
    rcases xs with _ | ⟨d, _ | ⟨d2, r⟩⟩
    · exact h.elim
    · rcases hc : S[n]? with _ | ⟨⟨ds⟩⟩
      · simp only [extM, hc] at h; exact h.elim
      · rcases hc2 : asC S d with _ | es
        · simp only [extM, hc, hc2] at h; exact h.elim
        · simp only [extM, hc, hc2] at h
          by_cases hl : ds.length + es.length ≤ 100000
          · rw [if_pos hl] at h
            obtain ⟨u, rfl, ru⟩ := args1 rvs
            obtain ⟨b, zs, rfl, hb, rz⟩ := asC_go hs ru hc2
            cases rv with
            | ref hA =>
              obtain ⟨ys, h1, h2⟩ := hs.cell n _ _ hA hc
              exact ⟨_, b, ys, zs, rfl, rfl, h1, hb, sz_of (by rw [h2.length, rz.length]; exact hl), h w _ (Le.refl w) (hs.put hA ⟨_, upd_same, h2.append rz⟩) _ .non⟩
          · rw [if_neg hl] at h
            exact h.elim
    · exact h.elim
  | _ => exact h.elim
theorem joinM_ok {K : PySem.W.Frag} : MeM K (fun x xs H Q => ∃ a p, ∃ ys : List Str, x = .str a ∧ xs = [.ref p] ∧ (SqL K H p (ys.map V.str) ∨ SqT K H p (ys.map V.str)) ∧
    (ys.map (·.length)).sum + ys.length * a.length ≤ 16777216 ∧ Q (.str (Txt.join a ys)) H) joinM := fun E w S H v vs x xs Q hs rv rvs h => by
  cases x with
  | str a =>
    rcases xs with _ | ⟨d, _ | ⟨d2, r⟩⟩
    · exact h.elim
    · rcases hc : asQ S d with _ | ds
      · simp only [joinM, hc] at h; exact h.elim
      · rcases hc2 : strsOf ds with _ | ys
        · simp only [joinM, hc, hc2] at h; exact h.elim
        · simp only [joinM, hc, hc2] at h
          by_cases hl : (ys.map (·.length)).sum + ys.length * a.length ≤ 100000
          · rw [if_pos hl] at h
            obtain ⟨u, rfl, ru⟩ := args1 rvs
            obtain ⟨b, zs, rfl, hb, rz⟩ := asQ_go hs ru hc
            cases rv
            have e := strs_rel rz hc2
            subst e
            exact ⟨a, b, ys, rfl, rfl, hb, by omega, Fin.ok h hs _ (.str _)⟩
          · rw [if_neg hl] at h
            exact h.elim
    · exact h.elim
  | _ => exact h.elim
end
end Mi
namespace Mi
open PySem PySem.Spec L2
section
variable {X : Cx} {E : EK}
/-! ### len, abs, int, list, tuple, all, any -/
theorem args1V {K : PySem.W.Frag} {w : Wd} {vs : List V} {xs : List D} (h : xs.length = 1) (r : RvL K w vs xs) : ∃ v d, vs = [v] ∧ xs = [d] ∧ Rv K w v d := by
  cases r with
  | nil => cases h
  | cons r rr =>
    cases rr with
    | nil => exact ⟨_, _, rfl, rfl, r⟩
    | cons _ _ => simp at h
def on1 (f : D → M D) : List D → M D
  | [d] => f d
  | _ => bad
theorem on1_ok {K : PySem.W.Frag} {r : List V → Hp → VK → Prop} {f : D → M D} (h : UnM K (fun v H Q => r [v] H Q) f) : CaM K r (on1 f) := fun E w S H vs xs Q hs rv q => by
  rcases xs with _ | ⟨d, _ | ⟨e, t⟩⟩
  · exact q.elim
  · obtain ⟨v, rfl, r1⟩ := args1 rv
    exact h E w S H v d Q hs r1 q
  · exact q.elim
def lenM (d : D) : M D := fun S => match d with
  | .str x => if x.length ≤ 100000 then some (.ok (.int (x.length : Int)), S) else none
  | d => match asQ S d with
    | some ds => some (.ok (.int (ds.length : Int)), S)
    | none => none
theorem lenM_ok {K : PySem.W.Frag} : CaM K (fun xs H Q => ∃ x n, xs = [x] ∧ LenV K x H n ∧ Q (.int (n : Nat)) H) (on1 lenM) := on1_ok fun E w S H v x Q hs rv h => by
  have seq : ∀ (h' : Fin K E w (match asQ S x with
    | some ds => some (.ok (D.int (ds.length : Int)), S)
    | none => none) (fun w' _ H' d => ∀ z, Rv K w' z d → Q z H')), ∃ y n, [v] = [y] ∧ LenV K y H n ∧ Q (.int (n : Nat)) H := fun h' => by
    rcases h1 : asQ S x with _ | ds
    · simp only [h1] at h'; exact h'.elim
    · simp only [h1] at h'
      obtain ⟨a, xs, rfl, hq, rx⟩ := asQ_go hs rv h1
      refine ⟨_, ds.length, rfl, ?_, Fin.ok h' hs _ (.int _)⟩
      rcases hq with hq | hq
      · exact .inl ⟨xs, hq, rx.length.symm⟩
      · exact .inr ⟨xs, hq, rx.length.symm⟩
  cases x with
  | str z =>
    cases rv
    have h : Fin K E w (if z.length ≤ 100000 then some (.ok (D.int (z.length : Int)), S) else none) _ := h
    by_cases hl : z.length ≤ 100000
    · rw [if_pos hl] at h
      exact ⟨_, z.length, rfl, ⟨sz_of hl, rfl⟩, Fin.ok h hs _ (.int _)⟩
    · rw [if_neg hl] at h
      exact h.elim
  | _ => exact seq h
def absM : D → M D
  | .int i => M.pure (.int (if i < 0 then -i else i))
  | _ => bad
theorem absM_ok {K : PySem.W.Frag} : CaM K (fun xs H Q => ∃ i, xs = [.int i] ∧ Q (.int (if i < 0 then -i else i)) H) (on1 absM) := on1_ok fun E w S H v x Q hs rv h => by
  cases x with
  | int i => cases rv; exact ⟨i, rfl, Fin.ok h hs _ (.int _)⟩
  | _ => exact h.elim
def intM : D → M D
  | .int i => M.pure (.int i)
  | .bl b => M.pure (.int (if b then 1 else 0))
  | _ => bad
theorem intM_ok {K : PySem.W.Frag} : CaM K (fun xs H Q => (∃ i, xs = [.int i] ∧ Q (.int i) H) ∨ ∃ k, xs = [.bl k] ∧ Q (.int (if k then 1 else 0)) H) (on1 intM) := on1_ok fun E w S H v x Q hs rv h => by
  cases x with
  | int i => cases rv; exact .inl ⟨i, rfl, Fin.ok h hs _ (.int _)⟩
  | bl i => cases rv; exact .inr ⟨i, rfl, Fin.ok h hs _ (.int _)⟩
  | _ => exact h.elim
def listM (d : D) : M D := fun S => match d with
  | .str x => if x.cps.size ≤ 100000 then some (.ok (.lst (x.cps.toList.map sgn)), S) else none
  | d => match asQ S d with
    | some ds => some (.ok (.lst ds), S)
    | none => none
def rListS : List V → Hp → VK → Prop := fun xs H Q => ∃ x : Str, xs = [.str x] ∧ x.cps.size ≤ sizeLine ∧ ∀ l, H l = none → Q (.ref l) (upd H l (.lst (x.cps.toList.map fun c => V.str ⟨#[c]⟩)))
theorem call_listS (hc : X.calm = true) : CallR X (.type "list") rListS := by
  intro pins s σ H xs us Q I r h
  obtain ⟨x, rfl, hz, q⟩ := h
  obtain ⟨u, rfl, t, rfl⟩ := vals1 r
  refine call_list_str (I.ok.hd hc) x t (fun h' tk acc' c' hk hS hacc => ?_) hz
  refine ⟨.ref s.heap.objs.size, _, I.laid hk (Nat.le_refl _) (show ObjOk X.prog X.w _ _ _ (.lst (x.cps.toList.map fun c => V.str ⟨#[c]⟩)) from ⟨?_, acc'.toList, c', ?_, ?_⟩), rfl, q _ (I.hok.fresh (Nat.le_refl _))⟩
  · rw [List.length_map, Array.length_toList]; exact hz
  · refine vals_of_at (by rw [List.length_map, Array.length_toList, Array.length_toList, hacc.1]) fun j y v h1 h2 => ?_
    obtain ⟨c, t', e1, e2⟩ := hacc.2 j v (by rw [← Array.getElem?_toList]; exact h2)
    rw [List.getElem?_map, Array.getElem?_toList, e1] at h1
    cases h1
    exact ⟨t', e2⟩
  · rw [Array.toArray_toList]; exact hS
theorem sgn_rel {K : PySem.W.Frag} {w : Wd} : ∀ cs : List Nat, RvL K w (cs.map fun c => V.str ⟨#[c]⟩) (cs.map sgn)
  | [] => .nil
  | c :: cs => .cons (.str _) (sgn_rel cs)
def rListU (K : PySem.W.Frag) : List V → Hp → VK → Prop := fun xs H Q => rListS xs H Q ∨ ∃ p ys, xs = [.ref p] ∧ (SqL K H p ys ∨ SqT K H p ys) ∧ ∀ l, H l = none → Q (.ref l) (upd H l (.lst ys))
theorem call_listU (hc : X.calm = true) : CallR X (.type "list") (rListU X.K) := (call_listS hc).or call_list_of
theorem listM_ok {K : PySem.W.Frag} : CaM K (rListU K) (on1 listM) := on1_ok fun E w S H v x Q hs rv h => by
  have seq : ∀ (h' : Fin K E w (match asQ S x with
    | some ds => some (.ok (D.lst ds), S)
    | none => none) (fun w' _ H' d => ∀ z, Rv K w' z d → Q z H')), rListU K [v] H Q := fun h' => by
    rcases h1 : asQ S x with _ | ds
    · simp only [h1] at h'; exact h'.elim
    · simp only [h1] at h'
      obtain ⟨a, xs, rfl, hq, rx⟩ := asQ_go hs rv h1
      refine .inr ⟨a, xs, rfl, hq, fun p hp => h' _ _ (hs.le_lay hp) (hs.lay (o := .lst xs) hp) _ (.lst (by show upd w.G p _ p = _; rw [upd_same]) (rx.mono (hs.le_lay hp)))⟩
  cases x with
  | str z =>
    cases rv
    have h : Fin K E w (if z.cps.size ≤ 100000 then some (.ok (D.lst (z.cps.toList.map sgn)), S) else none) _ := h
    by_cases hl : z.cps.size ≤ 100000
    · rw [if_pos hl] at h
      exact .inl ⟨z, rfl, sz_of hl, fun p hp => h _ _ (hs.le_lay hp) (hs.lay (o := .lst _) hp) _ (.lst (by show upd w.G p _ p = _; rw [upd_same]) (sgn_rel _))⟩
    · rw [if_neg hl] at h
      exact h.elim
  | _ => exact seq h
def tupleM (d : D) : M D := fun S => match d with
  | .tup ds => some (.ok (.tup ds), S)
  | d => match asR S d with
    | some ds => some (.ok (.tup ds), S)
    | none => none
theorem tupleM_ok {K : PySem.W.Frag} : CaM K (fun xs H Q => ∃ p ys, xs = [.ref p] ∧ ((SqL K H p ys ∧ ∀ l, H l = none → Q (.ref l) (upd H l (.tup ys))) ∨ (SqT K H p ys ∧ Q (.ref p) H))) (on1 tupleM) := on1_ok fun E w S H v x Q hs rv h => by
  have seq : ∀ (h' : Fin K E w (match asR S x with
    | some ds => some (.ok (D.tup ds), S)
    | none => none) (fun w' _ H' d => ∀ z, Rv K w' z d → Q z H')), ∃ p ys, [v] = [.ref p] ∧ ((SqL K H p ys ∧ ∀ l, H l = none → Q (.ref l) (upd H l (.tup ys))) ∨ (SqT K H p ys ∧ Q (.ref p) H)) := fun h' => by
    rcases h1 : asR S x with _ | ds
    · simp only [h1] at h'; exact h'.elim
    · simp only [h1] at h'
      obtain ⟨a, xs, rfl, hq, rx⟩ := asR_go hs rv h1
      exact ⟨a, xs, rfl, .inl ⟨hq, fun p hp => h' _ _ (hs.le_lay hp) (hs.lay (o := .tup xs) hp) _ (.tup (.of (by show upd w.G p _ p = _; rw [upd_same])) (rx.mono (hs.le_lay hp)))⟩⟩
  cases x with
  | tup ds =>
    obtain ⟨a, xs, rfl, hq, rx⟩ := tup_go hs rv
    exact ⟨a, xs, rfl, .inr ⟨hq, Fin.ok (P := fun w' _ H' d => ∀ z, Rv K w' z d → Q z H') h hs _ rv⟩⟩
  | _ => exact seq h
def blsOf : List D → Option (List Bool)
  | [] => some []
  | .bl b :: ds => (blsOf ds).map fun bs => b :: bs
  | _ => none
theorem bls_rel {K : PySem.W.Frag} {w : Wd} : ∀ {xs : List V} {ds : List D} {bs : List Bool}, RvL K w xs ds → blsOf ds = some bs → xs = bs.map V.bl
  | _, _, _, .nil, h => by cases h; rfl
  | _, _, _, .cons r rr, h => by
    cases r with
    | bl x =>
      simp only [blsOf] at h
      obtain ⟨ys, h1, rfl⟩ := mapO h
      rw [bls_rel rr h1]
      rfl
    | _ => cases h
def allM (d : D) : M D := fun S => match asR S d with
  | some ds => match blsOf ds with
    | some bs => some (.ok (.bl (bs.all id)), S)
    | none => none
  | none => none
def anyM (d : D) : M D := fun S => match asR S d with
  | some ds => match blsOf ds with
    | some bs => some (.ok (.bl (bs.any id)), S)
    | none => none
  | none => none
theorem allM_ok {K : PySem.W.Frag} : CaM K (rAll K) (on1 allM) := on1_ok fun E w S H v x Q hs rv h => by
  rcases h1 : asR S x with _ | ds
  · simp only [allM, h1] at h; exact h.elim
  · rcases h2 : blsOf ds with _ | bs
    · simp only [allM, h1, h2] at h; exact h.elim
    · simp only [allM, h1, h2] at h
      obtain ⟨a, xs, rfl, hq, rx⟩ := asR_go hs rv h1
      exact ⟨a, bs, rfl, by rw [← bls_rel rx h2]; exact hq, Fin.ok h hs _ (.bl _)⟩
theorem anyM_ok {K : PySem.W.Frag} : CaM K (rAny K) (on1 anyM) := on1_ok fun E w S H v x Q hs rv h => by
  rcases h1 : asR S x with _ | ds
  · simp only [anyM, h1] at h; exact h.elim
  · rcases h2 : blsOf ds with _ | bs
    · simp only [anyM, h1, h2] at h; exact h.elim
    · simp only [anyM, h1, h2] at h
      obtain ⟨a, xs, rfl, hq, rx⟩ := asR_go hs rv h1
      exact ⟨a, bs, rfl, by rw [← bls_rel rx h2]; exact hq, Fin.ok h hs _ (.bl _)⟩

/-! ### isinstance of a built-in type -/
def tyN (S : Sto) : D → Option String
  | .non => some "NoneType"
  | .bl _ => some "bool"
  | .int _ => some "int"
  | .str _ => some "str"
  | .tup _ => some "tuple"
  | .lst _ => some "list"
  | .lsr _ => some "list"
  | .dct _ => some "dict"
  | .ref n => match S[n]? with
    | some (.lst _) => some "list"
    | none => none
theorem tyN_go {K : PySem.W.Frag} {w : Wd} {S : Sto} {H : Hp} {v : V} {d : D} {t : String} (hs : Rs K w S H) (rv : Rv K w v d) (h : tyN S d = some t) : TyX K H v (.type t) := by
  cases rv with
  | non => cases h; exact .base .non
  | bl b => cases h; exact .base (.bl b)
  | int b => cases h; exact .base (.int b)
  | str b => cases h; exact .base (.str b)
  | tup hG r =>
    cases h
    rcases sqT_up hG (Le.refl w) hs with (e | ⟨o, e⟩) | ⟨o, its, n, e, c, _⟩
    · exact .base (.tup e)
    · exact .fTuple e
    · exact .kTuple e c
  | lst hG r => cases h; exact .base (.lst (hs.g _ _ hG))
  | lsr hG r =>
    cases h
    rcases sqL_up hG (Le.refl w) hs with (e | ⟨o, e⟩) | ⟨o, its, n, e, c, _⟩
    · exact .base (.lst e)
    · exact .base (.frz e)
    · exact .kList e c
  | dct hG r => cases h; exact .base (.dK (hs.g _ _ hG))
  | ref hA =>
    rename_i a n
    rcases hc : S[n]? with _ | ⟨⟨ds⟩⟩
    · simp only [tyN, hc] at h; cases h
    · simp only [tyN, hc] at h
      cases h
      obtain ⟨xs, h1, _⟩ := hs.cell n a _ hA hc
      exact .base (.lst h1)
def isiM (T : String) (d : D) : M D := fun S => match tyN S d with
  | some t => match kitB t T with
    | some b => some (.ok (.bl b), S)
    | none => none
  | none => none
variable {a e : Expr} {m : Env → M D} {x T : Str} {p q pos : Pos} {T : String} {es : List Expr}
theorem me_isi (hg : Gl X "isinstance") (hm : X.mg "isinstance" = none) (hv : bootBuiltins "isinstance" = some (.builtin "isinstance")) (ha : PE X a (tM X.K E m)) (ht : PE X e (tC (.ty T)))
    (he : starEach [a, e] X.env = (false, eval a X.env) :: starEach [e] X.env := by rfl) (he2 : starEach [e] X.env = (false, eval e X.env) :: starEach [] X.env := by rfl) (hpl : (backTo pos (starEach [e] X.env)).any (·.1) = false := by rfl) :
    PE X (.Call (.Name "isinstance" p) [a, e] [] pos) (tM X.K E (b1 (isiM T) m)) :=
  pe_imp (pe_callB call_isi hg hm hv (pa_cons ha (pa_cons ht pa_nil he2) he) (by decide) (by decide) he hpl) fun σ H Q ⟨w, S, ρ, hs, hn, h⟩ => ⟨w, S, ρ, hs, hn, h.bind.imp fun w1 S1 H1 x l1 s1 h v rv => by
    rcases h1 : tyN S1 x with _ | t
    · simp only [isiM, h1] at h; exact h.elim
    · rcases h2 : kitB t T with _ | b
      · simp only [isiM, h1, h2] at h; exact h.elim
      · simp only [isiM, h1, h2] at h
        exact ⟨v, .ty T, .type t, .type T, b, rfl, .ty T, tyN_go s1 rv h1, kit_ty h2, Fin.ok h s1 _ (.bl _)⟩⟩
end
end Mi
namespace Mi
open PySem PySem.Spec L2
/-! ### repr of data -/
section
variable {X : Cx} {pins : List (Addr × Obj)} {σ : L2.St} {H : Hp} {s : Shared} {w : Wd} {S : Sto}
theorem lst_reads (I : Inv X pins σ H s) (hs : Rs X.K w S H) {a : Addr} {xs : List V} {ps : List PyData} (hx : H a = some (.lst xs)) (k : ∀ us, Vals xs us → ∃ as, ReadsAll s.heap us ps as ∧ sysModules ∉ as) : ∃ as, Reads s.heap (.ref a) (.list ps) as ∧ sysModules ∉ as := by
  obtain ⟨its, rv, ⟨o, n, ho, hc, _, hd⟩, _⟩ := I.list (.of hx)
  obtain ⟨as, h1, h2⟩ := k its rv
  obtain ⟨φ, hφ⟩ := hs.sy
  have hφ := hs.f _ _ hφ
  exact ⟨_, Reads.list ho hc hd h1, by
    intro z
    rcases List.mem_cons.mp z with z | z
    · rw [← z, hφ] at hx
      cases hx
    · exact h2 z⟩
mutual
theorem reads_of (I : Inv X pins σ H s) (hs : Rs X.K w S H) : ∀ {d : D} {v : V} {u : Value} {p : PyData}, Rv X.K w v d → toPy d = some p → RelV v u → ∃ as, Reads s.heap u p as ∧ sysModules ∉ as
  | _, _, _, _, .non, h, r => by cases h; cases r; exact ⟨_, Reads.none, by simp⟩
  | _, _, _, _, .bl b, h, r => by cases h; cases r; exact ⟨_, Reads.bool b, by simp⟩
  | _, _, _, _, .int i, h, r => by cases h; obtain ⟨t, rfl⟩ := r; exact ⟨_, Reads.int i t, by simp⟩
  | _, _, _, _, .str x, h, r => by cases h; obtain ⟨t, rfl⟩ := r; exact ⟨_, Reads.str x t, by simp⟩
  | _, _, _, _, .tup hG rr, h, r => by
    simp only [toPy] at h
    obtain ⟨ps, h1, rfl⟩ := mapO h
    cases r
    obtain ⟨its, rv, ⟨o, ho, hc, n, hd⟩, _⟩ := I.tuple (sqT_up hG (Le.refl w) hs)
    obtain ⟨as, e1, e2⟩ := reads_ofL I hs rr h1 rv
    exact ⟨_, Reads.tuple ho hc hd e1, e2⟩
  | _, _, _, _, .lst hG rr, h, r => by
    simp only [toPy] at h
    obtain ⟨ps, h1, rfl⟩ := mapO h
    cases r
    exact lst_reads I hs (hs.g _ _ hG) fun us rv => reads_ofL I hs rr h1 rv
  | _, _, _, _, .lsr _ _, h, _ => by simp only [toPy] at h; cases h
  | _, _, _, _, .dct hG rr, h, r => by
    simp only [toPy] at h
    obtain ⟨ps, h1, rfl⟩ := mapO h
    cases r
    rename_i a xs ds
    obtain ⟨z, lo, vs, rk, o, es, ep, ho, hx, hd, _, hp, _⟩ := (show ObjOk X.prog X.w H s.heap a (.dK xs) from I.hok a _ (hs.g _ _ hG))
    obtain ⟨as, bs, e1, e2, e3, e4⟩ := reads_ofK I hs rr h1 rk hp
    refine ⟨_, Reads.dict ho hx.1 hd e1 e2, ?_⟩
    intro z
    rcases List.mem_append.mp z with z | z
    · rcases List.mem_cons.mp z with z | z
      · rw [← z] at lo
        simp at lo
      · exact e3 z
    · exact e4 z
  | _, _, _, _, .ref _, h, _ => by simp only [toPy] at h; cases h
theorem reads_ofL (I : Inv X pins σ H s) (hs : Rs X.K w S H) : ∀ {d : List D} {v : List V} {u : List Value} {p : List PyData}, RvL X.K w v d → toPyL d = some p → Vals v u → ∃ as, ReadsAll s.heap u p as ∧ sysModules ∉ as
  | _, _, _, _, .nil, h, r => by cases h; cases r; exact ⟨_, ReadsAll.nil, by simp⟩
  | _, _, _, _, .cons h1 rr, h, r => by
    simp only [toPyL] at h
    obtain ⟨p, e1, h⟩ := bindO h
    obtain ⟨ps, e2, rfl⟩ := mapO h
    cases r with
    | cons r1 r2 =>
      obtain ⟨as, a1, a2⟩ := reads_of I hs h1 e1 r1
      obtain ⟨bs, b1, b2⟩ := reads_ofL I hs rr e2 r2
      exact ⟨_, ReadsAll.cons a1 b1, by
        intro z
        rcases List.mem_append.mp z with z | z
        · exact a2 z
        · exact b2 z⟩
theorem reads_ofK (I : Inv X pins σ H s) (hs : Rs X.K w S H) : ∀ {d : List (D × D)} {v : List (Key × V)} {u : List (Key × Value)} {es : List DictEntry} {p : List (PyData × PyData)}, RvK X.K w v d → toPyK d = some p → KV v u → Pairs (mixKind X.prog X.w) es u →
    ∃ as bs, ReadsAll s.heap (es.map (·.key)) (p.map (·.1)) as ∧ ReadsAll s.heap (es.map (·.val)) (p.map (·.2)) bs ∧ sysModules ∉ as ∧ sysModules ∉ bs
  | _, _, _, _, _, .nil, h, r, q => by cases h; cases r; cases q; exact ⟨_, _, ReadsAll.nil, ReadsAll.nil, by simp, by simp⟩
  | _, _, _, _, _, .cons (k := k) h1 rr, h, r, q => by
    simp only [toPyK] at h
    obtain ⟨pk, e0, h⟩ := bindO h
    obtain ⟨p, e1, h⟩ := bindO h
    obtain ⟨ps, e2, rfl⟩ := mapO h
    cases r with
    | cons r1 r2 =>
      cases q with
      | cons q1 q2 q3 =>
        obtain ⟨r1a, r1b⟩ := r1
        obtain ⟨as, a1, a2⟩ := reads_of I hs h1 e1 r1b
        rw [← q2] at a1
        obtain ⟨bs, cs, b1, b2, b3, b4⟩ := reads_ofK I hs rr e2 r2 q3
        rename_i kv2 tl2 en es2
        have hk : ∃ ks, Reads s.heap en.key pk ks ∧ sysModules ∉ ks := by
          rw [← r1a] at q1
          have q1' : keyIs k en.key = true := q1
          rcases keyIs_shape q1' with ⟨i, t, ek, ev⟩ | ⟨x, t, ek, ev⟩
          · subst ek
            cases e0
            exact ⟨_, by rw [ev]; exact Reads.int i t, by simp⟩
          · subst ek
            cases e0
            exact ⟨_, by rw [ev]; exact Reads.str x t, by simp⟩
        obtain ⟨ks, k1, k2⟩ := hk
        exact ⟨_, _, ReadsAll.cons k1 b1, ReadsAll.cons a1 b2, by
          intro z
          rcases List.mem_append.mp z with z | z
          · exact k2 z
          · exact b3 z, by
          intro z
          rcases List.mem_append.mp z with z | z
          · exact a2 z
          · exact b4 z⟩
end
theorem reads_of2 (I : Inv X pins σ H s) (hs : Rs X.K w S H) {d : D} {v : V} {u : Value} {p : PyData} (rv : Rd2 X.K w H v d) (h : toPy d = some p) (r : RelV v u) : ∃ as, Reads s.heap u p as ∧ sysModules ∉ as := by
  cases rv with
  | of q => exact reads_of I hs q h r
  | cell hH rr =>
    simp only [toPy] at h
    obtain ⟨ps, h1, rfl⟩ := mapO h
    cases r
    exact lst_reads I hs hH fun us rv => reads_ofL I hs rr h1 rv
end
section
variable {X : Cx} {E : EK}
/-- the text of a value, by the library -/
def rRepr (K : PySem.W.Frag) : List V → Hp → VK → Prop := fun xs H Q => ∃ (w : Wd) (S : Sto) (v : V) (d : D) (p : PyData), xs = [v] ∧ Rs K w S H ∧ Rv K w v d ∧ toPy (deS S d) = some p ∧ p.showable = true ∧ p.shown.length ≤ sizeLine ∧ p.depth ≤ 60 ∧ Q (.str p.shown) H
theorem repr_flat {p : PyData} {u : Value} {as : List Addr} {h : Heap} (r : Reads h u p as) (hn : ∀ a, u ≠ .ref a) {A : Around} {P : Program} {w : World} {E : Value → Shared → Prop} {s : Shared} {Q : Value → Shared → Prop} (hs : p.showable = true) (hz : p.shown.length ≤ sizeLine)
    (hQ : Q (.str p.shown s.toks) { s with toks := s.toks + 1 }) : wpAny (model P w) A (call (.builtin "repr") [u]) Q E s := by
  cases r with
  | none => simp only [PyData.shown] at hQ; exact PySem.P.repr_of_none hQ
  | bool b => simp only [PyData.shown] at hQ; exact PySem.P.repr_of_bool hQ
  | int i t => simp only [PyData.shown] at hQ; exact PySem.P.repr_of_int (by simpa [PyData.showable] using hs) hQ
  | str x t => simp only [PyData.shown] at hQ hz; exact PySem.P.repr_of_str hQ hz
  | list => exact absurd rfl (hn _)
  | tuple => exact absurd rfl (hn _)
  | dict => exact absurd rfl (hn _)
theorem call_reprU {k : Nat} (hr : Room k X.A) (hgd : X.A.guards = some []) : CallR X (.builtin "repr") (rRepr X.K) := by
  intro pins s σ H xs us Q I r h
  obtain ⟨w, S, v, d, p, rfl, hs, rv, hp, h1, h2, h3, q⟩ := h
  obtain ⟨u, rfl, ru⟩ := vals1 r
  obtain ⟨as, e1, e2⟩ := reads_of2 I hs (deS_go hs rv) hp ru
  by_cases hu : ∃ a, u = .ref a
  · obtain ⟨a, rfl⟩ := hu
    refine repr_of_reads' e1 h1 (fun _ => e2) hgd (by have := hr.units; omega) (fun _ _ e => e) (fun h' t tk hk => ?_) h2
    exact ⟨.str p.shown, H, I.kept hk, ⟨_, rfl⟩, q⟩
  · exact repr_flat e1 (fun a z => hu ⟨a, z⟩) h1 h2 ⟨.str p.shown, H, I.tok _, ⟨_, rfl⟩, q⟩
def reprM (d : D) : M D := fun S => match toPy (deS S d) with
  | some p => if p.showable = true ∧ p.shown.length ≤ 100000 ∧ p.depth ≤ 60 then some (.ok (.str p.shown), S) else none
  | none => none
theorem reprM_ok {K : PySem.W.Frag} : CaM K (rRepr K) (on1 reprM) := on1_ok fun E w S H v x Q hs rv h => by
  rcases h1 : toPy (deS S x) with _ | p
  · simp only [reprM, h1] at h; exact h.elim
  · simp only [reprM, h1] at h
    by_cases hc : p.showable = true ∧ p.shown.length ≤ 100000 ∧ p.depth ≤ 60
    · rw [if_pos hc] at h
      exact ⟨w, S, v, x, p, rfl, hs, rv, h1, hc.1, sz_of hc.2.1, hc.2.2, Fin.ok h hs _ (.str _)⟩
    · rw [if_neg hc] at h
      exact h.elim
end
end Mi
namespace Mi
open PySem PySem.Spec PyProof.Rows L2
/-! ### the law's own def, where no repr is under way -/
section
variable {P : Program} {w : World} {K : PySem.W.Frag} {mg : Str → Option Value}
/-- a promise kept by the outermost call alone -/
def TopOk (P : Program) (w : World) (K : PySem.W.Frag) (mg : Str → Option Value) (fa : Addr) (x : Str) (sp : Sp) : Prop :=
  ∀ (base : Heap) (s : Shared) (H : Hp) (v : V) (u : Value) (Q : VK) (E : XK), K.In base → base.Ns mainGlobals mg → Env0 P w K mg base callerA [] s H → RelV v u → sp [v] H Q E →
    codeAny (model P w) callerA (.call (.ref fa) ⟨[u], []⟩) (CR CX0 [] P w H s Q E) s
theorem guards_top (env : PySem.Env) : (callerA.deeper env).guards = some [] := rfl
theorem top_run {fa a : Addr} {x : Str} {sp : Sp} {mb : Str → Option Value} {st : Shared} {us : List Value} {zs : List Int} {oM : Obj} (T : TopOk P w K mg fa x sp)
    (kIn : K.In st.heap) (gNs : st.heap.Ns mainGlobals mg) (bNs : st.heap.Ns builtinsNs mb) (bAll : ∀ y : Str, y ≠ "__name__" → mb y = bootBuiltins y) (lim : st.heap.NoLimit) (gens : st.gens = #[])
    (kno : K.lookup sysModules = none) (sM : st.heap.get? sysModules = some oM) (sD : ∀ vs n, oM.data ≠ .seq vs n)
    (at_a : st.heap.get? a = some { cls := .type "list", data := .seq us.toArray }) (zin : IntsAre us zs) (few : zs.length ≤ sizeLine)
    (ask : ∀ (H : Hp) (φ : Heap → Prop), H sysModules = some (.ext φ) → SqL K (fun b => if b = sysModules then none else H b) a (zs.map V.int) → sp [.ref a] H (fun v H' => v = .bl true ∧ H' sysModules = some (.ext φ)) fun _ _ _ => False) :
    codeAny (model P w) callerA (.call (.ref fa) ⟨[.ref a], []⟩) (fun r s' => r = .ok (.ret (.bool true)) ∧ OldK st.heap s'.heap ∧ s'.os = st.os ∧ AllBare s'.gens) st := by
  have rel := vals_ints zin
  have same := zin.length
  have apart : a ≠ sysModules := by
    rintro rfl
    rw [sM] at at_a
    cases at_a
    exact sD _ _ rfl
  have main : ∀ H1 : Hp, (∀ b, H1 b = none ∨ ∃ o xs, H1 b = some (.frz o (.lst xs))) → H1 sysModules = none → SqL K H1 a (zs.map V.int) → HOk P w H1 st.heap → (∀ b, H1 b ≠ none → b = a) → (H1 a ≠ none → K.lookup a = none) → codeAny (model P w) callerA (.call (.ref fa) ⟨[.ref a], []⟩)
      (fun r s' => r = .ok (.ret (.bool true)) ∧ OldK st.heap s'.heap ∧ s'.os = st.os ∧ AllBare s'.gens) st := fun H1 only free seq held just unk => by
    obtain ⟨φ, eφ⟩ : ∃ φ : Heap → Prop, φ = fun h => h.get? sysModules = some oM := ⟨_, rfl⟩
    obtain ⟨H, eH⟩ : ∃ H : Hp, H = upd H1 sysModules (.ext φ) := ⟨_, rfl⟩
    have at_s : H sysModules = some (.ext φ) := by rw [eH, upd_same]
    have at_o : ∀ b, b ≠ sysModules → H b = H1 b := fun b hb => by rw [eH, upd_ne hb]
    have some_a : ∀ b, b ≠ sysModules → H b ≠ none → b = a := fun b hb z => just b (by rw [← at_o b hb]; exact z)
    have held' : HOk P w H st.heap := fun b o e => by
      by_cases hb : b = sysModules
      · subst hb
        rw [at_s] at e
        cases e
        subst eφ
        exact ⟨sM, ⟨_, sM⟩, fun h1 h2 p k => k _ p⟩
      · rw [at_o b hb] at e
        refine (held b o e).stay (fun _ _ _ q => q) (fun c q => ?_) fun c xs q => ?_
        · by_cases hc : c = sysModules
          · subst hc; rw [free] at q; cases q
          · rw [at_o c hc]; exact q
        · by_cases hc : c = sysModules
          · subst hc; rw [free] at q; cases q
          · rw [at_o c hc]; exact q
    have ns_up : ∀ {b : Addr} {m : Str → Option Value}, b ≠ sysModules → st.heap.Ns b m → (hidT st.heap H).Ns b m := fun {b m} hb ⟨o, es, ep, e, d, r⟩ => ⟨o, es, ep, hidT_get e (by
      cases hh : H b with
      | none => rfl
      | some y =>
        obtain rfl : b = a := some_a b hb (by rw [hh]; simp)
        rw [at_a] at e
        cases e
        exact absurd (show Data.seq us.toArray _ = Data.dict es ep from d) nofun), d, r⟩
    have k_up : K.In (hidT st.heap H) := fun b o e => hidT_get (kIn b o e) (by
      by_cases hb : b = sysModules
      · subst hb
        rw [kno] at e
        cases e
      · cases hh : H b with
        | none => rfl
        | some y =>
          obtain rfl : b = a := some_a b hb (by rw [hh]; simp)
          rw [unk (by rw [← at_o b hb, hh]; simp)] at e
          cases e)
    have md : Mod K mg (hidT st.heap H) := ⟨k_up, ns_up (by decide) gNs, ⟨mb, ns_up (by decide) bNs, bAll⟩, lim.imp fun _ q => ⟨ns_up (by decide) q.1, q.2⟩⟩
    have en0 : Env0 P w K mg (hidT st.heap H) callerA [] st H := ⟨rfl, md, fun b o e => of_hidT e, Nat.le_of_eq (hidT_size _ _), trivial, (fun b hb => by cases hb), held', .of_eq gens⟩
    have seq' : SqL K (fun b => if b = sysModules then none else H b) a (zs.map V.int) := by
      have e : (fun b => if b = sysModules then none else H b) = H1 := by
        funext b
        by_cases hb : b = sysModules
        · rw [if_pos hb, hb, free]
        · rw [if_neg hb, at_o b hb]
      rw [e]
      exact seq
    refine codeAny_mono (T _ st H (.ref a) (.ref a) _ _ k_up (ns_up (by decide) gNs) en0 rfl (ask H φ at_s seq')) fun r s' h => ?_
    rcases r with e | fl
    · exact (show False from h).elim
    · cases fl with
      | ret u =>
        obtain ⟨v, H', os, bare, un, hok', rv, q, qs⟩ := h
        obtain rfl : v = V.bl true := q
        obtain rfl : u = Value.bool true := rv
        refine ⟨rfl, OldK.of_keep fun b o e => ?_, os, bare⟩
        by_cases hb : b = sysModules
        · subst hb
          have z := (hok' _ _ qs).1
          subst eφ
          have z : s'.heap.get? sysModules = some oM := z
          rw [sM] at e
          cases e
          exact z
        · cases q : H b with
          | none => exact un.keep b o e q (fun z => by cases z) (fun z => by cases z)
          | some y =>
            rcases only b with z | ⟨ob, xs, z⟩
            · rw [at_o b hb, z] at q
              cases q
            · rw [← at_o b hb] at z
              obtain ⟨e2, _⟩ := hok' b _ (un.frzs b ob _ z)
              obtain ⟨e1, _⟩ := held' b _ z
              rw [e] at e1
              cases e1
              exact e2
      | next => exact (show False from h).elim
      | brk => exact (show False from h).elim
      | cont => exact (show False from h).elim
  rcases hk : K.lookup a with _ | o
  · have hit : (fun b => if b = a then some (HO.frz { cls := .type "list", data := .seq us.toArray } (.lst (zs.map V.int))) else none) a = some (HO.frz { cls := .type "list", data := .seq us.toArray } (.lst (zs.map V.int))) := if_pos rfl
    refine main (fun b => if b = a then some (.frz { cls := .type "list", data := .seq us.toArray } (.lst (zs.map V.int))) else none) (fun b => ?_) (if_neg apart.symm) (.inl (.inr ⟨_, hit⟩)) (fun b u z => ?_) (fun b z => ?_) fun _ => hk
    · by_cases hb : b = a
      · exact .inr ⟨_, _, if_pos hb⟩
      · exact .inl (if_neg hb)
    · by_cases hb : b = a
      · subst hb
        have z2 := hit.symm.trans z
        cases z2
        exact ⟨at_a, by rw [List.length_map]; exact few, us, _, rel, at_a⟩
      · have z2 := (if_neg hb).symm.trans z
        cases z2
    · by_cases hb : b = a
      · exact hb
      · exact absurd (if_neg hb) z
  · have e := kIn a o hk
    rw [at_a] at e
    cases e
    exact main (fun _ => none) (fun _ => .inl rfl) rfl (.inr ⟨_, us.toArray, _, hk, rfl, rfl, rfl, by rw [List.size_toArray, same]; exact few, by simpa using rel⟩) (fun b u z => by cases z) (fun b z => absurd rfl z) fun z => absurd rfl z
theorem top_of {fa : Addr} {x name qual : Str} {params : Arguments} {body : List Stmt} {scope : Scope} {dV kV doc pm cdv ct oc : Value} {an od : Option Addr} {osl : Array (Option Value)} {N : List Str} {sp : Sp} {k : Nat} (rm : Room (k + 1) callerA)
    (lk : K.lookup fa = some ⟨oc, od, .func (PySem.W.fnOf name qual params body scope dV kV doc pm an cdv ct), osl⟩) (code : PySem.W.codeIn K cdv qual = true) (sc : FnScope N [x] scope)
    (bind : ∀ (s : Shared) (v : Value), BindsTo s (PySem.W.fnOf name qual params body scope dV kV doc pm an cdv ct) ⟨[v], []⟩ [(x, v)])
    (walk : ∀ (base : Heap) (s : Shared) (H : Hp) (v : V) (Q : VK) (E : XK), Room k (callerA.deeper (envOfC qual scope s.heap.objs.size fa cdv)) → K.In base → base.Ns mainGlobals mg → sp [v] H Q E →
      ∃ t, PSs (cxOf CX0 P w K mg base N qual scope fa cdv callerA [] s H E).nox body t ∧ t { nx := fun _ H' => Q .non H', rt := Q } (start N [v]) H) : TopOk P w K mg fa x sp := fun base s H v u Q E kb gb e0 rv hsp => by
  have kh : K.In s.heap := e0.mod.kin.keeps fun b o e => (e0.bs b o e).1
  have lim : s.heap.NoLimit := e0.mod.nolimit.keeps fun b o e => (e0.bs b o e).1
  have rel : Vals [v] [u] := .cons rv .nil
  have kinds : ∀ y ∈ [(x, u)], scope.names.lookup y.1 = some .local ∨ (scope.names.lookup y.1 = some .cell ∧ ((cellsFrom (s.heap.objs.size + 1) scope.names []).lookup y.1).isSome = true) := fun ⟨n, z⟩ hy => (sc.par n (List.of_mem_zip (l₁ := [x]) (l₂ := [u]) hy).1).imp id fun q => ⟨q, PySem.W.cellsFrom_some _ _ _ (.inl q)⟩
  refine codeAny_call_function rm.depth (kh _ _ lk) rfl sc.co sc.gen rfl (PySem.W.codeRec_of kh code) (bind s u _ _ _ _ ?_)
  refine wpAny_newFunctionEnv_cells sc.kind kinds fun env he s1 xs => ?_
  subst he
  refine ⟨lim.keeps xs.toInCall.keep, codeAny_func ?_⟩
  obtain ⟨t, ht, hq⟩ := walk base s H v Q E (rm.deeper _) kb gb hsp
  refine wpAny_mono (ht.nox.run [] s1 (start N [v]) H _ (inv_start sc rm.hd e0 rfl rel xs) hq) (fun fl s' hs => ?_) fun e s' hs => hs
  cases fl with
  | ret z =>
    obtain ⟨y, σ', H', J, ry, q⟩ := hs
    exact ⟨y, H', J.os, J.bare, J.base, J.hok, ry, q⟩
  | next =>
    obtain ⟨σ', H', J, q⟩ := hs
    exact ⟨.non, H', J.os, J.bare, J.base, J.hok, rfl, q⟩
  | brk =>
    obtain ⟨_, _, _, q⟩ := hs
    exact q.elim
  | cont =>
    obtain ⟨_, _, _, q⟩ := hs
    exact q.elim
/-- the end of a law -/
theorem walk_top {l : PySem.W.OpenLaw} {n : Nat} {q : Program} {loose : List Str} {XP : (Str → Option Value) → Heap → Prop} {YP : World → Heap → Prop} {d : DefRec} {K : Params → PySem.W.Frag} {sp : PySem.W.Frag → Sp} {x : Str}
    (hn : l.most = some n) (hn2 : n ≤ sizeLine) (hdf : d.params.defaults = []) (hY : ∀ (w : World) (h : Heap), YP w h → (K w.params).In h) (himp : importsNone q = true) (kno : ∀ p, (K p).lookup sysModules = none)
    (F : ∀ (w : World) (mg : Str → Option Value) (fa : Addr) (h : Heap), (K w.params).In h → h.Ns mainGlobals mg → mg d.name = some (.ref fa) → TopOk l.prog w (K w.params) mg fa x (sp (K w.params)))
    (hsp : ∀ (K : PySem.W.Frag) (H : Hp) (a : Addr) (ns : List Int) (φ : Heap → Prop), ns.length ≤ n → H sysModules = some (.ext φ) → SqL K (fun b => if b = sysModules then none else H b) a (ns.map V.int) → sp K [.ref a] H (fun v H' => v = .bl true ∧ H' sysModules = some (.ext φ)) fun _ _ _ => False) :
    PySem.W.WalkO q loose XP YP l.row.toRowW d [] (fun f vs => PySem.call f vs) := by
  refine Att.attach_call hn hdf fun w s0 s1 mg mb fa o pm cd doc a us zs G Y ho hd hcd hmg hobj hz hlen hg => ?_
  obtain ⟨mm, ⟨oM, es, ep, eM, dM, _⟩, _⟩ := (G.T.seer himp).mods
  exact top_run (F w mg fa _ (hY w _ Y) G.T.g hmg) (hY w _ Y) G.T.g G.T.b G.T.builtins G.T.nolimit hg (kno _) eM (fun vs n z => by rw [dM] at z; cases z) hobj hz (Nat.le_trans hlen hn2) fun H φ hO hS => hsp (K w.params) H a zs φ hlen hO hS
end
/-! ### the script -/
theorem int_rel {K : PySem.W.Frag} {w : Wd} : ∀ ns : List Int, RvL K w (ns.map V.int) (ns.map D.int)
  | [] => .nil
  | n :: ns => .cons (.int n) (int_rel ns)
/-- what the script's promise asks, and what it hands back: the object of the interpreter's own stands as it stood -/
theorem script_in {K : PySem.W.Frag} {H : Hp} {a : Addr} {ns : List Int} {f : List D → M D} {φ : Heap → Prop} (hy : H sysModules = some (.ext φ)) (hS : SqL K (fun b => if b = sysModules then none else H b) a (ns.map V.int)) (h : ∃ S', f [.lsr (ns.map D.int)] [] = some (.ok (.bl true), S')) :
    spM K 1 f [.ref a] H (fun v H' => v = .bl true ∧ H' sysModules = some (.ext φ)) fun _ _ _ => False := by
  obtain ⟨S', h⟩ := h
  have rs : Rs K ⟨[], fun b => if b = sysModules then none else H b, fun b => if b = sysModules then some (.ext φ) else none⟩ [] H := by
    refine ⟨fun b o e => ?_, fun b o e => ?_, fun b o e => ?_, rfl, List.nodup_nil, fun a h => (by cases h), fun n a c h => (by simp at h), ⟨φ, by show (if sysModules = sysModules then some (HO.ext φ) else none) = _; exact if_pos rfl⟩⟩
    · have e' : (if b = sysModules then none else H b) = some o := e
      by_cases q : b = sysModules
      · rw [if_pos q] at e'
        cases e'
      · rw [if_neg q] at e'
        exact e'
    · have e' : (if b = sysModules then some (HO.ext φ) else none) = some o := e
      by_cases q : b = sysModules
      · rw [if_pos q] at e'
        rw [q, hy, e']
      · rw [if_neg q] at e'
        cases e'
    · have e' : (if b = sysModules then some (HO.ext φ) else none) = some o := e
      by_cases q : b = sysModules
      · exact if_pos q
      · rw [if_neg q] at e'
        cases e'
  refine ⟨rfl, _, [], [.lsr (ns.map D.int)], rs, .cons (.lsr hS (int_rel ns)) .nil, ?_⟩
  rw [h]
  intro w' H' l s v rv
  cases rv
  refine ⟨rfl, s.f _ _ ?_⟩
  rw [l.f]
  show (if sysModules = sysModules then some (HO.ext φ) else none) = _
  exact if_pos rfl
end Mi
namespace Mi
open PySem PySem.Spec PyProof.Rows L2
/-! ### calls by keywords alone -/
def permL {α : Type} (π : List Nat) (xs : List α) : List α := if xs.length = π.length then π.filterMap fun i => xs[i]? else []
def gPos {α : Type} (π : List Nat) : List α → List α → List α
  | [], ws => permL π ws
  | _, _ => []
theorem filt_rel {K : PySem.W.Frag} {w : Wd} {vs : List V} {ds : List D} (r : RvL K w vs ds) : ∀ π : List Nat, RvL K w (π.filterMap fun i => vs[i]?) (π.filterMap fun i => ds[i]?)
  | [] => .nil
  | i :: π => by
    rw [List.filterMap_cons, List.filterMap_cons]
    rcases h : ds[i]? with _ | d
    · have hv : vs[i]? = none := by
        rw [List.getElem?_eq_none_iff] at h ⊢
        rw [r.length]
        exact h
      rw [hv]
      exact filt_rel r π
    · obtain ⟨v, hv, rv⟩ := r.get h
      rw [hv]
      exact .cons rv (filt_rel r π)
theorem filt_vals {vs : List V} {us : List Value} (r : Vals vs us) : ∀ π : List Nat, Vals (π.filterMap fun i => vs[i]?) (π.filterMap fun i => us[i]?)
  | [] => .nil
  | i :: π => by
    rw [List.filterMap_cons, List.filterMap_cons]
    rcases h : vs[i]? with _ | v
    · have hu : us[i]? = none := r.none_of h
      rw [hu]
      exact filt_vals r π
    · obtain ⟨u, hu, ru⟩ := r.get h
      rw [hu]
      exact .cons ru (filt_vals r π)
theorem perm_rel {K : PySem.W.Frag} {w : Wd} {vs : List V} {ds : List D} (π : List Nat) (r : RvL K w vs ds) : RvL K w (permL π vs) (permL π ds) := by
  unfold permL
  rw [r.length]
  split
  · exact filt_rel r π
  · exact .nil
theorem perm_vals {vs : List V} {us : List Value} (π : List Nat) (r : Vals vs us) : Vals (permL π vs) (permL π us) := by
  unfold permL
  rw [r.length]
  split
  · exact filt_vals r π
  · exact .nil
/-- how a def without defaults takes keywords: h by «fun ws => match ws with | [_, _], _ => rfl» -/
theorem kb_of {K : PySem.W.Frag} {fd : FuncData} {ps ks : List Str} {π : List Nat} (h0 : ps ≠ []) (h : ∀ ws : List Value, ws.length = π.length → bindArgs fd ⟨[], ks.zip ws⟩ = pure (ps.zip (permL π ws))) : KBinds K fd ps ks (gPos π) (gPos π) where
  to := fun s us ws _ hl => by
    cases us with
    | nil =>
      have hw : ws.length = π.length := by
        have hl' : (permL π ws).length = ps.length := hl
        unfold permL at hl'
        by_cases e : ws.length = π.length
        · exact e
        · rw [if_neg e] at hl'
          exact absurd (List.length_eq_zero_iff.mp hl'.symm) h0
      exact .of_eq (h ws hw)
    | cons u us => exact absurd (List.length_eq_zero_iff.mp (show ps.length = 0 from hl.symm)) h0
  rel := fun r1 r2 => by
    cases r1 with
    | nil => exact perm_vals π r2
    | cons _ _ => exact .nil
section
variable {X : Cx} {CX : CXT} {k : Nat} {f : Addr} {fd : FuncData} {ps ks : List Str} {sp : Sp} {E : XK} {x : Str} {p pos : Pos} {kws : List Keyword} {tk : TA} {g : List Value → List Value → List Value} {gV : List V → List V → List V}
theorem pe_callK0 (F : FnOk X.prog X.w X.K X.mg X.base CX k f fd ps sp) (hr : Room k X.A) (hg : Gl X x) (hm : X.mg x = some (.ref f)) (hk : PySem.W.keepIn X.K (.ref f) = true) (hb : KBinds X.K fd ps ks g gV) (hx : Passes CX X E)
    (hkw : PK X kws tk) (hall : (backToKw pos (keywordEach kws X.env)).all (·.1.isSome) = true := by rfl) (hks : (backToKw pos (keywordEach kws X.env)).filterMap (·.1) = ks := by rfl) (hdb : (x == ("__debug__" : Str)) = false := by decide)
    (hpl : ((backTo pos (starEach [] X.env)).any (·.1) || (backToKw pos (keywordEach kws X.env)).any (·.1.isNone)) = false := by rfl) : PE X (.Call (.Name x p) [] kws pos) (tCallK sp gV E tNil tk) := by
  refine ⟨fun pins s σ H Q I h => wpAny_Call_Name_kw (ld_glob I hg hm ?_ hdb)⟩
  refine PySem.W.callWith_KW0 (h₀ := X.base) I.ok.mod.kin hk hall (thn (hkw.run pos pins s σ H _ I h) fun ws s2 ⟨zs, H2, I2, rz, q2⟩ => ⟨I2.kIn, ?_⟩) hpl
  rw [hks]
  exact run_fnk F hr hb hx I2 .nil rz q2
end
section
variable {X : Cx} {E : EK} {a : Expr} {m : Env → M D} {mk : Env → M (List D)} {kws : List Keyword} {nm : Option Str} {kpos p pos : Pos} {x : Str} {CX : CXT} {k : Nat} {fa : Addr} {fd : FuncData} {ps ks : List Str} {f : List D → M D}
theorem mk_nil : PK X [] (tMa X.K E fun _ => M.pure []) := ⟨fun pos pins s σ H Q I ⟨w, S, ρ, hs, hn, h⟩ => pk_nil.run pos pins s σ H Q I (Fin.ok h hs _ .nil)⟩
theorem mk_cons (ha : PE X a (tM X.K E m)) (hr : PK X kws (tMa X.K E mk)) : PK X (⟨nm, a, kpos⟩ :: kws) (tMa X.K E (aCons m mk)) := ⟨fun pos pins s σ H Q I ⟨w, S, ρ, hs, hn, h⟩ => (pk_cons ha hr).run pos pins s σ H Q I
  ⟨w, S, ρ, hs, hn, h.bind.imp fun w1 S1 H1 x l1 s1 h1 v rv => ⟨w1, S1, ρ, s1, hn.mono l1, h1.bind.imp fun w2 S2 H2 xs l2 s2 h2 vs rvs => Fin.ok h2 s2 _ (.cons (rv.mono l2) rvs)⟩⟩⟩
def calK (n : Nat) (π : List Nat) (f : List D → M D) (m : Env → M (List D)) : Env → M D := fun ρ => M.bind (m ρ) fun xs => if (permL π xs).length = n then f (permL π xs) else bad
theorem me_callK0 {n : Nat} {π : List Nat} (F : FnOk X.prog X.w X.K X.mg X.base CX k fa fd ps (spM X.K n f)) (hr : Room k X.A) (hg : Gl X x) (hm : X.mg x = some (.ref fa)) (hk : PySem.W.keepIn X.K (.ref fa) = true) (hb : KBinds X.K fd ps ks (gPos π) (gPos π)) {E' : XK} (hx : Passes CX X E')
    (hkw : PK X kws (tMa X.K EK0 mk)) (hall : (backToKw pos (keywordEach kws X.env)).all (·.1.isSome) = true := by rfl) (hks : (backToKw pos (keywordEach kws X.env)).filterMap (·.1) = ks := by rfl) (hdb : (x == ("__debug__" : Str)) = false := by decide)
    (hpl : ((backTo pos (starEach [] X.env)).any (·.1) || (backToKw pos (keywordEach kws X.env)).any (·.1.isNone)) = false := by rfl) : PE X (.Call (.Name x p) [] kws pos) (tM X.K EK0 (calK n π f mk)) :=
  pe_imp (pe_callK0 F hr hg hm hk hb hx hkw hall hks hdb hpl) fun σ H Q ⟨w, S, ρ, hs, hn, h⟩ => ⟨w, S, ρ, hs, hn, h.bind.imp fun w1 S1 H1 xs l1 s1 h1 vs rvs => by
    by_cases hl : (permL π xs).length = n
    · rw [if_pos hl] at h1
      exact ⟨by rw [(show RvL X.K w1 (gPos π [] vs) (permL π xs) from perm_rel π rvs).length, hl], w1, S1, permL π xs, s1, perm_rel π rvs, h1⟩
    · rw [if_neg hl] at h1
      exact h1.elim⟩
end
/-! ### a def of the text, with what it promises -/
structure DefAt (K : PySem.W.Frag) (mg : Str → Option Value) (x : Str) (st : Stmt) (ps : List Str) : Prop where
  ex : ∃ (fa : Addr) (fd : FuncData), Fun K x x st fa fd ∧ mg x = some (.ref fa) ∧ Binds K fd ps []
structure OkAt (P : Program) (w : World) (K : PySem.W.Frag) (mg : Str → Option Value) (base : Heap) (k : Nat) (x : Str) (st : Stmt) (ps : List Str) (f : List D → M D) : Prop where
  ex : ∃ (fa : Addr) (fd : FuncData), Fun K x x st fa fd ∧ mg x = some (.ref fa) ∧ Binds K fd ps [] ∧ FnOk P w K mg base CX0 k fa fd ps (spM K ps.length f)
section
variable {P : Program} {w : World} {K : PySem.W.Frag} {mg : Str → Option Value} {base : Heap} {x : Str} {st : Stmt} {ps N : List Str} {k : Nat} {ms : Env → M (Fl × Env)}
theorem OkAt.of {n : Nat} (hn : N.length = n) (D : DefAt K mg x st ps) (sc : FnScope N ps (defScope st)) (hb : ∀ (fa : Addr) (cdv : Value) (A : Around) (outer : List PySem.Env) (s : Shared) (H : Hp) (E : XK), Room k (A.deeper (envOfC x (defScope st) s.heap.objs.size fa cdv)) →
    PSs (cxOf CX0 P w K mg base N x (defScope st) fa cdv A outer s H E).nox (defBody st) (tMs K EK0 ms)) : OkAt P w K mg base (k + 1) x st ps (runM n ms) := by
  subst hn
  obtain ⟨fa, fd, F, hm, b⟩ := D.ex
  exact ⟨fa, fd, F, hm, b, F.ok sc (spM_len rfl) fun cdv A outer s H vs Q E hr h => ⟨_, hb fa cdv A outer s H E hr, body_go h⟩⟩
end
section
variable {X : Cx} {a : Expr} {es : List Expr} {mas mk : Env → M (List D)} {x : Str} {p pos : Pos} {k : Nat} {st : Stmt} {ps ks : List Str} {f : List D → M D} {π : List Nat} {kws : List Keyword} {E : EK}
theorem me_callO {n : Nat} (O : OkAt X.prog X.w X.K X.mg X.base k x st ps f) (hr : Room k X.A) (hg : Gl X x) (hn : ps.length = n) (ha : PA X (a :: es) (tMa X.K EK0 mas)) (hdb : (x == ("__debug__" : Str)) = false := by decide)
    (he : starEach (a :: es) X.env = (false, eval a X.env) :: starEach es X.env := by rfl) (hpl : (backTo pos (starEach es X.env)).any (·.1) = false := by rfl) : PE X (.Call (.Name x p) (a :: es) [] pos) (tM X.K EK0 (calF n f mas)) := by
  subst hn
  obtain ⟨fa, fd, F, hm, b, ok⟩ := O.ex
  exact me_call ok hr hg hm F.kp b (pass0) ha hdb he hpl
theorem me_callKO {n : Nat} (O : OkAt X.prog X.w X.K X.mg X.base k x st ps f) (hr : Room k X.A) (hg : Gl X x) (hn : ps.length = n) (h0 : ps ≠ []) (hkb : ∀ (kV doc pm : Value) (an : Option Addr) (cdv ct : Value) (ws : List Value), ws.length = π.length →
      bindArgs (PySem.W.fnOf x x (defArgs st) (defBody st) (defScope st) .none kV doc pm an cdv ct) ⟨[], ks.zip ws⟩ = pure (ps.zip (permL π ws)))
    (hkw : PK X kws (tMa X.K EK0 mk)) (hall : (backToKw pos (keywordEach kws X.env)).all (·.1.isSome) = true := by rfl) (hks : (backToKw pos (keywordEach kws X.env)).filterMap (·.1) = ks := by rfl) (hdb : (x == ("__debug__" : Str)) = false := by decide)
    (hpl : ((backTo pos (starEach [] X.env)).any (·.1) || (backToKw pos (keywordEach kws X.env)).any (·.1.isNone)) = false := by rfl) : PE X (.Call (.Name x p) [] kws pos) (tM X.K EK0 (calK n π f mk)) := by
  subst hn
  obtain ⟨fa, fd, F, hm, b, ok⟩ := O.ex
  obtain ⟨oc, od, kV, doc, pm, an, cdv, ct, osl, rfl, lk, hcd⟩ := F.ex
  exact me_callK0 ok hr hg hm F.kp (kb_of h0 (hkb kV doc pm an cdv ct)) pass0 hkw hall hks hdb hpl
theorem me_gint {i : Int} (hg : Gl X x) (h : ∃ t, X.mg x = some (.int i t)) (hd : (x == ("__debug__" : Str)) = false := by decide) : PE X (.Name x pos) (tM X.K E fun _ => M.pure (.int i)) := by
  obtain ⟨t, h⟩ := h
  exact me_cst (v := .int i) (pe_glob hg h ⟨t, rfl⟩ hd) fun _ => .int i
theorem me_gstr {i : Str} (hg : Gl X x) (h : ∃ t, X.mg x = some (.str i t)) (hd : (x == ("__debug__" : Str)) = false := by decide) : PE X (.Name x pos) (tM X.K E fun _ => M.pure (.str i)) := by
  obtain ⟨t, h⟩ := h
  exact me_cst (v := .str i) (pe_glob hg h ⟨t, rfl⟩ hd) fun _ => .str i
theorem me_dict0 : PE X (.Dict [] [] pos) (tM X.K E fun _ => M.pure (.dct [])) := pe_imp pe_dnewK fun σ H Q ⟨w, S, ρ, hs, hn, h⟩ p hp => h _ _ (hs.le_lay hp) (hs.lay (o := .dK []) hp) _ (.dct (by show upd w.G p _ p = _; rw [upd_same]) .nil)
theorem me_dict1 {k : Str} {i : Int} {jk jv : Nat} {pk pv : Pos} : PE X (.Dict [some (.Constant (.str k) jk pk)] [.Constant (.int i) jv pv] pos) (tM X.K E fun _ => M.pure (.dct [(.str k, .int i)])) :=
  pe_imp (pe_disp (pps_cons pe_str pe_int pps_nil) (by rfl) (by rfl) (fun z => by cases z) (by show 1 ≤ 15; decide)) fun σ H Q ⟨w, S, ρ, hs, hn, h⟩ p hp => by
    show upd H p (.dK []) p = _ ∧ _
    refine ⟨upd_same, [(Sum.inr k, .int i)], rfl, (by show 1 ≤ 15; decide), ?_⟩
    rw [upd_upd]
    exact h _ _ (hs.le_lay hp) (hs.lay (o := .dK [(Sum.inr k, .int i)]) hp) _ (.dct (by show upd w.G p _ p = _; rw [upd_same]) (.cons (k := Sum.inr k) (.int i) .nil))
end
end Mi
namespace Mi
open PySem PySem.Spec PyProof.Rows L2 HT
/-! ### t[::-1] of a tuple -/
theorem fm_congr {α β : Type} {f g : α → Option β} : ∀ {l : List α}, (∀ a ∈ l, f a = g a) → l.filterMap f = l.filterMap g
  | [], _ => rfl
  | a :: l, h => by
    have ih := fm_congr (l := l) (fun b hb => h b (List.mem_cons_of_mem a hb))
    simp only [List.filterMap_cons, h a (by simp), ih]
theorem pick_rev (xs : Array Value) : ((List.range xs.size).filterMap fun (m : Nat) => xs[(((xs.size : Int) - 1) + (m : Int) * (-1)).toNat]?).toArray = xs.toList.reverse.toArray := by
  have at' : ∀ m ∈ List.range xs.size, xs[(((xs.size : Int) - 1) + (m : Int) * (-1)).toNat]? = some (xs.toList.reverse.getD m .none) := fun m hm => by
    have hm := List.mem_range.1 hm
    rw [show (((xs.size : Int) - 1) + (m : Int) * (-1)).toNat = xs.size - 1 - m by omega]
    simp [List.getD, List.getElem?_reverse, hm, show xs.size - 1 - m < xs.size by omega]
  rw [fm_congr at', List.filterMap_eq_map']
  refine congrArg _ (List.ext_getElem? fun i => ?_)
  by_cases hi : i < xs.size <;> simp [hi, List.getD]
section
variable {M : Program} {W : World} {O : Around} {Z : Value → Shared → Prop} {c : Shared} {t z : Addr} {its : Array Value} {st : Value}
/-- the bounds of [::-1] over n items: from the last one down, n of them -/
theorem bounds_rev (n : Nat) : (Builtin.Slice.sliceAdjust none none (-1) (n : Int) = ((n : Int) - 1, -1)) ∧ Builtin.Slice.slicePlaces ((n : Int) - 1) (-1) (-1) = n := by
  constructor
  · simp [Builtin.Slice.sliceAdjust]
  · simp [Builtin.Slice.slicePlaces]; omega
theorem applied_rev {n : Nat} {R : Int × Int × Nat → Shared → Prop} (hz : c.heap.IsSliceOf z .none .none st) (hst : IsPart st (some (-1))) (k : R ((n : Int) - 1, -1, n) c) :
    wpAny (model M W) O (Builtin.Slice.sliceApplied (.ref z) (pure (n : Int))) R Z c := by
  rcases hz with ⟨ob, g, _, dat⟩
  have last : wpAny (model M W) O (match Builtin.Slice.sliceAdjust none none (-1) (n : Int) with | (lo, hi) => pure (lo, (-1 : Int), Builtin.Slice.slicePlaces lo hi (-1))) R Z c := by
    rw [(bounds_rev n).1]
    exact wpAny_pure (by simpa only [(bounds_rev n).2] using k)
  rw [Builtin.Slice.sliceApplied, Builtin.Slice.sliceFields]
  exact wpAny_bind (wpAny_bind (wpAny_field g dat (x := .none) rfl (wpAny_bind (wpAny_field g dat (x := .none) rfl (wpAny_bind (wpAny_field g dat (x := st) rfl (wpAny_pure
    (wpAny_bind (slicePart_ hst (by
      show wpAny _ _ (if ((-1 : Int) == 0) = true then _ else _) _ _ c
      exact (if_neg (show ¬ ((-1 : Int) == 0) = true by decide)) ▸ wpAny_bind (slicePart_none (wpAny_bind (slicePart_none (wpAny_bind (wpAny_pure last)))))))))))))))
theorem item_rev {R : Value → Shared → Prop} (T : IsTup c.heap t its) (hz : c.heap.IsSliceOf z .none .none st) (hst : IsPart st (some (-1))) (big : its.size ≤ sizeLine)
    (k : R (.ref c.heap.objs.size) { c with heap := c.heap.push { cls := .type "tuple", data := .seq its.toList.reverse.toArray } }) : wpAny (model M W) O (getItem (.ref t) (.ref z)) R Z c := by
  have ok : sizeOk (.seq its.toList.reverse.toArray) := (show its.toList.reverse.toArray.size ≤ sizeLine by simpa using big)
  have isS : c.TypeIs (.ref z) "slice" := by rcases hz with ⟨ob, g, cl, _⟩; exact ⟨ob, g, cl⟩
  have whole : ((((its.size : Nat) : Int) - 1) == 0 && (-1 : Int) == 1 && its.size == its.size) = false := by simp
  have new : wpAny (model M W) O (Builtin.Tuple.tupleExact its.toList.reverse.toArray) (fun v s' => R v s') Z c := wpAny_newObj_type k ok
  unfold getItem
  with_reducible refine wpAny_holding ?_
  refine wpAny_bind (wpAny_sequenceKey T.typeIs (by decide) (wpAny_bind (wpAny_callSpecial?_slot (name := Str.ofString "__getitem__") T.typeIs PyProof.Rows.slot_tuple_getitem (wpAny_call_entry PyProof.Rows.slot_tuple_getitem T.typeIs entry_tuple_getitem ?_ (args_tuple_getitem _ _)))))
  refine wpAny_bind (m := Builtin.Tuple.tupleItemsOf (.ref t)) (tupleItemsOf_ T (wpAny_bind (wpAny_typeOf isS ?_)))
  rw [if_pos (by decide)]
  refine wpAny_bind (applied_rev hz hst ?_)
  show wpAny _ _ (if (((its.size : Nat) : Int) - 1 == 0 && (-1 : Int) == 1 && its.size == its.size) = true then _ else _) _ _ c
  rw [whole, if_neg Bool.false_ne_true, pick_rev]
  exact wpAny_bind (m := Builtin.Tuple.tupleExact _) (wpAny_newObj_type (wpAny_pure ⟨.ref _, rfl, wpAny_pure k⟩) ok)
end
/-- what x[::-1] asks and gives, of a list and of a tuple -/
def tRevT (K : PySem.W.Frag) (te : TE) : TE := fun σ H Q => te σ H fun x H1 => ∃ a xs, x = .ref a ∧ SqT K H1 a xs ∧ ∀ p, H1 p = none → Q (.ref p) (upd H1 p (.tup xs.reverse))
section
variable {X : Cx} {e : Expr} {te : TE} {k : Nat} {pa pb pc pos : Pos}
theorem pe_revT (he : PE X e te) : PE X (.Subscript e (.Slice none none (some (.UnaryOp .USub (.Constant (.int 1) k pa) pb)) pc) pos) (tRevT X.K te) := ⟨fun pins s σ H Q I h => by
  have no : ∀ {s' : Shared} {H' : Hp}, Inv X pins σ H' s' → _ := fun {s' H'} I' => po_none.run pins s' σ H' (fun o G => o = none ∧ G = H') I' ⟨rfl, rfl⟩
  have neg : PO X (some (.UnaryOp .USub (.Constant (.int 1) k pa) pb)) _ := po_some (pe_un un_neg pe_int)
  refine Subscript_ (thn (he.run pins s σ H _ I h) fun v c1 ⟨x, H1, I1, rx, a, xs, ex, hx, q⟩ => wpAny_Slice (thn (no I1) fun v1 c2 ⟨_, _, I2, p1, e1, e2⟩ => ?_))
  subst e1 e2 ex
  refine thn (no I2) fun v2 c3 ⟨_, _, I3, p2, e1, e2⟩ => ?_
  subst e1 e2
  refine thn (neg.run pins c3 σ _ (fun o G => o = some (-1) ∧ G = _) I3 ⟨1, rfl, -1, rfl, rfl, rfl⟩) fun v3 c4 ⟨_, _, I4, p3, e1, e2⟩ => ?_
  subst e1 e2
  cases rx
  cases p1
  cases p2
  have I5 := I4.kept (h' := c4.heap.push { cls := .type "slice", data := .fields #[.none, .none, v3] }) (t' := c4.toks) fun b ob g => Heap.get?_push_of_some _ g
  obtain ⟨vs, rv, tup, big⟩ := I5.tuple hx
  refine tail_any (ops := [.ref a, .ref c4.heap.objs.size]) tup.typeIs PyProof.Rows.slot_tuple_getitem.lookup (item_rev tup (Heap.IsSliceOf.new c4.heap .none .none v3) p3 (by rw [List.size_toArray, ← rv.length]; exact big) ?_) (by with_unfolding_all rfl)
  refine ⟨.ref _, _, I5.laid (t' := c4.toks) (o := .tup xs.reverse) (fun b ob g => Heap.get?_push_of_some _ g) (Nat.le_refl _) ⟨by simpa using big, vs.reverse, rv.reverse, _, Heap.get?_push_size _ rfl, rfl, _, rfl⟩, rfl, q _ (I5.hok.fresh (Nat.le_refl _))⟩⟩
end
end Mi
namespace Mi
open PySem PySem.Spec PyProof.Rows L2
section
variable {X : Cx} {E : EK} {e : Expr} {m : Env → M D} {pos p2 : Pos}
/-! ### x[::-1], of lists and of tuples -/
def revU (x : D) : M D := fun S => match x with
  | .tup ds => some (.ok (.tup ds.reverse), S)
  | x => match asR S x with
    | some ds => some (.ok (.lst ds.reverse), S)
    | none => none
theorem pe_or {e : Expr} {t u : TE} (a : PE X e t) (b : PE X e u) : PE X e fun σ H Q => t σ H Q ∨ u σ H Q := ⟨fun pins s σ H Q I h => h.elim (a.run pins s σ H Q I) (b.run pins s σ H Q I)⟩
theorem tM_cases {σ : L2.St} {H : Hp} {w : Wd} {S : Sto} {ρ : Env} {P : Wd → Sto → Hp → D → Prop} (hs : Rs X.K w S H) (hn : Rn X.K w σ ρ) (h : Fin X.K E w (m ρ S) P) {R R2 : V → Hp → Prop}
    (p : D → Bool) (k1 : ∀ w1 S1 H1 d v, p d = true → Le w w1 → Rs X.K w1 S1 H1 → P w1 S1 H1 d → Rv X.K w1 v d → R v H1) (k2 : ∀ w1 S1 H1 d v, p d = false → Le w w1 → Rs X.K w1 S1 H1 → P w1 S1 H1 d → Rv X.K w1 v d → R2 v H1) :
    tM X.K E m σ H R ∨ tM X.K E m σ H R2 := by
  rcases hm : m ρ S with _ | ⟨x | d, S1⟩
  · exact .inl (tM_at hs hn h fun _ _ _ _ _ e => by rw [hm] at e; cases e)
  · exact .inl (tM_at hs hn h fun _ _ _ _ _ e => by rw [hm] at e; cases e)
  · rcases hp : p d with _ | _
    · exact .inr (tM_at hs hn h fun w1 S2 H1 d' v e l1 s1 q rv => by rw [hm] at e; cases e; exact k2 _ _ _ _ _ hp l1 s1 q rv)
    · exact .inl (tM_at hs hn h fun w1 S2 H1 d' v e l1 s1 q rv => by rw [hm] at e; cases e; exact k1 _ _ _ _ _ hp l1 s1 q rv)
def isTup : D → Bool
  | .tup _ => true
  | _ => false
theorem me_revU {k : Nat} {p1 p3 : Pos} (he : PE X e (tM X.K E m)) : PE X (.Subscript e (.Slice none none (some (.UnaryOp .USub (.Constant (.int 1) k p1) p2)) p3) pos) (tM X.K E (b1 revU m)) :=
  pe_imp (pe_or (pe_revT he) (pe_revL he)) fun σ H Q ⟨w, S, ρ, hs, hn, h⟩ => tM_cases hs hn h.bind isTup
    (fun w1 S1 H1 x v hp l1 s1 q rv => by
      cases x with
      | tup ds =>
        obtain ⟨a, xs, rfl, hq, rx⟩ := tup_go s1 rv
        have q : Fin X.K E w1 (some (.ok (D.tup ds.reverse), S1)) _ := q
        exact ⟨a, xs, rfl, hq, fun p hp => q _ _ (s1.le_lay hp) (s1.lay (o := .tup xs.reverse) hp) _ (.tup (.of (by show upd w1.G p _ p = _; rw [upd_same])) (rx.reverse.mono (s1.le_lay hp)))⟩
      | _ => cases hp)
    (fun w1 S1 H1 x v hp l1 s1 q rv => by
      have q : Fin X.K E w1 (match asR S1 x with
        | some ds => some (.ok (D.lst ds.reverse), S1)
        | none => none) (fun w' _ H' d => ∀ z, Rv X.K w' z d → Q z H') := by cases x <;> first | exact q | cases hp
      rcases h1 : asR S1 x with _ | ds
      · simp only [h1] at q; exact q.elim
      · simp only [h1] at q
        obtain ⟨a, xs, rfl, hq, rx⟩ := asR_go s1 rv h1
        exact ⟨a, xs, rfl, hq, fun p hp => q _ _ (s1.le_lay hp) (s1.lay (o := .lst xs.reverse) hp) _ (.lst (by show upd w1.G p _ p = _; rw [upd_same]) (rx.reverse.mono (s1.le_lay hp)))⟩)
/-! ### str(x) of flat things -/
def strM : D → M D
  | .int i => if i.natAbs.log2 < 1920 then M.pure (.str (Str.ofString (toString i))) else bad
  | .str x => M.pure (.str x)
  | .bl b => M.pure (.str (if b = true then "True" else "False"))
  | .non => M.pure (.str "None")
  | _ => bad
def rStrU : List V → Hp → VK → Prop := fun xs H Q => (∃ i : Int, xs = [.int i] ∧ i.natAbs.log2 < 1920 ∧ Q (.str (Str.ofString (toString i))) H) ∨ (∃ x, xs = [.str x] ∧ Q (.str x) H) ∨ (∃ b, xs = [.bl b] ∧ Q (.str (if b = true then "True" else "False")) H) ∨ (xs = [.non] ∧ Q (.str "None") H)
theorem call_strU : CallR X (.type "str") rStrU := by
  intro pins s σ H xs us Q I r h
  rcases h with ⟨i, rfl, hz, q⟩ | ⟨x, rfl, q⟩ | ⟨b, rfl, q⟩ | ⟨rfl, q⟩
  · obtain ⟨u, rfl, t, rfl⟩ := vals1 r
    exact PySem.P.str_of_int hz ⟨.str _, H, I.tok _, ⟨_, rfl⟩, q⟩
  · obtain ⟨u, rfl, t, rfl⟩ := vals1 r
    exact PySem.P.str_of_str ⟨.str _, H, I, ⟨_, rfl⟩, q⟩
  · obtain ⟨u, rfl, r1⟩ := vals1 r
    cases r1
    exact PySem.P.str_of_bool ⟨.str _, H, I.tok _, ⟨_, rfl⟩, q⟩
  · obtain ⟨u, rfl, r1⟩ := vals1 r
    cases r1
    exact PySem.P.str_of_none ⟨.str _, H, I.tok _, ⟨_, rfl⟩, q⟩
theorem strM_ok {K : PySem.W.Frag} : CaM K rStrU (on1 strM) := on1_ok fun E w S H v x Q hs rv h => by
  cases x with
  | int i =>
    cases rv
    by_cases hl : i.natAbs.log2 < 1920
    · have h : Fin K E w ((if i.natAbs.log2 < 1920 then M.pure (D.str (Str.ofString (toString i))) else bad) S) _ := h
      rw [if_pos hl] at h
      exact .inl ⟨i, rfl, hl, Fin.ok h hs _ (.str _)⟩
    · have h : Fin K E w ((if i.natAbs.log2 < 1920 then M.pure (D.str (Str.ofString (toString i))) else bad) S) _ := h
      rw [if_neg hl] at h
      exact h.elim
  | str z => cases rv; exact .inr (.inl ⟨z, rfl, Fin.ok h hs _ (.str _)⟩)
  | bl b => cases rv; exact .inr (.inr (.inl ⟨b, rfl, Fin.ok h hs _ (.str _)⟩))
  | non => cases rv; exact .inr (.inr (.inr ⟨rfl, Fin.ok h hs _ (.str _)⟩))
  | _ => exact h.elim
/-! ### methods without arguments -/
def mth0 (c : D → M Unit) (f : D → M D) (m : Env → M D) : Env → M D := fun ρ => M.bind (m ρ) fun o => M.bind (c o) fun _ => f o
def MeM0 (K : PySem.W.Frag) (r : V → List V → Hp → VK → Prop) (f : D → M D) : Prop := ∀ (E : EK) (w : Wd) (S : Sto) (H : Hp) (v : V) (x : D) (Q : VK), Rs K w S H → Rv K w v x →
  Fin K E w (f x S) (fun w' _ H' d => ∀ z, Rv K w' z d → Q z H') → r v [] H Q
theorem mth0_go {T : String} {c : D → M Unit} {r : V → List V → Hp → VK → Prop} {f : D → M D} (hc : ChkM X.K T c) (hf : MeM0 X.K r f) {σ : L2.St} {H : Hp} {Q : VK} (h : tM X.K E (mth0 c f m) σ H Q) : tBM0 X.K T r (tM X.K E m) σ H Q := by
  obtain ⟨w, S, ρ, hs, hn, h⟩ := h
  refine ⟨w, S, ρ, hs, hn, h.bind.imp fun w1 S1 H1 x l1 s1 q v rv => ?_⟩
  obtain ⟨ty, q⟩ := hc E w1 S1 H1 v x _ s1 rv q.bind
  exact ⟨ty, hf E w1 S1 H1 v x Q s1 rv q⟩
def upperM : D → M D
  | .str x => if x.length ≤ 100000 then M.pure (.str (Txt.upper x)) else bad
  | _ => bad
theorem upperM_ok {K : PySem.W.Frag} : MeM0 K (fun x xs H Q => ∃ a, x = .str a ∧ xs = [] ∧ a.length ≤ 5592405 ∧ Q (.str (Txt.upper a)) H) upperM := fun E w S H v x Q hs rv h => by
  cases x with
  | str z =>
    cases rv
    by_cases hl : z.length ≤ 100000
    · have h : Fin K E w ((if z.length ≤ 100000 then M.pure (D.str (Txt.upper z)) else bad) S) _ := h
      rw [if_pos hl] at h
      exact ⟨z, rfl, rfl, by omega, Fin.ok h hs _ (.str _)⟩
    · have h : Fin K E w ((if z.length ≤ 100000 then M.pure (D.str (Txt.upper z)) else bad) S) _ := h
      rw [if_neg hl] at h
      exact h.elim
  | _ => exact h.elim
/-! ### s.split(t) -/
def splitM (o : D) (xs : List D) : M D := fun S => match o, xs with
  | .str a, [.str b] => if b.length ≠ 0 ∧ a.length ≤ 90000 then some (.ok (.lst ((Txt.split a b).map D.str)), S) else none
  | _, _ => none
theorem strs_up {K : PySem.W.Frag} {w : Wd} : ∀ ys : List Str, RvL K w (ys.map V.str) (ys.map D.str)
  | [] => .nil
  | y :: ys => .cons (.str y) (strs_up ys)
theorem splitM_ok {K : PySem.W.Frag} : MeM K (fun x xs H Q => ∃ a b, x = .str a ∧ xs = [.str b] ∧ (b.length == 0) = false ∧ a.length + 2 ≤ sizeLine ∧ rNewStrs (Txt.split a b) H Q) splitM := fun E w S H v vs x xs Q hs rv rvs h => by
  cases x with
  | str a =>
    rcases xs with _ | ⟨d, _ | ⟨d2, r⟩⟩
    · exact h.elim
    · cases d with
      | str b =>
        obtain ⟨u, rfl, ru⟩ := args1 rvs
        cases rv
        cases ru
        have h : Fin K E w (if b.length ≠ 0 ∧ a.length ≤ 90000 then some (.ok (D.lst ((Txt.split a b).map D.str)), S) else none) _ := h
        by_cases hl : b.length ≠ 0 ∧ a.length ≤ 90000
        · rw [if_pos hl] at h
          exact ⟨a, b, rfl, rfl, by simpa using hl.1, sz_of (by omega), fun p hp => h _ _ (hs.le_lay hp) (hs.lay (o := .lst _) hp) _ (.lst (by show upd w.G p _ p = _; rw [upd_same]) (strs_up _))⟩
        · rw [if_neg hl] at h
          exact h.elim
      | _ => exact h.elim
    · cases d <;> exact h.elim
  | _ => exact h.elim
/-! ### for a, b in zip(x, y) -/
def pairD (x y : D) : D := .tup [x, y]
def frzL : D → Option (List D)
  | .lst ds => some ds
  | .lsr ds => some ds
  | _ => none
def zipOf : List D → M (List D)
  | [.tup a, .tup b] => M.pure (List.zipWith pairD a b)
  | [x, y] => match frzL x, frzL y with
    | some a, some b => M.pure (List.zipWith pairD a b)
    | _, _ => bad
  | _ => bad
theorem frz_go {K : PySem.W.Frag} {w : Wd} {v : V} {d : D} {ds : List D} (rv : Rv K w v d) (h : frzL d = some ds) : ∃ a xs, v = .ref a ∧ RvL K w xs ds ∧ ∀ w2 S2 H2, Le w w2 → Rs K w2 S2 H2 → SqL K H2 a xs := by
  cases rv with
  | lst hG r => cases h; exact ⟨_, _, rfl, r, fun w2 S2 H2 l s => sqL_up (.of hG) l s⟩
  | lsr hG r => cases h; exact ⟨_, _, rfl, r, fun w2 S2 H2 l s => sqL_up hG l s⟩
  | _ => cases h
theorem tupG_go {K : PySem.W.Frag} {w : Wd} {v : V} {ds : List D} (rv : Rv K w v (.tup ds)) : ∃ a xs, v = .ref a ∧ RvL K w xs ds ∧ ∀ w2 S2 H2, Le w w2 → Rs K w2 S2 H2 → SqT K H2 a xs := by
  cases rv with
  | tup hG r => exact ⟨_, _, rfl, r, fun w2 S2 H2 l s => sqT_up hG l s⟩
theorem walk_zipT {K : PySem.W.Frag} {a b : Addr} {xs ys : List V} {n : Nat} (hn : n = min xs.length ys.length) : Walk (RZ.ItzT K a b) n (fun H => SqT K H a xs ∧ SqT K H b ys) (YPair (fun i => xs[i]?) (fun i => ys[i]?)) where
  goes i H hi q := ⟨xs, ys, xs[i]'(by omega), ys[i]'(by omega), q.1, q.2, List.getElem?_eq_getElem _, List.getElem?_eq_getElem _⟩
  stops H q := ⟨xs, ys, q.1, q.2, by omega⟩
  yields i H v H' _ q := fun ⟨T, x, z, e1, e2, e3, ex, ey⟩ => ⟨T, x, z, e1, e2, e3, ex _ q.1, ey _ q.2⟩
theorem ym_pair {K : PySem.W.Frag} {w : Wd} {xs ys : List V} {ds es : List D} (r : RvL K w xs ds) (r2 : RvL K w ys es) : YM K w (List.zipWith pairD ds es) (YPair (fun i => xs[i]?) (fun i => ys[i]?)) := fun i H x H' w2 S2 l2 s2 hi y => by
  obtain ⟨T, u, v, rfl, hT, rfl, e1, e2⟩ := y
  obtain ⟨d1, hd1, rd1⟩ := (r.mono l2).getV e1
  obtain ⟨d2, hd2, rd2⟩ := (r2.mono l2).getV e2
  refine ⟨w2.lay T (.tup [u, v]), pairD d1 d2, s2.le_lay hT, s2.lay hT, by simp [List.getElem?_zipWith, hd1, hd2], .tup (.of (by show upd w2.G T _ T = _; rw [upd_same])) ((RvL.cons rd1 (.cons rd2 .nil)).mono (s2.le_lay hT)), fun p o hp => ?_⟩
  have hne : p ≠ T := by rintro rfl; rw [hT] at hp; cases hp
  refine ⟨by rw [upd_ne hne]; exact hp, fun ho => ⟨?_, ho.f, ho.a⟩⟩
  show upd w2.G T _ p = none
  rw [upd_ne hne]
  exact ho.g
variable {e2 : Expr} {ma : Env → M (List D)} {elts : List Expr} {kk : Nat} {tpos p : Pos}
theorem zip_go {K : PySem.W.Frag} {w1 : Wd} {S1 : Sto} {H1 : Hp} {vs : List V} {xs : List D} {R : It → Hp → Prop} (s1 : Rs K w1 S1 H1) (rv : RvL K w1 vs xs)
    (q : Fin K E w1 (zipOf xs S1) fun w' _ H' ds => ∀ J G Y, Walk J ds.length G Y → (∀ w2 S2 H2, Le w' w2 → Rs K w2 S2 H2 → G H2) → YM K w' ds Y → R J H') :
    ∃ a b xs ys, vs = [V.ref a, V.ref b] ∧ (SqL K H1 a xs ∧ SqL K H1 b ys ∧ R (Itz K a b) H1 ∨ SqT K H1 a xs ∧ SqT K H1 b ys ∧ R (RZ.ItzT K a b) H1) := by
  rcases xs with _ | ⟨x, _ | ⟨y, _ | ⟨z, t⟩⟩⟩
  · exact q.elim
  · cases x <;> exact q.elim
  · cases rv with
    | cons r1 rr =>
      cases rr with
      | cons r2 rr =>
        cases rr
        by_cases hT : ∃ a b, x = .tup a ∧ y = .tup b
        · obtain ⟨a, b, rfl, rfl⟩ := hT
          obtain ⟨pa, xs, rfl, rx, gx⟩ := tupG_go r1
          obtain ⟨pb, ys, rfl, ry, gy⟩ := tupG_go r2
          have q := Fin.ok (a := List.zipWith pairD a b) q s1
          exact ⟨pa, pb, xs, ys, rfl, .inr ⟨gx _ _ _ (Le.refl _) s1, gy _ _ _ (Le.refl _) s1, q _ (fun H => SqT K H pa xs ∧ SqT K H pb ys) (YPair (fun i => xs[i]?) (fun i => ys[i]?)) (by rw [List.length_zipWith, ← rx.length, ← ry.length]; exact walk_zipT rfl) (fun w2 S2 H2 l s => ⟨gx _ _ _ l s, gy _ _ _ l s⟩) (ym_pair rx ry)⟩⟩
        · have q : Fin K E w1 ((match frzL x, frzL y with
            | some a, some b => M.pure (List.zipWith pairD a b)
            | _, _ => bad) S1) fun w' _ H' ds => ∀ J G Y, Walk J ds.length G Y → (∀ w2 S2 H2, Le w' w2 → Rs K w2 S2 H2 → G H2) → YM K w' ds Y → R J H' := by
            cases x <;> cases y <;> first | exact q | exact absurd ⟨_, _, rfl, rfl⟩ hT
          rcases ea : frzL x with _ | a
          · rw [ea] at q; exact q.elim
          · rcases eb : frzL y with _ | b
            · rw [ea, eb] at q; exact q.elim
            · rw [ea, eb] at q
              obtain ⟨pa, xs, rfl, rx, gx⟩ := frz_go r1 ea
              obtain ⟨pb, ys, rfl, ry, gy⟩ := frz_go r2 eb
              have q := Fin.ok (a := List.zipWith pairD a b) q s1
              exact ⟨pa, pb, xs, ys, rfl, .inl ⟨gx _ _ _ (Le.refl _) s1, gy _ _ _ (Le.refl _) s1, q _ (fun H => SqL K H pa xs ∧ SqL K H pb ys) (YPair (fun i => xs[i]?) (fun i => ys[i]?)) (by rw [List.length_zipWith, ← rx.length, ← ry.length]; exact walk_zip rfl) (fun w2 S2 H2 l s => ⟨gx _ _ _ l s, gy _ _ _ l s⟩) (ym_pair rx ry)⟩⟩
  · cases x <;> cases y <;> exact q.elim
def iZip (m : Env → M (List D)) : Env → M (List D) := fun ρ => M.bind (m ρ) zipOf
theorem mi_zip (hg : Gl X "zip") (hm : X.mg "zip" = none) (ha : PA X [e, e2] (tMa X.K E ma)) (h1 : starEach [e, e2] X.env = (false, eval e X.env) :: starEach [e2] X.env := by rfl) (h2 : (backTo pos (starEach [e2] X.env)).any (·.1) = false := by rfl) :
    PI X (.Tuple elts kk tpos) (.Call (.Name "zip" p) [e, e2] [] pos) (tMi X.K E (iZip ma)) :=
  pi_imp (RZ.pi_zipA hg hm ha h1 h2) fun σ H R ⟨w, S, ρ, hs, hn, h⟩ => ⟨w, S, ρ, hs, hn, h.bind.imp fun w1 S1 H1 xs l1 s1 q vs rv => zip_go s1 rv q⟩
/-! ### two names as a target -/
def gTwo (i j : Nat) : D → Env → M Env := fun d ρ => match d with
  | .tup [x, y] => M.pure ((ρ.set i (some x)).set j (some y))
  | _ => bad
theorem gTwo_go {K : PySem.W.Frag} {w : Wd} {S : Sto} {H : Hp} {v : V} {d : D} {σ : L2.St} {ρ : Env} {i j : Nat} {P : Wd → Sto → Hp → Env → Prop} {Q : L2.St → Hp → Prop} (hs : Rs K w S H) (hn : Rn K w σ ρ) (rv : Rv K w v d)
    (h : Fin K E w (gTwo i j d ρ S) P) (k : ∀ x y, P w S H ((ρ.set i (some x)).set j (some y)) → ∀ a b, Rv K w a x → Rv K w b y → Q ((σ.set i (some a)).set j (some b)) H) : gTup K 2 (gCons (gName i) (gCons (gName j) gNil)) v σ H Q := by
  cases d with
  | tup ds =>
    rcases ds with _ | ⟨x, _ | ⟨y, _ | ⟨z, t⟩⟩⟩
    · exact h.elim
    · exact h.elim
    · obtain ⟨a, xs, rfl, hq, rx⟩ := tup_go hs rv
      cases rx with
      | cons r1 rr =>
        cases rr with
        | cons r2 rr =>
          cases rr
          exact ⟨a, _, rfl, hq, rfl, _, _, rfl, _, _, rfl, rfl, k x y (Fin.ok h hs) _ _ r1 r2⟩
    · exact h.elim
  | _ => exact h.elim
theorem gw_two {K : PySem.W.Frag} {vs : List Nat} {i j : Nat} (hi : i ∈ vs) (hj : j ∈ vs) : GW K vs (gTwo i j) (gTup K 2 (gCons (gName i) (gCons (gName j) gNil))) := fun w S ρ H v d σ Q hs hn rv q =>
  gTwo_go hs hn rv q fun x y p a b ra rb => p _ ((hn.set ra).set rb) (by rw [wipe_set hj, wipe_set hi])
theorem mg_two {es : List Expr} {i j : Nat} (h : PG X (.Tuple es kk tpos) (gTup X.K 2 (gCons (gName i) (gCons (gName j) gNil)))) : PG X (.Tuple es kk tpos) (gM X.K E (gTwo i j)) := ⟨fun pins s σ H v u Q I ru ⟨w, S, ρ, d, hs, hn, rv, q⟩ => h.run pins s σ H v u Q I ru (gTwo_go hs hn rv q fun x y p a b ra rb => p _ ((hn.set ra).set rb))⟩
end
end Mi
namespace Mi
open PySem PySem.Spec PyProof.Rows L2
/-! ### bools among ints, at either place -/
def rBI (g : Bool → Int → Int) : R2 := fun x y H Q => ∃ b i, x = .bl b ∧ y = .int i ∧ Q (.int (g b i)) H
def rIB (g : Int → Bool → Int) : R2 := fun x y H Q => ∃ i b, x = .int i ∧ y = .bl b ∧ Q (.int (g i b)) H
section
variable {X : Cx} {K : PySem.W.Frag}
theorem op_addBI : OpR X (binaryOp .Add) (rBI fun b i => (if b = true then 1 else 0) + i) := fun pins s σ H x y v u Q I rx ry ⟨b, i, e1, e2, q⟩ => by
  subst e1 e2
  cases rx
  obtain ⟨t, rfl⟩ := ry
  exact PySem.IntBool.add_bool_int ⟨.int _, H, I.tok _, ⟨_, rfl⟩, q⟩
theorem op_subBI : OpR X (binaryOp .Sub) (rBI fun b i => (if b = true then 1 else 0) - i) := fun pins s σ H x y v u Q I rx ry ⟨b, i, e1, e2, q⟩ => by
  subst e1 e2
  cases rx
  obtain ⟨t, rfl⟩ := ry
  exact PySem.IntBool.sub_bool_int ⟨.int _, H, I.tok _, ⟨_, rfl⟩, q⟩
theorem op_subIB : OpR X (binaryOp .Sub) (rIB fun i b => i - (if b = true then 1 else 0)) := fun pins s σ H x y v u Q I rx ry ⟨i, b, e1, e2, q⟩ => by
  subst e1 e2
  cases ry
  obtain ⟨t, rfl⟩ := rx
  exact PySem.IntBool.sub_int_bool ⟨.int _, H, I.tok _, ⟨_, rfl⟩, q⟩
def addW (x y : D) : M D := match x, y with
  | .bl b, .int i => M.pure (.int ((if b = true then 1 else 0) + i))
  | x, y => addM x y
def subW (x y : D) : M D := match x, y with
  | .bl b, .int i => M.pure (.int ((if b = true then 1 else 0) - i))
  | .int i, .bl b => M.pure (.int (i - (if b = true then 1 else 0)))
  | x, y => subM x y
theorem addW_ok : OpM K (fun x y H Q => rBI (fun b i => (if b = true then 1 else 0) + i) x y H Q ∨ rAddU K x y H Q) addW := fun E w S H v u x y Q hs rv ru h => by
  by_cases hb : ∃ b i, x = .bl b ∧ y = .int i
  · obtain ⟨b, i, rfl, rfl⟩ := hb
    cases rv
    cases ru
    exact .inl ⟨b, i, rfl, rfl, Fin.ok h hs _ (.int _)⟩
  · refine .inr (addM_ok E w S H v u x y Q hs rv ru ?_)
    cases x with
    | bl b =>
      cases y with
      | int i => exact absurd ⟨b, i, rfl, rfl⟩ hb
      | _ => exact h
    | _ => exact h
theorem subW_ok : OpM K (fun x y H Q => rBI (fun b i => (if b = true then 1 else 0) - i) x y H Q ∨ rIB (fun i b => i - (if b = true then 1 else 0)) x y H Q ∨ rI0 (fun i j => .int (i - j)) x y H Q) subW := fun E w S H v u x y Q hs rv ru h => by
  by_cases hb : ∃ b i, x = .bl b ∧ y = .int i
  · obtain ⟨b, i, rfl, rfl⟩ := hb
    cases rv
    cases ru
    exact .inl ⟨b, i, rfl, rfl, Fin.ok h hs _ (.int _)⟩
  by_cases hi : ∃ i b, x = .int i ∧ y = .bl b
  · obtain ⟨i, b, rfl, rfl⟩ := hi
    cases rv
    cases ru
    exact .inr (.inl ⟨i, b, rfl, rfl, Fin.ok h hs _ (.int _)⟩)
  refine .inr (.inr (int20_ok (K := K) (gv := fun i j => .int (i - j)) (fun _ _ _ => .int _) E w S H v u x y Q hs rv ru ?_))
  cases x with
  | bl b =>
    cases y with
    | int i => exact absurd ⟨b, i, rfl, rfl⟩ hb
    | _ => exact h
  | int i =>
    cases y with
    | bl b => exact absurd ⟨i, b, rfl, rfl⟩ hi
    | _ => exact h
  | _ => exact h
/-! ### xs * k, t * k -/
def repM (x y : D) : M D := fun S => match y with
  | .int k => match x with
    | .tup ds => if ds ≠ [] ∧ 2 ≤ k ∧ k ≤ 1000 ∧ ds.length ≤ 1000 then some (.ok (.tup (List.replicate k.toNat ds).flatten), S) else none
    | x => match asC S x with
      | some ds => if 0 ≤ k ∧ k ≤ 1000 ∧ ds.length * k.toNat ≤ 100000 then some (.ok (.lst (List.replicate k.toNat ds).flatten), S) else none
      | none => none
  | _ => none
theorem rep_rel {w : Wd} {xs : List V} {ds : List D} (r : RvL K w xs ds) : ∀ n : Nat, RvL K w (List.replicate n xs).flatten (List.replicate n ds).flatten
  | 0 => .nil
  | n + 1 => by
    rw [List.replicate_succ, List.replicate_succ, List.flatten_cons, List.flatten_cons]
    exact r.append (rep_rel r n)
theorem repM_ok : OpM K (fun x y H Q => rRepT K x y H Q ∨ rRep x y H Q) repM := fun E w S H v u x y Q hs rv ru h => by
  cases y with
  | int k =>
    cases ru
    by_cases ht : ∃ ds, x = .tup ds
    · obtain ⟨ds, rfl⟩ := ht
      have h : Fin K E w (if ds ≠ [] ∧ 2 ≤ k ∧ k ≤ 1000 ∧ ds.length ≤ 1000 then some (.ok (D.tup (List.replicate k.toNat ds).flatten), S) else none) _ := h
      by_cases hc : ds ≠ [] ∧ 2 ≤ k ∧ k ≤ 1000 ∧ ds.length ≤ 1000
      · rw [if_pos hc] at h
        obtain ⟨a, xs, rfl, hq, rx⟩ := tup_go hs rv
        exact .inl ⟨a, k, xs, rfl, rfl, hq, fun e => hc.1 (by subst e; cases rx; rfl), hc.2.1, hc.2.2.1, by rw [rx.length]; exact hc.2.2.2, fun p hp =>
          h _ _ (hs.le_lay hp) (hs.lay (o := .tup _) hp) _ (.tup (.of (by show upd w.G p _ p = _; rw [upd_same])) ((rep_rel rx _).mono (hs.le_lay hp)))⟩
      · rw [if_neg hc] at h
        exact h.elim
    · have h : Fin K E w (match asC S x with
        | some ds => if 0 ≤ k ∧ k ≤ 1000 ∧ ds.length * k.toNat ≤ 100000 then some (.ok (D.lst (List.replicate k.toNat ds).flatten), S) else none
        | none => none) (fun w' _ H' d => ∀ z, Rv K w' z d → Q z H') := by cases x <;> first | exact h | exact absurd ⟨_, rfl⟩ ht
      rcases h1 : asC S x with _ | ds
      · rw [h1] at h; exact h.elim
      · rw [h1] at h
        by_cases hc : 0 ≤ k ∧ k ≤ 1000 ∧ ds.length * k.toNat ≤ 100000
        · have h : Fin K E w (if 0 ≤ k ∧ k ≤ 1000 ∧ ds.length * k.toNat ≤ 100000 then some (.ok (D.lst (List.replicate k.toNat ds).flatten), S) else none) _ := h
          rw [if_pos hc] at h
          obtain ⟨a, xs, rfl, hq, rx⟩ := asC_go hs rv h1
          exact .inr ⟨a, k, xs, rfl, rfl, hq, by omega, by omega, sz_of (by rw [rx.length]; exact hc.2.2), fun p hp =>
            h _ _ (hs.le_lay hp) (hs.lay (o := .lst _) hp) _ (.lst (by show upd w.G p _ p = _; rw [upd_same]) ((rep_rel rx _).mono (hs.le_lay hp)))⟩
        · have h : Fin K E w (if 0 ≤ k ∧ k ≤ 1000 ∧ ds.length * k.toNat ≤ 100000 then some (.ok (D.lst (List.replicate k.toNat ds).flatten), S) else none) _ := h
          rw [if_neg hc] at h
          exact h.elim
  | _ => exact h.elim
variable {E : EK} {a b : Expr} {ma mb : Env → M D} {pos : Pos}
theorem me_addW (ha : PE X a (tM X.K E ma)) (hb : PE X b (tM X.K E mb)) : PE X (.BinOp a .Add b pos) (tM X.K E (b2 addW ma mb)) := me_op (op_addBI.or op_addU) addW_ok ha hb
theorem me_subW (ha : PE X a (tM X.K E ma)) (hb : PE X b (tM X.K E mb)) : PE X (.BinOp a .Sub b pos) (tM X.K E (b2 subW ma mb)) := me_op (op_subBI.or (op_subIB.or op_sub)) subW_ok ha hb
theorem me_rep (ha : PE X a (tM X.K E ma)) (hb : PE X b (tM X.K E mb)) : PE X (.BinOp a .Mult b pos) (tM X.K E (b2 repM ma mb)) := me_op (op_repT.or op_rep) repM_ok ha hb
end
end Mi
namespace Mi
open PySem PySem.Spec PyProof.Rows L2
/-! ### order among ints and bools -/
def vI? : V → Option Int
  | .int i => some i
  | .bl b => some (b2i b)
  | _ => none
def dI? : D → Option Int
  | .int i => some i
  | .bl b => some (b2i b)
  | _ => none
def rW (g : Int → Int → Bool) : R2 := fun x y H Q => ∃ i j, vI? x = some i ∧ vI? y = some j ∧ Q (.bl (g i j)) H
def cmpW (g : Int → Int → Bool) (x y : D) : M D := match dI? x with
  | some i => match dI? y with
    | some j => M.pure (.bl (g i j))
    | none => bad
  | none => bad
abbrev leW := cmpW fun i j => decide (i ≤ j)
abbrev ltW := cmpW fun i j => decide (i < j)
theorem dI_V {K : PySem.W.Frag} {w : Wd} {v : V} {d : D} {i : Int} (rv : Rv K w v d) (h : dI? d = some i) : vI? v = some i := by
  cases rv <;> first | exact h | cases h
theorem cmpW_ok {K : PySem.W.Frag} {g : Int → Int → Bool} : OpM K (rW g) (cmpW g) := fun E w S H v u x y Q hs rv ru h => by
  unfold cmpW at h
  rcases hx : dI? x with _ | i
  · rw [hx] at h
    exact h.elim
  · rw [hx] at h
    rcases hy : dI? y with _ | j
    · rw [hy] at h
      exact h.elim
    · rw [hy] at h
      exact ⟨i, j, dI_V rv hx, dI_V ru hy, Fin.ok h hs _ (.bl _)⟩
section
variable {X : Cx} {K : PySem.W.Frag}
theorem gbi_le (a : Bool) (b : Int) (u : Tok) : Gives (Builtin.«int.__le__» ⟨[.bool a, .int b u], []⟩)
    (.val (Value.bool (decide ((if a = true then (1 : Int) else 0) ≤ b)))) :=
  .of_eq rfl
theorem gbi_lt (a : Bool) (b : Int) (u : Tok) : Gives (Builtin.«int.__lt__» ⟨[.bool a, .int b u], []⟩)
    (.val (Value.bool (decide ((if a = true then (1 : Int) else 0) < b)))) :=
  .of_eq rfl
theorem gbi_ge (a : Bool) (b : Int) (u : Tok) : Gives (Builtin.«int.__ge__» ⟨[.bool a, .int b u], []⟩)
    (.val (Value.bool (decide ((if a = true then (1 : Int) else 0) ≥ b)))) :=
  .of_eq rfl
theorem gbi_gt (a : Bool) (b : Int) (u : Tok) : Gives (Builtin.«int.__gt__» ⟨[.bool a, .int b u], []⟩)
    (.val (Value.bool (decide ((if a = true then (1 : Int) else 0) > b)))) :=
  .of_eq rfl
section
variable {prog : Program} {w : World} {A : Around} {E : Value → Shared → Prop} {s : Shared} {b : Bool} {i : Int} {t : Tok} {Q : Value → Shared → Prop}
theorem lehBI (h : Q (.bool (decide (b2i b ≤ i))) s) : wpAny (model prog w) A (compareOp .LtE (.bool b) (.int i t)) Q E s := by
  rw [show compareOp .LtE (.bool b) (.int i t) = richCompare .LtE (.bool b) (.int i t) by rfl]
  exact SeqAt.rc_left_or (op := .LtE) rfl (typeIs_int s i t) (by decide) F.sub_int_bool F.slot_bool_le
    (call_gives F.slot_bool_le rfl F.entry_int_le (F.args_int_le_2 _ _)
      (gbi_le b i t) ⟨nofun, h⟩) (.inl rfl)
theorem lthBI (h : Q (.bool (decide (b2i b < i))) s) : wpAny (model prog w) A (compareOp .Lt (.bool b) (.int i t)) Q E s := by
  rw [show compareOp .Lt (.bool b) (.int i t) = richCompare .Lt (.bool b) (.int i t) by rfl]
  exact SeqAt.rc_left_or (op := .Lt) rfl (typeIs_int s i t) (by decide) F.sub_int_bool F.slot_bool_lt
    (call_gives F.slot_bool_lt rfl F.entry_int_lt (F.args_int_lt_2 _ _)
      (gbi_lt b i t) ⟨nofun, h⟩) (.inl rfl)
theorem lehIB (h : Q (.bool (decide (i ≤ b2i b))) s) : wpAny (model prog w) A (compareOp .LtE (.int i t) (.bool b)) Q E s := by
  rw [show compareOp .LtE (.int i t) (.bool b) = richCompare .LtE (.int i t) (.bool b) by rfl]
  exact SeqAt.rc_sub_first_or (op := .LtE) (typeIs_int s i t) rfl (by decide) F.sub_bool_int F.slot_bool_ge_refl
    (call_gives F.slot_bool_ge_refl rfl F.entry_int_ge (F.args_int_ge_2 _ _)
      (gbi_ge b i t) ⟨nofun, h⟩) (.inl rfl)
theorem lthIB (h : Q (.bool (decide (i < b2i b))) s) : wpAny (model prog w) A (compareOp .Lt (.int i t) (.bool b)) Q E s := by
  rw [show compareOp .Lt (.int i t) (.bool b) = richCompare .Lt (.int i t) (.bool b) by rfl]
  exact SeqAt.rc_sub_first_or (op := .Lt) (typeIs_int s i t) rfl (by decide) F.sub_bool_int F.slot_bool_gt_refl
    (call_gives F.slot_bool_gt_refl rfl F.entry_int_gt (F.args_int_gt_2 _ _)
      (gbi_gt b i t) ⟨nofun, h⟩) (.inl rfl)
end
theorem op_leW : OpR X (compareOp .LtE) (rW fun i j => decide (i ≤ j)) := fun pins s σ H x y v u Q I rx ry ⟨i, j, e1, e2, q⟩ => by
  cases x with
  | int a =>
    cases e1
    obtain ⟨t, rfl⟩ := rx
    cases y with
    | int b => cases e2; obtain ⟨t2, rfl⟩ := ry; exact PyProof.Rows.le_int ⟨.bl _, H, I, rfl, q⟩
    | bl b => cases e2; cases ry; exact lehIB ⟨.bl _, H, I, rfl, q⟩
    | _ => cases e2
  | bl a =>
    cases e1
    cases rx
    cases y with
    | int b => cases e2; obtain ⟨t2, rfl⟩ := ry; exact lehBI ⟨.bl _, H, I, rfl, q⟩
    | bl b => cases e2; cases ry; exact PyProof.Rows.le_bool ⟨.bl _, H, I, rfl, q⟩
    | _ => cases e2
  | _ => cases e1
theorem op_ltW : OpR X (compareOp .Lt) (rW fun i j => decide (i < j)) := fun pins s σ H x y v u Q I rx ry ⟨i, j, e1, e2, q⟩ => by
  cases x with
  | int a =>
    cases e1
    obtain ⟨t, rfl⟩ := rx
    cases y with
    | int b => cases e2; obtain ⟨t2, rfl⟩ := ry; exact PyProof.Rows.lt_int ⟨.bl _, H, I, rfl, q⟩
    | bl b => cases e2; cases ry; exact lthIB ⟨.bl _, H, I, rfl, q⟩
    | _ => cases e2
  | bl a =>
    cases e1
    cases rx
    cases y with
    | int b => cases e2; obtain ⟨t2, rfl⟩ := ry; exact lthBI ⟨.bl _, H, I, rfl, q⟩
    | bl b => cases e2; cases ry; exact PyProof.Rows.lt_bool ⟨.bl _, H, I, rfl, q⟩
    | _ => cases e2
  | _ => cases e1
end
/-! ### s.strip(t) -/
def stripM (o : D) (xs : List D) : M D := match o, xs with
  | .str a, [.str b] => if a.length ≤ 100000 then M.pure (.str (Txt.stripChars a b)) else bad
  | _, _ => bad
theorem stripM_ok {K : PySem.W.Frag} : MeM K (fun x xs H Q => ∃ a b, x = .str a ∧ xs = [.str b] ∧ a.length ≤ sizeLine ∧ Q (.str (Txt.stripChars a b)) H) stripM := fun E w S H v vs x xs Q hs rv rvs h => by
  cases x with
  | str a =>
    rcases xs with _ | ⟨d, _ | ⟨d2, r⟩⟩
    · exact h.elim
    · cases d with
      | str b =>
        obtain ⟨u, rfl, ru⟩ := args1 rvs
        cases rv
        cases ru
        have h : Fin K E w ((if a.length ≤ 100000 then M.pure (D.str (Txt.stripChars a b)) else bad) S) _ := h
        by_cases hl : a.length ≤ 100000
        · rw [if_pos hl] at h
          exact ⟨a, b, rfl, rfl, sz_of (by omega), Fin.ok h hs _ (.str _)⟩
        · rw [if_neg hl] at h
          exact h.elim
      | _ => exact h.elim
    · cases d <;> exact h.elim
  | _ => exact h.elim
end Mi
namespace Mi
open PySem PySem.Spec PyProof.Rows L2
/-! ### what strip leaves -/
theorem takeW_all {g : Nat → Bool} : ∀ {l : List Nat}, l.all g = true → l.takeWhile g = l
  | [], _ => rfl
  | c :: l, h => by
    simp only [List.all_cons, Bool.and_eq_true] at h
    rw [List.takeWhile_cons, if_pos h.1, takeW_all h.2]
theorem takeW_lt {g : Nat → Bool} : ∀ {l : List Nat}, l.all g = false → (l.takeWhile g).length < l.length ∧ ∃ c t, l.drop (l.takeWhile g).length = c :: t ∧ g c = false
  | [], h => by cases h
  | c :: l, h => by
    by_cases hc : g c = true
    · rw [List.all_cons, hc, Bool.true_and] at h
      obtain ⟨h1, d, t, h2, h3⟩ := takeW_lt h
      rw [List.takeWhile_cons, if_pos hc]
      exact ⟨by simp only [List.length_cons]; omega, d, t, by simpa using h2, h3⟩
    · rw [List.takeWhile_cons, if_neg hc]
      exact ⟨by simp, c, l, rfl, by simpa using hc⟩
theorem strip_len0 {x y : Str} (hx : 1 ≤ x.length) : (Txt.stripChars x y).length = 0 ↔ x.cps.toList.all y.cps.contains = true := by
  have hl : x.cps.toList.length = x.length := rfl
  unfold Txt.stripChars Txt.stripBy
  by_cases ha : x.cps.toList.all y.cps.contains = true
  · have e1 : stripLo y.cps.contains true x = x.length := by
      unfold stripLo
      rw [if_pos rfl, takeW_all ha, hl]
    have e2 : stripSame y.cps.contains true true x = false := by
      unfold stripSame
      rw [e1]
      have : (x.length == 0) = false := by simp; omega
      rw [this]; rfl
    rw [e2]
    simp only [Bool.false_eq_true, if_false, ha, iff_true]
    unfold stripped Builtin.Str.strSub
    rw [e1]
    show (x.cps.extract _ _).size = 0
    rw [Array.size_extract]
    show min _ x.length - x.length = 0
    omega
  · have hf : x.cps.toList.all y.cps.contains = false := by simpa using ha
    obtain ⟨h1, c, t, h2, h3⟩ := takeW_lt hf
    simp only [hf, Bool.false_eq_true, iff_false]
    split
    · omega
    · unfold stripped Builtin.Str.strSub
      have e1 : stripLo y.cps.contains true x = (x.cps.toList.takeWhile y.cps.contains).length := rfl
      have e2 : (x.cps.toList.drop (stripLo y.cps.contains true x)).reverse.all y.cps.contains = false := by
        rw [e1, h2, List.all_reverse, List.all_cons, h3, Bool.false_and]
      have h4 := (takeW_lt e2).1
      rw [List.length_reverse, List.length_drop, hl] at h4
      show (x.cps.extract _ _).size ≠ 0
      rw [Array.size_extract]
      have e3 : stripHi y.cps.contains true x (stripLo y.cps.contains true x) = x.length - ((x.cps.toList.drop (stripLo y.cps.contains true x)).reverse.takeWhile y.cps.contains).length := rfl
      have e4 : x.cps.size = x.length := rfl
      rw [e3, e4]
      omega
theorem strip_strOk {x y : Str} (h : PyData.strOk x = true) : PyData.strOk (Txt.stripChars x y) = true := by
  unfold Txt.stripChars Txt.stripBy
  split
  · exact h
  · unfold PyData.strOk at h ⊢
    rw [← Array.all_toList, List.all_eq_true] at h ⊢
    intro c hc
    unfold stripped Builtin.Str.strSub at hc
    rw [Array.toList_extract] at hc
    exact h c (List.mem_of_mem_drop (List.mem_of_mem_take hc))
theorem str_nil {x : Str} : (x == ("" : Str)) = decide (x.length = 0) := by
  obtain ⟨a⟩ := x
  by_cases h : a = #[]
  · subst h; rfl
  · have h1 : ¬ a.size = 0 := fun e => h (Array.eq_empty_of_size_eq_zero e)
    have h2 : ¬ (⟨a⟩ : Str) = "" := fun e => h (by injection e)
    rw [beq_eq_false_iff_ne.2 h2]
    exact (decide_eq_false h1).symm
theorem strip_made {x y : Str} (hx : 1 ≤ x.length) : (Txt.stripChars x y == ("" : Str)) = x.cps.toList.all fun c => decide (c ∈ y.cps.toList) := by
  rw [str_nil]
  have e : x.cps.toList.all y.cps.contains = x.cps.toList.all fun c => decide (c ∈ y.cps.toList) := by
    congr 1
    funext c
    rw [Bool.eq_iff_iff]
    simp [Array.contains_iff_mem]
  rw [← e]
  rw [Bool.eq_iff_iff, decide_eq_true_iff]
  exact strip_len0 hx
end Mi
namespace Mi
open PySem PySem.Spec PyProof.Rows L2
/-! ### set(xs) of a list of ints -/
/-- a set with nothing in it yet -/
abbrev set0 (w : World) : Obj := { cls := .type "set", dict := none, data := .set #[] 0 (.fresh 0 0 (!w.params.followText "set-order")) }
section
variable {P : Program} {w : World} {A : Around} {E : Value → Shared → Prop}
/-- what is promised of the heap behind it -/
def SetMade (w : World) (h : Heap) (p : Addr) (ns : List Int) (h' : Heap) : Prop := ∃ c, SetR w h' p (fun j => decide (j ∈ ns)) c ∧ c ≤ ns.length ∧ ∀ b o, b ≠ p → h.get? b = some o → h'.get? b = some o
theorem setL_init {s : Shared} {l p : Addr} {items : Array Value} (ns : List Int) (hh : A.handled = none) (hp : s.heap.get? p = some (set0 w)) (hl : s.heap.IsList l items) (hi : IntsAre items.toList ns) (hb : ns.length + 1 < scanBound) :
    codeAny (model P w) A (Code.call (.builtin "set.__init__") ⟨[.ref p, .ref l], []⟩) (wants (fun r s2 => r = .none ∧ ∃ h' tk, s2 = { s with heap := h', toks := tk } ∧ SetMade w s.heap p ns h') E) s := by
  have n1 : items.size = ns.length := (Array.length_toList (xs := items)).symm.trans (IntsAre.length hi)
  have pl : p < s.heap.objs.size := Heap.lt_size hp
  obtain ⟨⟨cl, dk, dt, sl⟩, gl, el, nl, dl⟩ := id hl
  simp only at el dl
  subst el dl
  have ll : l < s.heap.objs.size := Heap.lt_size gl
  have ne : l ≠ p := fun e => by rw [e, hp] at gl; simp [set0] at gl
  refine codeAny_call_builtin F.called_set.init.plain F.entry_set_init (check_set_init_1 ⟨_, hp, rfl⟩ ?_)
  have f1 := F.sub_list_set
  have f2 := F.sub_list_frozenset
  have f3 : (Value.type "list" == Value.type "dict") = false := by decide
  unfold Builtin.«set.__init__» noKeywords Builtin.Frozenset.updateFrom
  generalize later : pyIter = it
  wp_walk
  subst later
  refine wpAny_pyIter_list hl (wpAny_bind (wpAny_runValue ?_))
  have val : ∀ (i : Nat) (v : Value), items[i]? = some v → ∃ k t, ns[i]? = some k ∧ v = .int k t := fun i v hv => by
    have lt : i < ns.length := n1 ▸ (Array.getElem?_eq_some_iff.mp hv).1
    obtain ⟨t, e⟩ := IntsAre.int_at hi i v (Array.getElem?_toList ▸ hv)
    exact ⟨ns[i], t, List.getElem?_eq_getElem lt, by rw [e, List.getD_eq_getElem?_getD, List.getElem?_eq_getElem lt]; rfl⟩
  refine set_update_ints ((Walks.list (show A.in1.in1.handled = none by simp [hh]) s.heap.objs.size l (Nat.ne_of_lt ll) items).toS) p ?_ ns n1 hb val (items.size - 0) 0 _ (by omega) (Nat.zero_le _) ?_ ?_ ?_
  · simp only [List.mem_cons, List.not_mem_nil, or_false, not_or]
    exact ⟨Nat.ne_of_lt pl, fun e => ne e.symm⟩
  · exact ⟨⟨_, Heap.get?_push_size _ rfl, rfl, rfl⟩, hl.push _⟩
  · exact ⟨0, Nat.le_refl 0, setR_new_at (w := w) (Heap.get?_push_of_some _ hp)⟩
  · rintro ⟨h', g', d', tk', os'⟩ c' mv cl' sr
    obtain rfl : g' = s.gens := mv.gens
    obtain rfl : d' = s.drawn := mv.drawn
    obtain rfl : os' = s.os := mv.os
    refine wpAny_pure (wpAny_pure ⟨rfl, h', tk', rfl, c', sr, n1 ▸ cl', fun b o nb e => mv.heap b o ?_ (Heap.get?_push_of_some _ e)⟩)
    simp only [List.mem_cons, List.not_mem_nil, or_false, not_or]
    exact ⟨nb, Nat.ne_of_lt (Heap.lt_size e)⟩
/-- set(xs): a new set of the ints of xs -/
theorem call_setL {s : Shared} {l : Addr} {items : Array Value} (ns : List Int) {Q : Value → Shared → Prop} (hh : A.handled = none) (hl : s.heap.IsList l items) (hi : IntsAre items.toList ns) (hb : ns.length + 1 < scanBound)
    (k : ∀ h' tk c, SetR w h' s.heap.objs.size (fun j => decide (j ∈ ns)) c → c ≤ ns.length → (∀ b o, s.heap.get? b = some o → h'.get? b = some o) → Q (.ref s.heap.objs.size) { s with heap := h', toks := tk }) :
    wpAny (model P w) A (call (.type "set") [.ref l]) Q E s := by
  obtain ⟨top, more, mro⟩ := F.called_set.mro
  have a1 := F.called_set.made
  have a2 := F.called_set.sub
  have a3 := F.called_set.notType
  have a4 := F.called_set.canCreate
  have a5 := F.typeCall_set_1 (.ref l)
  refine wpAny_call (codeAny_of_tree ?_)
  show wpAny _ (A.under _) (callAny (.type "set") _) _ _ s
  refine wpAny_pure (And.intro (Code.quiet_builtin _ (by decide +kernel)) (codeAny_builtin F.entry_type_call ?_))
  rw [Around.under_plain (weight_type_call_type "set" [.ref l] []) rfl]
  repeat any_goals first | assumption | wp_step
  refine codeAny_mono (code_set_led1 (.ref l) (E := E) (Q₁ := fun v c => v = .ref s.heap.objs.size ∧ c = { s with heap := s.heap.push (set0 w) }) ⟨rfl, rfl⟩) fun r c made => ?_
  cases r with
  | error e => exact made
  | ok f =>
    cases f with
    | ret v =>
      obtain ⟨rfl, rfl⟩ := made
      have at0 : (s.heap.push (set0 w)).get? s.heap.objs.size = some (set0 w) := Heap.get?_push_size _ rfl
      have ty : Shared.TypeIs { s with heap := s.heap.push (set0 w) } (.ref s.heap.objs.size) "set" := ⟨_, at0, rfl⟩
      have b1 := F.called_set.init.lookup
      have b2 := F.called_set.init.bind (.ref s.heap.objs.size)
      repeat any_goals first | assumption | wp_step
      refine codeAny_mono (setL_init (E := E) (s := { s with heap := s.heap.push (set0 w) }) ns (by simp [hh]) at0 (hl.push _) hi hb) fun r2 c2 made2 => ?_
      cases r2 with
      | error e => exact made2
      | ok f2 =>
        cases f2 with
        | ret v2 =>
          obtain ⟨rfl, h', tk, rfl, n, sr, le, keep⟩ := made2
          repeat any_goals first | assumption | wp_step
          exact k h' tk n sr le fun b o g => keep b o (Nat.ne_of_lt (Heap.lt_size g)) (Heap.get?_push_of_some _ g)
        | _ => exact made2.elim
    | _ => exact made.elim
end
end Mi
namespace Mi
open PySem PySem.Spec PyProof.Rows L2
/-! ### sorted(set(xs)) of ints -/
def insI (x : Int) : List Int → List Int
  | [] => [x]
  | y :: ys => if x < y then x :: y :: ys else if x = y then y :: ys else y :: insI x ys
def srtI (ns : List Int) : List Int := ns.foldr insI []
theorem insI_mem {x k : Int} : ∀ ys : List Int, k ∈ insI x ys ↔ k = x ∨ k ∈ ys
  | [] => by simp [insI]
  | y :: ys => by
    simp only [insI]
    by_cases h1 : x < y
    · simp [h1]
    · by_cases h2 : x = y
      · subst h2; simp
      · simp only [h1, h2, if_false, List.mem_cons, insI_mem ys]
        constructor
        · rintro (h | h | h) <;> simp [h]
        · rintro (h | h | h) <;> simp [h]
theorem insI_up {x : Int} : ∀ {ys : List Int}, ys.Pairwise (· < ·) → (insI x ys).Pairwise (· < ·)
  | [], _ => by simp [insI]
  | y :: ys, h => by
    have hy := List.pairwise_cons.1 h
    simp only [insI]
    by_cases h1 : x < y
    · simp only [h1, if_true, List.pairwise_cons]
      exact ⟨fun z hz => by rcases List.mem_cons.1 hz with rfl | hz; exact h1; exact Int.lt_trans h1 (hy.1 z hz), hy⟩
    · by_cases h2 : x = y
      · simp only [h1, h2, if_true, if_false]
        subst h2
        simpa using h
      · simp only [h1, h2, if_false, List.pairwise_cons]
        exact ⟨fun z hz => by rcases (insI_mem ys).1 hz with rfl | hz; omega; exact hy.1 z hz, insI_up hy.2⟩
theorem srtI_mem {k : Int} : ∀ ns : List Int, k ∈ srtI ns ↔ k ∈ ns
  | [] => by simp [srtI]
  | n :: ns => by
    show k ∈ insI n (srtI ns) ↔ _
    rw [insI_mem, srtI_mem ns, List.mem_cons]
theorem srtI_up : ∀ ns : List Int, (srtI ns).Pairwise (· < ·)
  | [] => .nil
  | n :: ns => insI_up (srtI_up ns)
theorem up_one : ∀ {xs ys : List Int}, xs.Pairwise (· < ·) → ys.Pairwise (· < ·) → (∀ k, k ∈ xs ↔ k ∈ ys) → xs = ys
  | [], [], _, _, _ => rfl
  | [], y :: ys, _, _, h => absurd ((h y).2 (by simp)) (by simp)
  | x :: xs, [], _, _, h => absurd ((h x).1 (by simp)) (by simp)
  | x :: xs, y :: ys, hx, hy, h => by
    have hx := List.pairwise_cons.1 hx
    have hy := List.pairwise_cons.1 hy
    have e : x = y := by
      rcases List.mem_cons.1 ((h x).1 (by simp)) with e | e
      · exact e
      · rcases List.mem_cons.1 ((h y).2 (by simp)) with e2 | e2
        · exact e2.symm
        · have := hy.1 x e; have := hx.1 y e2; omega
    subst e
    rw [up_one hx.2 hy.2 fun k => ?_]
    constructor
    · intro hk
      rcases List.mem_cons.1 ((h k).1 (List.mem_cons_of_mem _ hk)) with e | e
      · have := hx.1 k hk; omega
      · exact e
    · intro hk
      rcases List.mem_cons.1 ((h k).2 (List.mem_cons_of_mem _ hk)) with e | e
      · have := hy.1 k hk; omega
      · exact e
def intsOf : List D → Option (List Int)
  | [] => some []
  | .int i :: ds => (intsOf ds).map fun is => i :: is
  | _ => none
theorem ints_rel {K : PySem.W.Frag} {w : Wd} : ∀ {xs : List V} {ds : List D} {ns : List Int}, RvL K w xs ds → intsOf ds = some ns → xs = ns.map V.int
  | _, _, _, .nil, h => by cases h; rfl
  | _, _, _, .cons r rr, h => by
    cases r with
    | int x =>
      simp only [intsOf] at h
      obtain ⟨ys, h1, rfl⟩ := mapO h
      rw [ints_rel rr h1]
      rfl
    | _ => cases h
theorem ints_up {K : PySem.W.Frag} {w : Wd} : ∀ ns : List Int, RvL K w (ns.map V.int) (ns.map D.int)
  | [] => .nil
  | n :: ns => .cons (.int n) (ints_up ns)
def sortSetM (x : D) : M D := fun S => match asR S x with
  | some ds => match intsOf ds with
    | some ns => if ns.length < 64 then some (.ok (.lst ((srtI ns).map D.int)), S) else none
    | none => none
  | none => none
section
variable {X : Cx} {E : EK} {e : Expr} {m : Env → M D} {p p2 pos pos2 : Pos}
def rSetL (K : PySem.W.Frag) (w : World) : List V → Hp → VK → Prop := fun xs H Q => ∃ (l : Addr) (ns : List Int), xs = [V.ref l] ∧ SqL K H l (ns.map V.int) ∧ ns.length < 64 ∧ ∀ p c, H p = none → c ≤ ns.length → Q (.ref p) (upd H p (SetO w p (fun j => decide (j ∈ ns)) c))
theorem cr_setL (hc : X.calm = true) : CallR X (.type "set") (rSetL X.K X.w) := fun pins s σ H xs us Q I r ⟨l, ns, e, hx, h64, q⟩ => by
  subst e
  rw [Vals.ref1 r]
  obtain ⟨its, rv, ht, hz⟩ := I.list hx
  refine call_setL ns (I.ok.hd hc) ht.isList (Vals.ints rv) (by unfold scanBound; omega) fun h' tk c R hcl keep => ?_
  exact ⟨.ref _, _, I.laid (t' := tk) (o := SetO X.w s.heap.objs.size (fun j => decide (j ∈ ns)) c) keep (Nat.le_refl _) (setO_new R), rfl, q _ c (I.hok.fresh (Nat.le_refl _)) hcl⟩
theorem me_sortSet (hc : X.calm = true) (hg : Gl X "sorted") (hm : X.mg "sorted" = none) (hv : bootBuiltins "sorted" = some (.builtin "sorted")) (hg2 : Gl X "set") (hm2 : X.mg "set" = none) (hv2 : bootBuiltins "set" = some (.type "set")) (he : PE X e (tM X.K E m))
    (s1 : starEach [e] X.env = (false, eval e X.env) :: starEach [] X.env := by rfl) (s2 : (backTo pos2 (starEach [] X.env)).any (·.1) = false := by rfl)
    (s3 : starEach [.Call (.Name "set" p2) [e] [] pos2] X.env = (false, eval (.Call (.Name "set" p2) [e] [] pos2) X.env) :: starEach [] X.env := by rfl) (s4 : (backTo pos (starEach [] X.env)).any (·.1) = false := by rfl) :
    PE X (.Call (.Name "sorted" p) [.Call (.Name "set" p2) [e] [] pos2] [] pos) (tM X.K E (b1 sortSetM m)) :=
  pe_imp (pe_callB (cr_sortedSet hc) hg hm hv (pa_cons (pe_callTy (cr_setL hc) hg2 hm2 hv2 (pa_cons he pa_nil s1) (by decide) (by decide) s1 s2) pa_nil s3) (by decide) (by decide) s3 s4) fun σ H Q ⟨w, S, ρ, hs, hn, h⟩ => by
    refine ⟨w, S, ρ, hs, hn, h.bind.imp fun w1 S1 H1 x l1 s1 q v rv => ?_⟩
    show rSetL X.K X.w [v] H1 fun x H2 => rSortedSet X.w [x] H2 Q
    rcases h1 : asR S1 x with _ | ds
    · simp only [sortSetM, h1] at q; exact q.elim
    · rcases h2 : intsOf ds with _ | ns
      · simp only [sortSetM, h1, h2] at q; exact q.elim
      · simp only [sortSetM, h1, h2] at q
        by_cases hl : ns.length < 64
        · rw [if_pos hl] at q
          obtain ⟨a, xs, rfl, hq, rx⟩ := asR_go s1 rv h1
          obtain rfl := ints_rel rx h2
          refine ⟨a, ns, rfl, hq, hl, fun p' c hp hc' => ⟨p', _, c, rfl, upd_same, by omega, fun ns' p3 up mem _ hp3 => ?_⟩⟩
          obtain rfl : ns' = srtI ns := up_one up (srtI_up ns) fun k => by rw [mem k, srtI_mem]; simp
          have s2 := s1.lay (o := SetO X.w p' (fun j => decide (j ∈ ns)) c) hp
          exact q _ _ ((s1.le_lay hp).trans (s2.le_lay hp3)) (s2.lay (o := .lst ((srtI ns).map V.int)) hp3) _ (.lst (by show upd _ p3 _ p3 = _; rw [upd_same]) (ints_up _))
        · rw [if_neg hl] at q
          exact q.elim
end
end Mi
namespace Mi
open PySem PySem.Spec PyProof.Rows L2
/-- a body of which nothing is asked (the foot of a recursion) -/
theorem pss_bad {X : Cx} {E : EK} {ss : List Stmt} : PSs X ss (tMs X.K E fun _ => bad) := ⟨fun _ _ _ _ _ _ ⟨_, _, _, _, _, h⟩ => h.elim⟩
end Mi
namespace Mi
open PySem PySem.Spec PyProof.Rows L2
/-! ### enumerate(t) of a tuple -/
abbrev enum0 (it : Addr) : Obj := { cls := .type "enumerate", data := .fields #[.none, .bool false, .ref it, rawInt 0, .none, .none] }
theorem enum_new1 {v : Value} {o : Obj} {G : Heap → Prop} (B : Begins v o G) :
    Meets (Builtin.«enumerate.__new__» ⟨[.type "enumerate", v], []⟩) (fun _ R c => G c.heap ∧ R (.ok (.ret (.ref (c.heap.push o).objs.size))) { c with heap := (c.heap.push o).push (enum0 c.heap.objs.size) }) := .of_wp fun P w A R c ⟨g, r⟩ => by
  obtain ⟨hp, gs, dr, tk, os⟩ := c
  have f1 := sub_enumerate
  have go : ∀ {A' : Around} {E : Value → Shared → Prop} {Q : Value → Shared → Prop}, Q (.ref hp.objs.size) ⟨hp.push o, gs, dr, tk, os⟩ → wpAny (model P w) A' (pyIter v) Q E ⟨hp, gs, dr, tk, os⟩ := fun q => B.iter P w _ _ ⟨hp, gs, dr, tk, os⟩ _ g q
  wp_walk using go
  refine wpAny_stack_any fun st => wpAny_pure ?_
  split
  next c _ _ _ _ _ => cases (c == Value.type "enumerate") <;> (wp_walk using go; exact ⟨_, rfl, r⟩)
  next => wp_walk using go; exact ⟨_, rfl, r⟩
theorem call_enum1 {P : Program} {w : World} {A : Around} {E : Value → Shared → Prop} {c : Shared} {v : Value} {o : Obj} {G : Heap → Prop} {Q : Value → Shared → Prop} (B : Begins v o G) (g : G c.heap)
    (k : ∀ h', IsEnum h' (c.heap.objs.size + 1) c.heap.objs.size 0 .none → h'.get? c.heap.objs.size = some o → h'.objs.size = c.heap.objs.size + 2 → (∀ b ob, c.heap.get? b = some ob → h'.get? b = some ob) → Q (.ref (c.heap.objs.size + 1)) { c with heap := h' }) :
    wpAny (model P w) A (call (.type "enumerate") [v]) Q E c := by
  have z1 : (c.heap.push o).objs.size = c.heap.objs.size + 1 := Heap.size_push ..
  have en : IsEnum ((c.heap.push o).push (enum0 c.heap.objs.size)) (c.heap.objs.size + 1) c.heap.objs.size 0 .none := by
    rw [← z1]
    exact Heap.get?_push_size (c.heap.push o) rfl
  refine callType_new F.called_enumerate (by decide) (F.typeCall_enumerate_1 _) (F.newCall_enumerate_1 _) (fun obj => F.args_object_init_2 obj _) F.entry_enumerate_new (enum_new1 B) ⟨g, ?_⟩
  rw [z1]
  exact ⟨⟨_, en, rfl⟩, k _ en (Heap.get?_push_of_some _ (Heap.get?_push_size _ B.free)) (by rw [Heap.size_push, z1]) fun b ob x => Heap.get?_push_of_some _ (Heap.get?_push_of_some _ x)⟩
/-- the tuple at a as it stands at each turn, its items numbered in new pairs -/
def IteT (K : PySem.W.Frag) (a : Addr) : It where
  go i H := ∃ (xs : List V) (x : V), SqT K H a xs ∧ xs[i]? = some x
  yld i H v H' := ∃ T x, v = .ref T ∧ H T = none ∧ H' = upd H T (.tup [.int (i : Nat), x]) ∧ ∀ xs, SqT K H a xs → xs[i]? = some x
  stop i H := ∃ xs : List V, SqT K H a xs ∧ xs.length = i
theorem in2 {b e it : Addr} (h : b ∈ [e, it]) : b = e ∨ b = it := by simpa using h
theorem turn_enumT {P : Program} {w : World} {K : PySem.W.Frag} {elts : List Expr} {kk : Nat} {tpos : Pos} (a e it : Addr) :
    Turn P w K (.Tuple elts kk tpos) (IteT K a) [e, it] e (fun i h => (∃ old, IsEnum h e it ((i : Nat) : Int) old) ∧ h.IsTupleIter it a i ∧ e ≠ it ∧ a ≠ it ∧ e ≠ a) where
  mem := List.mem_cons_self ..
  obj i h := fun ⟨⟨old, en⟩, ⟨o, g, _, d⟩, _⟩ b hb => by
    rcases in2 hb with rfl | rfl
    · exact ⟨_, en, fun v q => nomatch q⟩
    · exact ⟨o, g, fun v q => by rw [d] at q; cases q⟩
  keep i h h' := fun ⟨⟨old, en⟩, ti, ap⟩ k => ⟨⟨old, k e (by simp) _ en⟩, ti.at fun o q => k it (by simp) o q, ap⟩
  item := by
    intro X hP hw hK hc i pins s σ H E I apart ⟨⟨old, en⟩, ti, n1, n2, n3⟩ ⟨xs, x, hq, hx⟩
    subst hP hw hK
    obtain ⟨its, rv, tp, _⟩ := I.tuple hq
    obtain ⟨u, hu, ru⟩ := rv.get hx
    have le : e < s.heap.objs.size := Heap.lt_size en
    have lt : it < s.heap.objs.size := by obtain ⟨_, g, _⟩ := ti; exact Heap.lt_size g
    have li : i < its.toArray.size := by rw [List.size_toArray]; exact (List.getElem?_eq_some_iff.1 hu).1
    refine wpAny_pyNext_enum_itemC (Draws.tuple (A := X.A.in1) (by simp [I.ok.hd hc]) it a n2 its.toArray) en ⟨ti, tp⟩ li n1 (by simp [n1, n3]) fun y h1 tk hy out st new size keep => ?_
    obtain rfl : y = u := by simpa [hu] using hy.symm
    refine ⟨_, rfl, wpAny_letOwnedTupleGo_enum (s := { s with heap := h1, toks := tk + 1 }) out fun h2 en2 same => ?_⟩
    have new2 : h2.get? s.heap.objs.size = some { cls := .type "tuple", data := .seq #[.int i tk, y] } := (same.2 _ (Nat.ne_of_gt le)).trans new
    have fine : ObjOk X.prog X.w (upd H s.heap.objs.size (.tup [.int (i : Nat), x])) h2 s.heap.objs.size (.tup [.int (i : Nat), x]) := ⟨by show 2 ≤ sizeLine; decide, [.int i tk, y], .cons ⟨_, rfl⟩ (.cons ru .nil), ⟨_, new2, rfl, _, rfl⟩⟩
    have I2 : Inv X pins σ (upd H s.heap.objs.size (.tup [.int (i : Nat), x])) { s with heap := h2, toks := tk + 1 } := I.turnedNew (ch := [e, it]) (fun b ob hb q => (same.2 b (fun z => hb (by simp [z]))).trans (keep b ob (fun z => hb (by simp [z])) (fun z => hb (by simp [z])) q)) apart (Nat.le_refl _) fine
    refine ⟨.ref s.heap.objs.size, _, I2, rfl, ⟨_, x, rfl, I.hok.fresh (Nat.le_refl _), rfl, fun ys hy => by rw [I.tuple_inj hy hq]; exact hx⟩, ⟨⟨y, ?_⟩, st.1.at fun o q => (same.2 it (Ne.symm n1)).trans q, n1, n2, n3⟩, fun b hb => ?_⟩
    · rw [show ((i + 1 : Nat) : Int) = (i : Int) + 1 by omega]
      exact en2
    · rw [upd_ne (Nat.ne_of_lt (by rcases in2 hb with rfl | rfl <;> assumption))]
      exact (apart b hb).1
  done := by
    intro X hP hw hK hc i pins s σ H E I apart ⟨⟨old, en⟩, ti, n1, n2, n3⟩ ⟨xs, hq, hx⟩
    subst hP hw hK
    obtain ⟨its, rv, tp, _⟩ := I.tuple hq
    subst hx
    obtain ⟨f0, f1, _, f3, f4, f5⟩ := apart it (by simp)
    have sz : its.toArray.size = xs.length := by rw [List.size_toArray, rv.length]
    exact wpAny_pyNext_enum_endD (Draws.tuple (A := X.A.in1) (by simp [I.ok.hd hc]) it a n2 its.toArray) en ⟨sz ▸ ti, tp⟩ fun h' eb => ⟨rfl, I.turned (t' := s.toks) (fun b o hb q => eb b o hb q) f0 f1 f3 f4 f5⟩
  self A i s Q E := fun ⟨⟨_, en⟩, _⟩ h => wpAny_pyIter_enum en h
section
variable {X : Cx} {E : EK} {e : Expr} {ta : TA} {p pos tpos : Pos} {elts : List Expr} {kk : Nat} {m : Env → M (List D)}
def iEnumT (K : PySem.W.Frag) (ta : TA) : TI := fun σ H R => ta σ H fun vs H1 => ∃ a xs, vs = [.ref a] ∧ SqT K H1 a xs ∧ R (IteT K a) H1
theorem pi_enumT (hg : Gl X "enumerate") (hm : X.mg "enumerate" = none) (ha : PA X [e] ta) (hs : starEach [e] X.env = [(false, eval e X.env)] := by rfl) : PI X (.Tuple elts kk tpos) (.Call (.Name "enumerate" p) [e] [] pos) (iEnumT X.K ta) := ⟨fun pins s σ H R I h => by
  refine Call_ (ld_blt I hg hm boot_enumerate (PyProof.Rows.callWith_type1 (thn (ha.run pos pins s σ H _ I h) fun us c ⟨vs, H1, I1, r1, a, xs, ex, hq, q⟩ => ?_) hs rfl))
  subst ex
  rw [Vals.ref1 r1]
  obtain ⟨its, rv, tp, _⟩ := I1.tuple hq
  have la : a < c.heap.objs.size := by obtain ⟨o, g, _⟩ := tp; exact Heap.lt_size g
  refine call_enum1 (begins_tuple a its.toArray) tp fun h' en it0 size keep => wpAny_pyIter_enum en ?_
  refine ⟨c.heap.objs.size + 1, [c.heap.objs.size + 1, c.heap.objs.size], _, _, H1, rfl, I1.kept (h' := h') (t' := c.toks) keep, turn_enumT a (c.heap.objs.size + 1) c.heap.objs.size, ⟨⟨.none, en⟩, ⟨_, it0, rfl, rfl⟩, Nat.succ_ne_self _, Nat.ne_of_lt la, (Nat.ne_of_lt (Nat.lt_succ_of_lt la)).symm⟩, fun b hb => ?_, q⟩
  have le : c.heap.objs.size ≤ b := by rcases in2 hb with rfl | rfl <;> omega
  exact I1.fpOk le (I1.hok.fresh le)⟩
end
end Mi
namespace Mi
open PySem PySem.Spec PyProof.Rows L2
/-! ### for i, x in enumerate(xs) -/
def numD : Nat → List D → List D
  | _, [] => []
  | k, d :: ds => pairD (.int (k : Int)) d :: numD (k + 1) ds
theorem numD_len : ∀ (k : Nat) (ds : List D), (numD k ds).length = ds.length
  | _, [] => rfl
  | k, d :: ds => by simp [numD, numD_len (k + 1) ds]
theorem numD_at : ∀ (k i : Nat) (ds : List D) (d : D), ds[i]? = some d → (numD k ds)[i]? = some (pairD (.int ((k + i : Nat) : Int)) d)
  | _, _, [], _, h => by simp at h
  | k, 0, x :: ds, d, h => by simp at h; subst h; rfl
  | k, i + 1, x :: ds, d, h => by
    rw [List.getElem?_cons_succ] at h
    have := numD_at (k + 1) i ds d h
    rw [show k + (i + 1) = k + 1 + i by omega]
    exact this
def enumOf : List D → M (List D)
  | [.tup ds] => M.pure (numD 0 ds)
  | [d] => match frzL d with
    | some ds => M.pure (numD 0 ds)
    | none => bad
  | _ => bad
theorem walk_enumT {K : PySem.W.Frag} {a : Addr} {xs : List V} : Walk (IteT K a) xs.length (fun H => SqT K H a xs) (YPair (fun i => some (.int (i : Nat))) (fun i => xs[i]?)) where
  goes i H hi q := ⟨xs, xs[i]'hi, q, List.getElem?_eq_getElem _⟩
  stops H q := ⟨xs, q, rfl⟩
  yields i H v H' _ q := fun ⟨T, x, e1, e2, e3, ex⟩ => ⟨T, .int (i : Nat), x, e1, e2, e3, rfl, ex _ q⟩
theorem ym_num {K : PySem.W.Frag} {w : Wd} {xs : List V} {ds : List D} (r : RvL K w xs ds) : YM K w (numD 0 ds) (YPair (fun i => some (.int (i : Nat))) (fun i => xs[i]?)) := fun i H x H' w2 S2 l2 s2 hi y => by
  obtain ⟨T, u, v, rfl, hT, rfl, e1, e2⟩ := y
  obtain ⟨d2, hd2, rd2⟩ := (r.mono l2).getV e2
  cases e1
  have at' := numD_at 0 i ds d2 hd2
  rw [Nat.zero_add] at at'
  refine ⟨w2.lay T (.tup [.int (i : Nat), v]), _, s2.le_lay hT, s2.lay hT, at', .tup (.of (by show upd w2.G T _ T = _; rw [upd_same])) ((RvL.cons (.int _) (.cons rd2 .nil)).mono (s2.le_lay hT)), fun p o hp => ?_⟩
  have hne : p ≠ T := by rintro rfl; rw [hT] at hp; cases hp
  refine ⟨by rw [upd_ne hne]; exact hp, fun ho => ⟨?_, ho.f, ho.a⟩⟩
  show upd w2.G T _ p = none
  rw [upd_ne hne]
  exact ho.g
section
variable {X : Cx} {E : EK} {e : Expr} {ma : Env → M (List D)} {elts : List Expr} {kk : Nat} {tpos p pos : Pos}
def iEnu (m : Env → M (List D)) : Env → M (List D) := fun ρ => M.bind (m ρ) enumOf
def isT1 : List D → Bool
  | [.tup _] => true
  | _ => false
theorem tMa_cases {σ : L2.St} {H : Hp} {w : Wd} {S : Sto} {ρ : Env} {P : Wd → Sto → Hp → List D → Prop} (hs : Rs X.K w S H) (hn : Rn X.K w σ ρ) (h : Fin X.K E w (ma ρ S) P) {R R2 : List V → Hp → Prop}
    (q : List D → Bool) (k1 : ∀ w1 S1 H1 ds vs, q ds = true → Le w w1 → Rs X.K w1 S1 H1 → P w1 S1 H1 ds → RvL X.K w1 vs ds → R vs H1) (k2 : ∀ w1 S1 H1 ds vs, q ds = false → Le w w1 → Rs X.K w1 S1 H1 → P w1 S1 H1 ds → RvL X.K w1 vs ds → R2 vs H1) :
    tMa X.K E ma σ H R ∨ tMa X.K E ma σ H R2 := by
  rcases hm : ma ρ S with _ | ⟨x | d, S1⟩
  · rw [hm] at h; exact h.elim
  · exact .inl ⟨w, S, ρ, hs, hn, by rw [hm] at h ⊢; exact h⟩
  · rcases hp : q d with _ | _
    · exact .inr ⟨w, S, ρ, hs, hn, by rw [hm] at h ⊢; exact fun w1 H1 l1 s1 vs rv => k2 _ _ _ _ _ hp l1 s1 (h w1 H1 l1 s1) rv⟩
    · exact .inl ⟨w, S, ρ, hs, hn, by rw [hm] at h ⊢; exact fun w1 H1 l1 s1 vs rv => k1 _ _ _ _ _ hp l1 s1 (h w1 H1 l1 s1) rv⟩
theorem mi_enum (hg : Gl X "enumerate") (hm : X.mg "enumerate" = none) (ha : PA X [e] (tMa X.K E ma)) (hs : starEach [e] X.env = [(false, eval e X.env)] := by rfl) :
    PI X (.Tuple elts kk tpos) (.Call (.Name "enumerate" p) [e] [] pos) (tMi X.K E (iEnu ma)) :=
  pi_imp (pi_or (pi_enumT hg hm ha hs) (pi_enum hg hm ha hs)) fun σ H R ⟨w, S, ρ, hs, hn, h⟩ => tMa_cases hs hn h.bind isT1
    (fun w1 S1 H1 xs vs hp l1 s1 q rv => by
      rcases xs with _ | ⟨x, _ | ⟨y, t⟩⟩
      · cases hp
      · cases x with
        | tup ds =>
          obtain ⟨v, rfl, r1⟩ := args1 rv
          obtain ⟨a, ys, rfl, ry, gy⟩ := tupG_go r1
          have q := Fin.ok (a := numD 0 ds) q s1
          exact ⟨a, ys, rfl, gy _ _ _ (Le.refl _) s1, q _ (fun H => SqT X.K H a ys) _ (by rw [numD_len, ← ry.length]; exact walk_enumT) (fun w2 S2 H2 l s => gy _ _ _ l s) (ym_num ry)⟩
        | _ => cases hp
      · cases x <;> cases hp)
    (fun w1 S1 H1 xs vs hp l1 s1 q rv => by
      rcases xs with _ | ⟨x, _ | ⟨y, t⟩⟩
      · exact q.elim
      · obtain ⟨v, rfl, r1⟩ := args1 rv
        rcases hx : frzL x with _ | ds
        · cases x with
          | tup ds => exact absurd hp (by simp [isT1])
          | lst ds => exact absurd hx (by simp [frzL])
          | lsr ds => exact absurd hx (by simp [frzL])
          | _ => exact q.elim
        · obtain ⟨a, ys, rfl, ry, gy⟩ := frz_go r1 hx
          have e2 : enumOf [x] S1 = some (.ok (numD 0 ds), S1) := by
            cases x with
            | lst es => cases hx; rfl
            | lsr es => cases hx; rfl
            | _ => cases hx
          rw [e2] at q
          have q := Fin.ok (a := numD 0 ds) q s1
          exact ⟨a, ys, rfl, gy _ _ _ (Le.refl _) s1, q _ (fun H => SqL X.K H a ys) _ (by rw [numD_len, ← ry.length]; exact walk_enum) (fun w2 S2 H2 l s => gy _ _ _ l s) (ym_num ry)⟩
      · cases x <;> exact q.elim)
end
end Mi
namespace Mi
open PySem PySem.Spec PyProof.Rows L2
/-! ### == of a thing that is no text and a text -/
/-- a dict's own == has no word of a text -/
theorem dict_declines (l : Addr) (es : Array DictEntry) (ep : Nat) (b : Str) (u : Tok) :
    Meets (Builtin.«dict.__eq__» ⟨[.ref l, .str b u], []⟩) (fun _ R s => s.heap.get? l = some { cls := .type "dict", data := .dict es ep } ∧ R (.ok (.ret .notImplemented)) s) := by
  refine .of_wp ?_
  intro P0 w0 B0 R0 t0 k0
  rcases t0 with ⟨x1, x2, x3, x4, x5⟩
  rcases k0 with ⟨at0, end0⟩
  have no : isSubtype (.type "str") (.type "dict") = pure false := F.sub_str_dict
  wp_walk using wpAny_loadPart' at0, wpAny_load at0
  exact ⟨_, rfl, end0⟩
/-- nor has a text's of a dict -/
theorem str_declines_dict (b : Str) (u : Tok) (l : Addr) (es : Array DictEntry) (ep : Nat) :
    Meets (Builtin.«str.__eq__» ⟨[.str b u, .ref l], []⟩) (fun _ R s => s.heap.get? l = some { cls := .type "dict", data := .dict es ep } ∧ R (.ok (.ret .notImplemented)) s) := by
  refine .of_wp ?_
  intro P0 w0 B0 R0 t0 k0
  rcases t0 with ⟨x1, x2, x3, x4, x5⟩
  rcases k0 with ⟨at0, end0⟩
  wp_walk using wpAny_loadPart' at0, wpAny_load at0
  exact ⟨_, rfl, end0⟩
section
variable {A : Around} {s : Shared}
theorem rc_dict_str {l : Addr} {es : Array DictEntry} {ep : Nat} (b : Str) (u : Tok) (ho : s.heap.get? l = some { cls := .type "dict", data := .dict es ep }) (hu : A.units < cLine) : SeqAt.RcAt A s (.ref l) (.str b u) false := by
  intro P0 w0 E0 Q0 q0
  have dt : s.TypeIs (.ref l) "dict" := ⟨_, ho, rfl⟩
  have st : s.TypeIs (.str b u) "str" := typeIs_str s b u
  refine SeqAt.rc_eq_decline_or dt st (by decide) F.sub_str_dict F.slot_dict_eq F.slot_str_eq_refl ?_ ?_ ?_ (.inr hu) q0
  · exact fun _ k => call_meets F.slot_dict_eq dt F.entry_dict_eq (F.args_dict_eq_2 _ _) (dict_declines l es ep b u) ⟨ho, k⟩
  · exact fun _ k => call_meets F.slot_str_eq_refl st F.entry_str_eq (F.args_str_eq_2 _ _) (str_declines_dict b u l es ep) ⟨ho, k⟩
  · intro _ k
    have other : isSame (.ref l) (.str b u) = pure false := rfl
    exact wpAny_of_eq other k
end
section
variable {X : Cx}
def rUnl (K : PySem.W.Frag) : R2 := fun x y H Q => ∃ a z, x = .ref a ∧ y = .str z ∧ ((∃ xs, SqT K H a xs) ∨ (∃ xs, SqL K H a xs) ∨ ∃ kvs, H a = some (.dK kvs)) ∧ Q (.bl false) H
theorem op_eqUnl (hu : X.A.units < cLine) : OpR X (compareOp .Eq) (rUnl X.K) := fun pins s σ H x y v u Q I rx ry ⟨a, z, e1, e2, h, q⟩ => by
  subst e1 e2
  cases rx
  obtain ⟨t, rfl⟩ := ry
  rcases h with ⟨xs, h⟩ | ⟨xs, h⟩ | ⟨kvs, h⟩
  · obtain ⟨its, rv, p, _⟩ := I.tuple h
    exact SeqAt.RcAt.tuple_str z t p hu _ _ _ _ ⟨.bl false, H, I, rfl, q⟩
  · obtain ⟨its, rv, p, _⟩ := I.list h
    exact SeqAt.RcAt.list_str z t p.isList hu _ _ _ _ ⟨.bl false, H, I, rfl, q⟩
  · obtain ⟨_, ya, va, ra, da⟩ := (show ObjOk X.prog X.w H s.heap a (.dK kvs) from I.hok a _ h)
    obtain ⟨⟨cls, dd, data, sl⟩, es, ep, ho, ⟨c1, c2, c3⟩, hd, _⟩ := da
    simp only at c1 c2 c3 hd
    subst c1 c2 c3 hd
    exact rc_dict_str z t ho hu _ _ _ _ ⟨.bl false, H, I, rfl, q⟩
def rNeT0 (K : PySem.W.Frag) : R2 := fun x y H Q => ∃ a b xs, x = .ref a ∧ y = .ref b ∧ SqT K H a xs ∧ SqT K H b [] ∧ Q (.bl (!xs.isEmpty)) H
theorem op_neT0 (hu : X.A.units < cLine) : OpR X (compareOp .NotEq) (rNeT0 X.K) := fun pins s σ H x y v u Q I rx ry ⟨a, b, xs, e1, e2, h1, h2, q⟩ => by
  subst e1 e2
  cases rx
  cases ry
  obtain ⟨its, r1, p1, _⟩ := I.tuple h1
  obtain ⟨its2, r2, p2, _⟩ := I.tuple h2
  cases r2
  have e := SeqAt.RcNeAt.tuples (A := X.A) (e := fun _ => true) p1 p2 hu (fun j _ h => by simp at h)
  have e3 : (!((List.range (min its.toArray.size ([] : List Value).toArray.size)).all (fun _ => true) && its.toArray.size == ([] : List Value).toArray.size)) = !xs.isEmpty := by
    have := r1.length
    cases xs with
    | nil => cases r1; simp
    | cons x xs => cases r1; simp
  rw [e3] at e
  exact e _ _ _ _ ⟨.bl _, H, I, rfl, q⟩
end
/-- no text against a text -/
def unl : D → D → Bool
  | .tup _, .str _ => true
  | .lst _, .str _ => true
  | .lsr _, .str _ => true
  | .dct _, .str _ => true
  | _, _ => false
def eqX (x y : D) : M D := if unl x y = true then M.pure (.bl false) else eqM x y
theorem eqX_ok {K : PySem.W.Frag} : OpM K (fun x y H Q => rUnl K x y H Q ∨ rEqU K x y H Q) eqX := fun E w S H v u x y Q hs rv ru h => by
  by_cases hx : unl x y = true
  · unfold eqX at h
    rw [if_pos hx] at h
    have q : Q (.bl false) H := Fin.ok (P := fun w' _ H' d => ∀ z, Rv K w' z d → Q z H') h hs _ (.bl _)
    cases rv with
    | tup hG r => cases ru <;> first | (cases hx; done) | exact .inl ⟨_, _, rfl, rfl, .inl ⟨_, sqT_up hG (Le.refl w) hs⟩, q⟩
    | lst hG r => cases ru <;> first | (cases hx; done) | exact .inl ⟨_, _, rfl, rfl, .inr (.inl ⟨_, sqL_up (.of hG) (Le.refl w) hs⟩), q⟩
    | lsr hG r => cases ru <;> first | (cases hx; done) | exact .inl ⟨_, _, rfl, rfl, .inr (.inl ⟨_, sqL_up hG (Le.refl w) hs⟩), q⟩
    | dct hG r => cases ru <;> first | (cases hx; done) | exact .inl ⟨_, _, rfl, rfl, .inr (.inr ⟨_, hs.g _ _ hG⟩), q⟩
    | _ => cases hx
  · unfold eqX at h
    rw [if_neg hx] at h
    exact .inr (eqM_ok E w S H v u x y Q hs rv ru h)
theorem op_eqX {X : Cx} (hu : X.A.units + 64 < cLine) : OpR X (compareOp .Eq) (fun x y H Q => rUnl X.K x y H Q ∨ rEqU X.K x y H Q) := OpR.or (op_eqUnl (by omega)) (op_eqU hu)
def tup0 : D → D → Option Bool
  | .tup ds, .tup [] => some (!ds.isEmpty)
  | _, _ => none
def neX (x y : D) : M D := match tup0 x y with
  | some b => M.pure (.bl b)
  | none => neM x y
theorem neX_ok {K : PySem.W.Frag} : OpM K (fun x y H Q => rNeT0 K x y H Q ∨ rNeU K x y H Q) neX := fun E w S H v u x y Q hs rv ru h => by
  rcases hx : tup0 x y with _ | b
  · unfold neX at h
    rw [hx] at h
    exact .inr (neM_ok E w S H v u x y Q hs rv ru h)
  · unfold neX at h
    rw [hx] at h
    cases rv with
    | tup hG r =>
      cases ru with
      | tup hG2 r2 =>
        rename_i ds _ _ ds2
        cases ds2 with
        | nil =>
          cases hx
          cases r2
          have e : ∀ {vs : List V} {es : List D}, RvL K w vs es → vs.isEmpty = es.isEmpty := fun r => by cases r <;> rfl
          exact .inl ⟨_, _, _, rfl, rfl, sqT_up hG (Le.refl w) hs, sqT_up hG2 (Le.refl w) hs, by rw [e r]; exact Fin.ok (P := fun w' _ H' d => ∀ z, Rv K w' z d → Q z H') h hs _ (.bl _)⟩
        | cons _ _ => cases hx
      | _ => cases hx
    | _ => cases hx
theorem op_neX {X : Cx} (hu : X.A.units + 64 < cLine) : OpR X (compareOp .NotEq) (fun x y H Q => rNeT0 X.K x y H Q ∨ rNeU X.K x y H Q) := OpR.or (op_neT0 (by omega)) (op_neU hu)
end Mi
namespace Mi
open PySem PySem.Spec PyProof.Rows L2
/-! ### a dict of the module, its keys texts: x in T, x not in T, T[x] -/
structure KTab (K : PySem.W.Frag) (w : World) (d : Addr) (tbl : List (Str × D)) : Prop where
  kd : ∃ es n, KDict K w d es n
  has : ∀ z, (tbl.lookup z = none ∧ PySem.W.nsIn K d z = some none) ∨ ∃ e u v, tbl.lookup z = some e ∧ PySem.W.nsIn K d z = some (some u) ∧ RelV v u ∧ ∀ wd, Rv K wd v e
def EntsAre (K : PySem.W.Frag) : List DictEntry → List (Str × D) → Prop
  | [], [] => True
  | e :: es, (x, d) :: tbl => (∃ t, e.key = .str x t) ∧ (∃ v, RelV v e.val ∧ ∀ wd, Rv K wd v d) ∧ EntsAre K es tbl
  | _, _ => False
theorem ents_find {K : PySem.W.Frag} (z : Str) : ∀ {es : List DictEntry} {tbl : List (Str × D)}, EntsAre K es tbl →
    (tbl.lookup z = none ∧ es.find? (fun e => e.key.isStr z) = none ∧ es.any (fun e => e.refKey) = false) ∨
      ∃ e u v, tbl.lookup z = some e ∧ es.find? (fun e => e.key.isStr z) = some u ∧ RelV v u.val ∧ ∀ wd, Rv K wd v e
  | [], [], _ => .inl ⟨rfl, rfl, rfl⟩
  | e :: es, (x, d) :: tbl, ⟨⟨t, hk⟩, ⟨v, r, g⟩, more⟩ => by
    by_cases hz : x = z
    · subst hz
      refine .inr ⟨d, e, v, ?_, ?_, r, g⟩
      · simp [List.lookup]
      · simp [List.find?, hk, Value.isStr]
    · have h1 : (z == x) = false := beq_eq_false_iff_ne.2 fun h => hz h.symm
      have h2 : (x == z) = false := beq_eq_false_iff_ne.2 hz
      have h3 : e.key.isStr z = false := by rw [hk]; exact h2
      have h4 : e.refKey = false := by
        unfold DictEntry.refKey
        rw [hk]
      rcases ents_find z more with ⟨a, b, c⟩ | ⟨e2, u, v2, a, b, c, k⟩
      · exact .inl ⟨by simp [List.lookup, h1, a], by simp [List.find?, h3, b], by simp [h4, c]⟩
      · exact .inr ⟨e2, u, v2, by simp [List.lookup, h1, a], by simp [List.find?, h3, b], c, k⟩
  | [], _ :: _, h => h.elim
  | _ :: _, [], h => h.elim
theorem ktab_of {K : PySem.W.Frag} {w : World} {d : Addr} {es : Array DictEntry} {n : Nat} {tbl : List (Str × D)} (D : KDict K w d es n) (h : EntsAre K es.toList tbl) : KTab K w d tbl := by
  refine ⟨⟨es, n, D⟩, fun z => ?_⟩
  rcases ents_find z h with ⟨a, b, c⟩ | ⟨e, u, v, a, b, c, k⟩
  · refine .inl ⟨a, ?_⟩
    unfold PySem.W.nsIn
    rw [D.at_]
    simp only [b, c]
    rfl
  · refine .inr ⟨e, u.val, v, a, ?_, c, k⟩
    unfold PySem.W.nsIn
    rw [D.at_]
    simp only [b]
/-- a tuple of the module's texts -/
theorem rv_ktup {K : PySem.W.Frag} {a : Addr} {its : Array Value} {n : Nat} {o : Option Addr} {sl : Array (Option Value)} {ds : List D} (h : K.lookup a = some ⟨.type "tuple", o, .seq its n, sl⟩) (hl : its.size ≤ 1000)
    (hv : ∃ vs, Vals vs its.toList ∧ ∀ wd, RvL K wd vs ds) (wd : Wd) : Rv K wd (.ref a) (.tup ds) := by
  obtain ⟨vs, h1, h2⟩ := hv
  exact .tup (.inr ⟨_, _, _, h, rfl, rfl, Nat.le_trans hl (by decide), h1⟩) (h2 wd)
def kdIn (neg : Bool) (tbl : List (Str × D)) : D → M D
  | .str z => M.pure (.bl (if neg then !(tbl.lookup z).isSome else (tbl.lookup z).isSome))
  | _ => bad
def kdIx (tbl : List (Str × D)) : D → M D
  | .str z => match tbl.lookup z with
    | some d => M.pure d
    | none => bad
  | _ => bad
section
variable {X : Cx} {E : EK} {a : Expr} {m : Env → M D} {x : Str} {p pos : Pos} {tbl : List (Str × D)}
theorem kdIn_go {w : Wd} {S : Sto} {H : Hp} {v : V} {d : D} {neg : Bool} {c : Addr} {Q : VK} (T : KTab X.K X.w c tbl) (hs : Rs X.K w S H) (rv : Rv X.K w v d) (q : Fin X.K E w (kdIn neg tbl d S) fun w' _ H' d => ∀ v, Rv X.K w' v d → Q v H') :
    ∃ (z : Str) (r : Option Value), v = .str z ∧ PySem.W.nsIn X.K c z = some r ∧ Q (.bl (if neg then !r.isSome else r.isSome)) H := by
  cases d with
  | str z =>
    cases rv
    have q := Fin.ok (P := fun w' _ H' d => ∀ v, Rv X.K w' v d → Q v H') q hs _ (.bl _)
    rcases T.has z with ⟨e1, e2⟩ | ⟨e, u, v0, e1, e2, _, _⟩
    · rw [e1] at q
      exact ⟨z, _, rfl, e2, q⟩
    · rw [e1] at q
      exact ⟨z, _, rfl, e2, q⟩
  | _ => exact q.elim
theorem me_ninKd (hg : Gl X x) (hm : ∃ c, X.mg x = some (.ref c) ∧ KTab X.K X.w c tbl) (ha : PE X a (tM X.K E m)) (hd : (x == ("__debug__" : Str)) = false := by decide) :
    PE X (.Compare a [.NotIn] [.Name x p] pos) (tM X.K E (b1 (kdIn true tbl) m)) := by
  obtain ⟨c, hm, T⟩ := hm
  obtain ⟨es, n, D⟩ := T.kd
  refine pe_imp (pe_cmpR (op_notIn_kd D) ha (pe_glob (v := .ref c) hg hm rfl hd) (by rfl)) fun σ H Q ⟨w, S, ρ, hs, hn, h⟩ => ⟨w, S, ρ, hs, hn, h.bind.imp fun w1 S1 H1 d l1 s1 q v rv => ?_⟩
  obtain ⟨z, r, e1, e2, q⟩ := kdIn_go T s1 rv q
  exact ⟨z, r, e1, rfl, e2, q⟩
theorem mt_ninKd (hg : Gl X x) (hm : ∃ c, X.mg x = some (.ref c) ∧ KTab X.K X.w c tbl) (ha : PE X a (tM X.K E m)) (hd : (x == ("__debug__" : Str)) = false := by decide) :
    PT X (.Compare a [.NotIn] [.Name x p] pos) (tMt X.K E (tst (b1 (kdIn true tbl) m))) := by
  obtain ⟨c, hm, T⟩ := hm
  obtain ⟨es, n, D⟩ := T.kd
  refine pt_imp (pt_cmpR (op_notIn_kd D) ha (pe_glob (v := .ref c) hg hm rfl hd) (by rfl)) fun σ H Q ⟨w, S, ρ, hs, hn, h⟩ => ?_
  have h2 : Fin X.K E w (b1 (kdIn true tbl) m ρ S) fun w' _ H' d => ∀ v, Rv X.K w' v d → ∃ k, v = .bl k ∧ Q k H' := h.bind.imp fun w1 S1 H1 x l1 s1 h1 v rv => toB_go h1 s1 rv
  refine ⟨w, S, ρ, hs, hn, h2.bind.imp fun w1 S1 H1 d l1 s1 q v rv => ?_⟩
  obtain ⟨z, r, e1, e2, q⟩ := kdIn_go (Q := fun x H' => ∃ k, x = .bl k ∧ Q k H') T s1 rv q
  exact ⟨z, r, e1, rfl, e2, q⟩
theorem me_ixKd (hg : Gl X x) (hm : ∃ c, X.mg x = some (.ref c) ∧ KTab X.K X.w c tbl) (ha : PE X a (tM X.K E m)) (hs : PlainIx a) (hd : (x == ("__debug__" : Str)) = false := by decide) :
    PE X (.Subscript (.Name x p) a pos) (tM X.K E (b1 (kdIx tbl) m)) := by
  obtain ⟨c, hm, T⟩ := hm
  obtain ⟨es, n, D⟩ := T.kd
  refine pe_imp (pe_ix ix_kdict (pe_glob (v := .ref c) hg hm rfl hd) ha hs) fun σ H Q ⟨w, S, ρ, hs, hn, h⟩ => ⟨w, S, ρ, hs, hn, h.bind.imp fun w1 S1 H1 d l1 s1 q v rv => ?_⟩
  cases d with
  | str z =>
    cases rv
    rcases T.has z with ⟨e1, e2⟩ | ⟨e, u, v0, e1, e2, e3, e4⟩
    · simp only [kdIx, e1] at q
      exact q.elim
    · simp only [kdIx, e1] at q
      have q := Fin.ok (P := fun w' _ H' d => ∀ v, Rv X.K w' v d → Q v H') q s1 _ (e4 w1)
      exact ⟨c, z, v0, rfl, rfl, ⟨es, n, u, D.at_, D.lit, e2, e3⟩, q⟩
  | _ => exact q.elim
end
end Mi
namespace Mi
open PySem PySem.Spec PyProof.Rows L2
/-! ### a for over a list that is a cell: looked at anew at each turn, its length as it was -/
def loopC (n len : Nat) (g : D → Env → M Env) (body : Env → M (Fl × Env)) : Nat → Env → M (Fl × Env)
  | 0, ρ => fun S => match S[n]? with
    | some (.lst ds) => if ds.length = len then some (.ok (.nx, ρ), S) else none
    | none => none
  | k + 1, ρ => fun S => match S[n]? with
    | some (.lst ds) => if ds.length = len then (match ds[len - (k + 1)]? with
      | some d => (M.bind (g d ρ) fun ρ1 => M.bind (body ρ1) fun r => match r with
        | (.nx, ρ2) => loopC n len g body k ρ2
        | (.ct, ρ2) => loopC n len g body k ρ2
        | (.bk, ρ2) => M.pure (.nx, ρ2)
        | (.rt d, ρ2) => M.pure (.rt d, ρ2)) S
      | none => none) else none
    | none => none
def sForC (m : Env → M D) (g : D → Env → M Env) (body : Env → M (Fl × Env)) : Env → M (Fl × Env) := fun ρ => M.bind (m ρ) fun x S => match x with
  | .ref n => match S[n]? with
    | some (.lst ds) => loopC n ds.length g body ds.length ρ S
    | none => none
  | _ => none
section
variable {X : Cx} {E : EK} {tg l : Expr} {body : List Stmt} {pos : Pos} {m : Env → M D} {ms : Env → M (Fl × Env)} {g : D → Env → M Env}
theorem walkC {K : PySem.W.Frag} {a : Addr} {len : Nat} : Walk (Itl K a) len (fun H => ∃ xs, xs.length = len ∧ SqL K H a xs) (fun i H x H' => H' = H ∧ ∀ xs, SqL K H a xs → xs[i]? = some x) :=
  ⟨fun i _ hi ⟨xs, hl, q⟩ => ⟨xs, xs[i]'(by omega), q, by simp [hl, hi]⟩, fun _ ⟨xs, hl, q⟩ => ⟨xs, q, Nat.le_of_eq hl⟩, fun _ _ _ _ _ _ y => ⟨y.1, y.2⟩⟩
/-- what a turn knows of the cell -/
theorem loopC_len {E : EK} {K : PySem.W.Frag} {w : Wd} {n len k : Nat} {ρ : Env} {S : Sto} {P : Wd → Sto → Hp → Fl × Env → Prop} (h : Fin K E w (loopC n len g ms k ρ S) P) : ∃ ds, S[n]? = some (.lst ds) ∧ ds.length = len := by
  rcases hs : S[n]? with _ | ⟨⟨ds⟩⟩
  · cases k <;> simp only [loopC, hs] at h <;> exact h.elim
  · by_cases hl : ds.length = len
    · exact ⟨ds, rfl, hl⟩
    · cases k <;> simp only [loopC, hs, hl, if_false] at h <;> exact h.elim
theorem ms_forC (hp : PassesOwn (model X.prog X.w) X.A X.env X.xe) (hc : X.calm = true) (hl : PE X l (tM X.K E m)) (hg : PG X tg (gM X.K E g)) (hb : PSs X body (tMs X.K E ms)) (hfs : ∀ x, foldedSetIterable l X.env x = pure x := by intro _; rfl) :
    PS X (.For tg l body [] pos) (tMs X.K E (sForC m g ms)) := ps_imp (ps_for hp hc (pi_list hl) hg hb hfs) fun D σ H ⟨w, S, ρ, hs, hn, h⟩ => by
  refine ⟨w, S, ρ, hs, hn, h.bind.imp fun w1 S1 H1 x l1 s1 q v rv => ?_⟩
  cases x with
  | ref n =>
    cases rv with
    | ref hA =>
      rename_i a
      rcases hc1 : S1[n]? with _ | ⟨⟨ds⟩⟩
      · simp only [hc1] at q; exact q.elim
      · simp only [hc1] at q
        obtain ⟨xs, hx, rx⟩ := s1.cell n a _ hA hc1
        refine ⟨a, rfl, ⟨xs, .inl (.inl hx)⟩, ?_⟩
        have hAt : ∀ w', Le w1 w' → w'.A[n]? = some a := fun w' l => by
          obtain ⟨more, e⟩ := l.a
          rw [e, List.getElem?_append_left (by exact (List.getElem?_eq_some_iff.1 hA).1)]
          exact hA
        refine for_it (walkC (K := X.K) (a := a) (len := ds.length)) (fun i σ' H' => ∃ w' S' ρ', Le w1 w' ∧ Rs X.K w' S' H' ∧ Rn X.K w' σ' ρ' ∧ Fin X.K E w' (loopC n ds.length g ms (ds.length - i) ρ' S') (Land X.K D)) ⟨w1, S1, ρ, Le.refl w1, s1, hn.mono l1, q⟩
          (fun i σ' H' _ ⟨w', S', ρ', l, s, _, q'⟩ => ?_) (fun i x σ' H2 H3 hi ⟨w', S', ρ', l, s, nn, q'⟩ y => ?_) (fun σ' H' p => ?_)
        · obtain ⟨es, he, hel⟩ := loopC_len q'
          obtain ⟨ys, h1, h2⟩ := s.cell n a _ (hAt w' l) he
          exact ⟨ys, by rw [h2.length]; exact hel, .inl (.inl h1)⟩
        · obtain ⟨es, he, hel⟩ := loopC_len q'
          obtain ⟨ys, h1, h2⟩ := s.cell n a _ (hAt w' l) he
          obtain ⟨rfl, y2⟩ := y
          have hx2 := y2 ys (.inl (.inl h1))
          obtain ⟨d, hd, rd⟩ := h2.getV hx2
          have ek : ds.length - i = (ds.length - (i + 1)) + 1 := by omega
          rw [ek] at q'
          have ei : ds.length - ((ds.length - (i + 1)) + 1) = i := by omega
          simp only [loopC, he, hel, if_true, ei, hd] at q'
          refine ⟨w', S', ρ', d, s, nn, rd, (Fin.bind q').imp fun w4 S4 H4 ρ1 l4 s4 q4 σ4 n4 => ⟨w4, S4, ρ1, s4, n4, q4.bind.imp fun w5 S5 H5 r l5 s5 q5 => ?_⟩⟩
          have ll : Le w1 w5 := l.trans (l4.trans l5)
          obtain ⟨fl, ρ2⟩ := r
          cases fl with
          | nx => exact fun σ5 n5 => ⟨w5, S5, ρ2, ll, s5, n5, q5⟩
          | ct => exact fun σ5 n5 => ⟨w5, S5, ρ2, ll, s5, n5, q5⟩
          | bk => exact fun σ5 n5 => Fin.ok q5 s5 σ5 n5
          | rt d => exact fun v rv => Fin.ok q5 s5 v rv
        · obtain ⟨w', S', ρ', l, s, nn, q'⟩ := p
          obtain ⟨es, he, hel⟩ := loopC_len q'
          rw [Nat.sub_self] at q'
          simp only [loopC, he, hel, if_true] at q'
          exact Fin.ok q' s σ' nn
  | _ => exact q.elim
end
end Mi
namespace Mi
open PySem PySem.Spec PyProof.Rows L2
/-! ### == of a tuple and the empty one -/
def rEqT0 (K : PySem.W.Frag) : R2 := fun x y H Q => ∃ a b xs, x = .ref a ∧ y = .ref b ∧ SqT K H a xs ∧ SqT K H b [] ∧ Q (.bl xs.isEmpty) H
theorem op_eqT0 {X : Cx} (hu : X.A.units < cLine) : OpR X (compareOp .Eq) (rEqT0 X.K) := fun pins s σ H x y v u Q I rx ry ⟨a, b, xs, e1, e2, h1, h2, q⟩ => by
  subst e1 e2
  cases rx
  cases ry
  obtain ⟨its, r1, p1, _⟩ := I.tuple h1
  obtain ⟨its2, r2, p2, _⟩ := I.tuple h2
  cases r2
  have e := SeqAt.RcAt.tuples (A := X.A) (e := fun _ => true) p1 p2 hu (fun j _ h => by simp at h)
  have e3 : ((List.range (min its.toArray.size ([] : List Value).toArray.size)).all (fun _ => true) && its.toArray.size == ([] : List Value).toArray.size) = xs.isEmpty := by
    cases xs with
    | nil => cases r1; simp
    | cons x xs => cases r1; simp
  rw [e3] at e
  exact e _ _ _ _ ⟨.bl _, H, I, rfl, q⟩
def eqY (x y : D) : M D := match tup0 x y with
  | some b => M.pure (.bl (!b))
  | none => eqX x y
theorem eqY_ok {K : PySem.W.Frag} : OpM K (fun x y H Q => rEqT0 K x y H Q ∨ rUnl K x y H Q ∨ rEqU K x y H Q) eqY := fun E w S H v u x y Q hs rv ru h => by
  rcases hx : tup0 x y with _ | b
  · unfold eqY at h
    rw [hx] at h
    exact .inr (eqX_ok E w S H v u x y Q hs rv ru h)
  · unfold eqY at h
    rw [hx] at h
    cases rv with
    | tup hG r =>
      cases ru with
      | tup hG2 r2 =>
        rename_i ds _ _ ds2
        cases ds2 with
        | nil =>
          cases hx
          cases r2
          have e : ∀ {vs : List V} {es : List D}, RvL K w vs es → vs.isEmpty = es.isEmpty := fun r => by cases r <;> rfl
          have q := Fin.ok (P := fun w' _ H' d => ∀ z, Rv K w' z d → Q z H') h hs _ (.bl _)
          rw [Bool.not_not] at q
          exact .inl ⟨_, _, _, rfl, rfl, sqT_up hG (Le.refl w) hs, sqT_up hG2 (Le.refl w) hs, by rw [e r]; exact q⟩
        | cons _ _ => cases hx
      | _ => cases hx
    | _ => cases hx
theorem op_eqY {X : Cx} (hu : X.A.units + 64 < cLine) : OpR X (compareOp .Eq) (fun x y H Q => rEqT0 X.K x y H Q ∨ rUnl X.K x y H Q ∨ rEqU X.K x y H Q) := OpR.or (op_eqT0 (by omega)) (op_eqX hu)
end Mi
namespace Mi
open PySem PySem.Spec PyProof.Rows L2
/-! ### a def taken out of a dict of the module, and called: g = T[x]; return g(..) -/
structure FTab (K : PySem.W.Frag) (w : World) (mg : Str → Option Value) (d : Addr) (tbl : List (Str × Str)) : Prop where
  kd : ∃ es n, KDict K w d es n
  has : ∀ z x, tbl.lookup z = some x → ∃ fa, PySem.W.nsIn K d z = some (some (.ref fa)) ∧ mg x = some (.ref fa)
def FEnts (mg : Str → Option Value) : List DictEntry → List (Str × Str) → Prop
  | [], [] => True
  | e :: es, (z, x) :: tbl => (∃ t, e.key = .str z t) ∧ (∃ fa, e.val = .ref fa ∧ mg x = some (.ref fa)) ∧ FEnts mg es tbl
  | _, _ => False
theorem fents_find {mg : Str → Option Value} {z x : Str} : ∀ {es : List DictEntry} {tbl : List (Str × Str)}, FEnts mg es tbl → tbl.lookup z = some x →
    ∃ u fa, es.find? (fun e => e.key.isStr z) = some u ∧ u.val = .ref fa ∧ mg x = some (.ref fa)
  | [], [], _, h => by cases h
  | e :: es, (y, d) :: tbl, ⟨⟨t, hk⟩, ⟨fa, hv, hm⟩, more⟩, h => by
    by_cases hz : y = z
    · subst hz
      have hd : d = x := by simpa [List.lookup] using h
      subst hd
      exact ⟨e, fa, by simp [List.find?, hk, Value.isStr], hv, hm⟩
    · have h1 : (z == y) = false := beq_eq_false_iff_ne.2 fun h => hz h.symm
      have h2 : (y == z) = false := beq_eq_false_iff_ne.2 hz
      have h3 : e.key.isStr z = false := by rw [hk]; exact h2
      obtain ⟨u, fa2, a, b, c⟩ := fents_find (z := z) (x := x) more (by simpa [List.lookup, h1] using h)
      exact ⟨u, fa2, by simp [List.find?, h3, a], b, c⟩
  | [], _ :: _, h, _ => h.elim
  | _ :: _, [], h, _ => h.elim
theorem ftab_of {K : PySem.W.Frag} {w : World} {mg : Str → Option Value} {d : Addr} {es : Array DictEntry} {n : Nat} {tbl : List (Str × Str)} (D : KDict K w d es n) (h : FEnts mg es.toList tbl) : FTab K w mg d tbl :=
  ⟨⟨es, n, D⟩, fun z x hx => by
    obtain ⟨u, fa, a, b, c⟩ := fents_find h hx
    refine ⟨fa, ?_, c⟩
    unfold PySem.W.nsIn
    rw [D.at_]
    simp only [a, b]⟩
inductive OkTab (P : Program) (w : World) (K : PySem.W.Frag) (mg : Str → Option Value) (base : Heap) (k n : Nat) : List (Str × Str) → List (Str × (List D → M D)) → Prop
  | nil : OkTab P w K mg base k n [] []
  | cons {z x : Str} {st : Stmt} {ps : List Str} {f : List D → M D} {k' : Nat} {t : List (Str × Str)} {fs : List (Str × (List D → M D))}
      (O : OkAt P w K mg base k' x st ps f) (hk : k' ≤ k) (hn : ps.length = n) (r : OkTab P w K mg base k n t fs) : OkTab P w K mg base k n ((z, x) :: t) ((z, f) :: fs)
theorem OkTab.at' {P : Program} {w : World} {K : PySem.W.Frag} {mg : Str → Option Value} {base : Heap} {k n : Nat} {z : Str} {f : List D → M D} : ∀ {t : List (Str × Str)} {fs : List (Str × (List D → M D))}, OkTab P w K mg base k n t fs → fs.lookup z = some f →
    ∃ x st ps k', t.lookup z = some x ∧ OkAt P w K mg base k' x st ps f ∧ k' ≤ k ∧ ps.length = n
  | _, _, .nil, h => by cases h
  | _, _, .cons (z := y) (x := x) (st := st) (ps := ps) (k' := k') O hk hn r, h => by
    by_cases hz : z = y
    · subst hz
      obtain rfl : _ = f := by simpa [List.lookup] using h
      exact ⟨x, st, ps, k', by simp [List.lookup], O, hk, hn⟩
    · have h1 : (z == y) = false := beq_eq_false_iff_ne.2 hz
      obtain ⟨x2, st2, ps2, k2, a, b, c, d⟩ := OkTab.at' r (by simpa [List.lookup, h1] using h)
      exact ⟨x2, st2, ps2, k2, by simp [List.lookup, h1, a], b, c, d⟩
def tHeld (i : Nat) (R : Addr → Sp → Prop) (t : TA) : TE := fun σ H Q => ∃ f sp, σ[i]? = some (some (.ref f)) ∧ R f sp ∧ t σ H fun vs H1 => sp vs H1 Q E0
section
variable {X : Cx} {k n i : Nat} {a e : Expr} {es : List Expr} {y T : Str} {p1 p2 p3 p4 p5 p6 p7 : Pos} {ta : TA}
def HeldBy (X : Cx) (k : Nat) (f : Addr) (sp : Sp) : Prop := ∃ k' fd ps, k' ≤ k ∧ FnOk X.prog X.w X.K X.mg X.base CX0 k' f fd ps sp ∧ PySem.W.keepIn X.K (.ref f) = true ∧ Binds X.K fd ps []
theorem pe_held (hr : Room k X.A) (hi : X.N[i]? = some y) (hv : Vis X.env.scope y) (ha : PA X (a :: es) ta) (hd : (y == ("__debug__" : Str)) = false := by decide) (hcd : (y == ("__classdict__" : Str)) = false := by decide)
    (h1 : starEach (a :: es) X.env = (false, eval a X.env) :: starEach es X.env := by rfl) (h2 : (backTo p6 (starEach es X.env)).any (·.1) = false := by rfl) : PE X (.Call (.Name y p5) (a :: es) [] p6) (tHeld i (HeldBy X k) ta) := by
  constructor
  intro pins s σ H Q I h
  obtain ⟨f, sp, hs, ⟨k', fd, ps, hk, F, kp, b⟩, ht⟩ := h
  have q : PE X (.Call (.Name y p5) (a :: es) [] p6) (tCallL i f sp [] E0 ta) := pe_callL F (hr.mono hk) hi hv kp b .nil pass0 ha hd hcd h1 h2
  refine q.run pins s σ H Q I ⟨hs, ?_⟩
  simp only [List.append_nil]
  exact ht
theorem Rn.free {K : PySem.W.Frag} {w : Wd} {σ : L2.St} {ρ : Env} (r : Rn K w σ ρ) (i : Nat) (v : V) : Rn K w (σ.set i (some v)) (ρ.set i none) := by
  refine ⟨by simp [r.len], fun j e hj => ?_⟩
  by_cases q : j = i
  · subst q
    have hl := (List.getElem?_eq_some_iff.mp hj).1
    rw [List.getElem?_set_self (by simpa using hl)] at hj
    cases hj
  · rw [List.getElem?_set_ne (Ne.symm q)] at hj ⊢
    exact r.at' j e hj
def sDisp (i n : Nat) (fs : List (Str × (List D → M D))) (mk : Env → M D) (ma : Env → M (List D)) : Env → M (Fl × Env) := fun ρ => M.bind (mk ρ) fun z => match z with
  | .str z => match fs.lookup z with
    | some f => if i < ρ.length then M.bind (ma (ρ.set i none)) fun xs => if xs.length = n then M.bind (f xs) fun d => M.pure (.rt d, ρ.set i none) else bad else bad
    | none => bad
  | _ => bad
theorem ms_disp {tbl : List (Str × Str)} {fs : List (Str × (List D → M D))} {mk : Env → M D} {ma : Env → M (List D)} (O : OkTab X.prog X.w X.K X.mg X.base k n tbl fs) (hr : Room k X.A) (hN : X.N.Nodup) (hi : X.N[i]? = some y) (hx : Loc X.env.scope y) (hv : Vis X.env.scope y)
    (hg : Gl X T) (hm : ∃ c, X.mg T = some (.ref c) ∧ FTab X.K X.w X.mg c tbl) (he : PE X e (tM X.K EK0 mk)) (ha : PA X (a :: es) (tMa X.K EK0 ma)) (hs : PlainIx e) (hT : (T == ("__debug__" : Str)) = false := by decide)
    (hd : (y == ("__debug__" : Str)) = false := by decide) (hcd : (y == ("__classdict__" : Str)) = false := by decide)
    (hsw : swapsWith (.Subscript (.Name T p2) e p3) (some (.Name y p1)) p4.line X.env = pure false := by rfl) (hf : X.fn y = true ∨ X.env.scope.names.lookup y = some .local := by first | exact .inl rfl | exact .inr rfl | assumption)
    (h1 : starEach (a :: es) X.env = (false, eval a X.env) :: starEach es X.env := by rfl) (h2 : (backTo p6 (starEach es X.env)).any (·.1) = false := by rfl) :
    PSs X [.Assign [.Name y p1] (.Subscript (.Name T p2) e p3) p4, .Return (some (.Call (.Name y p5) (a :: es) [] p6)) p7] (tMs X.K EK0 (sDisp i n fs mk ma)) := by
  obtain ⟨c, hm, F⟩ := hm
  obtain ⟨ds, m, D⟩ := F.kd
  refine pss_imp (pss_cons (ps_set hN hi hx (pe_ix ix_kdict (pe_glob (v := .ref c) hg hm rfl hT) he hs) hsw hf) (pss_cons (ps_ret (pe_held hr hi hv ha hd hcd h1 h2)) pss_nil)) fun Z σ H ⟨w, S, ρ, rs, rn, h⟩ => ?_
  refine ⟨w, S, ρ, rs, rn, h.bind.imp fun w1 S1 H1 z l1 s1 q v rv => ?_⟩
  cases z with
  | str z =>
    cases rv
    rcases hz : fs.lookup z with _ | f
    · simp only [hz] at q
      exact q.elim
    · simp only [hz] at q
      by_cases hl : i < ρ.length
      · rw [if_pos hl] at q
        obtain ⟨x, st, ps, k', t1, ⟨fa, fd, U, m1, b1, ok⟩, hk, hn⟩ := O.at' hz
        obtain ⟨fa2, n1, m2⟩ := F.has z x t1
        rw [m1] at m2
        cases m2
        refine ⟨c, z, .ref fa, rfl, rfl, ⟨ds, m, .ref fa, D.at_, D.lit, n1, rfl⟩, ?_⟩
        have hl' : i < σ.length := by rw [rn.len]; exact hl
        refine ⟨fa, _, List.getElem?_set_self hl', ⟨k', fd, ps, hk, ok, U.kp, b1⟩, ?_⟩
        refine ⟨w1, S1, ρ.set i none, s1, (rn.mono l1).free i _, q.bind.imp fun w2 S2 H2 xs l2 s2 q2 vs rvs => ?_⟩
        by_cases hx : xs.length = n
        · rw [if_pos hx] at q2
          exact ⟨by rw [rvs.length, hx, hn], w2, S2, xs, s2, rvs, q2.bind.imp fun w3 S3 H3 d l3 s3 q3 v rv => Fin.ok q3 s3 v rv⟩
        · rw [if_neg hx] at q2
          exact q2.elim
      · rw [if_neg hl] at q
        exact q.elim
  | _ => exact q.elim
end
end Mi
namespace Mi
open PySem PySem.Spec PyProof.Rows L2
/-! ### what a mirror answers -/
def Wp {α : Type} (m : M α) (S : Sto) (Q : α → Sto → Prop) : Prop := ∃ x S', m S = some (.ok x, S') ∧ Q x S'
section
variable {α β : Type} {m : M α} {S : Sto} {f : α → M β}
theorem wp_bind {Q : β → Sto → Prop} : Wp (M.bind m f) S Q ↔ Wp m S fun x S' => Wp (f x) S' Q := by
  constructor
  · rintro ⟨y, S2, h, q⟩
    unfold M.bind at h
    rcases hm : m S with _ | ⟨_ | x, S1⟩
    · rw [hm] at h; cases h
    · rw [hm] at h; cases h
    · rw [hm] at h; exact ⟨x, S1, rfl.trans hm.symm |>.symm, y, S2, h, q⟩
  · rintro ⟨x, S1, h, y, S2, h2, q⟩
    refine ⟨y, S2, ?_, q⟩
    unfold M.bind
    rw [h]
    exact h2
theorem wp_pure {x : α} {Q : α → Sto → Prop} : Wp (M.pure x) S Q ↔ Q x S := by
  constructor
  · rintro ⟨y, S2, h, q⟩; cases h; exact q
  · exact fun q => ⟨x, S, rfl, q⟩
theorem wp_of {x : α} {S' : Sto} {Q : α → Sto → Prop} (h : m S = some (.ok x, S')) : Wp m S Q ↔ Q x S' := by
  constructor
  · rintro ⟨y, S2, h2, q⟩; rw [h] at h2; cases h2; exact q
  · exact fun q => ⟨x, S', h, q⟩
theorem Wp.mono {Q R : α → Sto → Prop} (h : Wp m S Q) (k : ∀ x S', Q x S' → R x S') : Wp m S R := by
  obtain ⟨x, S', e, q⟩ := h
  exact ⟨x, S', e, k x S' q⟩
theorem wp_if {c : Prop} [Decidable c] {a b : M α} {Q : α → Sto → Prop} : Wp (if c then a else b) S Q ↔ if c then Wp a S Q else Wp b S Q := by split <;> rfl
theorem wp_ok {x : α} {S' : Sto} {Q : α → Sto → Prop} : Wp (fun S => some (.ok x, S)) S' Q ↔ Q x S' := wp_of rfl
end
/-- the pen's cell, and the cells behind it -/
def penS (cells : List Int) (a r : Int) (T : Sto) : Sto := .lst [.lst (cells.map D.int), .int a, .int r] :: T
def Pen (cells : List Int) (T : Sto) (A : Int) (S : Sto) : Prop := ∃ a r, 0 ≤ a ∧ a ≤ A ∧ S = penS cells a r T
theorem Pen.mono {cells : List Int} {T : Sto} {A B : Int} {S : Sto} (h : Pen cells T A S) (l : A ≤ B) : Pen cells T B S := by
  obtain ⟨a, r, h0, h1, e⟩ := h
  exact ⟨a, r, h0, by omega, e⟩
section
variable {S : Sto} {i j : Int} {Q : D → Sto → Prop}
theorem wp_int20 {g : Int → Int → D} : Wp (int20 g (.int i) (.int j)) S Q ↔ Q (g i j) S := wp_of rfl
theorem wp_int2 {C : Int → Int → Prop} [DecidableRel C] {g : Int → Int → D} (h : C i j) : Wp (int2 C g (.int i) (.int j)) S Q ↔ Q (g i j) S := wp_of (by show (if C i j then M.pure (g i j) else bad) S = _; rw [if_pos h]; rfl)
theorem wp_mod (h : 0 < j) : Wp (modM (.int i) (.int j)) S Q ↔ Q (.int (i % j)) S := wp_int2 (C := fun _ j => 0 < j) h
theorem wp_add : Wp (addM (.int i) (.int j)) S Q ↔ Q (.int (i + j)) S := wp_of rfl
theorem wp_neg : Wp (negM (.int i)) S Q ↔ Q (.int (-i)) S := wp_of rfl
theorem wp_int : Wp (intM (.int i)) S Q ↔ Q (.int i) S := wp_of rfl
theorem wp_intb {b : Bool} : Wp (intM (.bl b)) S Q ↔ Q (.int (if b then 1 else 0)) S := wp_of rfl
theorem wp_abs : Wp (absM (.int i)) S Q ↔ Q (.int (if i < 0 then -i else i)) S := wp_of rfl
theorem wp_lenL {ds : List D} : Wp (lenM (.lst ds)) S Q ↔ Q (.int (ds.length : Int)) S := wp_of rfl
theorem wp_lenT {ds : List D} : Wp (lenM (.tup ds)) S Q ↔ Q (.int (ds.length : Int)) S := wp_of rfl
theorem wp_toB {b : Bool} {Q : Bool → Sto → Prop} : Wp (toB (.bl b)) S Q ↔ Q b S := wp_of rfl
theorem wp_ixL {ds : List D} {k : Nat} {d : D} (h : ds[k]? = some d) : Wp (ixM (.lst ds) (.int k)) S Q ↔ Q d S := wp_of (by
  have e : atI ds (k : Int) = some d := atI_nat h
  simp only [ixM, asQ, asR, asC, e])
theorem wp_neNil {ds : List D} (h : ds.length ≠ 0) : Wp (neM (.lst ds) (.lst [])) S Q ↔ Q (.bl true) S := wp_of (by simp [eqB, lenDiff, asC, h])
theorem wp_neNil0 : Wp (neM (.lst []) (.lst [])) S Q ↔ Q (.bl false) S := wp_of (by
  have h : lenDiff S (.lst []) (.lst []) = false := rfl
  have h1 : SeqAt.shaped (.list []) = true := by decide +kernel
  have h2 : PyData.eqv (.list []) (.list []) = true := by decide +kernel
  simp [eqB, h, deS, toPy, toPyL, h1, h2])
theorem wp_eqNil {ds : List D} (h : ds.length ≠ 0) : Wp (eqM (.lst ds) (.lst [])) S Q ↔ Q (.bl false) S := wp_of (by simp [eqB, lenDiff, asC, h])
theorem wp_eqNil0 : Wp (eqM (.lst []) (.lst [])) S Q ↔ Q (.bl true) S := wp_of (by
  have h : lenDiff S (.lst []) (.lst []) = false := rfl
  have h1 : SeqAt.shaped (.list []) = true := by decide +kernel
  have h2 : PyData.eqv (.list []) (.list []) = true := by decide +kernel
  simp [eqB, h, deS, toPy, toPyL, h1, h2])
end
section
variable {cells : List Int} {T : Sto} {a r x : Int} {Q : D → Sto → Prop}
theorem pen0 : Wp (ixM (.ref 0) (.int 0)) (penS cells a r T) Q ↔ Q (.lst (cells.map D.int)) (penS cells a r T) := wp_of rfl
theorem pen1 : Wp (ixM (.ref 0) (.int 1)) (penS cells a r T) Q ↔ Q (.int a) (penS cells a r T) := wp_of rfl
theorem pen2 : Wp (ixM (.ref 0) (.int 2)) (penS cells a r T) Q ↔ Q (.int r) (penS cells a r T) := wp_of rfl
theorem put1 {ρ : Env} {Q : Env → Sto → Prop} : Wp (putM (.ref 0) (.int 1) (.int x) ρ) (penS cells a r T) Q ↔ Q ρ (penS cells x r T) := wp_of rfl
theorem put2 {ρ : Env} {Q : Env → Sto → Prop} : Wp (putM (.ref 0) (.int 2) (.int x) ρ) (penS cells a r T) Q ↔ Q ρ (penS cells a x T) := wp_of rfl
end
theorem pow18 : (10 : Int) ^ (18 : Int).toNat = 1000000000000000000 := by decide
theorem cpow18 : CPow 10 18 := by decide
theorem cpow (i : Int) (h0 : 0 ≤ i) (h1 : i < 18446744073709551616) (n : Int) (hn : 0 ≤ n ∧ n ≤ 1000000) : CPow i n := ⟨hn.1, hn.2, by omega⟩
theorem cmul1 {i j : Int} (h0 : -18446744073709551616 < i) (h1 : i < 18446744073709551616) : CMul i j := .inl ⟨by simpa using h0, by simpa using h1⟩
section
variable {cells : List Int} {a r b cell : Int}
theorem wp_run {N : Nat} {ms : Env → M (Fl × Env)} {ds : List D} {S : Sto} {Q : D → Sto → Prop} (h : Wp (ms (ds.map some ++ List.replicate (N - ds.length) none)) S fun r S' => ∃ d, r.1 = .rt d ∧ Q d S') : Wp (runM N ms ds) S Q := by
  refine wp_bind.2 (h.mono ?_)
  rintro ⟨f, ρ⟩ S' ⟨d, e, q⟩
  cases e
  exact wp_pure.2 q
theorem map_at {i : Nat} (h : i < cells.length) : (cells.map D.int)[i]? = some (.int (cells[i]'h)) := by simp [h]
end
section
variable {S : Sto} {i j : Int} {Q : D → Sto → Prop}
theorem shI (i : Int) : SeqAt.shaped (.int i) = true := by
  unfold SeqAt.shaped
  simp [PyData.canLay0, PyData.depth]
theorem shS {x : Str} (h : PyData.strOk x = true) : SeqAt.shaped (.str x) = true := by
  unfold SeqAt.shaped
  simp [PyData.canLay0, PyData.depth, h]
theorem wp_eqI : Wp (eqM (.int i) (.int j)) S Q ↔ Q (.bl (i == j)) S := wp_of (by
  have h : lenDiff S (.int i) (.int j) = false := rfl
  simp [eqB, h, deS, toPy, shI, PyData.eqv])
theorem wp_neI : Wp (neM (.int i) (.int j)) S Q ↔ Q (.bl (!(i == j))) S := wp_of (by
  have h : lenDiff S (.int i) (.int j) = false := rfl
  simp [eqB, h, deS, toPy, shI, PyData.eqv])
theorem wp_neS {x : Str} (hx : PyData.strOk x = true) : Wp (neM (.str x) (.str x)) S Q ↔ Q (.bl false) S := wp_of (by
  have h : lenDiff S (.str x) (.str x) = false := rfl
  simp [eqB, h, deS, toPy, shS hx, PyData.eqv])
theorem wp_addS {x y : Str} (h : x.length + y.length ≤ 100000) : Wp (addM (.str x) (.str y)) S Q ↔ Q (.str (x ++ y)) S := wp_of (by
  show (if x.length + y.length ≤ 100000 then _ else _) = _
  rw [if_pos h])
theorem wp_addL {x y : List D} (h : x.length + y.length ≤ 100000) : Wp (addM (.lst x) (.lst y)) S Q ↔ Q (.lst (x ++ y)) S := wp_of (by
  show (if x.length + y.length ≤ 100000 then _ else _) = _
  rw [if_pos h])
theorem wp_listS {x : Str} (h : x.cps.size ≤ 100000) : Wp (listM (.str x)) S Q ↔ Q (.lst (x.cps.toList.map sgn)) S := wp_of (by
  show (if x.cps.size ≤ 100000 then _ else _) = _
  rw [if_pos h])
end
/-! ### values that all may be asked of -/
def nrB : D → Bool
  | .ref _ => false
  | .lsr _ => false
  | _ => true
def goodB (d : D) : Bool := nrB d && (match d with
    | .tup ds => ds.all nrB && decide (ds.length ≤ 1000)
    | .str x => decide (x.length ≤ 1000)
    | _ => true) && match toPy d with
  | some p => p.showable && decide (p.shown.length ≤ 100000) && PyData.strOk p.shown && decide (p.depth ≤ 60)
  | none => false
/-! ### texts of small signs -/
def Small (x : Str) : Prop := ∀ c ∈ x.cps.toList, c < 128
theorem small_fold : ∀ (ys : List Str) (acc : Array Nat), (∀ c ∈ acc.toList, c < 128) → (∀ y ∈ ys, Small y) → ∀ c ∈ (ys.foldl (fun acc p => acc ++ (⟨#[]⟩ : Str).cps ++ p.cps) acc).toList, c < 128
  | [], acc, h, _ => h
  | y :: ys, acc, h, hy => small_fold ys _ (fun c hc => by
      simp only [Array.append_empty, Array.toList_append, List.mem_append] at hc
      rcases hc with hc | hc
      · exact h c hc
      · exact hy y (by simp) c hc) (fun z hz => hy z (by simp [hz]))
theorem small_join {ys : List Str} (h : ∀ y ∈ ys, Small y) : Small (Txt.join (⟨#[]⟩ : Str) ys) := by
  show ∀ c ∈ (Builtin.Str.glued (⟨#[]⟩ : Str) ys).cps.toList, c < 128
  unfold Builtin.Str.glued
  rcases ys with _ | ⟨y, ys⟩
  · intro c hc; cases hc
  · exact small_fold ys _ (h y (by simp)) (fun z hz => h z (by simp [hz]))
theorem char_ok : ∀ c < 128, ((Builtin.Str.reprChar 34 c) ++ (Builtin.Str.reprChar 39 c)).all (fun c => decide (c < 1114112)) = true := by decide +kernel
theorem repr_fold {q : Nat} (hq : ∀ c < 128, ∀ k ∈ Builtin.Str.reprChar q c, k < 1114112) : ∀ (cs : List Nat) (acc : Array Nat), (∀ c ∈ cs, c < 128) → (∀ c ∈ acc.toList, c < 1114112) → ∀ c ∈ (cs.foldl (fun out c => out ++ (Builtin.Str.reprChar q c).toArray) acc).toList, c < 1114112
  | [], acc, _, h => h
  | y :: ys, acc, hy, h => repr_fold hq ys _ (fun z hz => hy z (by simp [hz])) (fun c hc => by
      simp only [Array.toList_append, List.mem_append] at hc
      rcases hc with hc | hc
      · exact h c hc
      · exact hq y (hy y (by simp)) c hc)
theorem strOk_repr {x : Str} (h : Small x) : PyData.strOk (reprText x) = true := by
  have hq : reprQuote x = 34 ∨ reprQuote x = 39 := by unfold reprQuote; split <;> simp
  have hc : ∀ c < 128, ∀ k ∈ Builtin.Str.reprChar (reprQuote x) c, k < 1114112 := fun c hc k hk => by
    have e := List.all_eq_true.1 (char_ok c hc)
    rcases hq with q | q <;> rw [q] at hk
    · exact of_decide_eq_true (e k (List.mem_append_left _ hk))
    · exact of_decide_eq_true (e k (List.mem_append_right _ hk))
  have hq2 : reprQuote x < 1114112 := by omega
  unfold PyData.strOk reprText
  rw [← Array.all_toList, List.all_eq_true]
  intro c hc2
  simp only [Array.toList_push, List.mem_append, List.mem_singleton, ← Array.foldl_toList] at hc2
  refine decide_eq_true ?_
  rcases hc2 with hc2 | rfl
  · exact repr_fold hc _ _ h (by simpa using hq2) c hc2
  · exact hq2
theorem good_text {x : Str} (h : Small x) (hl : x.length ≤ 1000) : goodB (.str x) = true := by
  have e1 : PyData.strOk (reprText x) = true := strOk_repr h
  have e2 : (reprText x).length ≤ 10 * x.length + 2 := PySem.StrLaws.reprText_len x (fun c hc => Nat.lt_trans (h c hc) (by decide))
  have e3 : (reprText x).length ≤ 100000 := by omega
  simp [goodB, nrB, toPy, PyData.showable, PyData.shown, PyData.depth, e1, e3, hl]
/-! ### a walk that gathers -/
theorem wp_noErr {α : Type} {m : M α} {S : Sto} {Q : α → Sto → Prop} (h : Wp m S Q) : Wp (noErr m) S Q := by
  obtain ⟨x, S', e, q⟩ := h
  exact ⟨x, S', by unfold noErr; rw [e], q⟩
theorem lcGo_ok {cells : List Int} {T : Sto} {e : Env → M D} {i : Nat} {ρ : Env} (P : D → Prop) (B : Int)
    (he : ∀ x A S, A < B → Pen cells T A S → Wp (e (ρ.set i (some x))) S fun y S' => P y ∧ Pen cells T (A + 1) S') :
    ∀ (xs : List D) (A : Int) (S : Sto), A + xs.length ≤ B → Pen cells T A S → Wp (lcGo (gSet i) (fun _ => M.pure true) e ρ xs) S fun ys S' => ys.length = xs.length ∧ (∀ y ∈ ys, P y) ∧ Pen cells T (A + xs.length) S'
  | [], A, S, _, hp => wp_pure.2 ⟨rfl, ⟨fun _ h => absurd h List.not_mem_nil, by simpa using hp⟩⟩
  | x :: xs, A, S, hB, hp => by
    simp only [List.length_cons] at hB
    simp only [lcGo, gSet, wp_bind, wp_pure, if_true]
    refine (he x A S (by omega) hp).mono ?_
    rintro y S1 ⟨h1, hp1⟩
    refine (lcGo_ok P B he xs (A + 1) S1 (by omega) hp1).mono ?_
    rintro ys S2 ⟨h2, h3, hp2⟩
    refine ⟨by simp [h2], fun z hz => ?_, hp2.mono (by simp only [List.length_cons]; omega)⟩
    rcases List.mem_cons.1 hz with rfl | hz
    · exact h1
    · exact h3 z hz
def sgP (d : D) : Prop := ∃ c, c < 128 ∧ d = sgn c
theorem strs_of : ∀ {ys : List D}, (∀ y ∈ ys, sgP y) → ∃ xs : List Str, strsOf ys = some xs ∧ xs.length = ys.length ∧ (∀ x ∈ xs, Small x ∧ x.length = 1)
  | [], _ => ⟨[], rfl, rfl, fun _ h => by cases h⟩
  | y :: ys, h => by
    obtain ⟨c, hc, rfl⟩ := h y (by simp)
    obtain ⟨xs, h1, h2, h3⟩ := strs_of (ys := ys) (fun z hz => h z (by simp [hz]))
    refine ⟨⟨#[c]⟩ :: xs, by simp [strsOf, sgn, h1], by simp [h2], fun x hx => ?_⟩
    rcases List.mem_cons.1 hx with rfl | hx
    · exact ⟨fun k hk => by simp at hk; omega, rfl⟩
    · exact h3 x hx
theorem sum_ones : ∀ {xs : List Str}, (∀ x ∈ xs, Small x ∧ x.length = 1) → (xs.map (·.length)).sum = xs.length
  | [], _ => rfl
  | x :: xs, h => by
    have := (h x (by simp)).2
    have := sum_ones (xs := xs) (fun z hz => h z (by simp [hz]))
    simp only [List.map_cons, List.sum_cons, List.length_cons]
    omega
theorem join_ok {ys : List D} {S : Sto} {Q : D → Sto → Prop} (h : ∀ y ∈ ys, sgP y) (hl : ys.length ≤ 1000) (hQ : ∀ x : Str, Small x → x.length ≤ 1000 → Q (.str x) S) : Wp (joinM (.str (⟨#[]⟩ : Str)) [.lst ys]) S Q := by
  obtain ⟨xs, h1, h2, h3⟩ := strs_of h
  have e : (⟨#[]⟩ : Str).length = 0 := rfl
  have s1 := sum_ones h3
  have c1 : (xs.map (·.length)).sum + xs.length * (⟨#[]⟩ : Str).length ≤ 100000 := by rw [s1, e]; omega
  refine (wp_of (x := .str (Txt.join (⟨#[]⟩ : Str) xs)) (S' := S) ?_).2 (hQ _ (small_join fun y hy => (h3 y hy).1) ?_)
  · simp only [joinM, asQ, asR, asC, h1]
    rw [if_pos c1]
  · have := size_glued (⟨#[]⟩ : Str) xs
    show (Builtin.Str.glued (⟨#[]⟩ : Str) xs).length ≤ 1000
    rw [this, s1, e]
    omega
theorem emptyStr : ("" : Str) = ⟨#[]⟩ := rfl
theorem wp_chkS {x : Str} {S : Sto} {Q : Unit → Sto → Prop} : Wp (chkS (.str x)) S Q ↔ Q () S := wp_of rfl
theorem wp_rng {n : Int} {S : Sto} {Q : List D → Sto → Prop} (h : -100000 ≤ n ∧ n ≤ 100000) : Wp (rngOf [.int n]) S Q ↔ Q (rgD 0 n.toNat) S := wp_of (by
  show (if -100000 ≤ n ∧ n ≤ 100000 then M.pure (rgD 0 n.toNat) else bad) S = _
  rw [if_pos h]; rfl)
theorem rgD_len {lo : Int} {n : Nat} : (rgD lo n).length = n := by simp [rgD]
theorem eq_of_wp {α : Type} {m : M α} {v : α} {S S0 : Sto} (h : Wp m S fun x S' => x = v ∧ S' = S0) : m S = some (.ok v, S0) := by
  obtain ⟨x, S', e, rfl, rfl⟩ := h
  exact e
/-! ### comprehensions without effect -/
theorem lcGo_pure {α : Type} {t : Env → M Bool} {e : Env → M D} {i : Nat} {ρ : Env} {S : Sto} (g f : α → D) (p : α → Bool) : ∀ (ys : List α),
    (∀ y ∈ ys, t (ρ.set i (some (g y))) S = some (.ok (p y), S)) → (∀ y ∈ ys, p y = true → e (ρ.set i (some (g y))) S = some (.ok (f y), S)) →
    lcGo (gSet i) t e ρ (ys.map g) S = some (.ok ((ys.filter p).map f), S)
  | [], _, _ => rfl
  | y :: ys, ht, he => by
    have ih := lcGo_pure (t := t) (e := e) (ρ := ρ) (S := S) (i := i) g f p ys (fun z hz => ht z (by simp [hz])) (fun z hz => he z (by simp [hz]))
    refine eq_of_wp ?_
    simp only [List.map_cons, lcGo, gSet, wp_bind, wp_pure]
    rw [wp_of (ht y (by simp))]
    by_cases hp : p y = true
    · simp only [hp, if_true, wp_bind]
      rw [wp_of (he y (by simp) hp), wp_of ih]
      simp [wp_pure, hp]
    · simp only [hp, if_false, Bool.false_eq_true]
      rw [wp_of ih]
      simp [hp]
theorem wp_lc {α : Type} {t : Env → M Bool} {e : Env → M D} {i : Nat} {ρ : Env} {S : Sto} {Q : List D → Sto → Prop} (g f : α → D) (p : α → Bool) {ys : List α}
    (ht : ∀ y ∈ ys, t (ρ.set i (some (g y))) S = some (.ok (p y), S)) (he : ∀ y ∈ ys, p y = true → e (ρ.set i (some (g y))) S = some (.ok (f y), S)) :
    Wp (noErr (lcGo (gSet i) t e ρ (ys.map g))) S Q ↔ Q ((ys.filter p).map f) S := wp_of (by unfold noErr; rw [lcGo_pure g f p ys ht he])
section
variable {S : Sto} {d : D} {Q : D → Sto → Prop}
theorem wp_in {c : Nat} {y : Str} : Wp (inM (sgn c) (.str y)) S Q ↔ Q (.bl (decide (c ∈ y.cps.toList))) S := wp_of rfl
theorem wp_nin {c : Nat} {y : Str} : Wp (ninM (sgn c) (.str y)) S Q ↔ Q (.bl (!decide (c ∈ y.cps.toList))) S := wp_of rfl
theorem bls_map {α : Type} (f : α → Bool) : ∀ (ys : List α), blsOf (ys.map fun y => D.bl (f y)) = some (ys.map f)
  | [] => rfl
  | y :: ys => by simp [blsOf, bls_map f ys]
theorem wp_all {α : Type} {f : α → Bool} {ys : List α} : Wp (allM (.lst (ys.map fun y => D.bl (f y)))) S Q ↔ Q (.bl (ys.all f)) S := wp_of (by
  simp only [allM, asR, asC, bls_map]
  simp [List.all_map])
theorem wp_itS {y : Str} {Q : List D → Sto → Prop} : Wp (itemsOf (.str y)) S Q ↔ Q (y.cps.toList.map sgn) S := wp_of rfl
theorem wp_itT {ds : List D} {Q : List D → Sto → Prop} : Wp (itemsOf (.tup ds)) S Q ↔ Q ds S := wp_of rfl
theorem wp_lenS {y : Str} (h : y.length ≤ 100000) : Wp (lenM (.str y)) S Q ↔ Q (.int (y.length : Int)) S := wp_of (by
  show (if y.length ≤ 100000 then _ else _) = _
  rw [if_pos h])
theorem wp_eqNilB {ds : List D} : Wp (eqM (.lst ds) (.lst [])) S Q ↔ Q (.bl ds.isEmpty) S := by
  rcases ds with _ | ⟨x, xs⟩
  · exact wp_eqNil0
  · exact wp_eqNil (by simp)
end
theorem wp_lcD {t : Env → M Bool} {e : Env → M D} {i : Nat} {ρ : Env} {S : Sto} {Q : List D → Sto → Prop} (f : D → D) (p : D → Bool) {ys : List D}
    (ht : ∀ y ∈ ys, t (ρ.set i (some y)) S = some (.ok (p y), S)) (he : ∀ y ∈ ys, p y = true → e (ρ.set i (some y)) S = some (.ok (f y), S)) :
    Wp (noErr (lcGo (gSet i) t e ρ ys)) S Q ↔ Q ((ys.filter p).map f) S := by
  have := wp_lc (t := t) (e := e) (i := i) (ρ := ρ) (S := S) (Q := Q) id f p (ys := ys) ht he
  rwa [List.map_id] at this
theorem repr_ok {d : D} (h : goodB d = true) : ∃ x : Str, PyData.strOk x = true ∧ ∀ {S : Sto} {Q : D → Sto → Prop}, Wp (reprM d) S Q ↔ Q (.str x) S := by
  simp only [goodB, Bool.and_eq_true] at h
  obtain ⟨⟨h0, _⟩, h2⟩ := h
  rcases hp : toPy d with _ | p
  · rw [hp] at h2; cases h2
  · rw [hp] at h2
    simp only [Bool.and_eq_true, decide_eq_true_eq] at h2
    have e : ∀ S, deS S d = d := fun S => by cases d <;> first | rfl | cases h0
    refine ⟨p.shown, h2.1.2, fun {S Q} => wp_of ?_⟩
    unfold reprM
    simp only [e, hp]
    rw [if_pos ⟨h2.1.1.1, h2.1.1.2, h2.2⟩]
theorem strOk_app {x y : Str} : PyData.strOk (x ++ y) = (PyData.strOk x && PyData.strOk y) := by
  show (x.cps ++ y.cps).all _ = _
  rw [Array.all_append]; rfl
theorem strOk_from : ∀ (ts : List Str) (i : Nat) (acc : Str), PyData.strOk acc = true → (∀ t ∈ ts, PyData.strOk t = true) → PyData.strOk (textFrom i acc ts) = true
  | [], i, acc, h, _ => h
  | t :: ts, i, acc, h, ht => by
    refine strOk_from ts _ _ ?_ (fun z hz => ht z (by simp [hz]))
    simp only [strOk_app, h, ht t (by simp), Bool.true_and, Bool.and_true]
    split <;> decide +kernel
theorem strOk_list {ts : List Str} (ht : ∀ t ∈ ts, PyData.strOk t = true) : PyData.strOk (listText ts) = true := by
  unfold listText
  rw [strOk_app, strOk_from ts _ _ (by decide +kernel) ht]
  decide +kernel
theorem toPyB : ∀ bs : List Bool, toPyL (bs.map D.bl) = some (bs.map PyData.bool)
  | [] => rfl
  | b :: bs => by simp [toPyL, toPy, toPyB bs]
theorem shownB : ∀ bs : List Bool, PyData.shownAll (bs.map PyData.bool) = bs.map fun b => if b then ("True" : Str) else "False"
  | [] => by simp [PyData.shownAll]
  | b :: bs => by simp [PyData.shownAll, PyData.shown, shownB bs]
theorem showB : ∀ bs : List Bool, PyData.showableAll (bs.map PyData.bool) = true
  | [] => by simp [PyData.showableAll]
  | b :: bs => by simp [PyData.showableAll, PyData.showable, showB bs]
theorem depthB : ∀ bs : List Bool, PyData.depthAll (bs.map PyData.bool) = 0
  | [] => by simp [PyData.depthAll]
  | b :: bs => by simp [PyData.depthAll, PyData.depth, depthB bs]
theorem good_told2 (bs : List Bool) (h : bs.length ≤ 100) : goodB (.lst [.lst (bs.map D.bl), .lst (bs.map D.bl)]) = true := by
  have e1 : PyData.strOk (listText (bs.map fun b => if b then ("True" : Str) else "False")) = true := strOk_list fun t ht => by
    obtain ⟨b, _, rfl⟩ := List.mem_map.1 ht
    cases b <;> decide +kernel
  have e2 : (listText (bs.map fun b => if b then ("True" : Str) else "False")).length ≤ 2000 := by
    refine Nat.le_trans (listText_len_le _) ?_
    have : ∀ bs : List Bool, ((bs.map fun b => if b then ("True" : Str) else "False").map fun x => x.length).sum ≤ 5 * bs.length := by
      intro bs
      induction bs with
      | nil => decide
      | cons b bs ih =>
        have : (if b = true then ("True" : Str) else "False").length ≤ 5 := by cases b <;> decide +kernel
        simp only [List.map_cons, List.sum_cons, List.length_cons]
        omega
    have := this bs
    rw [List.length_map]
    omega
  have e3 : PyData.strOk (listText [listText (bs.map fun b => if b then ("True" : Str) else "False"), listText (bs.map fun b => if b then ("True" : Str) else "False")]) = true := strOk_list fun t ht => by
    simp only [List.mem_cons, List.not_mem_nil, or_false] at ht
    rcases ht with rfl | rfl <;> exact e1
  have e4 : (listText [listText (bs.map fun b => if b then ("True" : Str) else "False"), listText (bs.map fun b => if b then ("True" : Str) else "False")]).length ≤ 100000 := by
    refine Nat.le_trans (listText_len_le _) ?_
    simp only [List.map_cons, List.map_nil, List.sum_cons, List.sum_nil, List.length_cons, List.length_nil]
    omega
  simp [goodB, nrB, toPy, toPyL, toPyB, PyData.showable, PyData.showableAll, PyData.shown, PyData.shownAll, PyData.depth, PyData.depthAll, shownB, showB, depthB, e3, e4]
theorem perm1 {x : D} : permL [0] [x] = [x] := rfl
theorem perm2 {x y : D} : permL [1, 0] [x, y] = [y, x] := rfl
end Mi
namespace Mi
open PySem PySem.Spec PyProof.Rows L2
/-! ### data of bounded height and weight (what the text of it is long) -/
def GB : Int := 10 ^ 100
def GL (P : Nat → D → Prop) : Nat → List D → Prop
  | w, [] => 3 ≤ w
  | w, d :: ds => ∃ w1 w2, P w1 d ∧ GL P w2 ds ∧ w1 + 2 + w2 ≤ w
def leafG (b : Int) (w : Nat) : D → Prop
  | .non => 8 ≤ w
  | .bl _ => 8 ≤ w
  | .int i => -b ≤ i ∧ i ≤ b ∧ 110 ≤ w
  | .str x => Small x ∧ 10 * x.length + 2 ≤ w
  | .dct [] => 8 ≤ w
  | .dct [(.str x, .int i)] => 30 ≤ w ∧ x = "a" ∧ i = 1
  | _ => False
def GD (b : Int) : Nat → Nat → D → Prop
  | 0, w, d => leafG b w d
  | h + 1, w, d => leafG b w d ∨ ∃ ds, (d = .tup ds ∨ d = .lst ds) ∧ GL (GD b h) w ds
theorem leafG.mono {b b' : Int} {w w' : Nat} {d : D} (h : leafG b w d) (hb : b ≤ b') (hw : w ≤ w') : leafG b' w' d := by
  unfold leafG at h ⊢
  split at h <;> first | (exact h.elim) | (exact ⟨by omega, h.2⟩) | (exact ⟨h.1, by omega⟩) | (exact ⟨by omega, by omega, by omega⟩) | (exact Nat.le_trans h hw)
theorem GL.mono {P P' : Nat → D → Prop} (hP : ∀ w d, P w d → P' w d) : ∀ {ds : List D} {w w' : Nat}, GL P w ds → w ≤ w' → GL P' w' ds
  | [], _, _, h, l => by simp only [GL] at h ⊢; omega
  | d :: ds, _, _, ⟨w1, w2, h1, h2, h3⟩, l => ⟨w1, w2, hP _ _ h1, GL.mono hP h2 (Nat.le_refl _), by omega⟩
theorem GD.mono {b b' : Int} (hb : b ≤ b') : ∀ {h h' w w' : Nat} {d : D}, GD b h w d → h ≤ h' → w ≤ w' → GD b' h' w' d
  | 0, 0, _, _, _, g, _, l => leafG.mono g hb l
  | 0, h' + 1, _, _, _, g, _, l => .inl (leafG.mono g hb l)
  | h + 1, 0, _, _, _, g, k, l => absurd k (by omega)
  | h + 1, h' + 1, _, _, _, g, k, l => by
    rcases g with g | ⟨ds, e, g⟩
    · exact .inl (leafG.mono g hb l)
    · exact .inr ⟨ds, e, GL.mono (fun w d g => GD.mono hb g (by omega) (Nat.le_refl _)) g l⟩
theorem GL.ge {P : Nat → D → Prop} : ∀ {ds : List D} {w : Nat}, GL P w ds → 2 * ds.length + 3 ≤ w
  | [], _, h => by simpa [GL] using h
  | d :: ds, _, ⟨w1, w2, h1, h2, h3⟩ => by have := GL.ge h2; simp only [List.length_cons]; omega
theorem GL.app {P : Nat → D → Prop} : ∀ {a b : List D} {wa wb : Nat}, GL P wa a → GL P wb b → GL P (wa + wb - 3) (a ++ b)
  | [], b, wa, wb, ha, hb => by simp only [GL] at ha; exact GL.mono (fun _ _ h => h) hb (by omega)
  | d :: a, b, wa, wb, ⟨w1, w2, h1, h2, h3⟩, hb => ⟨w1, _, h1, GL.app h2 hb, by have := GL.ge h2; omega⟩
theorem GL.split {P : Nat → D → Prop} : ∀ {a b : List D} {w : Nat}, GL P w (a ++ b) → ∃ wa wb, GL P wa a ∧ GL P wb b ∧ wa + wb ≤ w + 3
  | [], b, w, h => ⟨3, w, by simp [GL], h, by omega⟩
  | d :: a, b, w, ⟨w1, w2, h1, h2, h3⟩ => by
    obtain ⟨wa, wb, e1, e2, e3⟩ := GL.split h2
    exact ⟨w1 + 2 + wa, wb, ⟨w1, wa, h1, e1, Nat.le_refl _⟩, e2, by omega⟩
theorem GL.one {P : Nat → D → Prop} {w : Nat} {d : D} (h : P w d) : GL P (w + 5) [d] := ⟨w, 3, h, by simp [GL], by omega⟩
theorem GL.un {P : Nat → D → Prop} {w : Nat} {d : D} {ds : List D} (h : GL P w (d :: ds)) : ∃ w1 w2, P w1 d ∧ GL P w2 ds ∧ w1 + 2 + w2 ≤ w := h
theorem GL.take {P : Nat → D → Prop} {w : Nat} {ds : List D} (n : Nat) (h : GL P w ds) : GL P w (ds.take n) := by
  rw [← List.take_append_drop n ds] at h
  obtain ⟨wa, wb, e1, e2, e3⟩ := GL.split h
  exact GL.mono (fun _ _ h => h) e1 (by have := GL.ge e2; omega)
theorem GL.drop {P : Nat → D → Prop} {w : Nat} {ds : List D} (n : Nat) (h : GL P w ds) : GL P w (ds.drop n) := by
  rw [← List.take_append_drop n ds] at h
  obtain ⟨wa, wb, e1, e2, e3⟩ := GL.split h
  exact GL.mono (fun _ _ h => h) e2 (by have := GL.ge e1; omega)
theorem GL.rev {P : Nat → D → Prop} : ∀ {ds : List D} {w : Nat}, GL P w ds → GL P w ds.reverse
  | [], _, h => h
  | d :: ds, w, ⟨w1, w2, h1, h2, h3⟩ => by
    rw [List.reverse_cons]
    have := GL.app (GL.rev h2) (GL.one h1)
    exact GL.mono (fun _ _ h => h) this (by omega)
/-- an item, and what stands on its left and right -/
theorem GL.at {P : Nat → D → Prop} {w n : Nat} {ds : List D} {d : D} (h : GL P w ds) (e : ds[n]? = some d) : ∃ wl wi wr, GL P wl (ds.take n) ∧ P wi d ∧ GL P wr (ds.drop (n + 1)) ∧ wl + wi + wr ≤ w + 1 := by
  obtain ⟨hn, e⟩ := List.getElem?_eq_some_iff.1 e
  have k : ds.take n ++ (d :: ds.drop (n + 1)) = ds := by rw [← e]; simp
  rw [← k] at h
  obtain ⟨wa, wb, e1, ⟨w1, w2, e2, e3, e4⟩, e5⟩ := GL.split h
  exact ⟨wa, w1, w2, e1, e2, e3, by omega⟩
theorem GL.get {P : Nat → D → Prop} {w n : Nat} {ds : List D} {d : D} (h : GL P w ds) (e : ds[n]? = some d) : ∃ wi, P wi d ∧ wi ≤ w := by
  obtain ⟨wl, wi, wr, h1, h2, h3, h4⟩ := GL.at h e
  exact ⟨wi, h2, by have := GL.ge h1; have := GL.ge h3; omega⟩
theorem GL.mem {P : Nat → D → Prop} {w : Nat} {ds : List D} {d : D} (h : GL P w ds) (e : d ∈ ds) : ∃ wi, P wi d ∧ wi ≤ w := by
  obtain ⟨n, hn⟩ := List.getElem?_of_mem e
  exact GL.get h hn
theorem int_small (i : Int) : Small (Str.ofString (toString i)) := fun c hc => by
  by_cases h : c < 128
  · exact h
  · exact absurd hc (int_text_free' c ⟨by omega, by omega⟩ i)
theorem small_ok {x : Str} (h : Small x) : PyData.strOk x = true := by
  unfold PyData.strOk
  rw [← Array.all_toList, List.all_eq_true]
  intro c hc
  have := h c hc
  exact decide_eq_true (by omega)
theorem int_log {i b : Int} (h : -b ≤ i ∧ i ≤ b) (hb : b ≤ GB) : i.natAbs.log2 < 1920 := by
  have e : GB = ((10 ^ 100 : Nat) : Int) := by decide +kernel
  have h1 : i.natAbs ≤ 10 ^ 100 := by rw [e] at hb; omega
  have h3 : (10 : Nat) ^ 100 < 2 ^ 400 := by decide +kernel
  by_cases h0 : i.natAbs = 0
  · rw [h0]; decide
  · have : i.natAbs.log2 < 400 := (Nat.log2_lt h0).2 (Nat.lt_of_le_of_lt h1 h3)
    omega
theorem int_len {i b : Int} (h : -b ≤ i ∧ i ≤ b) (hb : b ≤ GB) : (Str.ofString (toString i)).length ≤ 102 := by
  have e0 : GB = ((10 ^ 100 : Nat) : Int) := by decide +kernel
  have h1 : i.natAbs ≤ 10 ^ 100 := by rw [e0] at hb; omega
  have h3 : (10 : Nat) ^ 100 < 10 ^ 101 := by decide +kernel
  have e : (toString i).length ≤ 101 + 1 := int_text_length_le10 (by decide) (Nat.lt_of_le_of_lt h1 h3)
  rw [PySem.ofString_length]
  exact e
/-! ### what such data answer -/
theorem strOk_tup {ts : List Str} (ht : ∀ t ∈ ts, PyData.strOk t = true) : PyData.strOk (tupleText ts) = true := by
  have hs : ∀ ts : List Str, (∀ t ∈ ts, PyData.strOk t = true) → PyData.strOk (Str.join ", " ts) = true := by
    intro ts
    induction ts with
    | nil => intro _; decide +kernel
    | cons t ts ih =>
      intro h
      have e1 := h t (by simp)
      have e2 := ih (fun z hz => h z (by simp [hz]))
      cases ts with
      | nil => exact e1
      | cons y ys =>
        show PyData.strOk (t ++ ", " ++ Str.join ", " (y :: ys)) = true
        rw [strOk_app, strOk_app, e1, e2]
        decide +kernel
  unfold tupleText
  rw [strOk_app, strOk_app, hs ts ht]
  split <;> decide +kernel
structure Told (b : Int) (h w : Nat) (d : D) (p : PyData) : Prop where
  py : toPy d = some p
  show_ : p.showable = true
  len : p.shown.length ≤ w
  ok : PyData.strOk p.shown = true
  depth : p.depth ≤ h + 1
theorem leaf_told {b : Int} {h w : Nat} {d : D} (hb : b ≤ GB) (g : leafG b w d) : ∃ p, Told b h w d p := by
  unfold leafG at g
  split at g
  · exact ⟨.none, rfl, by decide +kernel, Nat.le_trans (by decide +kernel) g, by decide +kernel, Nat.zero_le _⟩
  · rename_i k
    exact ⟨.bool k, rfl, by cases k <;> decide +kernel, Nat.le_trans (by cases k <;> decide +kernel) g, by cases k <;> decide +kernel, by simp [PyData.depth]⟩
  · rename_i i
    have e : (PyData.int i).shown = Str.ofString (toString i) := by simp [PyData.shown]
    exact ⟨.int i, rfl, by simp [PyData.showable, int_log ⟨g.1, g.2.1⟩ hb], by rw [e]; have := int_len ⟨g.1, g.2.1⟩ hb; omega, by rw [e]; exact small_ok (int_small i), by simp [PyData.depth]⟩
  · rename_i x
    have e2 : (reprText x).length ≤ 10 * x.length + 2 := PySem.StrLaws.reprText_len x (fun c hc => Nat.lt_trans (g.1 c hc) (by decide))
    have e : (PyData.str x).shown = reprText x := by simp [PyData.shown]
    exact ⟨.str x, rfl, by simp [PyData.showable], by rw [e]; omega, by rw [e]; exact strOk_repr g.1, by simp [PyData.depth]⟩
  · exact ⟨.dict [], rfl, by decide +kernel, Nat.le_trans (by decide +kernel) g, by decide +kernel, by simp [PyData.depth, PyData.depthKv]⟩
  · obtain ⟨g1, rfl, rfl⟩ := g
    exact ⟨.dict [(.str "a", .int 1)], rfl, by decide +kernel, Nat.le_trans (by decide +kernel) g1, by decide +kernel, by simp [PyData.depth, PyData.depthKv]⟩
  · exact g.elim
structure Tolds (h w : Nat) (ds : List D) (ps : List PyData) : Prop where
  py : toPyL ds = some ps
  show_ : PyData.showableAll ps = true
  len : ((PyData.shownAll ps).map fun x => x.length).sum + 2 * (PyData.shownAll ps).length + 3 ≤ w
  ok : ∀ t ∈ PyData.shownAll ps, PyData.strOk t = true
  depth : PyData.depthAll ps ≤ h
theorem list_told {P : Nat → D → Prop} {b : Int} {h : Nat} (hP : ∀ w d, P w d → ∃ p, Told b h w d p) : ∀ {ds : List D} {w : Nat}, GL P w ds → ∃ ps, Tolds (h + 1) w ds ps
  | [], w, g => ⟨[], rfl, by simp [PyData.showableAll], by simpa [PyData.shownAll, GL] using g, by simp [PyData.shownAll], by simp [PyData.depthAll]⟩
  | d :: ds, w, ⟨w1, w2, g1, g2, g3⟩ => by
    obtain ⟨p, k⟩ := hP _ _ g1
    obtain ⟨ps, ks⟩ := list_told hP g2
    refine ⟨p :: ps, by simp [toPyL, k.py, ks.py], by simp [PyData.showableAll, k.show_, ks.show_], ?_, ?_, ?_⟩
    · have := k.len
      have := ks.len
      simp only [PyData.shownAll, List.map_cons, List.sum_cons, List.length_cons]
      omega
    · intro t ht
      simp only [PyData.shownAll, List.mem_cons] at ht
      rcases ht with rfl | ht
      · exact k.ok
      · exact ks.ok t ht
    · have := k.depth
      have := ks.depth
      simp only [PyData.depthAll]
      omega
theorem GD.told {b : Int} (hb : b ≤ GB) : ∀ {h w : Nat} {d : D}, GD b h w d → ∃ p, Told b h w d p
  | 0, _, _, g => leaf_told hb g
  | h + 1, w, d, g => by
    rcases g with g | ⟨ds, e, g⟩
    · exact leaf_told hb g
    · obtain ⟨ps, ks⟩ := list_told (b := b) (h := h) (fun w d g => GD.told hb g) g
      rcases e with rfl | rfl
      · refine ⟨.tuple ps, by simp [toPy, ks.py], by simp [PyData.showable, ks.show_], ?_, by simp only [PyData.shown]; exact strOk_tup ks.ok, by simp only [PyData.depth]; have := ks.depth; omega⟩
        simp only [PyData.shown]
        exact Nat.le_trans (tupleText_len_le _) ks.len
      · refine ⟨.list ps, by simp [toPy, ks.py], by simp [PyData.showable, ks.show_], ?_, by simp only [PyData.shown]; exact strOk_list ks.ok, by simp only [PyData.depth]; have := ks.depth; omega⟩
        simp only [PyData.shown]
        exact Nat.le_trans (listText_len_le _) ks.len
/-- what is no reference -/
theorem GD.nr {b : Int} {h w : Nat} {d : D} (g : GD b h w d) : nrB d = true := by
  cases h with
  | zero => cases d <;> first | rfl | exact g.elim
  | succ h =>
    rcases g with g | ⟨ds, e, _⟩
    · cases d <;> first | rfl | exact g.elim
    · rcases e with rfl | rfl <;> rfl
theorem GD.repr {b : Int} {h w : Nat} {d : D} (g : GD b h w d) (hb : b ≤ GB) (hh : h ≤ 50) (hw : w ≤ 90000) : ∃ x : Str, PyData.strOk x = true ∧ ∀ {S : Sto} {Q : D → Sto → Prop}, Wp (reprM d) S Q ↔ Q (.str x) S := by
  obtain ⟨p, k⟩ := g.told hb
  have e : ∀ S, deS S d = d := fun S => by have := g.nr; cases d <;> first | rfl | cases this
  refine ⟨p.shown, k.ok, fun {S Q} => wp_of ?_⟩
  unfold reprM
  simp only [e, k.py]
  rw [if_pos ⟨k.show_, Nat.le_trans k.len (by omega), Nat.le_trans k.depth (by omega)⟩]
/-- == against a text -/
def isS (z : Str) : D → Bool
  | .str x => x == z
  | _ => false
theorem leaf_eqS {b : Int} {w : Nat} {d : D} {z : Str} {S : Sto} (hz : PyData.strOk z = true) (g : leafG b w d) : eqX d (.str z) S = some (.ok (.bl (isS z d)), S) := by
  cases d with
  | non =>
    show eqM .non (.str z) S = _
    have h : lenDiff S .non (.str z) = false := rfl
    have h1 : SeqAt.shaped .none = true := by decide +kernel
    simp [eqB, h, h1, deS, toPy, shS hz, PyData.eqv, isS]
  | bl k =>
    show eqM (.bl k) (.str z) S = _
    have h : lenDiff S (.bl k) (.str z) = false := rfl
    have h1 : SeqAt.shaped (.bool k) = true := by cases k <;> decide +kernel
    simp [eqB, h, h1, deS, toPy, shS hz, PyData.eqv, isS]
  | int k =>
    show eqM (.int k) (.str z) S = _
    have h : lenDiff S (.int k) (.str z) = false := rfl
    simp [eqB, h, shI, deS, toPy, shS hz, PyData.eqv, isS]
  | str k =>
    show eqM (.str k) (.str z) S = _
    have h : lenDiff S (.str k) (.str z) = false := rfl
    simp [eqB, h, shS (small_ok g.1), deS, toPy, shS hz, PyData.eqv, isS]
  | dct k => rfl
  | _ => exact g.elim
theorem GD.eqS {b : Int} {h w : Nat} {d : D} {z : Str} {S : Sto} {Q : D → Sto → Prop} (g : GD b h w d) (hz : PyData.strOk z = true) : Wp (eqX d (.str z)) S Q ↔ Q (.bl (isS z d)) S := by
  cases h with
  | zero => exact wp_of (leaf_eqS hz g)
  | succ h =>
    rcases g with g | ⟨ds, e, g⟩
    · exact wp_of (leaf_eqS hz g)
    · rcases e with rfl | rfl <;> exact wp_of rfl
end Mi
namespace Mi
open PySem PySem.Spec PyProof.Rows L2
section
variable {S : Sto} {Q : D → Sto → Prop} {ds es : List D} {x y : Str} {i j : Int} {k : Bool} {v : D} {cells : List Int} {T : Sto} {A : Int} {b : Int} {h w : Nat}
theorem GD.shape {b : Int} {h w : Nat} {d : D} (g : GD b h w d) : leafG b w d ∨ ∃ h' ds, h = h' + 1 ∧ (d = .tup ds ∨ d = .lst ds) ∧ GL (GD b h') w ds := by
  cases h with
  | zero => exact .inl g
  | succ h =>
    rcases g with g | ⟨ds, e, g⟩
    · exact .inl g
    · exact .inr ⟨h, ds, rfl, e, g⟩
theorem GD.leaf {b : Int} {h w : Nat} {d : D} (g : leafG b w d) : GD b h w d := by
  cases h with
  | zero => exact g
  | succ h => exact .inl g
theorem GD.tup {b : Int} {h w : Nat} {ds : List D} (g : GL (GD b h) w ds) : GD b (h + 1) w (.tup ds) := .inr ⟨ds, .inl rfl, g⟩
theorem GD.lst {b : Int} {h w : Nat} {ds : List D} (g : GL (GD b h) w ds) : GD b (h + 1) w (.lst ds) := .inr ⟨ds, .inr rfl, g⟩
theorem wp_pick {P : D → Prop} {ds : List D} {k : Int} {S : Sto} {Q : D → Sto → Prop} (hP : ∀ d ∈ ds, P d) (h0 : 0 ≤ k) (h1 : k < ds.length) (q : ∀ d, P d → Q d S) : Wp (ixM (.lst ds) (.int k)) S Q := by
  obtain ⟨n, rfl⟩ : ∃ n : Nat, k = n := ⟨k.toNat, by omega⟩
  have hn : n < ds.length := by omega
  rw [wp_ixL (d := ds[n]) (by simp [hn])]
  exact q _ (hP _ (List.getElem_mem hn))
theorem wp_isi {d : D} {T t : String} {k : Bool} {S : Sto} {Q : D → Sto → Prop} (h : ∀ S, tyN S d = some t) (hk : kitB t T = some k) : Wp (isiM T d) S Q ↔ Q (.bl k) S := wp_of (by unfold isiM; simp only [h, hk])
theorem isi_nonT : Wp (isiM "tuple" .non) S Q ↔ Q (.bl false) S := wp_isi (fun _ => rfl) (by decide +kernel)
theorem isi_nonS : Wp (isiM "str" .non) S Q ↔ Q (.bl false) S := wp_isi (fun _ => rfl) (by decide +kernel)
theorem isi_nonI : Wp (isiM "int" .non) S Q ↔ Q (.bl false) S := wp_isi (fun _ => rfl) (by decide +kernel)
theorem isi_nonB : Wp (isiM "bool" .non) S Q ↔ Q (.bl false) S := wp_isi (fun _ => rfl) (by decide +kernel)
theorem isi_blT : Wp (isiM "tuple" (.bl k)) S Q ↔ Q (.bl false) S := wp_isi (fun _ => rfl) (by decide +kernel)
theorem isi_blS : Wp (isiM "str" (.bl k)) S Q ↔ Q (.bl false) S := wp_isi (fun _ => rfl) (by decide +kernel)
theorem isi_blI : Wp (isiM "int" (.bl k)) S Q ↔ Q (.bl true) S := wp_isi (fun _ => rfl) (by decide +kernel)
theorem isi_blB : Wp (isiM "bool" (.bl k)) S Q ↔ Q (.bl true) S := wp_isi (fun _ => rfl) (by decide +kernel)
theorem isi_intT : Wp (isiM "tuple" (.int i)) S Q ↔ Q (.bl false) S := wp_isi (fun _ => rfl) (by decide +kernel)
theorem isi_intS : Wp (isiM "str" (.int i)) S Q ↔ Q (.bl false) S := wp_isi (fun _ => rfl) (by decide +kernel)
theorem isi_intI : Wp (isiM "int" (.int i)) S Q ↔ Q (.bl true) S := wp_isi (fun _ => rfl) (by decide +kernel)
theorem isi_intB : Wp (isiM "bool" (.int i)) S Q ↔ Q (.bl false) S := wp_isi (fun _ => rfl) (by decide +kernel)
theorem isi_strT : Wp (isiM "tuple" (.str x)) S Q ↔ Q (.bl false) S := wp_isi (fun _ => rfl) (by decide +kernel)
theorem isi_strS : Wp (isiM "str" (.str x)) S Q ↔ Q (.bl true) S := wp_isi (fun _ => rfl) (by decide +kernel)
theorem isi_strI : Wp (isiM "int" (.str x)) S Q ↔ Q (.bl false) S := wp_isi (fun _ => rfl) (by decide +kernel)
theorem isi_strB : Wp (isiM "bool" (.str x)) S Q ↔ Q (.bl false) S := wp_isi (fun _ => rfl) (by decide +kernel)
theorem isi_tupT : Wp (isiM "tuple" (.tup ds)) S Q ↔ Q (.bl true) S := wp_isi (fun _ => rfl) (by decide +kernel)
theorem isi_tupS : Wp (isiM "str" (.tup ds)) S Q ↔ Q (.bl false) S := wp_isi (fun _ => rfl) (by decide +kernel)
theorem isi_tupI : Wp (isiM "int" (.tup ds)) S Q ↔ Q (.bl false) S := wp_isi (fun _ => rfl) (by decide +kernel)
theorem isi_tupB : Wp (isiM "bool" (.tup ds)) S Q ↔ Q (.bl false) S := wp_isi (fun _ => rfl) (by decide +kernel)
theorem isi_lstT : Wp (isiM "tuple" (.lst ds)) S Q ↔ Q (.bl false) S := wp_isi (fun _ => rfl) (by decide +kernel)
theorem isi_lstS : Wp (isiM "str" (.lst ds)) S Q ↔ Q (.bl false) S := wp_isi (fun _ => rfl) (by decide +kernel)
theorem isi_lstI : Wp (isiM "int" (.lst ds)) S Q ↔ Q (.bl false) S := wp_isi (fun _ => rfl) (by decide +kernel)
theorem isi_lstB : Wp (isiM "bool" (.lst ds)) S Q ↔ Q (.bl false) S := wp_isi (fun _ => rfl) (by decide +kernel)
theorem isi_dctT {kv : List (D × D)} : Wp (isiM "tuple" (.dct kv)) S Q ↔ Q (.bl false) S := wp_isi (fun _ => rfl) (by decide +kernel)
theorem isi_dctS {kv : List (D × D)} : Wp (isiM "str" (.dct kv)) S Q ↔ Q (.bl false) S := wp_isi (fun _ => rfl) (by decide +kernel)
theorem isi_dctI {kv : List (D × D)} : Wp (isiM "int" (.dct kv)) S Q ↔ Q (.bl false) S := wp_isi (fun _ => rfl) (by decide +kernel)
theorem isi_dctB {kv : List (D × D)} : Wp (isiM "bool" (.dct kv)) S Q ↔ Q (.bl false) S := wp_isi (fun _ => rfl) (by decide +kernel)
theorem addW_I : Wp (addW (.int i) (.int j)) S Q ↔ Q (.int (i + j)) S := wp_of rfl
theorem addW_B : Wp (addW (.bl k) (.int j)) S Q ↔ Q (.int ((if k = true then 1 else 0) + j)) S := wp_of rfl
theorem addW_S (h : x.length + y.length ≤ 100000) : Wp (addW (.str x) (.str y)) S Q ↔ Q (.str (x ++ y)) S := wp_addS h
theorem addW_T (h : ds.length + es.length ≤ 100000) : Wp (addW (.tup ds) (.tup es)) S Q ↔ Q (.tup (ds ++ es)) S := wp_of (by
  show (if ds.length + es.length ≤ 100000 then _ else _) = _
  rw [if_pos h])
theorem addM_T (h : ds.length + es.length ≤ 100000) : Wp (addM (.tup ds) (.tup es)) S Q ↔ Q (.tup (ds ++ es)) S := addW_T h
theorem addW_L (h : ds.length + es.length ≤ 100000) : Wp (addW (.lst ds) (.lst es)) S Q ↔ Q (.lst (ds ++ es)) S := wp_addL h
theorem subW_I : Wp (subW (.int i) (.int j)) S Q ↔ Q (.int (i - j)) S := wp_of rfl
theorem subW_B : Wp (subW (.bl k) (.int j)) S Q ↔ Q (.int ((if k = true then 1 else 0) - j)) S := wp_of rfl
theorem subW_IB : Wp (subW (.int i) (.bl k)) S Q ↔ Q (.int (i - (if k = true then 1 else 0))) S := wp_of rfl
theorem slc_T {lo hi : Option Int} : Wp (slcM lo hi (.tup ds)) S Q ↔ Q (.tup (cutD ds lo hi)) S := wp_of rfl
theorem slc_S {lo hi : Option Int} (h : x.length ≤ 100000) : Wp (slcM lo hi (.str x)) S Q ↔ Q (.str (cutS x lo hi)) S := wp_of (by
  show (if x.length ≤ 100000 then _ else _) = _
  rw [if_pos h])
theorem rev_T : Wp (revU (.tup ds)) S Q ↔ Q (.tup ds.reverse) S := wp_of rfl
theorem list_T : Wp (listM (.tup ds)) S Q ↔ Q (.lst ds) S := wp_of rfl
theorem upper_S (h : x.length ≤ 100000) : Wp (upperM (.str x)) S Q ↔ Q (.str (Txt.upper x)) S := wp_of (by
  show (if x.length ≤ 100000 then M.pure (D.str (Txt.upper x)) else bad) S = _
  rw [if_pos h]; rfl)
theorem str_I (h : i.natAbs.log2 < 1920) : Wp (strM (.int i)) S Q ↔ Q (.str (Str.ofString (toString i))) S := wp_of (by
  show (if i.natAbs.log2 < 1920 then M.pure (D.str (Str.ofString (toString i))) else bad) S = _
  rw [if_pos h]; rfl)
theorem str_B : Wp (strM (.bl k)) S Q ↔ Q (.str (if k = true then "True" else "False")) S := wp_of rfl
theorem eqM_BI : Wp (eqM (.bl k) (.int j)) S Q ↔ Q (.bl ((if k then 1 else 0) == j)) S := wp_of (by
  have h : lenDiff S (.bl k) (.int j) = false := rfl
  have h1 : SeqAt.shaped (.bool k) = true := by cases k <;> decide +kernel
  simp [eqB, h, h1, deS, toPy, shI, PyData.eqv])
theorem ixT {k : Nat} {d : D} (h : ds[k]? = some d) : Wp (ixM (.tup ds) (.int k)) S Q ↔ Q d S := wp_of (by
  have e : atI ds (k : Int) = some d := atI_nat h
  simp only [ixM, asQ, e])
theorem cut_G {P : Nat → D → Prop} {w : Nat} {ds : List D} {lo hi : Option Int} (g : GL P w ds) : GL P w (cutD ds lo hi) := (g.drop _).take _
theorem len_cut {ds : List D} {lo hi : Option Int} : (cutD ds lo hi).length ≤ ds.length := by
  unfold cutD
  rw [List.length_take, List.length_drop]
  omega
theorem small_app {x y : Str} (hx : Small x) (hy : Small y) : Small (x ++ y) := fun c hc => by
  have e : (x ++ y).cps.toList = x.cps.toList ++ y.cps.toList := Array.toList_append
  rw [e] at hc
  rcases List.mem_append.1 hc with h | h
  · exact hx c h
  · exact hy c h
theorem len_app {x y : Str} : (x ++ y).length = x.length + y.length := Array.size_append
theorem small_cut {x : Str} {lo hi : Option Int} (h : Small x) : Small (cutS x lo hi) ∧ (cutS x lo hi).length ≤ x.length := by
  unfold cutS
  constructor
  · intro c hc
    exact h c (List.mem_of_mem_drop (List.mem_of_mem_take (by simpa using hc)))
  · show (List.toArray _).size ≤ x.cps.size
    rw [List.size_toArray, List.length_take, List.length_drop, Array.length_toList]
    omega
theorem upper_low : ∀ k < 128, ∀ c ∈ Unicode.upperOf k, c < 128 := by
  have h : (List.range 128).all (fun k => (Unicode.upperOf k).all fun c => decide (c < 128)) = true := by decide +kernel
  intro k hk c hc
  exact of_decide_eq_true (List.all_eq_true.1 (List.all_eq_true.1 h k (List.mem_range.2 hk)) c hc)
theorem small_upper {x : Str} (h : Small x) : Small (Txt.upper x) ∧ (Txt.upper x).length ≤ 3 * x.length := by
  refine ⟨fun c hc => ?_, len_upper x⟩
  have hc : c ∈ ((x.cps.mapIdx fun i c => (Unicode.upperOf c).toArray).flatten) := Array.mem_toList_iff.1 hc
  rw [Array.mem_flatten] at hc
  obtain ⟨a, ha, hca⟩ := hc
  rw [Array.mem_mapIdx] at ha
  obtain ⟨i, hi, rfl⟩ := ha
  exact upper_low _ (h _ (Array.mem_toList_iff.2 (Array.getElem_mem hi))) c (by simpa using hca)
theorem wp_neT0 {ds : List D} {S : Sto} {Q : D → Sto → Prop} : Wp (neX (.tup ds) (.tup [])) S Q ↔ Q (.bl (!ds.isEmpty)) S := wp_of rfl
theorem cut_lo {ds : List D} {n : Nat} (h : n ≤ ds.length) : cutD ds none (some (n : Int)) = ds.take n := by
  have e : HT.sIx ds.length ds.length (some (n : Int)) = n := by
    unfold HT.sIx
    simp
    rw [if_neg (by omega)]
    omega
  have e0 : HT.sIx ds.length 0 none = 0 := by unfold HT.sIx; simp
  unfold cutD
  rw [e, e0]
  simp
theorem cut_hi {ds : List D} {n : Nat} (h : n ≤ ds.length) : cutD ds (some (n : Int)) none = ds.drop n := by
  have e : HT.sIx ds.length 0 (some (n : Int)) = n := by
    unfold HT.sIx
    simp
    rw [if_neg (by omega)]
    omega
  have e0 : HT.sIx ds.length ds.length none = ds.length := by unfold HT.sIx; simp
  unfold cutD
  rw [e, e0]
  exact List.take_of_length_le (by simp)
theorem lcGo_step {cells : List Int} {T : Sto} {e : Env → M D} {i : Nat} {ρ : Env} (P : D → Prop) (B c : Int) (h0 : 0 ≤ c)
    (he : ∀ x A S, A + c ≤ B → Pen cells T A S → Wp (e (ρ.set i (some x))) S fun y S' => P y ∧ Pen cells T (A + c) S') :
    ∀ (xs : List D) (A : Int) (S : Sto), A + c * xs.length ≤ B → Pen cells T A S → Wp (lcGo (gSet i) (fun _ => M.pure true) e ρ xs) S fun ys S' => ys.length = xs.length ∧ (∀ y ∈ ys, P y) ∧ Pen cells T (A + c * xs.length) S'
  | [], A, S, _, hp => wp_pure.2 ⟨rfl, ⟨fun _ h => absurd h List.not_mem_nil, by simpa using hp⟩⟩
  | x :: xs, A, S, hB, hp => by
    have e1 : c * ((x :: xs).length : Int) = c + c * xs.length := by
      rw [List.length_cons, Int.natCast_add, Int.mul_add]; simp; omega
    have e2 : 0 ≤ c * (xs.length : Int) := Int.mul_nonneg h0 (by omega)
    rw [e1] at hB
    simp only [lcGo, gSet, wp_bind, wp_pure, if_true]
    refine (he x A S (by omega) hp).mono ?_
    rintro y S1 ⟨h1, hp1⟩
    refine (lcGo_step P B c h0 he xs (A + c) S1 (by omega) hp1).mono ?_
    rintro ys S2 ⟨h2, h3, hp2⟩
    refine ⟨by simp [h2], fun z hz => ?_, hp2.mono (by rw [e1]; omega)⟩
    rcases List.mem_cons.1 hz with rfl | hz
    · exact h1
    · exact h3 z hz
def numG (d : D) : Prop := ∃ z : Int, d = .int z ∧ 1 ≤ z ∧ z ≤ 999999
theorem ints_of : ∀ {ys : List D}, (∀ y ∈ ys, numG y) → ∃ ns : List Int, ys = ns.map D.int ∧ intsOf ys = some ns ∧ ∀ n ∈ ns, 1 ≤ n ∧ n ≤ 999999
  | [], _ => ⟨[], rfl, rfl, fun _ h => absurd h List.not_mem_nil⟩
  | y :: ys, h => by
    obtain ⟨z, rfl, z0, z1⟩ := h y (by simp)
    obtain ⟨ns, e1, e2, e3⟩ := ints_of (ys := ys) (fun y hy => h y (by simp [hy]))
    refine ⟨z :: ns, by simp [e1], by simp [intsOf, e2], fun n hn => ?_⟩
    rcases List.mem_cons.1 hn with rfl | hn
    · exact ⟨z0, z1⟩
    · exact e3 n hn
theorem GL.cons {P : Nat → D → Prop} {w1 w2 : Nat} {d : D} {ds : List D} (h : P w1 d) (g : GL P w2 ds) : GL P (w1 + 2 + w2) (d :: ds) := ⟨w1, w2, h, g, Nat.le_refl _⟩
theorem GL.nil {P : Nat → D → Prop} : GL P 3 [] := Nat.le_refl _
theorem tuple_L {ds : List D} {S : Sto} {Q : D → Sto → Prop} : Wp (tupleM (.lst ds)) S Q ↔ Q (.tup ds) S := wp_of rfl
def txtG (d : D) : Prop := ∃ x : Str, d = .str x ∧ Small x ∧ x.length ≤ 8
theorem txt_mk {x : Str} (h : (x.cps.toList.all (fun c => decide (c < 128))) = true) (k : x.length ≤ 8) : txtG (.str x) := ⟨x, rfl, fun c hc => of_decide_eq_true (List.all_eq_true.1 h c hc), k⟩
def wordB (al : Str) : D → Bool
  | .str x => decide (1 ≤ x.length) && decide (x.length ≤ 8) && x.cps.toList.all fun c => decide (c ∈ al.cps.toList)
  | _ => false
def numB : D → Bool
  | .int i => decide (1 ≤ i) && decide (i ≤ 999999)
  | _ => false
def okV (v : D) : Prop := nrB v = true ∧ ∀ x, v = .str x → x.length ≤ 100000 ∧ PyData.strOk x = true
theorem GD.okV {b : Int} {h w : Nat} {v : D} (g : GD b h w v) (hw : w ≤ 100000) : okV v := by
  refine ⟨g.nr, fun x e => ?_⟩
  subst e
  rcases g.shape with g | ⟨h', ds, e, e1 | e1, g⟩
  · exact ⟨by have := g.2; omega, small_ok g.1⟩
  · cases e1
  · cases e1
theorem filter_not {α : Type} {p : α → Bool} : ∀ {l : List α}, (l.filter fun c => !p c).isEmpty = l.all p
  | [] => rfl
  | x :: l => by
    rw [List.filter_cons, List.all_cons, ← filter_not (l := l)]
    cases p x <;> simp
theorem isEmpty_map {α β : Type} {f : α → β} : ∀ {l : List α}, (l.map f).isEmpty = l.isEmpty
  | [] => rfl
  | _ :: _ => rfl
def ascB : List Int → Bool
  | a :: b :: ns => decide (a < b) && ascB (b :: ns)
  | _ => true
theorem zip_two : ∀ (a b : List Int), List.zipWith pairD (a.map D.int) (b.map D.int) = (a.zip b).map fun p => pairD (.int p.1) (.int p.2)
  | [], _ => rfl
  | _ :: _, [] => rfl
  | x :: a, y :: b => by simp [zip_two a b]
theorem lcGo_two {α : Type} {e : Env → M D} {i j : Nat} {ρ : Env} {S : Sto} (g1 g2 f : α → D) : ∀ (ys : List α),
    (∀ y ∈ ys, e ((ρ.set i (some (g1 y))).set j (some (g2 y))) S = some (.ok (f y), S)) →
    lcGo (gTwo i j) (fun _ => M.pure true) e ρ (ys.map fun y => pairD (g1 y) (g2 y)) S = some (.ok (ys.map f), S)
  | [], _ => rfl
  | y :: ys, he => by
    have ih := lcGo_two (e := e) (ρ := ρ) (S := S) (i := i) (j := j) g1 g2 f ys (fun z hz => he z (by simp [hz]))
    refine eq_of_wp ?_
    simp only [List.map_cons, lcGo, gTwo, pairD, wp_bind, wp_pure, if_true]
    rw [wp_of (he y (by simp))]
    exact (wp_of ih).2 ⟨rfl, rfl⟩
theorem zip_asc : ∀ (ns : List Int), (ns.zip (ns.drop 1)).all (fun p => decide (p.1 < p.2)) = ascB ns
  | [] => rfl
  | [a] => rfl
  | a :: b :: ns => by
    have := zip_asc (b :: ns)
    simp only [List.drop_succ_cons, List.drop_zero, List.zip_cons_cons, List.all_cons, ascB] at this ⊢
    rw [← this]
theorem rng_asc : ∀ (ns : List Int), (List.range (ns.length - 1)).all (fun i => decide (ns.getD i 0 < ns.getD (i + 1) 0)) = ascB ns
  | [] => rfl
  | [a] => rfl
  | a :: b :: ns => by
    have ih := rng_asc (b :: ns)
    have e : (a :: b :: ns).length - 1 = ((b :: ns).length - 1) + 1 := by simp
    rw [e, List.range_succ_eq_map, List.all_cons, List.all_map, ascB, ← ih]
    rfl
theorem all_num : ∀ {ds : List D}, ds.all numB = true → ∃ ns : List Int, ds = ns.map D.int ∧ intsOf ds = some ns
  | [], _ => ⟨[], rfl, rfl⟩
  | d :: ds, h => by
    rw [List.all_cons, Bool.and_eq_true] at h
    obtain ⟨ns, e1, e2⟩ := all_num h.2
    cases d with
    | int i => exact ⟨i :: ns, by simp [e1], by simp [intsOf, e2]⟩
    | _ => exact absurd h.1 (by simp [numB])
def isB : D → Bool
  | .bl _ => true
  | _ => false
theorem notN_any : Wp (notN v .non) S Q ↔ Q (.bl (!isNon v)) S := wp_of rfl
theorem isN_any : Wp (isN v .non) S Q ↔ Q (.bl (isNon v)) S := wp_of rfl
theorem isi_B (g : nrB v = true) : Wp (isiM "bool" v) S Q ↔ Q (.bl (isB v)) S := by
  cases v with
  | non => exact isi_nonB
  | bl k => exact isi_blB
  | int i => exact isi_intB
  | str x => exact isi_strB
  | tup ds => exact isi_tupB
  | lst ds => exact isi_lstB
  | dct kv => exact isi_dctB
  | _ => cases g
def isT : D → Bool
  | .str _ => true
  | _ => false
theorem isi_S (g : nrB v = true) : Wp (isiM "str" v) S Q ↔ Q (.bl (isT v)) S := by
  cases v with
  | non => exact isi_nonS
  | bl k => exact isi_blS
  | int i => exact isi_intS
  | str x => exact isi_strS
  | tup ds => exact isi_tupS
  | lst ds => exact isi_lstS
  | dct kv => exact isi_dctS
  | _ => cases g
theorem neNilB {ds : List D} : Wp (neM (.lst ds) (.lst [])) S Q ↔ Q (.bl (!ds.isEmpty)) S := by
  rcases ds with _ | ⟨x, xs⟩
  · exact wp_neNil0
  · exact wp_neNil (by simp)
theorem neSS {x z : Str} (hx : PyData.strOk x = true) (hz : PyData.strOk z = true) : Wp (neM (.str x) (.str z)) S Q ↔ Q (.bl (!(x == z))) S := wp_of (by
  have h : lenDiff S (.str x) (.str z) = false := rfl
  simp [eqB, h, shS hx, shS hz, deS, toPy, PyData.eqv])
theorem eqSS {x z : Str} (hx : PyData.strOk x = true) (hz : PyData.strOk z = true) : Wp (eqM (.str x) (.str z)) S Q ↔ Q (.bl (x == z)) S := wp_of (by
  have h : lenDiff S (.str x) (.str z) = false := rfl
  simp [eqB, h, shS hx, shS hz, deS, toPy, PyData.eqv])
theorem le_not {a b : Int} : decide (b ≤ a) = !decide (a < b) := by
  by_cases h : a < b
  · have : ¬ b ≤ a := by omega
    simp [h, this]
  · have : b ≤ a := by omega
    simp [h, this]
theorem GL_of {P : Nat → D → Prop} {w : Nat} : ∀ {ds : List D}, (∀ d ∈ ds, P w d) → GL P ((w + 2) * ds.length + 3) ds
  | [], _ => by simp [GL]
  | d :: ds, h => ⟨w, (w + 2) * ds.length + 3, h d (by simp), GL_of fun e he => h e (by simp [he]), by simp only [List.length_cons, Nat.mul_add]; omega⟩
theorem repT {S : Sto} {Q : D → Sto → Prop} {ds : List D} {k : Int} (h : ds ≠ [] ∧ 2 ≤ k ∧ k ≤ 1000 ∧ ds.length ≤ 1000) : Wp (repM (.tup ds) (.int k)) S Q ↔ Q (.tup (List.replicate k.toNat ds).flatten) S := wp_of (by
  show (if ds ≠ [] ∧ 2 ≤ k ∧ k ≤ 1000 ∧ ds.length ≤ 1000 then _ else _) = _
  rw [if_pos h])
theorem repL {S : Sto} {Q : D → Sto → Prop} {ds : List D} {k : Int} (h : 0 ≤ k ∧ k ≤ 1000 ∧ ds.length * k.toNat ≤ 100000) : Wp (repM (.lst ds) (.int k)) S Q ↔ Q (.lst (List.replicate k.toNat ds).flatten) S := wp_of (by
  show (if 0 ≤ k ∧ k ≤ 1000 ∧ ds.length * k.toNat ≤ 100000 then _ else _) = _
  rw [if_pos h])
theorem rep1 {n : Nat} {d : D} : (List.replicate n [d]).flatten = List.replicate n d := by
  induction n with
  | zero => rfl
  | succ n ih => rw [List.replicate_succ, List.flatten_cons, ih]; rfl
end
end Mi
namespace Mi
open PySem PySem.Spec PyProof.Rows L2
def topS (i : Nat) : Stmt := PySem.Challenge.pw_whoheld_k03_forms_of_rows.main.body.getD i (.Pass ⟨0, 0, 0, 0⟩)
def tbl_FORMS : List (Str × D) := [("open", .tup [.str "number", .str "outer"]), ("put", .tup [.str "number", .str "page", .str "slot", .str "key", .str "value"]), ("change", .tup [.str "number", .str "page", .str "slot", .str "page", .str "slot", .str "value"]), ("strike", .tup [.str "number", .str "page", .str "slot"]), ("lock", .tup [.str "number", .str "page", .str "slot"]), ("refused", .tup [.str "number", .str "page", .str "slot"]), ("commit", .tup [.str "number"]), ("abort", .tup [.str "number"]), ("prepare", .tup [.str "number", .str "view"]), ("clean", .tup [.str "page", .str "removed", .str "marked"]), ("tidy", .tup [.str "page", .str "tidied"]), ("sweep", .tup []), ("word", .tup [.str "told"]), ("fall", .tup [])]
def ftb_CHECKS : List (Str × Str) := [("open", "_is_open"), ("put", "_is_put"), ("change", "_is_change"), ("strike", "_is_touching"), ("lock", "_is_touching"), ("refused", "_is_touching"), ("commit", "_is_ending"), ("abort", "_is_ending"), ("prepare", "_is_prepare"), ("clean", "_is_clean"), ("tidy", "_is_tidy"), ("sweep", "_is_bare"), ("word", "_is_word"), ("fall", "_is_bare")]
structure Txt (w : World) (K : PySem.W.Frag) (mg : Str → Option Value) : Prop where
  n_abs : mg "abs" = none
  n_all : mg "all" = none
  n_any : mg "any" = none
  n_bool : mg "bool" = none
  n_int : mg "int" = none
  n_isinstance : mg "isinstance" = none
  n_len : mg "len" = none
  n_list : mg "list" = none
  n_range : mg "range" = none
  n_repr : mg "repr" = none
  n_str : mg "str" = none
  n_tuple : mg "tuple" = none
  n_zip : mg "zip" = none
  c_CHARACTERS : ∃ t, mg "CHARACTERS" = some (.str "abcdefghijklmnopqrstuvwxyz0123456789" t)
  c_LETTERS : ∃ t, mg "LETTERS" = some (.str "abcdefghijklmnopqrstuvwxyz" t)
  c_MOST_CHARACTERS : ∃ t, mg "MOST_CHARACTERS" = some (.int 8 t)
  c_MOST_NUMBER : ∃ t, mg "MOST_NUMBER" = some (.int 999999 t)
  c_MOST_PLACES : ∃ t, mg "MOST_PLACES" = some (.int 8 t)
  d_FORMS : ∃ c, mg "FORMS" = some (.ref c) ∧ KTab K w c tbl_FORMS
  e_CHECKS : ∃ c, mg "CHECKS" = some (.ref c) ∧ FTab K w mg c ftb_CHECKS
section
variable {P : Program} {w : World} {K : PySem.W.Frag} {mg : Str → Option Value} {base : Heap}
abbrev s_is_key : Stmt := topS 6
abbrev ps_is_key : List Str := ["value"]
abbrev N_is_key : List Str := ["value"]
theorem sc_is_key : FnScope N_is_key ps_is_key (defScope s_is_key) := ⟨rfl, rfl, rfl, by decide +kernel, rfl, by decide +kernel, by decide +kernel⟩
def b_is_key : Env → M (Fl × Env) := (sSeq (sRet (andV (b1 (isiM "str") (vget 0)) (andV (chn leM leM (fun _ => M.pure (.int 1)) (cal (on1 lenM) (aCons (vget 0) (fun _ => M.pure []))) (fun _ => M.pure (.int 8))) (b2 eqM (mth chkS stripM (vget 0) (aCons (fun _ => M.pure (.str "abcdefghijklmnopqrstuvwxyz")) (fun _ => M.pure []))) (fun _ => M.pure (.str ""))))))
    sNil)
def m_is_key : List D → M D := runM 1 b_is_key
theorem ok_is_key (T : Txt w K mg) (D : DefAt K mg "is_key" s_is_key ps_is_key)  : OkAt P w K mg base 1 "is_key" s_is_key ps_is_key m_is_key :=
  OkAt.of (ms := b_is_key) (N := N_is_key) (n := 1) (k := 0) rfl D sc_is_key fun fa cdv A outer s H E hr =>
    (mss_cons (ms_ret (me_and (me_isi rfl T.n_isinstance (by decide +kernel) (me_of (pv 0)) (pe_bltn rfl T.n_str (by decide +kernel) rfl)) (me_and (me_chain op_le leM_ok op_le leM_ok me_int (me_callB call_len lenM_ok rfl T.n_len (by decide +kernel) (ma_cons (me_of (pv 0)) ma_nil)) (me_gint rfl T.c_MOST_CHARACTERS) (nomark _)) (me_one (me_cmp (op_eqU hr.units) eqM_ok (pe_imp (pe_bm PySem.F.plainAttrs_str PySem.F.slot_str_strip PySem.F.type_str_strip mt_stripChars (me_of (pv 0)) (ma_cons (me_gstr rfl T.c_LETTERS) ma_nil)) (fun _ _ _ h => mth_go chkS_ok stripM_ok h)) me_str (nomark _))))))
    mss_nil)
abbrev s_is_value : Stmt := topS 7
abbrev ps_is_value : List Str := ["value"]
abbrev N_is_value : List Str := ["value"]
theorem sc_is_value : FnScope N_is_value ps_is_value (defScope s_is_value) := ⟨rfl, rfl, rfl, by decide +kernel, rfl, by decide +kernel, by decide +kernel⟩
def b_is_value : Env → M (Fl × Env) := (sSeq (sRet (andV (b1 (isiM "str") (vget 0)) (andV (chn leM leM (fun _ => M.pure (.int 1)) (cal (on1 lenM) (aCons (vget 0) (fun _ => M.pure []))) (fun _ => M.pure (.int 8))) (b2 eqM (mth chkS stripM (vget 0) (aCons (fun _ => M.pure (.str "abcdefghijklmnopqrstuvwxyz0123456789")) (fun _ => M.pure []))) (fun _ => M.pure (.str ""))))))
    sNil)
def m_is_value : List D → M D := runM 1 b_is_value
theorem ok_is_value (T : Txt w K mg) (D : DefAt K mg "is_value" s_is_value ps_is_value)  : OkAt P w K mg base 1 "is_value" s_is_value ps_is_value m_is_value :=
  OkAt.of (ms := b_is_value) (N := N_is_value) (n := 1) (k := 0) rfl D sc_is_value fun fa cdv A outer s H E hr =>
    (mss_cons (ms_ret (me_and (me_isi rfl T.n_isinstance (by decide +kernel) (me_of (pv 0)) (pe_bltn rfl T.n_str (by decide +kernel) rfl)) (me_and (me_chain op_le leM_ok op_le leM_ok me_int (me_callB call_len lenM_ok rfl T.n_len (by decide +kernel) (ma_cons (me_of (pv 0)) ma_nil)) (me_gint rfl T.c_MOST_CHARACTERS) (nomark _)) (me_one (me_cmp (op_eqU hr.units) eqM_ok (pe_imp (pe_bm PySem.F.plainAttrs_str PySem.F.slot_str_strip PySem.F.type_str_strip mt_stripChars (me_of (pv 0)) (ma_cons (me_gstr rfl T.c_CHARACTERS) ma_nil)) (fun _ _ _ h => mth_go chkS_ok stripM_ok h)) me_str (nomark _))))))
    mss_nil)
abbrev s_is_number : Stmt := topS 8
abbrev ps_is_number : List Str := ["value"]
abbrev N_is_number : List Str := ["value"]
theorem sc_is_number : FnScope N_is_number ps_is_number (defScope s_is_number) := ⟨rfl, rfl, rfl, by decide +kernel, rfl, by decide +kernel, by decide +kernel⟩
def b_is_number : Env → M (Fl × Env) := (sSeq (sRet (andV (b1 (isiM "int") (vget 0)) (andV (chn leW leW (fun _ => M.pure (.int 1)) (vget 0) (fun _ => M.pure (.int 999999))) (notV (b1 (isiM "bool") (vget 0))))))
    sNil)
def m_is_number : List D → M D := runM 1 b_is_number
theorem ok_is_number (T : Txt w K mg) (D : DefAt K mg "is_number" s_is_number ps_is_number)  : OkAt P w K mg base 1 "is_number" s_is_number ps_is_number m_is_number :=
  OkAt.of (ms := b_is_number) (N := N_is_number) (n := 1) (k := 0) rfl D sc_is_number fun fa cdv A outer s H E hr =>
    (mss_cons (ms_ret (me_and (me_isi rfl T.n_isinstance (by decide +kernel) (me_of (pv 0)) (pe_bltn rfl T.n_int (by decide +kernel) rfl)) (me_and (me_chain op_leW cmpW_ok op_leW cmpW_ok me_int (me_of (pv 0)) (me_gint rfl T.c_MOST_NUMBER) (nomark _)) (me_one (me_not (me_isi rfl T.n_isinstance (by decide +kernel) (me_of (pv 0)) (pe_bltn rfl T.n_bool (by decide +kernel) rfl)))))))
    mss_nil)
abbrev s_is_view : Stmt := topS 9
abbrev ps_is_view : List Str := ["value"]
abbrev N_is_view : List Str := ["value"]
theorem sc_is_view : FnScope N_is_view ps_is_view (defScope s_is_view) := ⟨rfl, rfl, rfl, by decide +kernel, rfl, by decide +kernel, by decide +kernel⟩
def b_is_view : Env → M (Fl × Env) := (sSeq (sRet (andV (b1 (isiM "int") (vget 0)) (andV (chn leW leW (fun _ => M.pure (.int 0)) (vget 0) (fun _ => M.pure (.int 999999))) (notV (b1 (isiM "bool") (vget 0))))))
    sNil)
def m_is_view : List D → M D := runM 1 b_is_view
theorem ok_is_view (T : Txt w K mg) (D : DefAt K mg "is_view" s_is_view ps_is_view)  : OkAt P w K mg base 1 "is_view" s_is_view ps_is_view m_is_view :=
  OkAt.of (ms := b_is_view) (N := N_is_view) (n := 1) (k := 0) rfl D sc_is_view fun fa cdv A outer s H E hr =>
    (mss_cons (ms_ret (me_and (me_isi rfl T.n_isinstance (by decide +kernel) (me_of (pv 0)) (pe_bltn rfl T.n_int (by decide +kernel) rfl)) (me_and (me_chain op_leW cmpW_ok op_leW cmpW_ok me_int (me_of (pv 0)) (me_gint rfl T.c_MOST_NUMBER) (nomark _)) (me_one (me_not (me_isi rfl T.n_isinstance (by decide +kernel) (me_of (pv 0)) (pe_bltn rfl T.n_bool (by decide +kernel) rfl)))))))
    mss_nil)
abbrev s_is_place : Stmt := topS 10
abbrev ps_is_place : List Str := ["value"]
abbrev N_is_place : List Str := ["value"]
theorem sc_is_place : FnScope N_is_place ps_is_place (defScope s_is_place) := ⟨rfl, rfl, rfl, by decide +kernel, rfl, by decide +kernel, by decide +kernel⟩
def b_is_place : Env → M (Fl × Env) := (sSeq (sRet (andV (b1 (isiM "int") (vget 0)) (andV (chn leW ltW (fun _ => M.pure (.int 0)) (vget 0) (fun _ => M.pure (.int 8))) (notV (b1 (isiM "bool") (vget 0))))))
    sNil)
def m_is_place : List D → M D := runM 1 b_is_place
theorem ok_is_place (T : Txt w K mg) (D : DefAt K mg "is_place" s_is_place ps_is_place)  : OkAt P w K mg base 1 "is_place" s_is_place ps_is_place m_is_place :=
  OkAt.of (ms := b_is_place) (N := N_is_place) (n := 1) (k := 0) rfl D sc_is_place fun fa cdv A outer s H E hr =>
    (mss_cons (ms_ret (me_and (me_isi rfl T.n_isinstance (by decide +kernel) (me_of (pv 0)) (pe_bltn rfl T.n_int (by decide +kernel) rfl)) (me_and (me_chain op_leW cmpW_ok op_ltW cmpW_ok me_int (me_of (pv 0)) (me_gint rfl T.c_MOST_PLACES) (nomark _)) (me_one (me_not (me_isi rfl T.n_isinstance (by decide +kernel) (me_of (pv 0)) (pe_bltn rfl T.n_bool (by decide +kernel) rfl)))))))
    mss_nil)
abbrev s_is_ascending : Stmt := topS 11
abbrev ps_is_ascending : List Str := ["integers"]
abbrev N_is_ascending : List Str := ["integers", "low", "high"]
theorem sc_is_ascending : FnScope N_is_ascending ps_is_ascending (defScope s_is_ascending) := ⟨rfl, rfl, rfl, by decide +kernel, rfl, by decide +kernel, by decide +kernel⟩
def b_is_ascending : Env → M (Fl × Env) := (sSeq (sRet (orV (b2 ltM (cal (on1 lenM) (aCons (vget 0) (fun _ => M.pure []))) (fun _ => M.pure (.int 2))) (cal (on1 allM) (aCons (eLc (iZip (aCons (vget 0) (aCons (slc (vget 0) (some (fun _ => M.pure (.int 1))) none) (fun _ => M.pure [])))) (gTwo 1 2) (fun _ => M.pure true) (b2 ltM (vget 1) (vget 2)) [1, 2]) (fun _ => M.pure [])))))
    sNil)
def m_is_ascending : List D → M D := runM 3 b_is_ascending
theorem ok_is_ascending (T : Txt w K mg) (D : DefAt K mg "is_ascending" s_is_ascending ps_is_ascending)  : OkAt P w K mg base 1 "is_ascending" s_is_ascending ps_is_ascending m_is_ascending :=
  OkAt.of (ms := b_is_ascending) (N := N_is_ascending) (n := 3) (k := 0) rfl D sc_is_ascending fun fa cdv A outer s H E hr =>
    (mss_cons (ms_ret (me_or (me_cmp op_lt ltM_ok (me_callB call_len lenM_ok rfl T.n_len (by decide +kernel) (ma_cons (me_of (pv 0)) ma_nil)) me_int (nomark _)) (me_one (me_callB (cr_all rfl) allM_ok rfl T.n_all (by decide +kernel) (ma_cons (me_lc (own := [("low", 1), ("high", 2)]) rfl sc_is_ascending.nd (mi_zip rfl T.n_zip (ma_cons (me_of (pv 0)) (ma_cons (me_slice (me_of (pv 0)) (mo_some me_int) mo_none) ma_nil))) (blkOk_by (N := N_is_ascending) (sc := defScope s_is_ascending) (by decide +kernel)) (gw_two (i := 1) (j := 2) (by simp) (by simp)) (fun _ _ _ _ _ => pg_tup rfl (pgs_cons (pg_name (i := 1) sc_is_ascending.nd rfl (Or.inl rfl)) (pgs_cons (pg_name (i := 2) sc_is_ascending.nd rfl (Or.inl rfl)) pgs_nil))) (fun _ _ _ _ _ => mts_nil) (fun _ _ _ _ _ => (me_cmp op_lt ltM_ok (me_of (pv 1)) (me_of (pv 2)) (nomark _)))) ma_nil)))))
    mss_nil)
abbrev s__is_open : Stmt := topS 14
abbrev ps__is_open : List Str := ["row"]
abbrev N__is_open : List Str := ["row"]
theorem sc__is_open : FnScope N__is_open ps__is_open (defScope s__is_open) := ⟨rfl, rfl, rfl, by decide +kernel, rfl, by decide +kernel, by decide +kernel⟩
def b__is_open : Env → M (Fl × Env) := (sSeq (sRet (andV (calF 1 m_is_number (aCons (b2 ixM (vget 0) (fun _ => M.pure (.int 1))) (fun _ => M.pure []))) (orV (b2 isN (b2 ixM (vget 0) (fun _ => M.pure (.int 2))) (fun _ => M.pure .non)) (andV (calF 1 m_is_number (aCons (b2 ixM (vget 0) (fun _ => M.pure (.int 2))) (fun _ => M.pure []))) (b2 ltM (b2 ixM (vget 0) (fun _ => M.pure (.int 2))) (b2 ixM (vget 0) (fun _ => M.pure (.int 1))))))))
    sNil)
def m__is_open : List D → M D := runM 1 b__is_open
theorem ok__is_open (T : Txt w K mg) (D : DefAt K mg "_is_open" s__is_open ps__is_open) (O_is_number : OkAt P w K mg base 1 "is_number" s_is_number ps_is_number m_is_number) : OkAt P w K mg base 2 "_is_open" s__is_open ps__is_open m__is_open :=
  OkAt.of (ms := b__is_open) (N := N__is_open) (n := 1) (k := 1) rfl D sc__is_open fun fa cdv A outer s H E hr =>
    (mss_cons (ms_ret (me_and (me_callO O_is_number (hr.mono (by decide)) rfl rfl (ma_cons (me_item (me_of (pv 0)) me_int (fun _ _ => rfl)) ma_nil)) (me_one (me_or (me_cmp op_isN isN_ok (me_item (me_of (pv 0)) me_int (fun _ _ => rfl)) me_non (nomark _)) (me_one (me_and (me_callO O_is_number (hr.mono (by decide)) rfl rfl (ma_cons (me_item (me_of (pv 0)) me_int (fun _ _ => rfl)) ma_nil)) (me_one (me_cmp op_lt ltM_ok (me_item (me_of (pv 0)) me_int (fun _ _ => rfl)) (me_item (me_of (pv 0)) me_int (fun _ _ => rfl)) (nomark _)))))))))
    mss_nil)
abbrev s__is_touching : Stmt := topS 17
abbrev ps__is_touching : List Str := ["row"]
abbrev N__is_touching : List Str := ["row"]
theorem sc__is_touching : FnScope N__is_touching ps__is_touching (defScope s__is_touching) := ⟨rfl, rfl, rfl, by decide +kernel, rfl, by decide +kernel, by decide +kernel⟩
def b__is_touching : Env → M (Fl × Env) := (sSeq (sRet (andV (calF 1 m_is_number (aCons (b2 ixM (vget 0) (fun _ => M.pure (.int 1))) (fun _ => M.pure []))) (andV (calF 1 m_is_place (aCons (b2 ixM (vget 0) (fun _ => M.pure (.int 2))) (fun _ => M.pure []))) (calF 1 m_is_place (aCons (b2 ixM (vget 0) (fun _ => M.pure (.int 3))) (fun _ => M.pure []))))))
    sNil)
def m__is_touching : List D → M D := runM 1 b__is_touching
theorem ok__is_touching (T : Txt w K mg) (D : DefAt K mg "_is_touching" s__is_touching ps__is_touching) (O_is_number : OkAt P w K mg base 1 "is_number" s_is_number ps_is_number m_is_number) (O_is_place : OkAt P w K mg base 1 "is_place" s_is_place ps_is_place m_is_place) : OkAt P w K mg base 2 "_is_touching" s__is_touching ps__is_touching m__is_touching :=
  OkAt.of (ms := b__is_touching) (N := N__is_touching) (n := 1) (k := 1) rfl D sc__is_touching fun fa cdv A outer s H E hr =>
    (mss_cons (ms_ret (me_and (me_callO O_is_number (hr.mono (by decide)) rfl rfl (ma_cons (me_item (me_of (pv 0)) me_int (fun _ _ => rfl)) ma_nil)) (me_and (me_callO O_is_place (hr.mono (by decide)) rfl rfl (ma_cons (me_item (me_of (pv 0)) me_int (fun _ _ => rfl)) ma_nil)) (me_one (me_callO O_is_place (hr.mono (by decide)) rfl rfl (ma_cons (me_item (me_of (pv 0)) me_int (fun _ _ => rfl)) ma_nil))))))
    mss_nil)
abbrev s__is_ending : Stmt := topS 18
abbrev ps__is_ending : List Str := ["row"]
abbrev N__is_ending : List Str := ["row"]
theorem sc__is_ending : FnScope N__is_ending ps__is_ending (defScope s__is_ending) := ⟨rfl, rfl, rfl, by decide +kernel, rfl, by decide +kernel, by decide +kernel⟩
def b__is_ending : Env → M (Fl × Env) := (sSeq (sRet (calF 1 m_is_number (aCons (b2 ixM (vget 0) (fun _ => M.pure (.int 1))) (fun _ => M.pure []))))
    sNil)
def m__is_ending : List D → M D := runM 1 b__is_ending
theorem ok__is_ending (T : Txt w K mg) (D : DefAt K mg "_is_ending" s__is_ending ps__is_ending) (O_is_number : OkAt P w K mg base 1 "is_number" s_is_number ps_is_number m_is_number) : OkAt P w K mg base 2 "_is_ending" s__is_ending ps__is_ending m__is_ending :=
  OkAt.of (ms := b__is_ending) (N := N__is_ending) (n := 1) (k := 1) rfl D sc__is_ending fun fa cdv A outer s H E hr =>
    (mss_cons (ms_ret (me_callO O_is_number (hr.mono (by decide)) rfl rfl (ma_cons (me_item (me_of (pv 0)) me_int (fun _ _ => rfl)) ma_nil)))
    mss_nil)
abbrev s__is_prepare : Stmt := topS 19
abbrev ps__is_prepare : List Str := ["row"]
abbrev N__is_prepare : List Str := ["row"]
theorem sc__is_prepare : FnScope N__is_prepare ps__is_prepare (defScope s__is_prepare) := ⟨rfl, rfl, rfl, by decide +kernel, rfl, by decide +kernel, by decide +kernel⟩
def b__is_prepare : Env → M (Fl × Env) := (sSeq (sRet (andV (calF 1 m_is_number (aCons (b2 ixM (vget 0) (fun _ => M.pure (.int 1))) (fun _ => M.pure []))) (calF 1 m_is_view (aCons (b2 ixM (vget 0) (fun _ => M.pure (.int 2))) (fun _ => M.pure [])))))
    sNil)
def m__is_prepare : List D → M D := runM 1 b__is_prepare
theorem ok__is_prepare (T : Txt w K mg) (D : DefAt K mg "_is_prepare" s__is_prepare ps__is_prepare) (O_is_number : OkAt P w K mg base 1 "is_number" s_is_number ps_is_number m_is_number) (O_is_view : OkAt P w K mg base 1 "is_view" s_is_view ps_is_view m_is_view) : OkAt P w K mg base 2 "_is_prepare" s__is_prepare ps__is_prepare m__is_prepare :=
  OkAt.of (ms := b__is_prepare) (N := N__is_prepare) (n := 1) (k := 1) rfl D sc__is_prepare fun fa cdv A outer s H E hr =>
    (mss_cons (ms_ret (me_and (me_callO O_is_number (hr.mono (by decide)) rfl rfl (ma_cons (me_item (me_of (pv 0)) me_int (fun _ _ => rfl)) ma_nil)) (me_one (me_callO O_is_view (hr.mono (by decide)) rfl rfl (ma_cons (me_item (me_of (pv 0)) me_int (fun _ _ => rfl)) ma_nil)))))
    mss_nil)
abbrev s__is_word : Stmt := topS 22
abbrev ps__is_word : List Str := ["row"]
abbrev N__is_word : List Str := ["row"]
theorem sc__is_word : FnScope N__is_word ps__is_word (defScope s__is_word) := ⟨rfl, rfl, rfl, by decide +kernel, rfl, by decide +kernel, by decide +kernel⟩
def b__is_word : Env → M (Fl × Env) := (sSeq (sRet (orV (b2 isN (b2 ixM (vget 0) (fun _ => M.pure (.int 1))) (fun _ => M.pure .non)) (calF 1 m_is_view (aCons (b2 ixM (vget 0) (fun _ => M.pure (.int 1))) (fun _ => M.pure [])))))
    sNil)
def m__is_word : List D → M D := runM 1 b__is_word
theorem ok__is_word (T : Txt w K mg) (D : DefAt K mg "_is_word" s__is_word ps__is_word) (O_is_view : OkAt P w K mg base 1 "is_view" s_is_view ps_is_view m_is_view) : OkAt P w K mg base 2 "_is_word" s__is_word ps__is_word m__is_word :=
  OkAt.of (ms := b__is_word) (N := N__is_word) (n := 1) (k := 1) rfl D sc__is_word fun fa cdv A outer s H E hr =>
    (mss_cons (ms_ret (me_or (me_cmp op_isN isN_ok (me_item (me_of (pv 0)) me_int (fun _ _ => rfl)) me_non (nomark _)) (me_one (me_callO O_is_view (hr.mono (by decide)) rfl rfl (ma_cons (me_item (me_of (pv 0)) me_int (fun _ _ => rfl)) ma_nil)))))
    mss_nil)
abbrev s__is_bare : Stmt := topS 23
abbrev ps__is_bare : List Str := ["row"]
abbrev N__is_bare : List Str := ["row"]
theorem sc__is_bare : FnScope N__is_bare ps__is_bare (defScope s__is_bare) := ⟨rfl, rfl, rfl, by decide +kernel, rfl, by decide +kernel, by decide +kernel⟩
def b__is_bare : Env → M (Fl × Env) := (sSeq (sRet (b2 eqM (cal (on1 lenM) (aCons (vget 0) (fun _ => M.pure []))) (fun _ => M.pure (.int 1))))
    sNil)
def m__is_bare : List D → M D := runM 1 b__is_bare
theorem ok__is_bare (T : Txt w K mg) (D : DefAt K mg "_is_bare" s__is_bare ps__is_bare)  : OkAt P w K mg base 1 "_is_bare" s__is_bare ps__is_bare m__is_bare :=
  OkAt.of (ms := b__is_bare) (N := N__is_bare) (n := 1) (k := 0) rfl D sc__is_bare fun fa cdv A outer s H E hr =>
    (mss_cons (ms_ret (me_cmp (op_eqU hr.units) eqM_ok (me_callB call_len lenM_ok rfl T.n_len (by decide +kernel) (ma_cons (me_of (pv 0)) ma_nil)) me_int (nomark _)))
    mss_nil)
abbrev s__are_slots : Stmt := topS 24
abbrev ps__are_slots : List Str := ["value"]
abbrev N__are_slots : List Str := ["value", "slot"]
theorem sc__are_slots : FnScope N__are_slots ps__are_slots (defScope s__are_slots) := ⟨rfl, rfl, rfl, by decide +kernel, rfl, by decide +kernel, by decide +kernel⟩
def b__are_slots : Env → M (Fl × Env) := (sSeq (sIf (notT (tst (b1 (isiM "tuple") (vget 0)))) (sSeq (sRet (fun _ => M.pure (.bl false)))
    sNil) sNil)
    (sSeq (sFor (iSeq (vget 0)) (gSet 1) (sSeq (sIf (notT (tst (calF 1 m_is_place (aCons (vget 1) (fun _ => M.pure []))))) (sSeq (sRet (fun _ => M.pure (.bl false)))
    sNil) sNil)
    sNil))
    (sSeq (sRet (calF 1 m_is_ascending (aCons (vget 0) (fun _ => M.pure []))))
    sNil)))
def m__are_slots : List D → M D := runM 2 b__are_slots
theorem ok__are_slots (T : Txt w K mg) (D : DefAt K mg "_are_slots" s__are_slots ps__are_slots) (O_is_ascending : OkAt P w K mg base 1 "is_ascending" s_is_ascending ps_is_ascending m_is_ascending) (O_is_place : OkAt P w K mg base 1 "is_place" s_is_place ps_is_place m_is_place) : OkAt P w K mg base 2 "_are_slots" s__are_slots ps__are_slots m__are_slots :=
  OkAt.of (ms := b__are_slots) (N := N__are_slots) (n := 2) (k := 1) rfl D sc__are_slots fun fa cdv A outer s H E hr =>
    (mss_cons (ms_if (mt_not (mt_val (me_isi rfl T.n_isinstance (by decide +kernel) (me_of (pv 0)) (pe_bltn rfl T.n_tuple (by decide +kernel) rfl)))) (mss_cons (ms_ret me_bl)
    mss_nil) mss_nil)
    (mss_cons (ms_for PassesOwn.never rfl (mi_seq (me_of (pv 0))) (mg_name (i := 1) sc__are_slots.nd rfl (Or.inl rfl)) (mss_cons (ms_if (mt_not (mt_val (me_callO O_is_place (hr.mono (by decide)) rfl rfl (ma_cons (me_of (pv 1)) ma_nil)))) (mss_cons (ms_ret me_bl)
    mss_nil) mss_nil)
    mss_nil))
    (mss_cons (ms_ret (me_callO O_is_ascending (hr.mono (by decide)) rfl rfl (ma_cons (me_of (pv 0)) ma_nil)))
    mss_nil)))
abbrev s__law_pen : Stmt := topS 28
abbrev ps__law_pen : List Str := ["_law_script"]
abbrev N__law_pen : List Str := ["_law_script"]
theorem sc__law_pen : FnScope N__law_pen ps__law_pen (defScope s__law_pen) := ⟨rfl, rfl, rfl, by decide +kernel, rfl, by decide +kernel, by decide +kernel⟩
def b__law_pen : Env → M (Fl × Env) := (sSeq (sRet (mkC (aCons (cal (on1 listM) (aCons (slc (vget 0) none (some (fun _ => M.pure (.int 63)))) (fun _ => M.pure []))) (aCons (fun _ => M.pure (.int 0)) (aCons (fun _ => M.pure (.int 0)) (fun _ => M.pure []))))))
    sNil)
def m__law_pen : List D → M D := runM 1 b__law_pen
theorem ok__law_pen (T : Txt w K mg) (D : DefAt K mg "_law_pen" s__law_pen ps__law_pen)  : OkAt P w K mg base 1 "_law_pen" s__law_pen ps__law_pen m__law_pen :=
  OkAt.of (ms := b__law_pen) (N := N__law_pen) (n := 1) (k := 0) rfl D sc__law_pen fun fa cdv A outer s H E hr =>
    (mss_cons (ms_ret (me_new (ma_cons (me_callTy (call_listU rfl) listM_ok rfl T.n_list (by decide +kernel) (ma_cons (me_slice (me_of (pv 0)) mo_none (mo_some me_int)) ma_nil)) (ma_cons me_int (ma_cons me_int ma_nil)))))
    mss_nil)
abbrev s__law_draw : Stmt := topS 29
abbrev ps__law_draw : List Str := ["_law_pen_here", "_law_bound"]
abbrev N__law_draw : List Str := ["_law_pen_here", "_law_bound", "_law_digit", "_law_at", "_law_cell", "_law_great", "_law_mixed"]
theorem sc__law_draw : FnScope N__law_draw ps__law_draw (defScope s__law_draw) := ⟨rfl, rfl, rfl, by decide +kernel, rfl, by decide +kernel, by decide +kernel⟩
def b__law_draw : Env → M (Fl × Env) := (sSeq (sIf (tst (b2 gtM (b2 ixM (vget 0) (fun _ => M.pure (.int 2))) (fun _ => M.pure (.int 0)))) (sSeq (sAsg (b2 modM (cal (on1 intM) (aCons (b2 ixM (vget 0) (fun _ => M.pure (.int 2))) (fun _ => M.pure []))) (vget 1)) (gSet 2))
    (sSeq (sAsg (b2 fdivM (cal (on1 intM) (aCons (b2 ixM (vget 0) (fun _ => M.pure (.int 2))) (fun _ => M.pure []))) (vget 1)) (gPut (vget 0) (fun _ => M.pure (.int 2))))
    (sSeq (sRet (vget 2))
    sNil))) sNil)
    (sSeq (sAsg (cal (on1 intM) (aCons (b2 ixM (vget 0) (fun _ => M.pure (.int 1))) (fun _ => M.pure []))) (gSet 3))
    (sSeq (sAsg (b2 addM (vget 3) (fun _ => M.pure (.int 1))) (gPut (vget 0) (fun _ => M.pure (.int 1))))
    (sSeq (sAsg (b2 addM (b2 mulM (fun _ => M.pure (.int 75211)) (vget 3)) (fun _ => M.pure (.int 1203))) (gSet 4))
    (sSeq (sIf (tst (b2 neM (b2 ixM (vget 0) (fun _ => M.pure (.int 0))) (mkL (fun _ => M.pure [])))) (sSeq (sAsg (cal (on1 intM) (aCons (b2 ixM (b2 ixM (vget 0) (fun _ => M.pure (.int 0))) (b2 modM (cal (on1 intM) (aCons (vget 3) (fun _ => M.pure []))) (cal (on1 lenM) (aCons (b2 ixM (vget 0) (fun _ => M.pure (.int 0))) (fun _ => M.pure []))))) (fun _ => M.pure []))) (gSet 4))
    sNil) sNil)
    (sSeq (sIf (andT (tst (b2 ltM (vget 3) (cal (on1 lenM) (aCons (b2 ixM (vget 0) (fun _ => M.pure (.int 0))) (fun _ => M.pure []))))) (tst (b2 geM (cal (on1 absM) (aCons (vget 4) (fun _ => M.pure []))) (b2 powM (fun _ => M.pure (.int 10)) (fun _ => M.pure (.int 18)))))) (sSeq (sAsg (b2 addM (b2 mulM (fun _ => M.pure (.int 2)) (b2 subM (cal (on1 absM) (aCons (vget 4) (fun _ => M.pure []))) (b2 powM (fun _ => M.pure (.int 10)) (fun _ => M.pure (.int 18))))) (cal (on1 intM) (aCons (b2 ltM (vget 4) (fun _ => M.pure (.int 0))) (fun _ => M.pure [])))) (gSet 5))
    (sSeq (sAsg (b2 fdivM (vget 5) (vget 1)) (gPut (vget 0) (fun _ => M.pure (.int 2))))
    (sSeq (sRet (b2 modM (cal (on1 intM) (aCons (vget 5) (fun _ => M.pure []))) (vget 1)))
    sNil))) sNil)
    (sSeq (sAsg (b2 modM (cal (on1 intM) (aCons (b2 powM (b2 addM (b2 addM (b2 modM (cal (on1 intM) (aCons (vget 4) (fun _ => M.pure []))) (fun _ => M.pure (.int 2147483629))) (b2 mulM (fun _ => M.pure (.int 60337)) (vget 3))) (fun _ => M.pure (.int 29))) (fun _ => M.pure (.int 5))) (fun _ => M.pure []))) (fun _ => M.pure (.int 2147483563))) (gSet 6))
    (sSeq (sAsg (b2 modM (cal (on1 intM) (aCons (b2 powM (b2 addM (b2 addM (b2 mulM (vget 6) (b2 addM (b2 mulM (fun _ => M.pure (.int 2)) (vget 3)) (fun _ => M.pure (.int 11)))) (b2 mulM (b2 mulM (fun _ => M.pure (.int 50207)) (vget 3)) (vget 3))) (fun _ => M.pure (.int 5))) (fun _ => M.pure (.int 3))) (fun _ => M.pure []))) (fun _ => M.pure (.int 2147483579))) (gSet 6))
    (sSeq (sRet (b2 modM (cal (on1 intM) (aCons (b2 fdivM (vget 6) (fun _ => M.pure (.int 32))) (fun _ => M.pure []))) (vget 1)))
    sNil)))))))))
def m__law_draw : List D → M D := runM 7 b__law_draw
theorem ok__law_draw (T : Txt w K mg) (D : DefAt K mg "_law_draw" s__law_draw ps__law_draw)  : OkAt P w K mg base 1 "_law_draw" s__law_draw ps__law_draw m__law_draw :=
  OkAt.of (ms := b__law_draw) (N := N__law_draw) (n := 7) (k := 0) rfl D sc__law_draw fun fa cdv A outer s H E hr =>
    (mss_cons (ms_if (mt_cmp op_gt gtM_ok (me_item (me_of (pv 0)) me_int (fun _ _ => rfl)) me_int (nomark _)) (mss_cons (ms_set (i := 2) sc__law_draw.nd rfl (Or.inl rfl) (me_mod (me_callTy call_int1 intM_ok rfl T.n_int (by decide +kernel) (ma_cons (me_item (me_of (pv 0)) me_int (fun _ _ => rfl)) ma_nil)) (me_of (pv 1))))
    (mss_cons (ms_asg (me_fdiv (me_callTy call_int1 intM_ok rfl T.n_int (by decide +kernel) (ma_cons (me_item (me_of (pv 0)) me_int (fun _ _ => rfl)) ma_nil)) (me_of (pv 1))) (mg_sub (me_of (pv 0)) me_int))
    (mss_cons (ms_ret (me_of (pv 2)))
    mss_nil))) mss_nil)
    (mss_cons (ms_set (i := 3) sc__law_draw.nd rfl (Or.inl rfl) (me_callTy call_int1 intM_ok rfl T.n_int (by decide +kernel) (ma_cons (me_item (me_of (pv 0)) me_int (fun _ _ => rfl)) ma_nil)))
    (mss_cons (ms_asg (me_add (me_of (pv 3)) me_int) (mg_sub (me_of (pv 0)) me_int))
    (mss_cons (ms_set (i := 4) sc__law_draw.nd rfl (Or.inl rfl) (me_add (me_mul me_int (me_of (pv 3))) me_int))
    (mss_cons (ms_if (mt_cmp (op_neU hr.units) neM_ok (me_item (me_of (pv 0)) me_int (fun _ _ => rfl)) (me_lst ma_nil) (nomark _)) (mss_cons (ms_set (i := 4) sc__law_draw.nd rfl (Or.inl rfl) (me_callTy call_int1 intM_ok rfl T.n_int (by decide +kernel) (ma_cons (me_item (me_item (me_of (pv 0)) me_int (fun _ _ => rfl)) (me_mod (me_callTy call_int1 intM_ok rfl T.n_int (by decide +kernel) (ma_cons (me_of (pv 3)) ma_nil)) (me_callB call_len lenM_ok rfl T.n_len (by decide +kernel) (ma_cons (me_item (me_of (pv 0)) me_int (fun _ _ => rfl)) ma_nil))) (fun _ _ => rfl)) ma_nil)))
    mss_nil) mss_nil)
    (mss_cons (ms_if (PW.pt (mw_and (mt_cmp op_lt ltM_ok (me_of (pv 3)) (me_callB call_len lenM_ok rfl T.n_len (by decide +kernel) (ma_cons (me_item (me_of (pv 0)) me_int (fun _ _ => rfl)) ma_nil)) (nomark _)) (mw_and1 (mt_cmp op_ge geM_ok (me_callB call_abs absM_ok rfl T.n_abs (by decide +kernel) (ma_cons (me_of (pv 4)) ma_nil)) (me_pow me_int me_int) (nomark _))))) (mss_cons (ms_set (i := 5) sc__law_draw.nd rfl (Or.inl rfl) (me_add (me_mul me_int (me_sub (me_callB call_abs absM_ok rfl T.n_abs (by decide +kernel) (ma_cons (me_of (pv 4)) ma_nil)) (me_pow me_int me_int))) (me_callTy call_int1 intM_ok rfl T.n_int (by decide +kernel) (ma_cons (me_cmp op_lt ltM_ok (me_of (pv 4)) me_int (nomark _)) ma_nil))))
    (mss_cons (ms_asg (me_fdiv (me_of (pv 5)) (me_of (pv 1))) (mg_sub (me_of (pv 0)) me_int))
    (mss_cons (ms_ret (me_mod (me_callTy call_int1 intM_ok rfl T.n_int (by decide +kernel) (ma_cons (me_of (pv 5)) ma_nil)) (me_of (pv 1))))
    mss_nil))) mss_nil)
    (mss_cons (ms_set (i := 6) sc__law_draw.nd rfl (Or.inl rfl) (me_mod (me_callTy call_int1 intM_ok rfl T.n_int (by decide +kernel) (ma_cons (me_pow (me_add (me_add (me_mod (me_callTy call_int1 intM_ok rfl T.n_int (by decide +kernel) (ma_cons (me_of (pv 4)) ma_nil)) me_int) (me_mul me_int (me_of (pv 3)))) me_int) me_int) ma_nil)) me_int))
    (mss_cons (ms_set (i := 6) sc__law_draw.nd rfl (Or.inl rfl) (me_mod (me_callTy call_int1 intM_ok rfl T.n_int (by decide +kernel) (ma_cons (me_pow (me_add (me_add (me_mul (me_of (pv 6)) (me_add (me_mul me_int (me_of (pv 3))) me_int)) (me_mul (me_mul me_int (me_of (pv 3))) (me_of (pv 3)))) me_int) me_int) ma_nil)) me_int))
    (mss_cons (ms_ret (me_mod (me_callTy call_int1 intM_ok rfl T.n_int (by decide +kernel) (ma_cons (me_fdiv (me_of (pv 6)) me_int) ma_nil)) (me_of (pv 1))))
    mss_nil)))))))))
abbrev s__law_pick : Stmt := topS 30
abbrev ps__law_pick : List Str := ["_law_pen_here", "_law_some"]
abbrev N__law_pick : List Str := ["_law_pen_here", "_law_some"]
theorem sc__law_pick : FnScope N__law_pick ps__law_pick (defScope s__law_pick) := ⟨rfl, rfl, rfl, by decide +kernel, rfl, by decide +kernel, by decide +kernel⟩
def b__law_pick : Env → M (Fl × Env) := (sSeq (sRet (b2 ixM (vget 1) (calF 2 m__law_draw (aCons (vget 0) (aCons (cal (on1 lenM) (aCons (vget 1) (fun _ => M.pure []))) (fun _ => M.pure []))))))
    sNil)
def m__law_pick : List D → M D := runM 2 b__law_pick
theorem ok__law_pick (T : Txt w K mg) (D : DefAt K mg "_law_pick" s__law_pick ps__law_pick) (O__law_draw : OkAt P w K mg base 1 "_law_draw" s__law_draw ps__law_draw m__law_draw) : OkAt P w K mg base 2 "_law_pick" s__law_pick ps__law_pick m__law_pick :=
  OkAt.of (ms := b__law_pick) (N := N__law_pick) (n := 2) (k := 1) rfl D sc__law_pick fun fa cdv A outer s H E hr =>
    (mss_cons (ms_ret (me_item (me_of (pv 1)) (me_callO O__law_draw (hr.mono (by decide)) rfl rfl (ma_cons (me_of (pv 0)) (ma_cons (me_callB call_len lenM_ok rfl T.n_len (by decide +kernel) (ma_cons (me_of (pv 1)) ma_nil)) ma_nil))) (fun _ _ => rfl)))
    mss_nil)
abbrev s__law_odd : Stmt := topS 31
abbrev ps__law_odd : List Str := ["_law_pen_here"]
abbrev N__law_odd : List Str := ["_law_pen_here", "_law_some"]
theorem sc__law_odd : FnScope N__law_odd ps__law_odd (defScope s__law_odd) := ⟨rfl, rfl, rfl, by decide +kernel, rfl, by decide +kernel, by decide +kernel⟩
def b__law_odd : Env → M (Fl × Env) := (sSeq (sAsg (mkL (aCons (fun _ => M.pure .non) (aCons (fun _ => M.pure (.bl true)) (aCons (fun _ => M.pure (.bl false)) (aCons (fun _ => M.pure (.int 0)) (aCons (fun _ => M.pure (.int 1)) (aCons (b1 negM (fun _ => M.pure (.int 1))) (aCons (fun _ => M.pure (.int 7)) (aCons (fun _ => M.pure (.int 8)) (aCons (fun _ => M.pure (.int 999999)) (aCons (fun _ => M.pure (.int 1000000)) (aCons (b2 powM (fun _ => M.pure (.int 10)) (fun _ => M.pure (.int 59))) (aCons (b2 subM (fun _ => M.pure (.int 0)) (b2 powM (fun _ => M.pure (.int 10)) (fun _ => M.pure (.int 59)))) (aCons (fun _ => M.pure (.str "")) (aCons (fun _ => M.pure (.str "a")) (aCons (fun _ => M.pure (.str "abcdefgh")) (fun _ => M.pure []))))))))))))))))) (gSet 1))
    (sSeq (sAsg (b2 addM (vget 1) (mkL (aCons (fun _ => M.pure (.str "abcdefghi")) (aCons (fun _ => M.pure (.str "A")) (aCons (fun _ => M.pure (.str "a1")) (aCons (fun _ => M.pure (.str "1")) (aCons (fun _ => M.pure (.str "a b")) (aCons (fun _ => M.pure (.str "b\n")) (aCons (fun _ => M.pure (.str "-")) (aCons (mkT (fun _ => M.pure [])) (aCons (mkT (aCons (fun _ => M.pure (.int 0)) (aCons (fun _ => M.pure (.int 0)) (fun _ => M.pure [])))) (aCons (mkT (aCons (fun _ => M.pure (.int 7)) (aCons (fun _ => M.pure (.int 7)) (fun _ => M.pure [])))) (aCons (mkT (aCons (fun _ => M.pure (.int 0)) (aCons (fun _ => M.pure (.int 8)) (fun _ => M.pure [])))) (aCons (mkT (aCons (b1 negM (fun _ => M.pure (.int 1))) (aCons (fun _ => M.pure (.int 0)) (fun _ => M.pure [])))) (aCons (mkL (aCons (fun _ => M.pure (.int 0)) (aCons (fun _ => M.pure (.int 0)) (fun _ => M.pure [])))) (fun _ => M.pure [])))))))))))))))) (gSet 1))
    (sSeq (sAsg (b2 addM (vget 1) (mkL (aCons (mkT (aCons (fun _ => M.pure (.bl true)) (aCons (fun _ => M.pure (.int 0)) (fun _ => M.pure [])))) (aCons (mkT (aCons (fun _ => M.pure (.int 0)) (aCons (fun _ => M.pure (.int 0)) (aCons (fun _ => M.pure (.int 0)) (fun _ => M.pure []))))) (aCons (mkL (fun _ => M.pure [])) (aCons (fun _ => M.pure (.dct [])) (aCons (mkT (aCons (fun _ => M.pure (.str "0")) (aCons (fun _ => M.pure (.int 0)) (fun _ => M.pure [])))) (aCons (mkT (aCons (fun _ => M.pure (.int 0)) (fun _ => M.pure []))) (aCons (mkL (aCons (fun _ => M.pure .non) (fun _ => M.pure []))) (aCons (fun _ => M.pure (.dct [(.str "a", .int 1)])) (aCons (mkT (aCons (fun _ => M.pure (.str "fall")) (fun _ => M.pure []))) (aCons (fun _ => M.pure (.str "fall")) (aCons (mkL (aCons (mkT (aCons (fun _ => M.pure (.str "fall")) (fun _ => M.pure []))) (fun _ => M.pure []))) (fun _ => M.pure [])))))))))))))) (gSet 1))
    (sSeq (sRet (calF 2 m__law_pick (aCons (vget 0) (aCons (b2 addM (vget 1) (mkL (aCons (mkT (aCons (fun _ => M.pure (.str "sweep")) (aCons (fun _ => M.pure .non) (fun _ => M.pure [])))) (fun _ => M.pure [])))) (fun _ => M.pure [])))))
    sNil))))
def m__law_odd : List D → M D := runM 2 b__law_odd
theorem ok__law_odd (T : Txt w K mg) (D : DefAt K mg "_law_odd" s__law_odd ps__law_odd) (O__law_pick : OkAt P w K mg base 2 "_law_pick" s__law_pick ps__law_pick m__law_pick) : OkAt P w K mg base 3 "_law_odd" s__law_odd ps__law_odd m__law_odd :=
  OkAt.of (ms := b__law_odd) (N := N__law_odd) (n := 2) (k := 2) rfl D sc__law_odd fun fa cdv A outer s H E hr =>
    (mss_cons (ms_set (i := 1) sc__law_odd.nd rfl (Or.inl rfl) (me_lst (ma_cons me_non (ma_cons me_bl (ma_cons me_bl (ma_cons me_int (ma_cons me_int (ma_cons (me_neg me_int) (ma_cons me_int (ma_cons me_int (ma_cons me_int (ma_cons me_int (ma_cons (me_pow me_int me_int) (ma_cons (me_sub me_int (me_pow me_int me_int)) (ma_cons me_str (ma_cons me_str (ma_cons me_str ma_nil)))))))))))))))))
    (mss_cons (ms_set (i := 1) sc__law_odd.nd rfl (Or.inl rfl) (me_add (me_of (pv 1)) (me_lst (ma_cons me_str (ma_cons me_str (ma_cons me_str (ma_cons me_str (ma_cons me_str (ma_cons me_str (ma_cons me_str (ma_cons (me_tup ma_nil) (ma_cons (me_tup (ma_cons me_int (ma_cons me_int ma_nil))) (ma_cons (me_tup (ma_cons me_int (ma_cons me_int ma_nil))) (ma_cons (me_tup (ma_cons me_int (ma_cons me_int ma_nil))) (ma_cons (me_tup (ma_cons (me_neg me_int) (ma_cons me_int ma_nil))) (ma_cons (me_lst (ma_cons me_int (ma_cons me_int ma_nil))) ma_nil))))))))))))))))
    (mss_cons (ms_set (i := 1) sc__law_odd.nd rfl (Or.inl rfl) (me_add (me_of (pv 1)) (me_lst (ma_cons (me_tup (ma_cons me_bl (ma_cons me_int ma_nil))) (ma_cons (me_tup (ma_cons me_int (ma_cons me_int (ma_cons me_int ma_nil)))) (ma_cons (me_lst ma_nil) (ma_cons me_dict0 (ma_cons (me_tup (ma_cons me_str (ma_cons me_int ma_nil))) (ma_cons (me_tup (ma_cons me_int ma_nil)) (ma_cons (me_lst (ma_cons me_non ma_nil)) (ma_cons me_dict1 (ma_cons (me_tup (ma_cons me_str ma_nil)) (ma_cons me_str (ma_cons (me_lst (ma_cons (me_tup (ma_cons me_str ma_nil)) ma_nil)) ma_nil))))))))))))))
    (mss_cons (ms_ret (me_callO O__law_pick (hr.mono (by decide)) rfl rfl (ma_cons (me_of (pv 0)) (ma_cons (me_add (me_of (pv 1)) (me_lst (ma_cons (me_tup (ma_cons me_str (ma_cons me_non ma_nil))) ma_nil))) ma_nil))))
    mss_nil))))
abbrev s__law_spot : Stmt := topS 32
abbrev ps__law_spot : List Str := ["_law_pen_here"]
abbrev N__law_spot : List Str := ["_law_pen_here"]
theorem sc__law_spot : FnScope N__law_spot ps__law_spot (defScope s__law_spot) := ⟨rfl, rfl, rfl, by decide +kernel, rfl, by decide +kernel, by decide +kernel⟩
def b__law_spot : Env → M (Fl × Env) := (sSeq (sRet (mkT (aCons (calF 2 m__law_draw (aCons (vget 0) (aCons (fun _ => M.pure (.int 8)) (fun _ => M.pure [])))) (aCons (calF 2 m__law_draw (aCons (vget 0) (aCons (fun _ => M.pure (.int 8)) (fun _ => M.pure [])))) (fun _ => M.pure [])))))
    sNil)
def m__law_spot : List D → M D := runM 1 b__law_spot
theorem ok__law_spot (T : Txt w K mg) (D : DefAt K mg "_law_spot" s__law_spot ps__law_spot) (O__law_draw : OkAt P w K mg base 1 "_law_draw" s__law_draw ps__law_draw m__law_draw) : OkAt P w K mg base 2 "_law_spot" s__law_spot ps__law_spot m__law_spot :=
  OkAt.of (ms := b__law_spot) (N := N__law_spot) (n := 1) (k := 1) rfl D sc__law_spot fun fa cdv A outer s H E hr =>
    (mss_cons (ms_ret (me_tup (ma_cons (me_callO O__law_draw (hr.mono (by decide)) rfl rfl (ma_cons (me_of (pv 0)) (ma_cons me_int ma_nil))) (ma_cons (me_callO O__law_draw (hr.mono (by decide)) rfl rfl (ma_cons (me_of (pv 0)) (ma_cons me_int ma_nil))) ma_nil))))
    mss_nil)
abbrev s__law_number : Stmt := topS 33
abbrev ps__law_number : List Str := ["_law_pen_here"]
abbrev N__law_number : List Str := ["_law_pen_here"]
theorem sc__law_number : FnScope N__law_number ps__law_number (defScope s__law_number) := ⟨rfl, rfl, rfl, by decide +kernel, rfl, by decide +kernel, by decide +kernel⟩
def b__law_number : Env → M (Fl × Env) := (sSeq (sRet (calF 2 m__law_pick (aCons (vget 0) (aCons (mkL (aCons (fun _ => M.pure (.int 1)) (aCons (fun _ => M.pure (.int 2)) (aCons (fun _ => M.pure (.int 3)) (aCons (fun _ => M.pure (.int 999999)) (aCons (b2 addM (fun _ => M.pure (.int 1)) (calF 2 m__law_draw (aCons (vget 0) (aCons (fun _ => M.pure (.int 9)) (fun _ => M.pure []))))) (aCons (b2 addM (fun _ => M.pure (.int 1)) (calF 2 m__law_draw (aCons (vget 0) (aCons (fun _ => M.pure (.int 999999)) (fun _ => M.pure []))))) (fun _ => M.pure [])))))))) (fun _ => M.pure [])))))
    sNil)
def m__law_number : List D → M D := runM 1 b__law_number
theorem ok__law_number (T : Txt w K mg) (D : DefAt K mg "_law_number" s__law_number ps__law_number) (O__law_pick : OkAt P w K mg base 2 "_law_pick" s__law_pick ps__law_pick m__law_pick) (O__law_draw : OkAt P w K mg base 1 "_law_draw" s__law_draw ps__law_draw m__law_draw) : OkAt P w K mg base 3 "_law_number" s__law_number ps__law_number m__law_number :=
  OkAt.of (ms := b__law_number) (N := N__law_number) (n := 1) (k := 2) rfl D sc__law_number fun fa cdv A outer s H E hr =>
    (mss_cons (ms_ret (me_callO O__law_pick (hr.mono (by decide)) rfl rfl (ma_cons (me_of (pv 0)) (ma_cons (me_lst (ma_cons me_int (ma_cons me_int (ma_cons me_int (ma_cons me_int (ma_cons (me_add me_int (me_callO O__law_draw (hr.mono (by decide)) rfl rfl (ma_cons (me_of (pv 0)) (ma_cons me_int ma_nil)))) (ma_cons (me_add me_int (me_callO O__law_draw (hr.mono (by decide)) rfl rfl (ma_cons (me_of (pv 0)) (ma_cons me_int ma_nil)))) ma_nil))))))) ma_nil))))
    mss_nil)
abbrev s__law_view : Stmt := topS 34
abbrev ps__law_view : List Str := ["_law_pen_here"]
abbrev N__law_view : List Str := ["_law_pen_here"]
theorem sc__law_view : FnScope N__law_view ps__law_view (defScope s__law_view) := ⟨rfl, rfl, rfl, by decide +kernel, rfl, by decide +kernel, by decide +kernel⟩
def b__law_view : Env → M (Fl × Env) := (sSeq (sRet (calF 2 m__law_pick (aCons (vget 0) (aCons (mkL (aCons (fun _ => M.pure (.int 0)) (aCons (fun _ => M.pure (.int 1)) (aCons (fun _ => M.pure (.int 999999)) (aCons (calF 2 m__law_draw (aCons (vget 0) (aCons (fun _ => M.pure (.int 20)) (fun _ => M.pure [])))) (aCons (calF 2 m__law_draw (aCons (vget 0) (aCons (fun _ => M.pure (.int 1000000)) (fun _ => M.pure [])))) (fun _ => M.pure []))))))) (fun _ => M.pure [])))))
    sNil)
def m__law_view : List D → M D := runM 1 b__law_view
theorem ok__law_view (T : Txt w K mg) (D : DefAt K mg "_law_view" s__law_view ps__law_view) (O__law_pick : OkAt P w K mg base 2 "_law_pick" s__law_pick ps__law_pick m__law_pick) (O__law_draw : OkAt P w K mg base 1 "_law_draw" s__law_draw ps__law_draw m__law_draw) : OkAt P w K mg base 3 "_law_view" s__law_view ps__law_view m__law_view :=
  OkAt.of (ms := b__law_view) (N := N__law_view) (n := 1) (k := 2) rfl D sc__law_view fun fa cdv A outer s H E hr =>
    (mss_cons (ms_ret (me_callO O__law_pick (hr.mono (by decide)) rfl rfl (ma_cons (me_of (pv 0)) (ma_cons (me_lst (ma_cons me_int (ma_cons me_int (ma_cons me_int (ma_cons (me_callO O__law_draw (hr.mono (by decide)) rfl rfl (ma_cons (me_of (pv 0)) (ma_cons me_int ma_nil))) (ma_cons (me_callO O__law_draw (hr.mono (by decide)) rfl rfl (ma_cons (me_of (pv 0)) (ma_cons me_int ma_nil))) ma_nil)))))) ma_nil))))
    mss_nil)
abbrev s__law_key : Stmt := topS 35
abbrev ps__law_key : List Str := ["_law_pen_here"]
abbrev N__law_key : List Str := ["_law_pen_here", "_law_size", "_law_signs", "_law_k"]
theorem sc__law_key : FnScope N__law_key ps__law_key (defScope s__law_key) := ⟨rfl, rfl, rfl, by decide +kernel, rfl, by decide +kernel, by decide +kernel⟩
def b__law_key : Env → M (Fl × Env) := (sSeq (sAsg (calF 2 m__law_pick (aCons (vget 0) (aCons (mkL (aCons (fun _ => M.pure (.int 1)) (aCons (fun _ => M.pure (.int 8)) (aCons (b2 addM (fun _ => M.pure (.int 1)) (calF 2 m__law_draw (aCons (vget 0) (aCons (fun _ => M.pure (.int 8)) (fun _ => M.pure []))))) (fun _ => M.pure []))))) (fun _ => M.pure [])))) (gSet 1))
    (sSeq (sAsg (fun _ => M.pure (.str "abcdefghijklmnopqrstuvwxyz")) (gSet 2))
    (sSeq (sRet (mth chkS joinM (fun _ => M.pure (.str "")) (aCons (eLc (len1 rngOf 1 (aCons (vget 1) (fun _ => M.pure []))) (gSet 3) (fun _ => M.pure true) (b2 ixM (vget 2) (calF 2 m__law_draw (aCons (vget 0) (aCons (fun _ => M.pure (.int 26)) (fun _ => M.pure []))))) [3]) (fun _ => M.pure []))))
    sNil)))
def m__law_key : List D → M D := runM 4 b__law_key
theorem ok__law_key (T : Txt w K mg) (D : DefAt K mg "_law_key" s__law_key ps__law_key) (O__law_draw : OkAt P w K mg base 1 "_law_draw" s__law_draw ps__law_draw m__law_draw) (O__law_pick : OkAt P w K mg base 2 "_law_pick" s__law_pick ps__law_pick m__law_pick) : OkAt P w K mg base 3 "_law_key" s__law_key ps__law_key m__law_key :=
  OkAt.of (ms := b__law_key) (N := N__law_key) (n := 4) (k := 2) rfl D sc__law_key fun fa cdv A outer s H E hr =>
    (mss_cons (ms_set (i := 1) sc__law_key.nd rfl (Or.inl rfl) (me_callO O__law_pick (hr.mono (by decide)) rfl rfl (ma_cons (me_of (pv 0)) (ma_cons (me_lst (ma_cons me_int (ma_cons me_int (ma_cons (me_add me_int (me_callO O__law_draw (hr.mono (by decide)) rfl rfl (ma_cons (me_of (pv 0)) (ma_cons me_int ma_nil)))) ma_nil)))) ma_nil))))
    (mss_cons (ms_set (i := 2) sc__law_key.nd rfl (Or.inr rfl) me_str)
    (mss_cons (ms_ret (pe_imp (pe_bm PySem.F.plainAttrs_str PySem.F.slot_str_join PySem.F.type_str_join mt_join me_str (ma_cons (me_lc (own := [("_law_k", 3)]) rfl sc__law_key.nd (mi_range1 rfl T.n_range (ma_cons (me_of (pv 1)) ma_nil)) (blkOk_by (N := N__law_key) (sc := defScope s__law_key) (by decide +kernel)) (gw_name (i := 3) (by simp)) (fun _ _ _ _ _ => pg_name (i := 3) sc__law_key.nd rfl (Or.inl rfl)) (fun _ _ _ _ _ => mts_nil) (fun _ _ _ _ _ => (me_item (me_of (pv 2)) (me_callO O__law_draw (hr.mono (by decide)) rfl rfl (ma_cons (me_of (pv 0)) (ma_cons me_int ma_nil))) (fun _ _ => rfl)))) ma_nil)) (fun _ _ _ h => mth_go chkS_ok joinM_ok h)))
    mss_nil)))
abbrev s__law_value : Stmt := topS 36
abbrev ps__law_value : List Str := ["_law_pen_here"]
abbrev N__law_value : List Str := ["_law_pen_here", "_law_size", "_law_signs", "_law_k"]
theorem sc__law_value : FnScope N__law_value ps__law_value (defScope s__law_value) := ⟨rfl, rfl, rfl, by decide +kernel, rfl, by decide +kernel, by decide +kernel⟩
def b__law_value : Env → M (Fl × Env) := (sSeq (sAsg (calF 2 m__law_pick (aCons (vget 0) (aCons (mkL (aCons (fun _ => M.pure (.int 1)) (aCons (fun _ => M.pure (.int 8)) (aCons (b2 addM (fun _ => M.pure (.int 1)) (calF 2 m__law_draw (aCons (vget 0) (aCons (fun _ => M.pure (.int 8)) (fun _ => M.pure []))))) (fun _ => M.pure []))))) (fun _ => M.pure [])))) (gSet 1))
    (sSeq (sAsg (fun _ => M.pure (.str "abcdefghijklmnopqrstuvwxyz0123456789")) (gSet 2))
    (sSeq (sRet (mth chkS joinM (fun _ => M.pure (.str "")) (aCons (eLc (len1 rngOf 1 (aCons (vget 1) (fun _ => M.pure []))) (gSet 3) (fun _ => M.pure true) (b2 ixM (vget 2) (calF 2 m__law_draw (aCons (vget 0) (aCons (fun _ => M.pure (.int 36)) (fun _ => M.pure []))))) [3]) (fun _ => M.pure []))))
    sNil)))
def m__law_value : List D → M D := runM 4 b__law_value
theorem ok__law_value (T : Txt w K mg) (D : DefAt K mg "_law_value" s__law_value ps__law_value) (O__law_draw : OkAt P w K mg base 1 "_law_draw" s__law_draw ps__law_draw m__law_draw) (O__law_pick : OkAt P w K mg base 2 "_law_pick" s__law_pick ps__law_pick m__law_pick) : OkAt P w K mg base 3 "_law_value" s__law_value ps__law_value m__law_value :=
  OkAt.of (ms := b__law_value) (N := N__law_value) (n := 4) (k := 2) rfl D sc__law_value fun fa cdv A outer s H E hr =>
    (mss_cons (ms_set (i := 1) sc__law_value.nd rfl (Or.inl rfl) (me_callO O__law_pick (hr.mono (by decide)) rfl rfl (ma_cons (me_of (pv 0)) (ma_cons (me_lst (ma_cons me_int (ma_cons me_int (ma_cons (me_add me_int (me_callO O__law_draw (hr.mono (by decide)) rfl rfl (ma_cons (me_of (pv 0)) (ma_cons me_int ma_nil)))) ma_nil)))) ma_nil))))
    (mss_cons (ms_set (i := 2) sc__law_value.nd rfl (Or.inr rfl) me_str)
    (mss_cons (ms_ret (pe_imp (pe_bm PySem.F.plainAttrs_str PySem.F.slot_str_join PySem.F.type_str_join mt_join me_str (ma_cons (me_lc (own := [("_law_k", 3)]) rfl sc__law_value.nd (mi_range1 rfl T.n_range (ma_cons (me_of (pv 1)) ma_nil)) (blkOk_by (N := N__law_value) (sc := defScope s__law_value) (by decide +kernel)) (gw_name (i := 3) (by simp)) (fun _ _ _ _ _ => pg_name (i := 3) sc__law_value.nd rfl (Or.inl rfl)) (fun _ _ _ _ _ => mts_nil) (fun _ _ _ _ _ => (me_item (me_of (pv 2)) (me_callO O__law_draw (hr.mono (by decide)) rfl rfl (ma_cons (me_of (pv 0)) (ma_cons me_int ma_nil))) (fun _ _ => rfl)))) ma_nil)) (fun _ _ _ h => mth_go chkS_ok joinM_ok h)))
    mss_nil)))
abbrev s__law_row : Stmt := topS 37
abbrev ps__law_row : List Str := ["_law_pen_here"]
abbrev N__law_row : List Str := ["_law_pen_here", "_law_way", "_law_number_here", "_law_spot_here", "_law_other", "_law_outer", "_law_lots", "_law_gone", "_law_k"]
theorem sc__law_row : FnScope N__law_row ps__law_row (defScope s__law_row) := ⟨rfl, rfl, rfl, by decide +kernel, rfl, by decide +kernel, by decide +kernel⟩
def b__law_row : Env → M (Fl × Env) := (sSeq (sAsg (calF 2 m__law_draw (aCons (vget 0) (aCons (fun _ => M.pure (.int 16)) (fun _ => M.pure [])))) (gSet 1))
    (sSeq (sAsg (calF 1 m__law_number (aCons (vget 0) (fun _ => M.pure []))) (gSet 2))
    (sSeq (sAsg (mkT (aCons (calF 1 m__law_spot (aCons (vget 0) (fun _ => M.pure []))) (aCons (calF 1 m__law_spot (aCons (vget 0) (fun _ => M.pure []))) (fun _ => M.pure [])))) (gTwo 3 4))
    (sSeq (sIf (tst (b2 eqM (vget 1) (fun _ => M.pure (.int 0)))) (sSeq (sAsg (ifV (tst (b2 gtM (vget 2) (fun _ => M.pure (.int 1)))) (b2 addM (fun _ => M.pure (.int 1)) (calF 2 m__law_draw (aCons (vget 0) (aCons (b2 subM (vget 2) (fun _ => M.pure (.int 1))) (fun _ => M.pure []))))) (fun _ => M.pure .non)) (gSet 5))
    (sSeq (sRet (mkT (aCons (fun _ => M.pure (.str "open")) (aCons (vget 2) (aCons (calF 2 m__law_pick (aCons (vget 0) (aCons (mkL (aCons (fun _ => M.pure .non) (aCons (vget 5) (fun _ => M.pure [])))) (fun _ => M.pure [])))) (fun _ => M.pure []))))))
    sNil)) sNil)
    (sSeq (sIf (tst (b2 ltM (vget 1) (fun _ => M.pure (.int 3)))) (sSeq (sRet (b2 addM (b2 addM (mkT (aCons (fun _ => M.pure (.str "put")) (aCons (vget 2) (fun _ => M.pure [])))) (vget 3)) (mkT (aCons (calF 1 m__law_key (aCons (vget 0) (fun _ => M.pure []))) (aCons (calF 1 m__law_value (aCons (vget 0) (fun _ => M.pure []))) (fun _ => M.pure []))))))
    sNil) sNil)
    (sSeq (sIf (tst (b2 ltM (vget 1) (fun _ => M.pure (.int 5)))) (sSeq (sRet (b2 addM (b2 addM (b2 addM (mkT (aCons (fun _ => M.pure (.str "change")) (aCons (vget 2) (fun _ => M.pure [])))) (vget 3)) (vget 4)) (mkT (aCons (calF 1 m__law_value (aCons (vget 0) (fun _ => M.pure []))) (fun _ => M.pure [])))))
    sNil) sNil)
    (sSeq (sIf (tst (b2 ltM (vget 1) (fun _ => M.pure (.int 8)))) (sSeq (sRet (b2 addM (mkT (aCons (b2 ixM (mkL (aCons (fun _ => M.pure (.str "strike")) (aCons (fun _ => M.pure (.str "lock")) (aCons (fun _ => M.pure (.str "refused")) (fun _ => M.pure []))))) (b2 subM (vget 1) (fun _ => M.pure (.int 5)))) (aCons (vget 2) (fun _ => M.pure [])))) (vget 3)))
    sNil) sNil)
    (sSeq (sIf (tst (b2 ltM (vget 1) (fun _ => M.pure (.int 10)))) (sSeq (sRet (mkT (aCons (b2 ixM (mkL (aCons (fun _ => M.pure (.str "commit")) (aCons (fun _ => M.pure (.str "abort")) (fun _ => M.pure [])))) (b2 subM (vget 1) (fun _ => M.pure (.int 8)))) (aCons (vget 2) (fun _ => M.pure [])))))
    sNil) sNil)
    (sSeq (sIf (tst (b2 eqM (vget 1) (fun _ => M.pure (.int 10)))) (sSeq (sRet (mkT (aCons (fun _ => M.pure (.str "prepare")) (aCons (vget 2) (aCons (calF 1 m__law_view (aCons (vget 0) (fun _ => M.pure []))) (fun _ => M.pure []))))))
    sNil) sNil)
    (sSeq (sAsg (eLc (len1 rngOf 1 (aCons (fun _ => M.pure (.int 8)) (fun _ => M.pure []))) (gSet 8) (fun _ => M.pure true) (calF 2 m__law_draw (aCons (vget 0) (aCons (fun _ => M.pure (.int 4)) (fun _ => M.pure [])))) [8]) (gSet 6))
    (sSeq (sIf (tst (b2 eqM (vget 1) (fun _ => M.pure (.int 11)))) (sSeq (sAsg (cal (on1 tupleM) (aCons (eLc (len1 rngOf 1 (aCons (fun _ => M.pure (.int 8)) (fun _ => M.pure []))) (gSet 8) (tst (b2 eqM (b2 ixM (vget 6) (vget 8)) (fun _ => M.pure (.int 0)))) (vget 8) [8]) (fun _ => M.pure []))) (gSet 7))
    (sSeq (sRet (mkT (aCons (fun _ => M.pure (.str "clean")) (aCons (b2 ixM (vget 3) (fun _ => M.pure (.int 0))) (aCons (vget 7) (aCons (cal (on1 tupleM) (aCons (eLc (len1 rngOf 1 (aCons (fun _ => M.pure (.int 8)) (fun _ => M.pure []))) (gSet 8) (tst (b2 eqM (b2 ixM (vget 6) (vget 8)) (fun _ => M.pure (.int 1)))) (vget 8) [8]) (fun _ => M.pure []))) (fun _ => M.pure [])))))))
    sNil)) sNil)
    (sSeq (sIf (tst (b2 eqM (vget 1) (fun _ => M.pure (.int 12)))) (sSeq (sAsg (eLc (len1 rngOf 1 (aCons (fun _ => M.pure (.int 8)) (fun _ => M.pure []))) (gSet 8) (orT (tst (b2 eqM (b2 ixM (vget 6) (vget 8)) (fun _ => M.pure (.int 0)))) (tst (b2 eqM (vget 8) (b2 ixM (vget 3) (fun _ => M.pure (.int 1)))))) (vget 8) [8]) (gSet 7))
    (sSeq (sRet (mkT (aCons (fun _ => M.pure (.str "tidy")) (aCons (b2 ixM (vget 3) (fun _ => M.pure (.int 0))) (aCons (cal (on1 tupleM) (aCons (vget 7) (fun _ => M.pure []))) (fun _ => M.pure []))))))
    sNil)) sNil)
    (sSeq (sRet (calF 2 m__law_pick (aCons (vget 0) (aCons (mkL (aCons (mkT (aCons (fun _ => M.pure (.str "sweep")) (fun _ => M.pure []))) (aCons (mkT (aCons (fun _ => M.pure (.str "fall")) (fun _ => M.pure []))) (aCons (mkT (aCons (fun _ => M.pure (.str "word")) (aCons (fun _ => M.pure .non) (fun _ => M.pure [])))) (aCons (mkT (aCons (fun _ => M.pure (.str "word")) (aCons (calF 1 m__law_view (aCons (vget 0) (fun _ => M.pure []))) (fun _ => M.pure [])))) (fun _ => M.pure [])))))) (fun _ => M.pure [])))))
    sNil)))))))))))))
def m__law_row : List D → M D := runM 9 b__law_row
theorem ok__law_row (T : Txt w K mg) (D : DefAt K mg "_law_row" s__law_row ps__law_row) (O__law_pick : OkAt P w K mg base 2 "_law_pick" s__law_pick ps__law_pick m__law_pick) (O__law_view : OkAt P w K mg base 3 "_law_view" s__law_view ps__law_view m__law_view) (O__law_draw : OkAt P w K mg base 1 "_law_draw" s__law_draw ps__law_draw m__law_draw) (O__law_value : OkAt P w K mg base 3 "_law_value" s__law_value ps__law_value m__law_value) (O__law_key : OkAt P w K mg base 3 "_law_key" s__law_key ps__law_key m__law_key) (O__law_spot : OkAt P w K mg base 2 "_law_spot" s__law_spot ps__law_spot m__law_spot) (O__law_number : OkAt P w K mg base 3 "_law_number" s__law_number ps__law_number m__law_number) : OkAt P w K mg base 4 "_law_row" s__law_row ps__law_row m__law_row :=
  OkAt.of (ms := b__law_row) (N := N__law_row) (n := 9) (k := 3) rfl D sc__law_row fun fa cdv A outer s H E hr =>
    (mss_cons (ms_set (i := 1) sc__law_row.nd rfl (Or.inl rfl) (me_callO O__law_draw (hr.mono (by decide)) rfl rfl (ma_cons (me_of (pv 0)) (ma_cons me_int ma_nil))))
    (mss_cons (ms_set (i := 2) sc__law_row.nd rfl (Or.inl rfl) (me_callO O__law_number (hr.mono (by decide)) rfl rfl (ma_cons (me_of (pv 0)) ma_nil)))
    (mss_cons (ms_asg (me_tup (ma_cons (me_callO O__law_spot (hr.mono (by decide)) rfl rfl (ma_cons (me_of (pv 0)) ma_nil)) (ma_cons (me_callO O__law_spot (hr.mono (by decide)) rfl rfl (ma_cons (me_of (pv 0)) ma_nil)) ma_nil))) (mg_two (pg_tup rfl (pgs_cons (pg_name (i := 3) sc__law_row.nd rfl (Or.inr rfl)) (pgs_cons (pg_name (i := 4) sc__law_row.nd rfl (Or.inl rfl)) pgs_nil)))))
    (mss_cons (ms_if (mt_cmp (op_eqU hr.units) eqM_ok (me_of (pv 1)) me_int (nomark _)) (mss_cons (ms_set (i := 5) sc__law_row.nd rfl (Or.inl rfl) (me_ife (mt_cmp op_gt gtM_ok (me_of (pv 2)) me_int (nomark _)) (me_add me_int (me_callO O__law_draw (hr.mono (by decide)) rfl rfl (ma_cons (me_of (pv 0)) (ma_cons (me_sub (me_of (pv 2)) me_int) ma_nil)))) me_non))
    (mss_cons (ms_ret (me_tup (ma_cons me_str (ma_cons (me_of (pv 2)) (ma_cons (me_callO O__law_pick (hr.mono (by decide)) rfl rfl (ma_cons (me_of (pv 0)) (ma_cons (me_lst (ma_cons me_non (ma_cons (me_of (pv 5)) ma_nil))) ma_nil))) ma_nil)))))
    mss_nil)) mss_nil)
    (mss_cons (ms_if (mt_cmp op_lt ltM_ok (me_of (pv 1)) me_int (nomark _)) (mss_cons (ms_ret (me_add (me_add (me_tup (ma_cons me_str (ma_cons (me_of (pv 2)) ma_nil))) (me_of (pv 3))) (me_tup (ma_cons (me_callO O__law_key (hr.mono (by decide)) rfl rfl (ma_cons (me_of (pv 0)) ma_nil)) (ma_cons (me_callO O__law_value (hr.mono (by decide)) rfl rfl (ma_cons (me_of (pv 0)) ma_nil)) ma_nil)))))
    mss_nil) mss_nil)
    (mss_cons (ms_if (mt_cmp op_lt ltM_ok (me_of (pv 1)) me_int (nomark _)) (mss_cons (ms_ret (me_add (me_add (me_add (me_tup (ma_cons me_str (ma_cons (me_of (pv 2)) ma_nil))) (me_of (pv 3))) (me_of (pv 4))) (me_tup (ma_cons (me_callO O__law_value (hr.mono (by decide)) rfl rfl (ma_cons (me_of (pv 0)) ma_nil)) ma_nil))))
    mss_nil) mss_nil)
    (mss_cons (ms_if (mt_cmp op_lt ltM_ok (me_of (pv 1)) me_int (nomark _)) (mss_cons (ms_ret (me_add (me_tup (ma_cons (me_item (me_lst (ma_cons me_str (ma_cons me_str (ma_cons me_str ma_nil)))) (me_sub (me_of (pv 1)) me_int) (fun _ _ => rfl)) (ma_cons (me_of (pv 2)) ma_nil))) (me_of (pv 3))))
    mss_nil) mss_nil)
    (mss_cons (ms_if (mt_cmp op_lt ltM_ok (me_of (pv 1)) me_int (nomark _)) (mss_cons (ms_ret (me_tup (ma_cons (me_item (me_lst (ma_cons me_str (ma_cons me_str ma_nil))) (me_sub (me_of (pv 1)) me_int) (fun _ _ => rfl)) (ma_cons (me_of (pv 2)) ma_nil))))
    mss_nil) mss_nil)
    (mss_cons (ms_if (mt_cmp (op_eqU hr.units) eqM_ok (me_of (pv 1)) me_int (nomark _)) (mss_cons (ms_ret (me_tup (ma_cons me_str (ma_cons (me_of (pv 2)) (ma_cons (me_callO O__law_view (hr.mono (by decide)) rfl rfl (ma_cons (me_of (pv 0)) ma_nil)) ma_nil)))))
    mss_nil) mss_nil)
    (mss_cons (ms_set (i := 6) sc__law_row.nd rfl (Or.inr rfl) (me_lc (own := [("_law_k", 8)]) rfl sc__law_row.nd (mi_range1 rfl T.n_range (ma_cons me_int ma_nil)) (blkOk_by (N := N__law_row) (sc := defScope s__law_row) (by decide +kernel)) (gw_name (i := 8) (by simp)) (fun _ _ _ _ _ => pg_name (i := 8) sc__law_row.nd rfl (Or.inl rfl)) (fun _ _ _ _ _ => mts_nil) (fun _ _ _ _ _ => (me_callO O__law_draw (hr.mono (by decide)) rfl rfl (ma_cons (me_of (pv 0)) (ma_cons me_int ma_nil))))))
    (mss_cons (ms_if (mt_cmp (op_eqU hr.units) eqM_ok (me_of (pv 1)) me_int (nomark _)) (mss_cons (ms_set (i := 7) sc__law_row.nd rfl (Or.inl rfl) (me_callTy call_tuple_of tupleM_ok rfl T.n_tuple (by decide +kernel) (ma_cons (me_lc (own := [("_law_k", 8)]) rfl sc__law_row.nd (mi_range1 rfl T.n_range (ma_cons me_int ma_nil)) (blkOk_by (N := N__law_row) (sc := defScope s__law_row) (by decide +kernel)) (gw_name (i := 8) (by simp)) (fun _ _ _ _ _ => pg_name (i := 8) sc__law_row.nd rfl (Or.inl rfl)) (fun _ _ _ _ _ => (mts_one (mt_cmp (op_eqU hr.units) eqM_ok (me_item (me_of (pv 6)) (me_of (pv 8)) (fun _ _ => rfl)) me_int (nomark _)))) (fun _ _ _ _ _ => (me_of (pv 8)))) ma_nil)))
    (mss_cons (ms_ret (me_tup (ma_cons me_str (ma_cons (me_item (me_of (pv 3)) me_int (fun _ _ => rfl)) (ma_cons (me_of (pv 7)) (ma_cons (me_callTy call_tuple_of tupleM_ok rfl T.n_tuple (by decide +kernel) (ma_cons (me_lc (own := [("_law_k", 8)]) rfl sc__law_row.nd (mi_range1 rfl T.n_range (ma_cons me_int ma_nil)) (blkOk_by (N := N__law_row) (sc := defScope s__law_row) (by decide +kernel)) (gw_name (i := 8) (by simp)) (fun _ _ _ _ _ => pg_name (i := 8) sc__law_row.nd rfl (Or.inl rfl)) (fun _ _ _ _ _ => (mts_one (mt_cmp (op_eqU hr.units) eqM_ok (me_item (me_of (pv 6)) (me_of (pv 8)) (fun _ _ => rfl)) me_int (nomark _)))) (fun _ _ _ _ _ => (me_of (pv 8)))) ma_nil)) ma_nil))))))
    mss_nil)) mss_nil)
    (mss_cons (ms_if (mt_cmp (op_eqU hr.units) eqM_ok (me_of (pv 1)) me_int (nomark _)) (mss_cons (ms_setLc (i := 7) (own := [("_law_k", 8)]) rfl sc__law_row.nd rfl rfl (sw_true rfl rfl rfl (by decide +kernel)) (mi_range1 rfl T.n_range (ma_cons me_int ma_nil)) (blkOk_by (N := N__law_row) (sc := defScope s__law_row) (by decide +kernel)) (gw_name (i := 8) (by simp)) (fun _ _ _ _ _ => pg_name (i := 8) sc__law_row.nd rfl (Or.inl rfl)) (fun _ _ _ _ _ => (mts_one (PW.pt (mw_or (mt_cmp (op_eqU hr.units) eqM_ok (me_item (me_of (pv 6)) (me_of (pv 8)) (fun _ _ => rfl)) me_int (nomark _)) (mw_or1 (mt_cmp (op_eqU hr.units) eqM_ok (me_of (pv 8)) (me_item (me_of (pv 3)) me_int (fun _ _ => rfl)) (nomark _))))))) (fun _ _ _ _ _ => (me_of (pv 8))))
    (mss_cons (ms_ret (me_tup (ma_cons me_str (ma_cons (me_item (me_of (pv 3)) me_int (fun _ _ => rfl)) (ma_cons (me_callTy call_tuple_of tupleM_ok rfl T.n_tuple (by decide +kernel) (ma_cons (me_of (pv 7)) ma_nil)) ma_nil)))))
    mss_nil)) mss_nil)
    (mss_cons (ms_ret (me_callO O__law_pick (hr.mono (by decide)) rfl rfl (ma_cons (me_of (pv 0)) (ma_cons (me_lst (ma_cons (me_tup (ma_cons me_str ma_nil)) (ma_cons (me_tup (ma_cons me_str ma_nil)) (ma_cons (me_tup (ma_cons me_str (ma_cons me_non ma_nil))) (ma_cons (me_tup (ma_cons me_str (ma_cons (me_callO O__law_view (hr.mono (by decide)) rfl rfl (ma_cons (me_of (pv 0)) ma_nil)) ma_nil))) ma_nil))))) ma_nil))))
    mss_nil)))))))))))))
abbrev s__law_whole : Stmt := topS 38
abbrev ps__law_whole : List Str := ["_law_thing", "_law_floor", "_law_roof"]
abbrev N__law_whole : List Str := ["_law_thing", "_law_floor", "_law_roof"]
theorem sc__law_whole : FnScope N__law_whole ps__law_whole (defScope s__law_whole) := ⟨rfl, rfl, rfl, by decide +kernel, rfl, by decide +kernel, by decide +kernel⟩
def b__law_whole : Env → M (Fl × Env) := (sSeq (sRet (andV (b1 (isiM "int") (vget 0)) (andV (notV (b1 (isiM "bool") (vget 0))) (chn leM leM (vget 1) (vget 0) (vget 2)))))
    sNil)
def m__law_whole : List D → M D := runM 3 b__law_whole
theorem ok__law_whole (T : Txt w K mg) (D : DefAt K mg "_law_whole" s__law_whole ps__law_whole)  : OkAt P w K mg base 1 "_law_whole" s__law_whole ps__law_whole m__law_whole :=
  OkAt.of (ms := b__law_whole) (N := N__law_whole) (n := 3) (k := 0) rfl D sc__law_whole fun fa cdv A outer s H E hr =>
    (mss_cons (ms_ret (me_and (me_isi rfl T.n_isinstance (by decide +kernel) (me_of (pv 0)) (pe_bltn rfl T.n_int (by decide +kernel) rfl)) (me_and (me_not (me_isi rfl T.n_isinstance (by decide +kernel) (me_of (pv 0)) (pe_bltn rfl T.n_bool (by decide +kernel) rfl))) (me_one (me_chain op_le leM_ok op_le leM_ok (me_of (pv 1)) (me_of (pv 0)) (me_of (pv 2)) (nomark _))))))
    mss_nil)
abbrev s__law_made_of : Stmt := topS 39
abbrev ps__law_made_of : List Str := ["_law_thing", "_law_signs"]
abbrev N__law_made_of : List Str := ["_law_thing", "_law_signs", "_law_sign"]
theorem sc__law_made_of : FnScope N__law_made_of ps__law_made_of (defScope s__law_made_of) := ⟨rfl, rfl, rfl, by decide +kernel, rfl, by decide +kernel, by decide +kernel⟩
def b__law_made_of : Env → M (Fl × Env) := (sSeq (sIf (orT (notT (tst (b1 (isiM "str") (vget 0)))) (notT (tst (chn ltM ltM (fun _ => M.pure (.int 0)) (cal (on1 lenM) (aCons (vget 0) (fun _ => M.pure []))) (fun _ => M.pure (.int 9)))))) (sSeq (sRet (fun _ => M.pure (.bl false)))
    sNil) sNil)
    (sSeq (sRet (b2 eqM (eLc (iSeq (vget 0)) (gSet 2) (tst (b2 ninM (vget 2) (vget 1))) (vget 2) [2]) (mkL (fun _ => M.pure []))))
    sNil))
def m__law_made_of : List D → M D := runM 3 b__law_made_of
theorem ok__law_made_of (T : Txt w K mg) (D : DefAt K mg "_law_made_of" s__law_made_of ps__law_made_of)  : OkAt P w K mg base 1 "_law_made_of" s__law_made_of ps__law_made_of m__law_made_of :=
  OkAt.of (ms := b__law_made_of) (N := N__law_made_of) (n := 3) (k := 0) rfl D sc__law_made_of fun fa cdv A outer s H E hr =>
    (mss_cons (ms_if (PW.pt (mw_or (mt_not (mt_val (me_isi rfl T.n_isinstance (by decide +kernel) (me_of (pv 0)) (pe_bltn rfl T.n_str (by decide +kernel) rfl)))) (mw_or1 (mt_not (mt_chain op_lt ltM_ok op_lt ltM_ok me_int (me_callB call_len lenM_ok rfl T.n_len (by decide +kernel) (ma_cons (me_of (pv 0)) ma_nil)) me_int (nomark _)))))) (mss_cons (ms_ret me_bl)
    mss_nil) mss_nil)
    (mss_cons (ms_ret (me_cmp (op_eqU hr.units) eqM_ok (me_lc (own := [("_law_sign", 2)]) rfl sc__law_made_of.nd (mi_seq (me_of (pv 0))) (blkOk_by (N := N__law_made_of) (sc := defScope s__law_made_of) (by decide +kernel)) (gw_name (i := 2) (by simp)) (fun _ _ _ _ _ => pg_name (i := 2) sc__law_made_of.nd rfl (Or.inl rfl)) (fun _ _ _ _ _ => (mts_one (mt_cmp op_ninU inB_ok (me_of (pv 2)) (me_of (pv 1)) (by rfl)))) (fun _ _ _ _ _ => (me_of (pv 2)))) (me_lst ma_nil) (nomark _)))
    mss_nil))
abbrev s__law_slots : Stmt := topS 40
abbrev ps__law_slots : List Str := ["_law_thing"]
abbrev N__law_slots : List Str := ["_law_thing", "_law_k", "_law_part"]
theorem sc__law_slots : FnScope N__law_slots ps__law_slots (defScope s__law_slots) := ⟨rfl, rfl, rfl, by decide +kernel, rfl, by decide +kernel, by decide +kernel⟩
def b__law_slots : Env → M (Fl × Env) := (sSeq (sIf (orT (notT (tst (b1 (isiM "tuple") (vget 0)))) (tst (b2 neM (eLc (iSeq (vget 0)) (gSet 2) (notT (tst (calF 3 m__law_whole (aCons (vget 2) (aCons (fun _ => M.pure (.int 0)) (aCons (fun _ => M.pure (.int 7)) (fun _ => M.pure []))))))) (vget 2) [2]) (mkL (fun _ => M.pure []))))) (sSeq (sRet (fun _ => M.pure (.bl false)))
    sNil) sNil)
    (sSeq (sRet (b2 eqM (eLc (len1 rngOf 2 (aCons (fun _ => M.pure (.int 1)) (aCons (cal (on1 lenM) (aCons (vget 0) (fun _ => M.pure []))) (fun _ => M.pure [])))) (gSet 1) (tst (b2 geM (b2 ixM (vget 0) (b2 subM (vget 1) (fun _ => M.pure (.int 1)))) (b2 ixM (vget 0) (vget 1)))) (vget 1) [1]) (mkL (fun _ => M.pure []))))
    sNil))
def m__law_slots : List D → M D := runM 3 b__law_slots
theorem ok__law_slots (T : Txt w K mg) (D : DefAt K mg "_law_slots" s__law_slots ps__law_slots) (O__law_whole : OkAt P w K mg base 1 "_law_whole" s__law_whole ps__law_whole m__law_whole) : OkAt P w K mg base 2 "_law_slots" s__law_slots ps__law_slots m__law_slots :=
  OkAt.of (ms := b__law_slots) (N := N__law_slots) (n := 3) (k := 1) rfl D sc__law_slots fun fa cdv A outer s H E hr =>
    (mss_cons (ms_if (PW.pt (mw_or (mt_not (mt_val (me_isi rfl T.n_isinstance (by decide +kernel) (me_of (pv 0)) (pe_bltn rfl T.n_tuple (by decide +kernel) rfl)))) (mw_or1 (mt_cmp (op_neU hr.units) neM_ok (me_lc (own := [("_law_part", 2)]) rfl sc__law_slots.nd (mi_seq (me_of (pv 0))) (blkOk_by (N := N__law_slots) (sc := defScope s__law_slots) (by decide +kernel)) (gw_name (i := 2) (by simp)) (fun _ _ _ _ _ => pg_name (i := 2) sc__law_slots.nd rfl (Or.inl rfl)) (fun _ _ _ _ _ => (mts_one (mt_not (mt_val (me_callO O__law_whole (hr.mono (by decide)) rfl rfl (ma_cons (me_of (pv 2)) (ma_cons me_int (ma_cons me_int ma_nil)))))))) (fun _ _ _ _ _ => (me_of (pv 2)))) (me_lst ma_nil) (nomark _))))) (mss_cons (ms_ret me_bl)
    mss_nil) mss_nil)
    (mss_cons (ms_ret (me_cmp (op_eqU hr.units) eqM_ok (me_lc (own := [("_law_k", 1)]) rfl sc__law_slots.nd (mi_range2 rfl T.n_range (ma_cons me_int (ma_cons (me_callB call_len lenM_ok rfl T.n_len (by decide +kernel) (ma_cons (me_of (pv 0)) ma_nil)) ma_nil))) (blkOk_by (N := N__law_slots) (sc := defScope s__law_slots) (by decide +kernel)) (gw_name (i := 1) (by simp)) (fun _ _ _ _ _ => pg_name (i := 1) sc__law_slots.nd rfl (Or.inl rfl)) (fun _ _ _ _ _ => (mts_one (mt_cmp op_ge geM_ok (me_item (me_of (pv 0)) (me_sub (me_of (pv 1)) me_int) (fun _ _ => rfl)) (me_item (me_of (pv 0)) (me_of (pv 1)) (fun _ _ => rfl)) (nomark _)))) (fun _ _ _ _ _ => (me_of (pv 1)))) (me_lst ma_nil) (nomark _)))
    mss_nil))
abbrev s__law_fits : Stmt := topS 41
abbrev ps__law_fits : List Str := ["_law_thing", "_law_sort"]
abbrev N__law_fits : List Str := ["_law_thing", "_law_sort", "_law_letters"]
theorem sc__law_fits : FnScope N__law_fits ps__law_fits (defScope s__law_fits) := ⟨rfl, rfl, rfl, by decide +kernel, rfl, by decide +kernel, by decide +kernel⟩
def b__law_fits : Env → M (Fl × Env) := (sSeq (sAsg (fun _ => M.pure (.str "abcdefghijklmnopqrstuvwxyz")) (gSet 2))
    (sSeq (sIf (tst (b2 inM (vget 1) (mkT (aCons (fun _ => M.pure (.str "n")) (aCons (fun _ => M.pure (.str "o")) (fun _ => M.pure [])))))) (sSeq (sRet (orV (andV (b2 isN (vget 0) (fun _ => M.pure .non)) (b2 eqY (vget 1) (fun _ => M.pure (.str "o")))) (calF 3 m__law_whole (aCons (vget 0) (aCons (fun _ => M.pure (.int 1)) (aCons (fun _ => M.pure (.int 999999)) (fun _ => M.pure [])))))))
    sNil) sNil)
    (sSeq (sIf (tst (b2 eqY (vget 1) (fun _ => M.pure (.str "s")))) (sSeq (sRet (calF 3 m__law_whole (aCons (vget 0) (aCons (fun _ => M.pure (.int 0)) (aCons (fun _ => M.pure (.int 7)) (fun _ => M.pure []))))))
    sNil) sNil)
    (sSeq (sIf (tst (b2 inM (vget 1) (mkT (aCons (fun _ => M.pure (.str "k")) (aCons (fun _ => M.pure (.str "v")) (fun _ => M.pure [])))))) (sSeq (sRet (calF 2 m__law_made_of (aCons (vget 0) (aCons (ifV (tst (b2 eqY (vget 1) (fun _ => M.pure (.str "k")))) (vget 2) (b2 addM (vget 2) (fun _ => M.pure (.str "0123456789")))) (fun _ => M.pure [])))))
    sNil) sNil)
    (sSeq (sIf (tst (b2 inM (vget 1) (mkT (aCons (fun _ => M.pure (.str "w")) (aCons (fun _ => M.pure (.str "e")) (fun _ => M.pure [])))))) (sSeq (sRet (orV (andV (b2 isN (vget 0) (fun _ => M.pure .non)) (b2 eqY (vget 1) (fun _ => M.pure (.str "e")))) (calF 3 m__law_whole (aCons (vget 0) (aCons (fun _ => M.pure (.int 0)) (aCons (fun _ => M.pure (.int 999999)) (fun _ => M.pure [])))))))
    sNil) sNil)
    (sSeq (sRet (andV (calF 1 m__law_slots (aCons (vget 0) (fun _ => M.pure []))) (orV (b2 eqY (vget 1) (fun _ => M.pure (.str "t"))) (b2 neX (vget 0) (mkT (fun _ => M.pure []))))))
    sNil))))))
def m__law_fits : List D → M D := runM 3 b__law_fits
theorem ok__law_fits (T : Txt w K mg) (D : DefAt K mg "_law_fits" s__law_fits ps__law_fits) (O__law_slots : OkAt P w K mg base 2 "_law_slots" s__law_slots ps__law_slots m__law_slots) (O__law_whole : OkAt P w K mg base 1 "_law_whole" s__law_whole ps__law_whole m__law_whole) (O__law_made_of : OkAt P w K mg base 1 "_law_made_of" s__law_made_of ps__law_made_of m__law_made_of) : OkAt P w K mg base 3 "_law_fits" s__law_fits ps__law_fits m__law_fits :=
  OkAt.of (ms := b__law_fits) (N := N__law_fits) (n := 3) (k := 2) rfl D sc__law_fits fun fa cdv A outer s H E hr =>
    (mss_cons (ms_set (i := 2) sc__law_fits.nd rfl (Or.inl rfl) me_str)
    (mss_cons (ms_if (mt_cmp op_inU inB_ok (me_of (pv 1)) (me_tup (ma_cons me_str (ma_cons me_str ma_nil))) (by rfl)) (mss_cons (ms_ret (me_or (me_and (me_cmp op_isN isN_ok (me_of (pv 0)) me_non (nomark _)) (me_one (me_cmp (op_eqY hr.units) eqY_ok (me_of (pv 1)) me_str (nomark _)))) (me_one (me_callO O__law_whole (hr.mono (by decide)) rfl rfl (ma_cons (me_of (pv 0)) (ma_cons me_int (ma_cons me_int ma_nil)))))))
    mss_nil) mss_nil)
    (mss_cons (ms_if (mt_cmp (op_eqY hr.units) eqY_ok (me_of (pv 1)) me_str (nomark _)) (mss_cons (ms_ret (me_callO O__law_whole (hr.mono (by decide)) rfl rfl (ma_cons (me_of (pv 0)) (ma_cons me_int (ma_cons me_int ma_nil)))))
    mss_nil) mss_nil)
    (mss_cons (ms_if (mt_cmp op_inU inB_ok (me_of (pv 1)) (me_tup (ma_cons me_str (ma_cons me_str ma_nil))) (by rfl)) (mss_cons (ms_ret (me_callO O__law_made_of (hr.mono (by decide)) rfl rfl (ma_cons (me_of (pv 0)) (ma_cons (me_ife (mt_cmp (op_eqY hr.units) eqY_ok (me_of (pv 1)) me_str (nomark _)) (me_of (pv 2)) (me_add (me_of (pv 2)) me_str)) ma_nil))))
    mss_nil) mss_nil)
    (mss_cons (ms_if (mt_cmp op_inU inB_ok (me_of (pv 1)) (me_tup (ma_cons me_str (ma_cons me_str ma_nil))) (by rfl)) (mss_cons (ms_ret (me_or (me_and (me_cmp op_isN isN_ok (me_of (pv 0)) me_non (nomark _)) (me_one (me_cmp (op_eqY hr.units) eqY_ok (me_of (pv 1)) me_str (nomark _)))) (me_one (me_callO O__law_whole (hr.mono (by decide)) rfl rfl (ma_cons (me_of (pv 0)) (ma_cons me_int (ma_cons me_int ma_nil)))))))
    mss_nil) mss_nil)
    (mss_cons (ms_ret (me_and (me_callO O__law_slots (hr.mono (by decide)) rfl rfl (ma_cons (me_of (pv 0)) ma_nil)) (me_one (me_or (me_cmp (op_eqY hr.units) eqY_ok (me_of (pv 1)) me_str (nomark _)) (me_one (me_cmp (op_neX hr.units) neX_ok (me_of (pv 0)) (me_tup ma_nil) (nomark _)))))))
    mss_nil))))))
abbrev s__law_form : Stmt := topS 42
abbrev ps__law_form : List Str := ["_law_word"]
abbrev N__law_form : List Str := ["_law_word", "_law_some", "_law_found", "_law_one"]
theorem sc__law_form : FnScope N__law_form ps__law_form (defScope s__law_form) := ⟨rfl, rfl, rfl, by decide +kernel, rfl, by decide +kernel, by decide +kernel⟩
def b__law_form : Env → M (Fl × Env) := (sSeq (sAsg (mkL (aCons (fun _ => M.pure (.str "open no")) (aCons (fun _ => M.pure (.str "put nsskv")) (aCons (fun _ => M.pure (.str "change nssssv")) (aCons (fun _ => M.pure (.str "strike nss")) (aCons (fun _ => M.pure (.str "lock nss")) (aCons (fun _ => M.pure (.str "refused nss")) (aCons (fun _ => M.pure (.str "commit n")) (aCons (fun _ => M.pure (.str "abort n")) (fun _ => M.pure [])))))))))) (gSet 1))
    (sSeq (sAsg (b2 addM (vget 1) (mkL (aCons (fun _ => M.pure (.str "prepare nw")) (aCons (fun _ => M.pure (.str "clean stt")) (aCons (fun _ => M.pure (.str "tidy su")) (aCons (fun _ => M.pure (.str "sweep ")) (aCons (fun _ => M.pure (.str "word e")) (aCons (fun _ => M.pure (.str "fall ")) (fun _ => M.pure []))))))))) (gSet 1))
    (sSeq (sAsg (eLc (iSeq (vget 1)) (gSet 3) (tst (b2 eqM (b2 ixM (mth chkS splitM (vget 3) (aCons (fun _ => M.pure (.str " ")) (fun _ => M.pure []))) (fun _ => M.pure (.int 0))) (vget 0))) (b2 ixM (mth chkS splitM (vget 3) (aCons (fun _ => M.pure (.str " ")) (fun _ => M.pure []))) (fun _ => M.pure (.int 1))) [3]) (gSet 2))
    (sSeq (sRet (ifV (tst (b2 neM (vget 2) (mkL (fun _ => M.pure [])))) (b2 ixM (vget 2) (fun _ => M.pure (.int 0))) (fun _ => M.pure .non)))
    sNil))))
def m__law_form : List D → M D := runM 4 b__law_form
theorem ok__law_form (T : Txt w K mg) (D : DefAt K mg "_law_form" s__law_form ps__law_form)  : OkAt P w K mg base 1 "_law_form" s__law_form ps__law_form m__law_form :=
  OkAt.of (ms := b__law_form) (N := N__law_form) (n := 4) (k := 0) rfl D sc__law_form fun fa cdv A outer s H E hr =>
    (mss_cons (ms_set (i := 1) sc__law_form.nd rfl (Or.inl rfl) (me_lst (ma_cons me_str (ma_cons me_str (ma_cons me_str (ma_cons me_str (ma_cons me_str (ma_cons me_str (ma_cons me_str (ma_cons me_str ma_nil))))))))))
    (mss_cons (ms_set (i := 1) sc__law_form.nd rfl (Or.inl rfl) (me_add (me_of (pv 1)) (me_lst (ma_cons me_str (ma_cons me_str (ma_cons me_str (ma_cons me_str (ma_cons me_str (ma_cons me_str ma_nil)))))))))
    (mss_cons (ms_setLc (i := 2) (own := [("_law_one", 3)]) rfl sc__law_form.nd rfl rfl (sw_true rfl rfl rfl (by decide +kernel)) (mi_seq (me_of (pv 1))) (blkOk_by (N := N__law_form) (sc := defScope s__law_form) (by decide +kernel)) (gw_name (i := 3) (by simp)) (fun _ _ _ _ _ => pg_name (i := 3) sc__law_form.nd rfl (Or.inl rfl)) (fun _ _ _ _ _ => (mts_one (mt_cmp (op_eqU hr.units) eqM_ok (me_item (pe_imp (pe_bm PySem.F.plainAttrs_str PySem.F.slot_str_split PySem.F.type_str_split mt_split (me_of (pv 3)) (ma_cons me_str ma_nil)) (fun _ _ _ h => mth_go chkS_ok splitM_ok h)) me_int (fun _ _ => rfl)) (me_of (pv 0)) (nomark _)))) (fun _ _ _ _ _ => (me_item (pe_imp (pe_bm PySem.F.plainAttrs_str PySem.F.slot_str_split PySem.F.type_str_split mt_split (me_of (pv 3)) (ma_cons me_str ma_nil)) (fun _ _ _ h => mth_go chkS_ok splitM_ok h)) me_int (fun _ _ => rfl))))
    (mss_cons (ms_ret (me_ife (mt_cmp (op_neU hr.units) neM_ok (me_of (pv 2)) (me_lst ma_nil) (nomark _)) (me_item (me_of (pv 2)) me_int (fun _ _ => rfl)) me_non))
    mss_nil))))
abbrev s__law_is_row : Stmt := topS 43
abbrev ps__law_is_row : List Str := ["_law_thing"]
abbrev N__law_is_row : List Str := ["_law_thing", "_law_sorts", "_law_k", "_law_slot"]
theorem sc__law_is_row : FnScope N__law_is_row ps__law_is_row (defScope s__law_is_row) := ⟨rfl, rfl, rfl, by decide +kernel, rfl, by decide +kernel, by decide +kernel⟩
def b__law_is_row : Env → M (Fl × Env) := (sSeq (sIf (orT (notT (tst (b1 (isiM "tuple") (vget 0)))) (orT (tst (b2 eqY (vget 0) (mkT (fun _ => M.pure [])))) (notT (tst (b1 (isiM "str") (b2 ixM (vget 0) (fun _ => M.pure (.int 0)))))))) (sSeq (sRet (fun _ => M.pure (.bl false)))
    sNil) sNil)
    (sSeq (sAsg (calF 1 m__law_form (aCons (b2 ixM (vget 0) (fun _ => M.pure (.int 0))) (fun _ => M.pure []))) (gSet 1))
    (sSeq (sIf (orT (tst (b2 isN (vget 1) (fun _ => M.pure .non))) (tst (b2 neX (cal (on1 lenM) (aCons (vget 0) (fun _ => M.pure []))) (b2 addM (cal (on1 lenM) (aCons (vget 1) (fun _ => M.pure []))) (fun _ => M.pure (.int 1)))))) (sSeq (sRet (fun _ => M.pure (.bl false)))
    sNil) sNil)
    (sSeq (sIf (tst (b2 neX (eLc (len1 rngOf 1 (aCons (cal (on1 lenM) (aCons (vget 1) (fun _ => M.pure []))) (fun _ => M.pure []))) (gSet 2) (notT (tst (calF 2 m__law_fits (aCons (b2 ixM (vget 0) (b2 addM (vget 2) (fun _ => M.pure (.int 1)))) (aCons (b2 ixM (vget 1) (vget 2)) (fun _ => M.pure [])))))) (vget 2) [2]) (mkL (fun _ => M.pure [])))) (sSeq (sRet (fun _ => M.pure (.bl false)))
    sNil) sNil)
    (sSeq (sIf (tst (b2 eqY (b2 ixM (vget 0) (fun _ => M.pure (.int 0))) (fun _ => M.pure (.str "open")))) (sSeq (sRet (orV (b2 isN (b2 ixM (vget 0) (fun _ => M.pure (.int 2))) (fun _ => M.pure .non)) (b2 ltM (b2 ixM (vget 0) (fun _ => M.pure (.int 2))) (b2 ixM (vget 0) (fun _ => M.pure (.int 1))))))
    sNil) sNil)
    (sSeq (sRet (orV (b2 neX (b2 ixM (vget 0) (fun _ => M.pure (.int 0))) (fun _ => M.pure (.str "clean"))) (b2 eqY (eLc (iSeq (b2 ixM (vget 0) (fun _ => M.pure (.int 2)))) (gSet 3) (tst (b2 inM (vget 3) (b2 ixM (vget 0) (fun _ => M.pure (.int 3))))) (vget 3) [3]) (mkL (fun _ => M.pure [])))))
    sNil))))))
def m__law_is_row : List D → M D := runM 4 b__law_is_row
theorem ok__law_is_row (T : Txt w K mg) (D : DefAt K mg "_law_is_row" s__law_is_row ps__law_is_row) (O__law_fits : OkAt P w K mg base 3 "_law_fits" s__law_fits ps__law_fits m__law_fits) (O__law_form : OkAt P w K mg base 1 "_law_form" s__law_form ps__law_form m__law_form) : OkAt P w K mg base 4 "_law_is_row" s__law_is_row ps__law_is_row m__law_is_row :=
  OkAt.of (ms := b__law_is_row) (N := N__law_is_row) (n := 4) (k := 3) rfl D sc__law_is_row fun fa cdv A outer s H E hr =>
    (mss_cons (ms_if (PW.pt (mw_or (mt_not (mt_val (me_isi rfl T.n_isinstance (by decide +kernel) (me_of (pv 0)) (pe_bltn rfl T.n_tuple (by decide +kernel) rfl)))) (mw_or (mt_cmp (op_eqY hr.units) eqY_ok (me_of (pv 0)) (me_tup ma_nil) (nomark _)) (mw_or1 (mt_not (mt_val (me_isi rfl T.n_isinstance (by decide +kernel) (me_item (me_of (pv 0)) me_int (fun _ _ => rfl)) (pe_bltn rfl T.n_str (by decide +kernel) rfl)))))))) (mss_cons (ms_ret me_bl)
    mss_nil) mss_nil)
    (mss_cons (ms_set (i := 1) sc__law_is_row.nd rfl (Or.inr rfl) (me_callO O__law_form (hr.mono (by decide)) rfl rfl (ma_cons (me_item (me_of (pv 0)) me_int (fun _ _ => rfl)) ma_nil)))
    (mss_cons (ms_if (PW.pt (mw_or (mt_cmp op_isN isN_ok (me_of (pv 1)) me_non (nomark _)) (mw_or1 (mt_cmp (op_neX hr.units) neX_ok (me_callB call_len lenM_ok rfl T.n_len (by decide +kernel) (ma_cons (me_of (pv 0)) ma_nil)) (me_add (me_callB call_len lenM_ok rfl T.n_len (by decide +kernel) (ma_cons (me_of (pv 1)) ma_nil)) me_int) (nomark _))))) (mss_cons (ms_ret me_bl)
    mss_nil) mss_nil)
    (mss_cons (ms_if (mt_cmp (op_neX hr.units) neX_ok (me_lc (own := [("_law_k", 2)]) rfl sc__law_is_row.nd (mi_range1 rfl T.n_range (ma_cons (me_callB call_len lenM_ok rfl T.n_len (by decide +kernel) (ma_cons (me_of (pv 1)) ma_nil)) ma_nil)) (blkOk_by (N := N__law_is_row) (sc := defScope s__law_is_row) (by decide +kernel)) (gw_name (i := 2) (by simp)) (fun _ _ _ _ _ => pg_name (i := 2) sc__law_is_row.nd rfl (Or.inl rfl)) (fun _ _ _ _ _ => (mts_one (mt_not (mt_val (me_callO O__law_fits (hr.mono (by decide)) rfl rfl (ma_cons (me_item (me_of (pv 0)) (me_add (me_of (pv 2)) me_int) (fun _ _ => rfl)) (ma_cons (me_item (me_of (pv 1)) (me_of (pv 2)) (fun _ _ => rfl)) ma_nil))))))) (fun _ _ _ _ _ => (me_of (pv 2)))) (me_lst ma_nil) (nomark _)) (mss_cons (ms_ret me_bl)
    mss_nil) mss_nil)
    (mss_cons (ms_if (mt_cmp (op_eqY hr.units) eqY_ok (me_item (me_of (pv 0)) me_int (fun _ _ => rfl)) me_str (nomark _)) (mss_cons (ms_ret (me_or (me_cmp op_isN isN_ok (me_item (me_of (pv 0)) me_int (fun _ _ => rfl)) me_non (nomark _)) (me_one (me_cmp op_lt ltM_ok (me_item (me_of (pv 0)) me_int (fun _ _ => rfl)) (me_item (me_of (pv 0)) me_int (fun _ _ => rfl)) (nomark _)))))
    mss_nil) mss_nil)
    (mss_cons (ms_ret (me_or (me_cmp (op_neX hr.units) neX_ok (me_item (me_of (pv 0)) me_int (fun _ _ => rfl)) me_str (nomark _)) (me_one (me_cmp (op_eqY hr.units) eqY_ok (me_lc (own := [("_law_slot", 3)]) rfl sc__law_is_row.nd (mi_seq (me_item (me_of (pv 0)) me_int (fun _ _ => rfl))) (blkOk_by (N := N__law_is_row) (sc := defScope s__law_is_row) (by decide +kernel)) (gw_name (i := 3) (by simp)) (fun _ _ _ _ _ => pg_name (i := 3) sc__law_is_row.nd rfl (Or.inl rfl)) (fun _ _ _ _ _ => (mts_one (mt_cmp op_inU inB_ok (me_of (pv 3)) (me_item (me_of (pv 0)) me_int (fun _ _ => rfl)) (by rfl)))) (fun _ _ _ _ _ => (me_of (pv 3)))) (me_lst ma_nil) (nomark _)))))
    mss_nil))))))
abbrev s__law_bent : Stmt := topS 44
abbrev ps__law_bent : List Str := ["_law_pen_here", "_law_row_here"]
abbrev N__law_bent : List Str := ["_law_pen_here", "_law_row_here", "_law_way", "_law_at", "_law_part", "_law_near"]
theorem sc__law_bent : FnScope N__law_bent ps__law_bent (defScope s__law_bent) := ⟨rfl, rfl, rfl, by decide +kernel, rfl, by decide +kernel, by decide +kernel⟩
def b__law_bent : Env → M (Fl × Env) := (sSeq (sAsg (calF 2 m__law_draw (aCons (vget 0) (aCons (fun _ => M.pure (.int 9)) (fun _ => M.pure [])))) (gSet 2))
    (sSeq (sAsg (calF 2 m__law_draw (aCons (vget 0) (aCons (cal (on1 lenM) (aCons (vget 1) (fun _ => M.pure []))) (fun _ => M.pure [])))) (gSet 3))
    (sSeq (sIf (tst (b2 ltM (vget 2) (fun _ => M.pure (.int 4)))) (sSeq (sAsg (b2 ixM (vget 1) (vget 3)) (gSet 4))
    (sSeq (sAsg (mkL (aCons (calF 1 m__law_odd (aCons (vget 0) (fun _ => M.pure []))) (fun _ => M.pure []))) (gSet 5))
    (sSeq (sIf (tst (calF 3 m__law_whole (aCons (vget 4) (aCons (b1 negM (fun _ => M.pure (.int 9))) (aCons (b2 powM (fun _ => M.pure (.int 10)) (fun _ => M.pure (.int 9))) (fun _ => M.pure [])))))) (sSeq (sAsg (mkL (aCons (b2 addM (vget 4) (fun _ => M.pure (.int 1))) (aCons (b2 subM (vget 4) (fun _ => M.pure (.int 1))) (aCons (b2 eqY (vget 4) (fun _ => M.pure (.int 1))) (aCons (cal (on1 strM) (aCons (vget 4) (fun _ => M.pure []))) (aCons (b2 subM (fun _ => M.pure (.int 0)) (vget 4)) (aCons (mkT (aCons (vget 4) (fun _ => M.pure []))) (aCons (fun _ => M.pure (.int 8)) (aCons (fun _ => M.pure (.int 1000000)) (fun _ => M.pure [])))))))))) (gSet 5))
    sNil) (sSeq (sIf (tst (b1 (isiM "tuple") (vget 4))) (sSeq (sAsg (mkL (aCons (b2 addM (vget 4) (slc (vget 4) none (some (fun _ => M.pure (.int 1))))) (aCons (b1 revU (vget 4)) (aCons (cal (on1 listM) (aCons (vget 4) (fun _ => M.pure []))) (aCons (b2 addM (vget 4) (mkT (aCons (fun _ => M.pure (.int 8)) (fun _ => M.pure [])))) (aCons (slc (vget 4) (some (fun _ => M.pure (.int 1))) none) (aCons (mkT (aCons (fun _ => M.pure (.bl true)) (fun _ => M.pure []))) (aCons (mkT (fun _ => M.pure [])) (fun _ => M.pure []))))))))) (gSet 5))
    sNil) (sSeq (sIf (tst (b1 (isiM "str") (vget 4))) (sSeq (sAsg (mkL (aCons (b2 addM (vget 4) (fun _ => M.pure (.str "a"))) (aCons (slc (vget 4) (some (fun _ => M.pure (.int 1))) none) (aCons (mth0 chkS upperM (vget 4)) (aCons (b2 addM (vget 4) (fun _ => M.pure (.str "\n"))) (aCons (fun _ => M.pure (.str "fall")) (aCons (fun _ => M.pure (.str "word")) (aCons (mkT (aCons (vget 4) (fun _ => M.pure []))) (aCons (fun _ => M.pure .non) (fun _ => M.pure [])))))))))) (gSet 5))
    sNil) sNil)
    sNil))
    sNil))
    (sSeq (sRet (b2 addM (b2 addM (slc (vget 1) none (some (vget 3))) (mkT (aCons (calF 2 m__law_pick (aCons (vget 0) (aCons (b2 addM (vget 5) (mkL (aCons (calF 1 m__law_odd (aCons (vget 0) (fun _ => M.pure []))) (fun _ => M.pure [])))) (fun _ => M.pure [])))) (fun _ => M.pure [])))) (slc (vget 1) (some (b2 addM (vget 3) (fun _ => M.pure (.int 1)))) none)))
    sNil)))) sNil)
    (sSeq (sIf (tst (b2 eqY (vget 2) (fun _ => M.pure (.int 4)))) (sSeq (sRet (b2 addM (slc (vget 1) none (some (vget 3))) (slc (vget 1) (some (b2 addM (vget 3) (fun _ => M.pure (.int 1)))) none)))
    sNil) sNil)
    (sSeq (sIf (tst (b2 eqY (vget 2) (fun _ => M.pure (.int 5)))) (sSeq (sRet (b2 addM (slc (vget 1) none (some (b2 addM (vget 3) (fun _ => M.pure (.int 1))))) (slc (vget 1) (some (vget 3)) none)))
    sNil) sNil)
    (sSeq (sIf (tst (b2 eqY (vget 2) (fun _ => M.pure (.int 6)))) (sSeq (sRet (b2 addM (b2 addM (slc (vget 1) none (some (vget 3))) (b1 revU (slc (vget 1) (some (vget 3)) (some (b2 addM (vget 3) (fun _ => M.pure (.int 2))))))) (slc (vget 1) (some (b2 addM (vget 3) (fun _ => M.pure (.int 2)))) none)))
    sNil) sNil)
    (sSeq (sRet (calF 2 m__law_pick (aCons (vget 0) (aCons (mkL (aCons (cal (on1 listM) (aCons (vget 1) (fun _ => M.pure []))) (aCons (b2 addM (vget 1) (mkT (aCons (fun _ => M.pure .non) (fun _ => M.pure [])))) (aCons (mkT (aCons (vget 1) (fun _ => M.pure []))) (aCons (b2 ixM (vget 1) (fun _ => M.pure (.int 0))) (aCons (calF 1 m__law_odd (aCons (vget 0) (fun _ => M.pure []))) (aCons (calF 1 m__law_odd (aCons (vget 0) (fun _ => M.pure []))) (fun _ => M.pure [])))))))) (fun _ => M.pure [])))))
    sNil)))))))
def m__law_bent : List D → M D := runM 6 b__law_bent
theorem ok__law_bent (T : Txt w K mg) (D : DefAt K mg "_law_bent" s__law_bent ps__law_bent) (O__law_pick : OkAt P w K mg base 2 "_law_pick" s__law_pick ps__law_pick m__law_pick) (O__law_odd : OkAt P w K mg base 3 "_law_odd" s__law_odd ps__law_odd m__law_odd) (O__law_whole : OkAt P w K mg base 1 "_law_whole" s__law_whole ps__law_whole m__law_whole) (O__law_draw : OkAt P w K mg base 1 "_law_draw" s__law_draw ps__law_draw m__law_draw) : OkAt P w K mg base 4 "_law_bent" s__law_bent ps__law_bent m__law_bent :=
  OkAt.of (ms := b__law_bent) (N := N__law_bent) (n := 6) (k := 3) rfl D sc__law_bent fun fa cdv A outer s H E hr =>
    (mss_cons (ms_set (i := 2) sc__law_bent.nd rfl (Or.inl rfl) (me_callO O__law_draw (hr.mono (by decide)) rfl rfl (ma_cons (me_of (pv 0)) (ma_cons me_int ma_nil))))
    (mss_cons (ms_set (i := 3) sc__law_bent.nd rfl (Or.inl rfl) (me_callO O__law_draw (hr.mono (by decide)) rfl rfl (ma_cons (me_of (pv 0)) (ma_cons (me_callB call_len lenM_ok rfl T.n_len (by decide +kernel) (ma_cons (me_of (pv 1)) ma_nil)) ma_nil))))
    (mss_cons (ms_if (mt_cmp op_lt ltM_ok (me_of (pv 2)) me_int (nomark _)) (mss_cons (ms_set (i := 4) sc__law_bent.nd rfl (Or.inl rfl) (me_item (me_of (pv 1)) (me_of (pv 3)) (fun _ _ => rfl)))
    (mss_cons (ms_set (i := 5) sc__law_bent.nd rfl (Or.inl rfl) (me_lst (ma_cons (me_callO O__law_odd (hr.mono (by decide)) rfl rfl (ma_cons (me_of (pv 0)) ma_nil)) ma_nil)))
    (mss_cons (ms_if (mt_val (me_callO O__law_whole (hr.mono (by decide)) rfl rfl (ma_cons (me_of (pv 4)) (ma_cons (me_neg me_int) (ma_cons (me_pow me_int me_int) ma_nil))))) (mss_cons (ms_set (i := 5) sc__law_bent.nd rfl (Or.inl rfl) (me_lst (ma_cons (me_add (me_of (pv 4)) me_int) (ma_cons (me_sub (me_of (pv 4)) me_int) (ma_cons (me_cmp (op_eqY hr.units) eqY_ok (me_of (pv 4)) me_int (nomark _)) (ma_cons (me_callTy call_strU strM_ok rfl T.n_str (by decide +kernel) (ma_cons (me_of (pv 4)) ma_nil)) (ma_cons (me_sub me_int (me_of (pv 4))) (ma_cons (me_tup (ma_cons (me_of (pv 4)) ma_nil)) (ma_cons me_int (ma_cons me_int ma_nil))))))))))
    mss_nil) (mss_cons (ms_if (mt_val (me_isi rfl T.n_isinstance (by decide +kernel) (me_of (pv 4)) (pe_bltn rfl T.n_tuple (by decide +kernel) rfl))) (mss_cons (ms_set (i := 5) sc__law_bent.nd rfl (Or.inl rfl) (me_lst (ma_cons (me_add (me_of (pv 4)) (me_slice (me_of (pv 4)) mo_none (mo_some me_int))) (ma_cons (me_revU (me_of (pv 4))) (ma_cons (me_callTy (call_listU rfl) listM_ok rfl T.n_list (by decide +kernel) (ma_cons (me_of (pv 4)) ma_nil)) (ma_cons (me_add (me_of (pv 4)) (me_tup (ma_cons me_int ma_nil))) (ma_cons (me_slice (me_of (pv 4)) (mo_some me_int) mo_none) (ma_cons (me_tup (ma_cons me_bl ma_nil)) (ma_cons (me_tup ma_nil) ma_nil)))))))))
    mss_nil) (mss_cons (ms_if (mt_val (me_isi rfl T.n_isinstance (by decide +kernel) (me_of (pv 4)) (pe_bltn rfl T.n_str (by decide +kernel) rfl))) (mss_cons (ms_set (i := 5) sc__law_bent.nd rfl (Or.inl rfl) (me_lst (ma_cons (me_add (me_of (pv 4)) me_str) (ma_cons (me_slice (me_of (pv 4)) (mo_some me_int) mo_none) (ma_cons (pe_imp (pe_bm0 PySem.F.plainAttrs_str PySem.F.slot_str_upper PySem.F.type_str_upper mt_upper (me_of (pv 4))) (fun _ _ _ h => mth0_go chkS_ok upperM_ok h)) (ma_cons (me_add (me_of (pv 4)) me_str) (ma_cons me_str (ma_cons me_str (ma_cons (me_tup (ma_cons (me_of (pv 4)) ma_nil)) (ma_cons me_non ma_nil))))))))))
    mss_nil) mss_nil)
    mss_nil))
    mss_nil))
    (mss_cons (ms_ret (me_add (me_add (me_slice (me_of (pv 1)) mo_none (mo_some (me_of (pv 3)))) (me_tup (ma_cons (me_callO O__law_pick (hr.mono (by decide)) rfl rfl (ma_cons (me_of (pv 0)) (ma_cons (me_add (me_of (pv 5)) (me_lst (ma_cons (me_callO O__law_odd (hr.mono (by decide)) rfl rfl (ma_cons (me_of (pv 0)) ma_nil)) ma_nil))) ma_nil))) ma_nil))) (me_slice (me_of (pv 1)) (mo_some (me_add (me_of (pv 3)) me_int)) mo_none)))
    mss_nil)))) mss_nil)
    (mss_cons (ms_if (mt_cmp (op_eqY hr.units) eqY_ok (me_of (pv 2)) me_int (nomark _)) (mss_cons (ms_ret (me_add (me_slice (me_of (pv 1)) mo_none (mo_some (me_of (pv 3)))) (me_slice (me_of (pv 1)) (mo_some (me_add (me_of (pv 3)) me_int)) mo_none)))
    mss_nil) mss_nil)
    (mss_cons (ms_if (mt_cmp (op_eqY hr.units) eqY_ok (me_of (pv 2)) me_int (nomark _)) (mss_cons (ms_ret (me_add (me_slice (me_of (pv 1)) mo_none (mo_some (me_add (me_of (pv 3)) me_int))) (me_slice (me_of (pv 1)) (mo_some (me_of (pv 3))) mo_none)))
    mss_nil) mss_nil)
    (mss_cons (ms_if (mt_cmp (op_eqY hr.units) eqY_ok (me_of (pv 2)) me_int (nomark _)) (mss_cons (ms_ret (me_add (me_add (me_slice (me_of (pv 1)) mo_none (mo_some (me_of (pv 3)))) (me_revU (me_slice (me_of (pv 1)) (mo_some (me_of (pv 3))) (mo_some (me_add (me_of (pv 3)) me_int))))) (me_slice (me_of (pv 1)) (mo_some (me_add (me_of (pv 3)) me_int)) mo_none)))
    mss_nil) mss_nil)
    (mss_cons (ms_ret (me_callO O__law_pick (hr.mono (by decide)) rfl rfl (ma_cons (me_of (pv 0)) (ma_cons (me_lst (ma_cons (me_callTy (call_listU rfl) listM_ok rfl T.n_list (by decide +kernel) (ma_cons (me_of (pv 1)) ma_nil)) (ma_cons (me_add (me_of (pv 1)) (me_tup (ma_cons me_non ma_nil))) (ma_cons (me_tup (ma_cons (me_of (pv 1)) ma_nil)) (ma_cons (me_item (me_of (pv 1)) me_int (fun _ _ => rfl)) (ma_cons (me_callO O__law_odd (hr.mono (by decide)) rfl rfl (ma_cons (me_of (pv 0)) ma_nil)) (ma_cons (me_callO O__law_odd (hr.mono (by decide)) rfl rfl (ma_cons (me_of (pv 0)) ma_nil)) ma_nil))))))) ma_nil))))
    mss_nil)))))))
abbrev s__is_put : Stmt := topS 15
abbrev ps__is_put : List Str := ["row"]
abbrev N__is_put : List Str := ["row"]
theorem sc__is_put : FnScope N__is_put ps__is_put (defScope s__is_put) := ⟨rfl, rfl, rfl, by decide +kernel, rfl, by decide +kernel, by decide +kernel⟩
def b__is_put : Env → M (Fl × Env) := (sSeq (sRet (andV (calF 1 m__is_touching (aCons (slc (vget 0) none (some (fun _ => M.pure (.int 4)))) (fun _ => M.pure []))) (andV (calF 1 m_is_key (aCons (b2 ixM (vget 0) (fun _ => M.pure (.int 4))) (fun _ => M.pure []))) (calF 1 m_is_value (aCons (b2 ixM (vget 0) (fun _ => M.pure (.int 5))) (fun _ => M.pure []))))))
    sNil)
def m__is_put : List D → M D := runM 1 b__is_put
theorem ok__is_put (T : Txt w K mg) (D : DefAt K mg "_is_put" s__is_put ps__is_put) (O__is_touching : OkAt P w K mg base 2 "_is_touching" s__is_touching ps__is_touching m__is_touching) (O_is_key : OkAt P w K mg base 1 "is_key" s_is_key ps_is_key m_is_key) (O_is_value : OkAt P w K mg base 1 "is_value" s_is_value ps_is_value m_is_value) : OkAt P w K mg base 3 "_is_put" s__is_put ps__is_put m__is_put :=
  OkAt.of (ms := b__is_put) (N := N__is_put) (n := 1) (k := 2) rfl D sc__is_put fun fa cdv A outer s H E hr =>
    (mss_cons (ms_ret (me_and (me_callO O__is_touching (hr.mono (by decide)) rfl rfl (ma_cons (me_slice (me_of (pv 0)) mo_none (mo_some me_int)) ma_nil)) (me_and (me_callO O_is_key (hr.mono (by decide)) rfl rfl (ma_cons (me_item (me_of (pv 0)) me_int (fun _ _ => rfl)) ma_nil)) (me_one (me_callO O_is_value (hr.mono (by decide)) rfl rfl (ma_cons (me_item (me_of (pv 0)) me_int (fun _ _ => rfl)) ma_nil))))))
    mss_nil)
abbrev s__is_change : Stmt := topS 16
abbrev ps__is_change : List Str := ["row"]
abbrev N__is_change : List Str := ["row"]
theorem sc__is_change : FnScope N__is_change ps__is_change (defScope s__is_change) := ⟨rfl, rfl, rfl, by decide +kernel, rfl, by decide +kernel, by decide +kernel⟩
def b__is_change : Env → M (Fl × Env) := (sSeq (sRet (andV (calF 1 m__is_touching (aCons (slc (vget 0) none (some (fun _ => M.pure (.int 4)))) (fun _ => M.pure []))) (andV (calF 1 m_is_place (aCons (b2 ixM (vget 0) (fun _ => M.pure (.int 4))) (fun _ => M.pure []))) (andV (calF 1 m_is_place (aCons (b2 ixM (vget 0) (fun _ => M.pure (.int 5))) (fun _ => M.pure []))) (calF 1 m_is_value (aCons (b2 ixM (vget 0) (fun _ => M.pure (.int 6))) (fun _ => M.pure [])))))))
    sNil)
def m__is_change : List D → M D := runM 1 b__is_change
theorem ok__is_change (T : Txt w K mg) (D : DefAt K mg "_is_change" s__is_change ps__is_change) (O__is_touching : OkAt P w K mg base 2 "_is_touching" s__is_touching ps__is_touching m__is_touching) (O_is_place : OkAt P w K mg base 1 "is_place" s_is_place ps_is_place m_is_place) (O_is_value : OkAt P w K mg base 1 "is_value" s_is_value ps_is_value m_is_value) : OkAt P w K mg base 3 "_is_change" s__is_change ps__is_change m__is_change :=
  OkAt.of (ms := b__is_change) (N := N__is_change) (n := 1) (k := 2) rfl D sc__is_change fun fa cdv A outer s H E hr =>
    (mss_cons (ms_ret (me_and (me_callO O__is_touching (hr.mono (by decide)) rfl rfl (ma_cons (me_slice (me_of (pv 0)) mo_none (mo_some me_int)) ma_nil)) (me_and (me_callO O_is_place (hr.mono (by decide)) rfl rfl (ma_cons (me_item (me_of (pv 0)) me_int (fun _ _ => rfl)) ma_nil)) (me_and (me_callO O_is_place (hr.mono (by decide)) rfl rfl (ma_cons (me_item (me_of (pv 0)) me_int (fun _ _ => rfl)) ma_nil)) (me_one (me_callO O_is_value (hr.mono (by decide)) rfl rfl (ma_cons (me_item (me_of (pv 0)) me_int (fun _ _ => rfl)) ma_nil)))))))
    mss_nil)
abbrev s__is_clean : Stmt := topS 20
abbrev ps__is_clean : List Str := ["row"]
abbrev N__is_clean : List Str := ["row", "removed", "marked", "slot"]
theorem sc__is_clean : FnScope N__is_clean ps__is_clean (defScope s__is_clean) := ⟨rfl, rfl, rfl, by decide +kernel, rfl, by decide +kernel, by decide +kernel⟩
def b__is_clean : Env → M (Fl × Env) := (sSeq (sAsg (slc (vget 0) (some (fun _ => M.pure (.int 2))) none) (gTwo 1 2))
    (sSeq (sIf (orT (notT (tst (calF 1 m_is_place (aCons (b2 ixM (vget 0) (fun _ => M.pure (.int 1))) (fun _ => M.pure []))))) (orT (notT (tst (calF 1 m__are_slots (aCons (vget 1) (fun _ => M.pure []))))) (notT (tst (calF 1 m__are_slots (aCons (vget 2) (fun _ => M.pure []))))))) (sSeq (sRet (fun _ => M.pure (.bl false)))
    sNil) sNil)
    (sSeq (sRet (orV (b2 eqM (cal (on1 lenM) (aCons (vget 1) (fun _ => M.pure []))) (fun _ => M.pure (.int 0))) (notV (cal (on1 anyM) (aCons (eLc (iSeq (vget 2)) (gSet 3) (fun _ => M.pure true) (b2 inM (vget 3) (vget 1)) [3]) (fun _ => M.pure []))))))
    sNil)))
def m__is_clean : List D → M D := runM 4 b__is_clean
theorem ok__is_clean (T : Txt w K mg) (D : DefAt K mg "_is_clean" s__is_clean ps__is_clean) (O_is_place : OkAt P w K mg base 1 "is_place" s_is_place ps_is_place m_is_place) (O__are_slots : OkAt P w K mg base 2 "_are_slots" s__are_slots ps__are_slots m__are_slots) : OkAt P w K mg base 3 "_is_clean" s__is_clean ps__is_clean m__is_clean :=
  OkAt.of (ms := b__is_clean) (N := N__is_clean) (n := 4) (k := 2) rfl D sc__is_clean fun fa cdv A outer s H E hr =>
    (mss_cons (ms_asg (me_slice (me_of (pv 0)) (mo_some me_int) mo_none) (mg_two (pg_tup rfl (pgs_cons (pg_name (i := 1) sc__is_clean.nd rfl (Or.inr rfl)) (pgs_cons (pg_name (i := 2) sc__is_clean.nd rfl (Or.inl rfl)) pgs_nil)))))
    (mss_cons (ms_if (PW.pt (mw_or (mt_not (mt_val (me_callO O_is_place (hr.mono (by decide)) rfl rfl (ma_cons (me_item (me_of (pv 0)) me_int (fun _ _ => rfl)) ma_nil)))) (mw_or (mt_not (mt_val (me_callO O__are_slots (hr.mono (by decide)) rfl rfl (ma_cons (me_of (pv 1)) ma_nil)))) (mw_or1 (mt_not (mt_val (me_callO O__are_slots (hr.mono (by decide)) rfl rfl (ma_cons (me_of (pv 2)) ma_nil)))))))) (mss_cons (ms_ret me_bl)
    mss_nil) mss_nil)
    (mss_cons (ms_ret (me_or (me_cmp (op_eqU hr.units) eqM_ok (me_callB call_len lenM_ok rfl T.n_len (by decide +kernel) (ma_cons (me_of (pv 1)) ma_nil)) me_int (nomark _)) (me_one (me_not (me_callB (cr_any rfl) anyM_ok rfl T.n_any (by decide +kernel) (ma_cons (me_lc (own := [("slot", 3)]) rfl sc__is_clean.nd (mi_seq (me_of (pv 2))) (blkOk_by (N := N__is_clean) (sc := defScope s__is_clean) (by decide +kernel)) (gw_name (i := 3) (by simp)) (fun _ _ _ _ _ => pg_name (i := 3) sc__is_clean.nd rfl (Or.inl rfl)) (fun _ _ _ _ _ => mts_nil) (fun _ _ _ _ _ => (me_cmp op_inU inB_ok (me_of (pv 3)) (me_of (pv 1)) (by rfl)))) ma_nil))))))
    mss_nil)))
abbrev s__is_tidy : Stmt := topS 21
abbrev ps__is_tidy : List Str := ["row"]
abbrev N__is_tidy : List Str := ["row"]
theorem sc__is_tidy : FnScope N__is_tidy ps__is_tidy (defScope s__is_tidy) := ⟨rfl, rfl, rfl, by decide +kernel, rfl, by decide +kernel, by decide +kernel⟩
def b__is_tidy : Env → M (Fl × Env) := (sSeq (sRet (andV (calF 1 m_is_place (aCons (b2 ixM (vget 0) (fun _ => M.pure (.int 1))) (fun _ => M.pure []))) (andV (calF 1 m__are_slots (aCons (b2 ixM (vget 0) (fun _ => M.pure (.int 2))) (fun _ => M.pure []))) (b2 gtM (cal (on1 lenM) (aCons (b2 ixM (vget 0) (fun _ => M.pure (.int 2))) (fun _ => M.pure []))) (fun _ => M.pure (.int 0))))))
    sNil)
def m__is_tidy : List D → M D := runM 1 b__is_tidy
theorem ok__is_tidy (T : Txt w K mg) (D : DefAt K mg "_is_tidy" s__is_tidy ps__is_tidy) (O_is_place : OkAt P w K mg base 1 "is_place" s_is_place ps_is_place m_is_place) (O__are_slots : OkAt P w K mg base 2 "_are_slots" s__are_slots ps__are_slots m__are_slots) : OkAt P w K mg base 3 "_is_tidy" s__is_tidy ps__is_tidy m__is_tidy :=
  OkAt.of (ms := b__is_tidy) (N := N__is_tidy) (n := 1) (k := 2) rfl D sc__is_tidy fun fa cdv A outer s H E hr =>
    (mss_cons (ms_ret (me_and (me_callO O_is_place (hr.mono (by decide)) rfl rfl (ma_cons (me_item (me_of (pv 0)) me_int (fun _ _ => rfl)) ma_nil)) (me_and (me_callO O__are_slots (hr.mono (by decide)) rfl rfl (ma_cons (me_item (me_of (pv 0)) me_int (fun _ _ => rfl)) ma_nil)) (me_one (me_cmp op_gt gtM_ok (me_callB call_len lenM_ok rfl T.n_len (by decide +kernel) (ma_cons (me_item (me_of (pv 0)) me_int (fun _ _ => rfl)) ma_nil)) me_int (nomark _))))))
    mss_nil)
abbrev s_is_row : Stmt := topS 26
abbrev ps_is_row : List Str := ["value"]
abbrev N_is_row : List Str := ["value", "word", "check"]
theorem sc_is_row : FnScope N_is_row ps_is_row (defScope s_is_row) := ⟨rfl, rfl, rfl, by decide +kernel, rfl, by decide +kernel, by decide +kernel⟩
def b_is_row : Env → M (Fl × Env) := (sSeq (sIf (orT (notT (tst (b1 (isiM "tuple") (vget 0)))) (orT (tst (b2 eqM (cal (on1 lenM) (aCons (vget 0) (fun _ => M.pure []))) (fun _ => M.pure (.int 0)))) (notT (tst (b1 (isiM "str") (b2 ixM (vget 0) (fun _ => M.pure (.int 0)))))))) (sSeq (sRet (fun _ => M.pure (.bl false)))
    sNil) sNil)
    (sSeq (sAsg (b2 ixM (vget 0) (fun _ => M.pure (.int 0))) (gSet 1))
    (sSeq (sIf (orT (tst (b1 (kdIn true tbl_FORMS) (vget 1))) (tst (b2 neM (cal (on1 lenM) (aCons (vget 0) (fun _ => M.pure []))) (b2 addM (cal (on1 lenM) (aCons (b1 (kdIx tbl_FORMS) (vget 1)) (fun _ => M.pure []))) (fun _ => M.pure (.int 1)))))) (sSeq (sRet (fun _ => M.pure (.bl false)))
    sNil) sNil)
    (sDisp 2 1 [("open", m__is_open), ("put", m__is_put), ("change", m__is_change), ("strike", m__is_touching), ("lock", m__is_touching), ("refused", m__is_touching), ("commit", m__is_ending), ("abort", m__is_ending), ("prepare", m__is_prepare), ("clean", m__is_clean), ("tidy", m__is_tidy), ("sweep", m__is_bare), ("word", m__is_word), ("fall", m__is_bare)] (vget 1) (aCons (vget 0) (fun _ => M.pure []))))))
def m_is_row : List D → M D := runM 3 b_is_row
theorem ok_is_row (T : Txt w K mg) (D : DefAt K mg "is_row" s_is_row ps_is_row) (O__is_open : OkAt P w K mg base 2 "_is_open" s__is_open ps__is_open m__is_open) (O__is_put : OkAt P w K mg base 3 "_is_put" s__is_put ps__is_put m__is_put) (O__is_change : OkAt P w K mg base 3 "_is_change" s__is_change ps__is_change m__is_change) (O__is_touching : OkAt P w K mg base 2 "_is_touching" s__is_touching ps__is_touching m__is_touching) (O__is_ending : OkAt P w K mg base 2 "_is_ending" s__is_ending ps__is_ending m__is_ending) (O__is_prepare : OkAt P w K mg base 2 "_is_prepare" s__is_prepare ps__is_prepare m__is_prepare) (O__is_clean : OkAt P w K mg base 3 "_is_clean" s__is_clean ps__is_clean m__is_clean) (O__is_tidy : OkAt P w K mg base 3 "_is_tidy" s__is_tidy ps__is_tidy m__is_tidy) (O__is_bare : OkAt P w K mg base 1 "_is_bare" s__is_bare ps__is_bare m__is_bare) (O__is_word : OkAt P w K mg base 2 "_is_word" s__is_word ps__is_word m__is_word) : OkAt P w K mg base 4 "is_row" s_is_row ps_is_row m_is_row :=
  OkAt.of (ms := b_is_row) (N := N_is_row) (n := 3) (k := 3) rfl D sc_is_row fun fa cdv A outer s H E hr =>
    (mss_cons (ms_if (PW.pt (mw_or (mt_not (mt_val (me_isi rfl T.n_isinstance (by decide +kernel) (me_of (pv 0)) (pe_bltn rfl T.n_tuple (by decide +kernel) rfl)))) (mw_or (mt_cmp (op_eqU hr.units) eqM_ok (me_callB call_len lenM_ok rfl T.n_len (by decide +kernel) (ma_cons (me_of (pv 0)) ma_nil)) me_int (nomark _)) (mw_or1 (mt_not (mt_val (me_isi rfl T.n_isinstance (by decide +kernel) (me_item (me_of (pv 0)) me_int (fun _ _ => rfl)) (pe_bltn rfl T.n_str (by decide +kernel) rfl)))))))) (mss_cons (ms_ret me_bl)
    mss_nil) mss_nil)
    (mss_cons (ms_set (i := 1) sc_is_row.nd rfl (Or.inl rfl) (me_item (me_of (pv 0)) me_int (fun _ _ => rfl)))
    (mss_cons (ms_if (PW.pt (mw_or (mt_ninKd rfl (T.d_FORMS) (me_of (pv 1))) (mw_or1 (mt_cmp (op_neU hr.units) neM_ok (me_callB call_len lenM_ok rfl T.n_len (by decide +kernel) (ma_cons (me_of (pv 0)) ma_nil)) (me_add (me_callB call_len lenM_ok rfl T.n_len (by decide +kernel) (ma_cons (me_ixKd rfl (T.d_FORMS) (me_of (pv 1)) (fun _ _ => rfl)) ma_nil)) me_int) (nomark _))))) (mss_cons (ms_ret me_bl)
    mss_nil) mss_nil)
    (ms_disp (k := 3) (i := 2) (.cons O__is_open (by decide) rfl (.cons O__is_put (by decide) rfl (.cons O__is_change (by decide) rfl (.cons O__is_touching (by decide) rfl (.cons O__is_touching (by decide) rfl (.cons O__is_touching (by decide) rfl (.cons O__is_ending (by decide) rfl (.cons O__is_ending (by decide) rfl (.cons O__is_prepare (by decide) rfl (.cons O__is_clean (by decide) rfl (.cons O__is_tidy (by decide) rfl (.cons O__is_bare (by decide) rfl (.cons O__is_word (by decide) rfl (.cons O__is_bare (by decide) rfl .nil)))))))))))))) (hr.mono (by decide)) sc_is_row.nd rfl (Or.inl rfl) (Or.inl rfl) rfl T.e_CHECKS (me_of (pv 1)) (ma_cons (me_of (pv 0)) ma_nil) (fun _ _ => rfl)))))
abbrev s_law : Stmt := topS 45
abbrev ps_law : List Str := ["_law_script"]
abbrev N_law : List Str := ["_law_script", "_law_pen_here", "_law_turn", "_law_row_here", "_law_bent_here", "_law_things", "_law_thing", "_law_kept", "_law_due", "_law_some"]
theorem sc_law : FnScope N_law ps_law (defScope s_law) := ⟨rfl, rfl, rfl, by decide +kernel, rfl, by decide +kernel, by decide +kernel⟩
def b_law : Env → M (Fl × Env) := (sSeq (sAsg (calF 1 m__law_pen (aCons (vget 0) (fun _ => M.pure []))) (gSet 1))
    (sSeq (sFor (len1 rngOf 1 (aCons (fun _ => M.pure (.int 24)) (fun _ => M.pure []))) (gSet 2) (sSeq (sAsg (calF 1 m__law_row (aCons (vget 1) (fun _ => M.pure []))) (gSet 3))
    (sSeq (sIf (notT (tst (calF 1 m__law_is_row (aCons (vget 3) (fun _ => M.pure []))))) (sSeq (sRet (fun _ => M.pure (.bl false)))
    sNil) sNil)
    (sSeq (sAsg (calF 2 m__law_bent (aCons (vget 1) (aCons (vget 3) (fun _ => M.pure [])))) (gSet 4))
    (sSeq (sAsg (mkC (aCons (vget 3) (aCons (vget 4) (aCons (calF 1 m__law_odd (aCons (vget 1) (fun _ => M.pure []))) (aCons (b2 addM (vget 3) (mkT (fun _ => M.pure []))) (fun _ => M.pure [])))))) (gSet 5))
    (sSeq (sIf (andT (tst (b1 (isiM "tuple") (vget 4))) (tst (b2 neX (vget 4) (mkT (fun _ => M.pure []))))) (sSeq (sDrop (mth chkL appM (vget 5) (aCons (calF 2 m__law_bent (aCons (vget 1) (aCons (vget 4) (fun _ => M.pure [])))) (fun _ => M.pure []))))
    sNil) sNil)
    (sSeq (sForC (vget 5) (gSet 6) (sSeq (sAsg (cal (on1 reprM) (aCons (vget 6) (fun _ => M.pure []))) (gSet 7))
    (sSeq (sAsg (calF 1 m__law_is_row (aCons (vget 6) (fun _ => M.pure []))) (gSet 8))
    (sSeq (sIf (orT (tst (b2 neX (cal (on1 reprM) (aCons (mkL (aCons (calF 1 m_is_row (aCons (vget 6) (fun _ => M.pure []))) (aCons (calK 1 [0] m_is_row (aCons (vget 6) (fun _ => M.pure []))) (fun _ => M.pure [])))) (fun _ => M.pure []))) (cal (on1 reprM) (aCons (mkL (aCons (vget 8) (aCons (vget 8) (fun _ => M.pure [])))) (fun _ => M.pure []))))) (tst (b2 neX (cal (on1 reprM) (aCons (vget 6) (fun _ => M.pure []))) (vget 7)))) (sSeq (sRet (fun _ => M.pure (.bl false)))
    sNil) sNil)
    sNil))))
    sNil)))))))
    (sSeq (sAsg (mkL (aCons (mkT (aCons (fun _ => M.pure (.str "open")) (aCons (fun _ => M.pure (.int 2)) (aCons (fun _ => M.pure (.int 1)) (fun _ => M.pure []))))) (aCons (mkT (aCons (fun _ => M.pure (.str "open")) (aCons (fun _ => M.pure (.int 2)) (aCons (fun _ => M.pure (.int 2)) (fun _ => M.pure []))))) (aCons (mkT (aCons (fun _ => M.pure (.str "clean")) (aCons (fun _ => M.pure (.int 0)) (aCons (mkT (aCons (fun _ => M.pure (.int 1)) (fun _ => M.pure []))) (aCons (mkT (aCons (fun _ => M.pure (.int 1)) (fun _ => M.pure []))) (fun _ => M.pure [])))))) (aCons (mkT (aCons (fun _ => M.pure (.str "tidy")) (aCons (fun _ => M.pure (.int 0)) (aCons (mkT (fun _ => M.pure [])) (fun _ => M.pure []))))) (aCons (mkT (aCons (fun _ => M.pure (.str "clean")) (aCons (fun _ => M.pure (.int 7)) (aCons (mkT (fun _ => M.pure [])) (aCons (mkT (fun _ => M.pure [])) (fun _ => M.pure [])))))) (fun _ => M.pure []))))))) (gSet 9))
    (sSeq (sRet (b2 eqY (eLc (iSeq (vget 9)) (gSet 6) (fun _ => M.pure true) (calF 1 m_is_row (aCons (vget 6) (fun _ => M.pure []))) [6]) (mkL (aCons (fun _ => M.pure (.bl true)) (aCons (fun _ => M.pure (.bl false)) (aCons (fun _ => M.pure (.bl false)) (aCons (fun _ => M.pure (.bl false)) (aCons (fun _ => M.pure (.bl true)) (fun _ => M.pure [])))))))))
    sNil))))
def m_law : List D → M D := runM 10 b_law
theorem ok_law (T : Txt w K mg) (D : DefAt K mg "law" s_law ps_law) (HO : ∀ base : Heap, K.In base → base.Ns mainGlobals mg → OkAt P w K mg base 4 "is_row" s_is_row ps_is_row m_is_row ∧ OkAt P w K mg base 4 "_law_is_row" s__law_is_row ps__law_is_row m__law_is_row ∧ OkAt P w K mg base 4 "_law_bent" s__law_bent ps__law_bent m__law_bent ∧ OkAt P w K mg base 3 "_law_odd" s__law_odd ps__law_odd m__law_odd ∧ OkAt P w K mg base 4 "_law_row" s__law_row ps__law_row m__law_row ∧ OkAt P w K mg base 1 "_law_pen" s__law_pen ps__law_pen m__law_pen) : ∀ fa, mg "law" = some (.ref fa) → TopOk P w K mg fa "_law_script" (spM K 1 m_law) := by
  intro fa hfa
  obtain ⟨fa', fd, F, hm, b⟩ := D.ex
  rw [hfa] at hm
  cases hm
  obtain ⟨oc, od, kV, doc, pm, an, cdv, ct, osl, rfl, lk, hcd⟩ := F.ex
  refine top_of (k := 5) ⟨rfl, by decide, by decide⟩ lk hcd sc_law (fun s v => .of_eq rfl) fun base s H v Q E hr kb gb h => ?_
  obtain ⟨O_is_row, O__law_is_row, O__law_bent, O__law_odd, O__law_row, O__law_pen⟩ := HO base kb gb
  exact ⟨tMs K EK0 b_law, (mss_cons (ms_set (i := 1) sc_law.nd rfl (Or.inl rfl) (me_callO O__law_pen (hr.mono (by decide)) rfl rfl (ma_cons (me_of (pv 0)) ma_nil)))
    (mss_cons (ms_for PassesOwn.never rfl (mi_range1 rfl T.n_range (ma_cons me_int ma_nil)) (mg_name (i := 2) sc_law.nd rfl (Or.inl rfl)) (mss_cons (ms_set (i := 3) sc_law.nd rfl (Or.inl rfl) (me_callO O__law_row (hr.mono (by decide)) rfl rfl (ma_cons (me_of (pv 1)) ma_nil)))
    (mss_cons (ms_if (mt_not (mt_val (me_callO O__law_is_row (hr.mono (by decide)) rfl rfl (ma_cons (me_of (pv 3)) ma_nil)))) (mss_cons (ms_ret me_bl)
    mss_nil) mss_nil)
    (mss_cons (ms_set (i := 4) sc_law.nd rfl (Or.inl rfl) (me_callO O__law_bent (hr.mono (by decide)) rfl rfl (ma_cons (me_of (pv 1)) (ma_cons (me_of (pv 3)) ma_nil))))
    (mss_cons (ms_set (i := 5) sc_law.nd rfl (Or.inl rfl) (me_new (ma_cons (me_of (pv 3)) (ma_cons (me_of (pv 4)) (ma_cons (me_callO O__law_odd (hr.mono (by decide)) rfl rfl (ma_cons (me_of (pv 1)) ma_nil)) (ma_cons (me_add (me_of (pv 3)) (me_tup ma_nil)) ma_nil))))))
    (mss_cons (ms_if (PW.pt (mw_and (mt_val (me_isi rfl T.n_isinstance (by decide +kernel) (me_of (pv 4)) (pe_bltn rfl T.n_tuple (by decide +kernel) rfl))) (mw_and1 (mt_cmp (op_neX hr.units) neX_ok (me_of (pv 4)) (me_tup ma_nil) (nomark _))))) (mss_cons (ms_expr (pe_imp (pe_bm PySem.F.plainAttrs_list PySem.F.slot_list_append PySem.F.type_list_append mt_append (me_of (pv 5)) (ma_cons (me_callO O__law_bent (hr.mono (by decide)) rfl rfl (ma_cons (me_of (pv 1)) (ma_cons (me_of (pv 4)) ma_nil))) ma_nil)) (fun _ _ _ h => mth_go chkL_ok appM_ok h)))
    mss_nil) mss_nil)
    (mss_cons (ms_forC PassesOwn.never rfl (me_of (pv 5)) (mg_name (i := 6) sc_law.nd rfl (Or.inl rfl)) (mss_cons (ms_set (i := 7) sc_law.nd rfl (Or.inl rfl) (me_callB (call_reprU hr rfl) reprM_ok rfl T.n_repr (by decide +kernel) (ma_cons (me_of (pv 6)) ma_nil)))
    (mss_cons (ms_set (i := 8) sc_law.nd rfl (Or.inl rfl) (me_callO O__law_is_row (hr.mono (by decide)) rfl rfl (ma_cons (me_of (pv 6)) ma_nil)))
    (mss_cons (ms_if (PW.pt (mw_or (mt_cmp (op_neX hr.units) neX_ok (me_callB (call_reprU hr rfl) reprM_ok rfl T.n_repr (by decide +kernel) (ma_cons (me_lst (ma_cons (me_callO O_is_row (hr.mono (by decide)) rfl rfl (ma_cons (me_of (pv 6)) ma_nil)) (ma_cons (me_callKO (π := [0]) (ks := ["value"]) O_is_row (hr.mono (by decide)) rfl rfl (by simp) (fun _ _ _ _ _ _ ws hw => match ws, hw with | [_], _ => rfl) (mk_cons (me_of (pv 6)) mk_nil)) ma_nil))) ma_nil)) (me_callB (call_reprU hr rfl) reprM_ok rfl T.n_repr (by decide +kernel) (ma_cons (me_lst (ma_cons (me_of (pv 8)) (ma_cons (me_of (pv 8)) ma_nil))) ma_nil)) (nomark _)) (mw_or1 (mt_cmp (op_neX hr.units) neX_ok (me_callB (call_reprU hr rfl) reprM_ok rfl T.n_repr (by decide +kernel) (ma_cons (me_of (pv 6)) ma_nil)) (me_of (pv 7)) (nomark _))))) (mss_cons (ms_ret me_bl)
    mss_nil) mss_nil)
    mss_nil))))
    mss_nil)))))))
    (mss_cons (ms_set (i := 9) sc_law.nd rfl (Or.inl rfl) (me_lst (ma_cons (me_tup (ma_cons me_str (ma_cons me_int (ma_cons me_int ma_nil)))) (ma_cons (me_tup (ma_cons me_str (ma_cons me_int (ma_cons me_int ma_nil)))) (ma_cons (me_tup (ma_cons me_str (ma_cons me_int (ma_cons (me_tup (ma_cons me_int ma_nil)) (ma_cons (me_tup (ma_cons me_int ma_nil)) ma_nil))))) (ma_cons (me_tup (ma_cons me_str (ma_cons me_int (ma_cons (me_tup ma_nil) ma_nil)))) (ma_cons (me_tup (ma_cons me_str (ma_cons me_int (ma_cons (me_tup ma_nil) (ma_cons (me_tup ma_nil) ma_nil))))) ma_nil)))))))
    (mss_cons (ms_ret (me_cmp (op_eqY hr.units) eqY_ok (me_lc (own := [("_law_thing", 6)]) rfl sc_law.nd (mi_seq (me_of (pv 9))) (blkOk_by (N := N_law) (sc := defScope s_law) (by decide +kernel)) (gw_name (i := 6) (by simp)) (fun _ _ _ _ _ => pg_name (i := 6) sc_law.nd rfl (Or.inl rfl)) (fun _ _ _ _ _ => mts_nil) (fun _ _ _ _ _ => (me_callO O_is_row (hr.mono (by decide)) rfl rfl (ma_cons (me_of (pv 6)) ma_nil)))) (me_lst (ma_cons me_bl (ma_cons me_bl (ma_cons me_bl (ma_cons me_bl (ma_cons me_bl ma_nil)))))) (nomark _)))
    mss_nil)))), body_go (N := N_law) (n := 1) h⟩
end
end Mi
namespace Mi
open PySem PySem.Spec PyProof.Rows L2
section
variable {cells : List Int} {T : Sto} {a r b cell : Int}
def tailS : Env → M (Fl × Env) := (sSeq (sAsg (b2 modM (cal (on1 intM) (aCons (b2 powM (b2 addM (b2 addM (b2 modM (cal (on1 intM) (aCons (vget 4) (fun _ => M.pure []))) (fun _ => M.pure (.int 2147483629))) (b2 mulM (fun _ => M.pure (.int 60337)) (vget 3))) (fun _ => M.pure (.int 29))) (fun _ => M.pure (.int 5))) (fun _ => M.pure []))) (fun _ => M.pure (.int 2147483563))) (gSet 6))
    (sSeq (sAsg (b2 modM (cal (on1 intM) (aCons (b2 powM (b2 addM (b2 addM (b2 mulM (vget 6) (b2 addM (b2 mulM (fun _ => M.pure (.int 2)) (vget 3)) (fun _ => M.pure (.int 11)))) (b2 mulM (b2 mulM (fun _ => M.pure (.int 50207)) (vget 3)) (vget 3))) (fun _ => M.pure (.int 5))) (fun _ => M.pure (.int 3))) (fun _ => M.pure []))) (fun _ => M.pure (.int 2147483579))) (gSet 6))
    (sSeq (sRet (b2 modM (cal (on1 intM) (aCons (b2 fdivM (vget 6) (fun _ => M.pure (.int 32))) (fun _ => M.pure []))) (vget 1)))
    sNil)))
theorem tail_ok {S : Sto} {o2 o5 o6 : Option D} (ha : 0 ≤ a) (hA : a ≤ 100000) (h1 : 0 < b) (h2 : b < 1073741824) :
    Wp (tailS [some (.ref 0), some (.int b), o2, some (.int a), some (.int cell), o5, o6]) S fun r S' => S' = S ∧ ∃ z, r.1 = .rt (.int z) ∧ 0 ≤ z ∧ z < b := by
  have m1 : 0 ≤ cell % 2147483629 ∧ cell % 2147483629 < 2147483629 := ⟨Int.emod_nonneg _ (by decide), Int.emod_lt_of_pos _ (by decide)⟩
  have c1 : CMul 60337 a := cmul1 (by decide) (by decide)
  have c2 : CPow (cell % 2147483629 + 60337 * a + 29) 5 := cpow _ (by omega) (by omega) _ (by decide)
  have c4 : CMul 50207 a := cmul1 (by decide) (by decide)
  have c5 : CMul (50207 * a) a := cmul1 (by omega) (by omega)
  have m2 : ∀ k : Int, 0 ≤ k % 2147483563 ∧ k % 2147483563 < 2147483563 := fun k => ⟨Int.emod_nonneg _ (by decide), Int.emod_lt_of_pos _ (by decide)⟩
  have aa : 0 ≤ 50207 * a * a ∧ 50207 * a * a ≤ 502070000000000 := by
    have e1 : 0 ≤ 50207 * a := by omega
    have e2 : 50207 * a ≤ 5020700000 := by omega
    exact ⟨Int.mul_nonneg e1 ha, Int.le_trans (Int.mul_le_mul e2 hA ha (by decide)) (by decide)⟩
  have ma : ∀ k : Int, 0 ≤ k % 2147483563 * (2 * a + 11) ∧ k % 2147483563 * (2 * a + 11) ≤ 429520334719182 := fun k => by
    have := m2 k
    exact ⟨Int.mul_nonneg this.1 (by omega), Int.le_trans (Int.mul_le_mul (show k % 2147483563 ≤ 2147483562 by omega) (show 2 * a + 11 ≤ 200011 by omega) (by omega) (by decide)) (by decide)⟩
  have c6 : ∀ k : Int, CMul (k % 2147483563) (2 * a + 11) := fun k => cmul1 (by have := m2 k; omega) (by have := m2 k; omega)
  have c7 : ∀ k : Int, CPow (k % 2147483563 * (2 * a + 11) + 50207 * a * a + 5) 3 := fun k => cpow _ (by have := ma k; omega) (by have := ma k; omega) _ (by decide)
  have c8 : ∀ k : Int, CDiv k 32 := fun k => ⟨by decide, by decide⟩
  have c9 : CMul 2 a := cmul1 (by decide) (by decide)
  have d1 : (0 : Int) < 2147483629 := by decide
  have d2 : (0 : Int) < 2147483563 := by decide
  have d3 : (0 : Int) < 2147483579 := by decide
  unfold tailS
  simp only [sSeq, sIf, sAsg, sRet, sNil, gSet, gPut, tst, b2, b1, cal, on1, aCons, vget, mkL, mkT, calF, andT, orT, notT, andV, notV, wp_bind, wp_pure, wp_if, List.map, List.length, List.replicate, List.append, List.cons_append, List.nil_append, Nat.reduceSub, Nat.reduceAdd, Nat.reduceLeDiff, List.getElem?_cons_zero, List.getElem?_cons_succ, List.set_cons_zero, List.set_cons_succ, wp_int, wp_intb, wp_int20, wp_toB, wp_add, wp_abs, wp_neg, wp_lenL, pen0, pen1, pen2, put1, put2, decide_true, decide_false, if_true, if_false, Bool.false_eq_true, Nat.zero_le, exists_eq_left, and_true, true_and, Bool.not_true, Bool.not_false, reduceCtorEq, reduceIte, wp_mod d1, wp_mod d2, wp_mod d3, wp_mod h1, wp_int2 c1, wp_int2 c2, wp_int2 c4, wp_int2 c5, wp_int2 (c6 _), wp_int2 (c7 _), wp_int2 (c8 _), wp_int2 c9]
  exact ⟨_, rfl, Int.emod_nonneg _ (by omega), Int.emod_lt_of_pos _ h1⟩
theorem draw_eq : b__law_draw = (sSeq (sIf (tst (b2 gtM (b2 ixM (vget 0) (fun _ => M.pure (.int 2))) (fun _ => M.pure (.int 0)))) (sSeq (sAsg (b2 modM (cal (on1 intM) (aCons (b2 ixM (vget 0) (fun _ => M.pure (.int 2))) (fun _ => M.pure []))) (vget 1)) (gSet 2))
    (sSeq (sAsg (b2 fdivM (cal (on1 intM) (aCons (b2 ixM (vget 0) (fun _ => M.pure (.int 2))) (fun _ => M.pure []))) (vget 1)) (gPut (vget 0) (fun _ => M.pure (.int 2))))
    (sSeq (sRet (vget 2))
    sNil))) sNil)
    (sSeq (sAsg (cal (on1 intM) (aCons (b2 ixM (vget 0) (fun _ => M.pure (.int 1))) (fun _ => M.pure []))) (gSet 3))
    (sSeq (sAsg (b2 addM (vget 3) (fun _ => M.pure (.int 1))) (gPut (vget 0) (fun _ => M.pure (.int 1))))
    (sSeq (sAsg (b2 addM (b2 mulM (fun _ => M.pure (.int 75211)) (vget 3)) (fun _ => M.pure (.int 1203))) (gSet 4))
    (sSeq (sIf (tst (b2 neM (b2 ixM (vget 0) (fun _ => M.pure (.int 0))) (mkL (fun _ => M.pure [])))) (sSeq (sAsg (cal (on1 intM) (aCons (b2 ixM (b2 ixM (vget 0) (fun _ => M.pure (.int 0))) (b2 modM (cal (on1 intM) (aCons (vget 3) (fun _ => M.pure []))) (cal (on1 lenM) (aCons (b2 ixM (vget 0) (fun _ => M.pure (.int 0))) (fun _ => M.pure []))))) (fun _ => M.pure []))) (gSet 4))
    sNil) sNil)
    (sSeq (sIf (andT (tst (b2 ltM (vget 3) (cal (on1 lenM) (aCons (b2 ixM (vget 0) (fun _ => M.pure (.int 0))) (fun _ => M.pure []))))) (tst (b2 geM (cal (on1 absM) (aCons (vget 4) (fun _ => M.pure []))) (b2 powM (fun _ => M.pure (.int 10)) (fun _ => M.pure (.int 18)))))) (sSeq (sAsg (b2 addM (b2 mulM (fun _ => M.pure (.int 2)) (b2 subM (cal (on1 absM) (aCons (vget 4) (fun _ => M.pure []))) (b2 powM (fun _ => M.pure (.int 10)) (fun _ => M.pure (.int 18))))) (cal (on1 intM) (aCons (b2 ltM (vget 4) (fun _ => M.pure (.int 0))) (fun _ => M.pure [])))) (gSet 5))
    (sSeq (sAsg (b2 fdivM (vget 5) (vget 1)) (gPut (vget 0) (fun _ => M.pure (.int 2))))
    (sSeq (sRet (b2 modM (cal (on1 intM) (aCons (vget 5) (fun _ => M.pure []))) (vget 1)))
    sNil))) sNil)
    tailS)))))) := rfl
theorem draw_ok {A : Int} {S : Sto} (hc : cells.length ≤ 63) (hA : A ≤ 100000) (hp : Pen cells T A S) (h1 : 0 < b) (h2 : b < 1073741824) :
    Wp (m__law_draw [.ref 0, .int b]) S fun v S' => ∃ z : Int, v = .int z ∧ 0 ≤ z ∧ z < b ∧ Pen cells T (A + 1) S' := by
  obtain ⟨a, r, ha, haA, rfl⟩ := hp
  unfold m__law_draw
  rw [draw_eq]
  refine wp_run ?_
  have d1 : ∀ k : Int, CDiv k b := fun k => ⟨h1, h2⟩
  have fin : ∀ (r' : Int) (S' : Sto), S' = penS cells a r' T ∨ S' = penS cells (a + 1) r' T → Pen cells T (A + 1) S' := fun r' S' h => by
    rcases h with rfl | rfl
    · exact ⟨a, r', ha, by omega, rfl⟩
    · exact ⟨a + 1, r', by omega, by omega, rfl⟩
  have TL : ∀ {cell : Int} {o2 o5 o6 : Option D}, Wp (tailS [some (.ref 0), some (.int b), o2, some (.int a), some (.int cell), o5, o6]) (penS cells (a + 1) r T) (fun r S' => ∃ d, r.1 = .rt d ∧ ∃ z : Int, d = .int z ∧ 0 ≤ z ∧ z < b ∧ Pen cells T (A + 1) S') := by
    intro cell o2 o5 o6
    refine (tail_ok ha (by omega) h1 h2).mono ?_
    rintro ⟨f, ρ⟩ S' ⟨rfl, z, e, h3, h4⟩
    exact ⟨_, e, z, rfl, h3, h4, fin _ _ (.inr rfl)⟩
  by_cases hr : 0 < r
  · simp only [sSeq, sIf, sAsg, sRet, sNil, gSet, gPut, tst, b2, b1, cal, on1, aCons, vget, mkL, mkT, calF, andT, orT, notT, andV, notV, wp_bind, wp_pure, wp_if, List.map, List.length, List.replicate, List.append, List.cons_append, List.nil_append, Nat.reduceSub, Nat.reduceAdd, Nat.reduceLeDiff, List.getElem?_cons_zero, List.getElem?_cons_succ, List.set_cons_zero, List.set_cons_succ, wp_int, wp_intb, wp_int20, wp_toB, wp_add, wp_abs, wp_neg, wp_lenL, pen0, pen1, pen2, put1, put2, decide_true, decide_false, if_true, if_false, Bool.false_eq_true, Nat.zero_le, exists_eq_left, and_true, true_and, Bool.not_true, Bool.not_false, reduceCtorEq, reduceIte, wp_mod h1, wp_int2 (d1 _), hr]
    exact ⟨_, rfl, _, rfl, Int.emod_nonneg _ (by omega), Int.emod_lt_of_pos _ h1, fin _ _ (.inl rfl)⟩
  simp only [sSeq, sIf, sAsg, sRet, sNil, gSet, gPut, tst, b2, b1, cal, on1, aCons, vget, mkL, mkT, calF, andT, orT, notT, andV, notV, wp_bind, wp_pure, wp_if, List.map, List.length, List.replicate, List.append, List.cons_append, List.nil_append, Nat.reduceSub, Nat.reduceAdd, Nat.reduceLeDiff, List.getElem?_cons_zero, List.getElem?_cons_succ, List.set_cons_zero, List.set_cons_succ, wp_int, wp_intb, wp_int20, wp_toB, wp_add, wp_abs, wp_neg, wp_lenL, pen0, pen1, pen2, put1, put2, decide_true, decide_false, if_true, if_false, Bool.false_eq_true, Nat.zero_le, exists_eq_left, and_true, true_and, Bool.not_true, Bool.not_false, reduceCtorEq, reduceIte, hr]
  rw [wp_int2 (cmul1 (by decide) (by decide))]
  rcases Nat.eq_zero_or_pos cells.length with hz | hz
  · cases List.length_eq_zero_iff.1 hz
    have hl : ¬ a < 0 := by omega
    simp only [sSeq, sIf, sAsg, sRet, sNil, gSet, gPut, tst, b2, b1, cal, on1, aCons, vget, mkL, mkT, calF, andT, orT, notT, andV, notV, wp_bind, wp_pure, wp_if, List.map, List.length, List.replicate, List.append, List.cons_append, List.nil_append, Nat.reduceSub, Nat.reduceAdd, Nat.reduceLeDiff, List.getElem?_cons_zero, List.getElem?_cons_succ, List.set_cons_zero, List.set_cons_succ, wp_int, wp_intb, wp_int20, wp_toB, wp_add, wp_abs, wp_neg, wp_lenL, pen0, pen1, pen2, put1, put2, decide_true, decide_false, if_true, if_false, Bool.false_eq_true, Nat.zero_le, exists_eq_left, and_true, true_and, Bool.not_true, Bool.not_false, reduceCtorEq, reduceIte, wp_neNil0, List.length_nil, Int.ofNat_zero, Int.cast_ofNat_Int, hl]
    exact TL
  · have hl0 : ¬ (cells.map D.int).length = 0 := by rw [List.length_map]; omega
    have hm : 0 ≤ a % (cells.length : Int) ∧ a % (cells.length : Int) < cells.length := ⟨Int.emod_nonneg _ (by omega), Int.emod_lt_of_pos _ (by omega)⟩
    obtain ⟨k, hk⟩ : ∃ k : Nat, a % (cells.length : Int) = k := ⟨(a % (cells.length : Int)).toNat, by omega⟩
    have hk2 : k < cells.length := by omega
    obtain ⟨c, hcell⟩ : ∃ c, (cells.map D.int)[k]? = some (.int c) := ⟨_, map_at hk2⟩
    have hpos : (0 : Int) < (cells.length : Int) := by omega
    simp only [sSeq, sIf, sAsg, sRet, sNil, gSet, gPut, tst, b2, b1, cal, on1, aCons, vget, mkL, mkT, calF, andT, orT, notT, andV, notV, wp_bind, wp_pure, wp_if, List.map, List.length, List.replicate, List.append, List.cons_append, List.nil_append, Nat.reduceSub, Nat.reduceAdd, Nat.reduceLeDiff, List.getElem?_cons_zero, List.getElem?_cons_succ, List.set_cons_zero, List.set_cons_succ, wp_int, wp_intb, wp_int20, wp_toB, wp_add, wp_abs, wp_neg, wp_lenL, pen0, pen1, pen2, put1, put2, decide_true, decide_false, if_true, if_false, Bool.false_eq_true, Nat.zero_le, exists_eq_left, and_true, true_and, Bool.not_true, Bool.not_false, reduceCtorEq, reduceIte, wp_neNil hl0, List.length_map, wp_mod hpos, hk, wp_ixL hcell]
    by_cases h3 : a < (cells.length : Int)
    · simp only [sSeq, sIf, sAsg, sRet, sNil, gSet, gPut, tst, b2, b1, cal, on1, aCons, vget, mkL, mkT, calF, andT, orT, notT, andV, notV, wp_bind, wp_pure, wp_if, List.map, List.length, List.replicate, List.append, List.cons_append, List.nil_append, Nat.reduceSub, Nat.reduceAdd, Nat.reduceLeDiff, List.getElem?_cons_zero, List.getElem?_cons_succ, List.set_cons_zero, List.set_cons_succ, wp_int, wp_intb, wp_int20, wp_toB, wp_add, wp_abs, wp_neg, wp_lenL, pen0, pen1, pen2, put1, put2, decide_true, decide_false, if_true, if_false, Bool.false_eq_true, Nat.zero_le, exists_eq_left, and_true, true_and, Bool.not_true, Bool.not_false, reduceCtorEq, reduceIte, h3, wp_int2 cpow18, pow18]
      by_cases h4 : (1000000000000000000 : Int) ≤ (if c < 0 then -c else c)
      · simp only [sSeq, sIf, sAsg, sRet, sNil, gSet, gPut, tst, b2, b1, cal, on1, aCons, vget, mkL, mkT, calF, andT, orT, notT, andV, notV, wp_bind, wp_pure, wp_if, List.map, List.length, List.replicate, List.append, List.cons_append, List.nil_append, Nat.reduceSub, Nat.reduceAdd, Nat.reduceLeDiff, List.getElem?_cons_zero, List.getElem?_cons_succ, List.set_cons_zero, List.set_cons_succ, wp_int, wp_intb, wp_int20, wp_toB, wp_add, wp_abs, wp_neg, wp_lenL, pen0, pen1, pen2, put1, put2, decide_true, decide_false, if_true, if_false, Bool.false_eq_true, Nat.zero_le, exists_eq_left, and_true, true_and, Bool.not_true, Bool.not_false, reduceCtorEq, reduceIte, h4, wp_int2 cpow18, pow18]
        rw [wp_int2 (cmul1 (by decide) (by decide))]
        simp only [sSeq, sIf, sAsg, sRet, sNil, gSet, gPut, tst, b2, b1, cal, on1, aCons, vget, mkL, mkT, calF, andT, orT, notT, andV, notV, wp_bind, wp_pure, wp_if, List.map, List.length, List.replicate, List.append, List.cons_append, List.nil_append, Nat.reduceSub, Nat.reduceAdd, Nat.reduceLeDiff, List.getElem?_cons_zero, List.getElem?_cons_succ, List.set_cons_zero, List.set_cons_succ, wp_int, wp_intb, wp_int20, wp_toB, wp_add, wp_abs, wp_neg, wp_lenL, pen0, pen1, pen2, put1, put2, decide_true, decide_false, if_true, if_false, Bool.false_eq_true, Nat.zero_le, exists_eq_left, and_true, true_and, Bool.not_true, Bool.not_false, reduceCtorEq, reduceIte, wp_int2 (d1 _), wp_mod h1]
        exact ⟨_, rfl, _, rfl, Int.emod_nonneg _ (by omega), Int.emod_lt_of_pos _ h1, fin _ _ (.inr rfl)⟩
      · simp only [sSeq, sIf, sAsg, sRet, sNil, gSet, gPut, tst, b2, b1, cal, on1, aCons, vget, mkL, mkT, calF, andT, orT, notT, andV, notV, wp_bind, wp_pure, wp_if, List.map, List.length, List.replicate, List.append, List.cons_append, List.nil_append, Nat.reduceSub, Nat.reduceAdd, Nat.reduceLeDiff, List.getElem?_cons_zero, List.getElem?_cons_succ, List.set_cons_zero, List.set_cons_succ, wp_int, wp_intb, wp_int20, wp_toB, wp_add, wp_abs, wp_neg, wp_lenL, pen0, pen1, pen2, put1, put2, decide_true, decide_false, if_true, if_false, Bool.false_eq_true, Nat.zero_le, exists_eq_left, and_true, true_and, Bool.not_true, Bool.not_false, reduceCtorEq, reduceIte, h4]
        exact TL
    · simp only [sSeq, sIf, sAsg, sRet, sNil, gSet, gPut, tst, b2, b1, cal, on1, aCons, vget, mkL, mkT, calF, andT, orT, notT, andV, notV, wp_bind, wp_pure, wp_if, List.map, List.length, List.replicate, List.append, List.cons_append, List.nil_append, Nat.reduceSub, Nat.reduceAdd, Nat.reduceLeDiff, List.getElem?_cons_zero, List.getElem?_cons_succ, List.set_cons_zero, List.set_cons_succ, wp_int, wp_intb, wp_int20, wp_toB, wp_add, wp_abs, wp_neg, wp_lenL, pen0, pen1, pen2, put1, put2, decide_true, decide_false, if_true, if_false, Bool.false_eq_true, Nat.zero_le, exists_eq_left, and_true, true_and, Bool.not_true, Bool.not_false, reduceCtorEq, reduceIte, h3]
      exact TL
end
end Mi
namespace Mi
open PySem PySem.Spec PyProof.Rows L2
def LET : Str := "abcdefghijklmnopqrstuvwxyz"
def ALN : Str := "abcdefghijklmnopqrstuvwxyz" ++ "0123456789"
theorem alnum_eq : ("abcdefghijklmnopqrstuvwxyz0123456789" : Str) = ALN := by decide +kernel
/-- an int from lo to hi -/
def betw (lo hi : Int) : D → Bool
  | .int i => decide (lo ≤ i) && decide (i ≤ hi)
  | _ => false
/-- all that is asked of parts -/
structure partV (v : D) : Prop where
  ok : okV v
  it : ∀ ds, v = .tup ds → ds.length ≤ 50000 ∧ ∀ d ∈ ds, nrB d = true
theorem partV.nr {v : D} (g : partV v) : nrB v = true := g.ok.1
section
variable {S : Sto} {v : D} {Q : D → Sto → Prop}
theorem wp_cII {g : Int → Int → Bool} {i j : Int} : Wp (cmpW g (.int i) (.int j)) S Q ↔ Q (.bl (g i j)) S := wp_of rfl
theorem number_okB (g : nrB v = true) : m_is_number [v] S = some (.ok (.bl (betw 1 999999 v)), S) := by
  cases v with
  | int i =>
    refine eq_of_wp ?_
    unfold m_is_number
    refine wp_run ?_
    unfold b_is_number
    simp only [sSeq, sIf, sAsg, sRet, sNil, gSet, gPut, tst, b2, b1, cal, on1, aCons, vget, mkL, mkT, calF, andT, orT, notT, andV, notV, wp_bind, wp_pure, wp_if, List.map, List.length, List.replicate, List.append, List.cons_append, List.nil_append, Nat.reduceSub, Nat.reduceAdd, Nat.reduceLeDiff, List.getElem?_cons_zero, List.getElem?_cons_succ, List.set_cons_zero, List.set_cons_succ, wp_int, wp_intb, wp_int20, wp_toB, wp_add, wp_abs, wp_neg, wp_lenL, pen0, pen1, pen2, put1, put2, decide_true, decide_false, if_true, if_false, Bool.false_eq_true, Nat.zero_le, exists_eq_left, and_true, true_and, Bool.not_true, Bool.not_false, reduceCtorEq, reduceIte, chn, wp_cII, isi_intI, isi_intB]
    have e : decide (i ≤ 999999) = decide (i ≤ 999999) := decide_eq_decide.2 (by omega)
    by_cases h1 : (1 : Int) ≤ i <;> by_cases h2 : i ≤ 999999 <;> simp [sSeq, sIf, sAsg, sRet, sNil, gSet, gPut, tst, b2, b1, cal, on1, aCons, vget, mkL, mkT, calF, andT, orT, notT, andV, notV, wp_bind, wp_pure, wp_if, List.map, List.length, List.replicate, List.append, List.cons_append, List.nil_append, Nat.reduceSub, Nat.reduceAdd, Nat.reduceLeDiff, List.getElem?_cons_zero, List.getElem?_cons_succ, List.set_cons_zero, List.set_cons_succ, wp_int, wp_intb, wp_int20, wp_toB, wp_add, wp_abs, wp_neg, wp_lenL, pen0, pen1, pen2, put1, put2, decide_true, decide_false, if_true, if_false, Bool.false_eq_true, Nat.zero_le, exists_eq_left, and_true, true_and, Bool.not_true, Bool.not_false, reduceCtorEq, reduceIte, h1, h2, isi_intB, betw, e]
  | bl b => cases b <;> rfl
  | ref n => cases g
  | lsr ds => cases g
  | _ => rfl
theorem view_ok (g : nrB v = true) : m_is_view [v] S = some (.ok (.bl (betw 0 999999 v)), S) := by
  cases v with
  | int i =>
    refine eq_of_wp ?_
    unfold m_is_view
    refine wp_run ?_
    unfold b_is_view
    simp only [sSeq, sIf, sAsg, sRet, sNil, gSet, gPut, tst, b2, b1, cal, on1, aCons, vget, mkL, mkT, calF, andT, orT, notT, andV, notV, wp_bind, wp_pure, wp_if, List.map, List.length, List.replicate, List.append, List.cons_append, List.nil_append, Nat.reduceSub, Nat.reduceAdd, Nat.reduceLeDiff, List.getElem?_cons_zero, List.getElem?_cons_succ, List.set_cons_zero, List.set_cons_succ, wp_int, wp_intb, wp_int20, wp_toB, wp_add, wp_abs, wp_neg, wp_lenL, pen0, pen1, pen2, put1, put2, decide_true, decide_false, if_true, if_false, Bool.false_eq_true, Nat.zero_le, exists_eq_left, and_true, true_and, Bool.not_true, Bool.not_false, reduceCtorEq, reduceIte, chn, wp_cII, isi_intI, isi_intB]
    have e : decide (i ≤ 999999) = decide (i ≤ 999999) := decide_eq_decide.2 (by omega)
    by_cases h1 : (0 : Int) ≤ i <;> by_cases h2 : i ≤ 999999 <;> simp [sSeq, sIf, sAsg, sRet, sNil, gSet, gPut, tst, b2, b1, cal, on1, aCons, vget, mkL, mkT, calF, andT, orT, notT, andV, notV, wp_bind, wp_pure, wp_if, List.map, List.length, List.replicate, List.append, List.cons_append, List.nil_append, Nat.reduceSub, Nat.reduceAdd, Nat.reduceLeDiff, List.getElem?_cons_zero, List.getElem?_cons_succ, List.set_cons_zero, List.set_cons_succ, wp_int, wp_intb, wp_int20, wp_toB, wp_add, wp_abs, wp_neg, wp_lenL, pen0, pen1, pen2, put1, put2, decide_true, decide_false, if_true, if_false, Bool.false_eq_true, Nat.zero_le, exists_eq_left, and_true, true_and, Bool.not_true, Bool.not_false, reduceCtorEq, reduceIte, h1, h2, isi_intB, betw, e]
  | bl b => cases b <;> rfl
  | ref n => cases g
  | lsr ds => cases g
  | _ => rfl
theorem place_ok (g : nrB v = true) : m_is_place [v] S = some (.ok (.bl (betw 0 7 v)), S) := by
  cases v with
  | int i =>
    refine eq_of_wp ?_
    unfold m_is_place
    refine wp_run ?_
    unfold b_is_place
    simp only [sSeq, sIf, sAsg, sRet, sNil, gSet, gPut, tst, b2, b1, cal, on1, aCons, vget, mkL, mkT, calF, andT, orT, notT, andV, notV, wp_bind, wp_pure, wp_if, List.map, List.length, List.replicate, List.append, List.cons_append, List.nil_append, Nat.reduceSub, Nat.reduceAdd, Nat.reduceLeDiff, List.getElem?_cons_zero, List.getElem?_cons_succ, List.set_cons_zero, List.set_cons_succ, wp_int, wp_intb, wp_int20, wp_toB, wp_add, wp_abs, wp_neg, wp_lenL, pen0, pen1, pen2, put1, put2, decide_true, decide_false, if_true, if_false, Bool.false_eq_true, Nat.zero_le, exists_eq_left, and_true, true_and, Bool.not_true, Bool.not_false, reduceCtorEq, reduceIte, chn, wp_cII, isi_intI, isi_intB]
    have e : decide (i ≤ 7) = decide (i < 8) := decide_eq_decide.2 (by omega)
    by_cases h1 : (0 : Int) ≤ i <;> by_cases h2 : i < 8 <;> simp [sSeq, sIf, sAsg, sRet, sNil, gSet, gPut, tst, b2, b1, cal, on1, aCons, vget, mkL, mkT, calF, andT, orT, notT, andV, notV, wp_bind, wp_pure, wp_if, List.map, List.length, List.replicate, List.append, List.cons_append, List.nil_append, Nat.reduceSub, Nat.reduceAdd, Nat.reduceLeDiff, List.getElem?_cons_zero, List.getElem?_cons_succ, List.set_cons_zero, List.set_cons_succ, wp_int, wp_intb, wp_int20, wp_toB, wp_add, wp_abs, wp_neg, wp_lenL, pen0, pen1, pen2, put1, put2, decide_true, decide_false, if_true, if_false, Bool.false_eq_true, Nat.zero_le, exists_eq_left, and_true, true_and, Bool.not_true, Bool.not_false, reduceCtorEq, reduceIte, h1, h2, isi_intB, betw, e]
  | bl b => cases b <;> rfl
  | ref n => cases g
  | lsr ds => cases g
  | _ => rfl
theorem whole_ok {lo hi : Int} (g : nrB v = true) : m__law_whole [v, .int lo, .int hi] S = some (.ok (.bl (betw lo hi v)), S) := by
  refine eq_of_wp ?_
  unfold m__law_whole
  refine wp_run ?_
  unfold b__law_whole
  cases v with
  | non => simp [sSeq, sIf, sAsg, sRet, sNil, gSet, gPut, tst, b2, b1, cal, on1, aCons, vget, mkL, mkT, calF, andT, orT, notT, andV, notV, wp_bind, wp_pure, wp_if, List.map, List.length, List.replicate, List.append, List.cons_append, List.nil_append, Nat.reduceSub, Nat.reduceAdd, Nat.reduceLeDiff, List.getElem?_cons_zero, List.getElem?_cons_succ, List.set_cons_zero, List.set_cons_succ, wp_int, wp_intb, wp_int20, wp_toB, wp_add, wp_abs, wp_neg, wp_lenL, pen0, pen1, pen2, put1, put2, decide_true, decide_false, if_true, if_false, Bool.false_eq_true, Nat.zero_le, exists_eq_left, and_true, true_and, Bool.not_true, Bool.not_false, reduceCtorEq, reduceIte, isi_nonI, isi_nonB, betw]
  | bl k => simp [sSeq, sIf, sAsg, sRet, sNil, gSet, gPut, tst, b2, b1, cal, on1, aCons, vget, mkL, mkT, calF, andT, orT, notT, andV, notV, wp_bind, wp_pure, wp_if, List.map, List.length, List.replicate, List.append, List.cons_append, List.nil_append, Nat.reduceSub, Nat.reduceAdd, Nat.reduceLeDiff, List.getElem?_cons_zero, List.getElem?_cons_succ, List.set_cons_zero, List.set_cons_succ, wp_int, wp_intb, wp_int20, wp_toB, wp_add, wp_abs, wp_neg, wp_lenL, pen0, pen1, pen2, put1, put2, decide_true, decide_false, if_true, if_false, Bool.false_eq_true, Nat.zero_le, exists_eq_left, and_true, true_and, Bool.not_true, Bool.not_false, reduceCtorEq, reduceIte, isi_blI, isi_blB, betw]
  | int i =>
    simp only [sSeq, sIf, sAsg, sRet, sNil, gSet, gPut, tst, b2, b1, cal, on1, aCons, vget, mkL, mkT, calF, andT, orT, notT, andV, notV, wp_bind, wp_pure, wp_if, List.map, List.length, List.replicate, List.append, List.cons_append, List.nil_append, Nat.reduceSub, Nat.reduceAdd, Nat.reduceLeDiff, List.getElem?_cons_zero, List.getElem?_cons_succ, List.set_cons_zero, List.set_cons_succ, wp_int, wp_intb, wp_int20, wp_toB, wp_add, wp_abs, wp_neg, wp_lenL, pen0, pen1, pen2, put1, put2, decide_true, decide_false, if_true, if_false, Bool.false_eq_true, Nat.zero_le, exists_eq_left, and_true, true_and, Bool.not_true, Bool.not_false, reduceCtorEq, reduceIte, isi_intI, isi_intB, chn, betw]
    by_cases h1 : lo ≤ i
    · simp [sSeq, sIf, sAsg, sRet, sNil, gSet, gPut, tst, b2, b1, cal, on1, aCons, vget, mkL, mkT, calF, andT, orT, notT, andV, notV, wp_bind, wp_pure, wp_if, List.map, List.length, List.replicate, List.append, List.cons_append, List.nil_append, Nat.reduceSub, Nat.reduceAdd, Nat.reduceLeDiff, List.getElem?_cons_zero, List.getElem?_cons_succ, List.set_cons_zero, List.set_cons_succ, wp_int, wp_intb, wp_int20, wp_toB, wp_add, wp_abs, wp_neg, wp_lenL, pen0, pen1, pen2, put1, put2, decide_true, decide_false, if_true, if_false, Bool.false_eq_true, Nat.zero_le, exists_eq_left, and_true, true_and, Bool.not_true, Bool.not_false, reduceCtorEq, reduceIte, h1]
    · simp [sSeq, sIf, sAsg, sRet, sNil, gSet, gPut, tst, b2, b1, cal, on1, aCons, vget, mkL, mkT, calF, andT, orT, notT, andV, notV, wp_bind, wp_pure, wp_if, List.map, List.length, List.replicate, List.append, List.cons_append, List.nil_append, Nat.reduceSub, Nat.reduceAdd, Nat.reduceLeDiff, List.getElem?_cons_zero, List.getElem?_cons_succ, List.set_cons_zero, List.set_cons_succ, wp_int, wp_intb, wp_int20, wp_toB, wp_add, wp_abs, wp_neg, wp_lenL, pen0, pen1, pen2, put1, put2, decide_true, decide_false, if_true, if_false, Bool.false_eq_true, Nat.zero_le, exists_eq_left, and_true, true_and, Bool.not_true, Bool.not_false, reduceCtorEq, reduceIte, h1]
  | str x => simp [sSeq, sIf, sAsg, sRet, sNil, gSet, gPut, tst, b2, b1, cal, on1, aCons, vget, mkL, mkT, calF, andT, orT, notT, andV, notV, wp_bind, wp_pure, wp_if, List.map, List.length, List.replicate, List.append, List.cons_append, List.nil_append, Nat.reduceSub, Nat.reduceAdd, Nat.reduceLeDiff, List.getElem?_cons_zero, List.getElem?_cons_succ, List.set_cons_zero, List.set_cons_succ, wp_int, wp_intb, wp_int20, wp_toB, wp_add, wp_abs, wp_neg, wp_lenL, pen0, pen1, pen2, put1, put2, decide_true, decide_false, if_true, if_false, Bool.false_eq_true, Nat.zero_le, exists_eq_left, and_true, true_and, Bool.not_true, Bool.not_false, reduceCtorEq, reduceIte, isi_strI, isi_strB, betw]
  | tup ds => simp [sSeq, sIf, sAsg, sRet, sNil, gSet, gPut, tst, b2, b1, cal, on1, aCons, vget, mkL, mkT, calF, andT, orT, notT, andV, notV, wp_bind, wp_pure, wp_if, List.map, List.length, List.replicate, List.append, List.cons_append, List.nil_append, Nat.reduceSub, Nat.reduceAdd, Nat.reduceLeDiff, List.getElem?_cons_zero, List.getElem?_cons_succ, List.set_cons_zero, List.set_cons_succ, wp_int, wp_intb, wp_int20, wp_toB, wp_add, wp_abs, wp_neg, wp_lenL, pen0, pen1, pen2, put1, put2, decide_true, decide_false, if_true, if_false, Bool.false_eq_true, Nat.zero_le, exists_eq_left, and_true, true_and, Bool.not_true, Bool.not_false, reduceCtorEq, reduceIte, isi_tupI, isi_tupB, betw]
  | lst ds => simp [sSeq, sIf, sAsg, sRet, sNil, gSet, gPut, tst, b2, b1, cal, on1, aCons, vget, mkL, mkT, calF, andT, orT, notT, andV, notV, wp_bind, wp_pure, wp_if, List.map, List.length, List.replicate, List.append, List.cons_append, List.nil_append, Nat.reduceSub, Nat.reduceAdd, Nat.reduceLeDiff, List.getElem?_cons_zero, List.getElem?_cons_succ, List.set_cons_zero, List.set_cons_succ, wp_int, wp_intb, wp_int20, wp_toB, wp_add, wp_abs, wp_neg, wp_lenL, pen0, pen1, pen2, put1, put2, decide_true, decide_false, if_true, if_false, Bool.false_eq_true, Nat.zero_le, exists_eq_left, and_true, true_and, Bool.not_true, Bool.not_false, reduceCtorEq, reduceIte, isi_lstI, isi_lstB, betw]
  | dct kv => simp [sSeq, sIf, sAsg, sRet, sNil, gSet, gPut, tst, b2, b1, cal, on1, aCons, vget, mkL, mkT, calF, andT, orT, notT, andV, notV, wp_bind, wp_pure, wp_if, List.map, List.length, List.replicate, List.append, List.cons_append, List.nil_append, Nat.reduceSub, Nat.reduceAdd, Nat.reduceLeDiff, List.getElem?_cons_zero, List.getElem?_cons_succ, List.set_cons_zero, List.set_cons_succ, wp_int, wp_intb, wp_int20, wp_toB, wp_add, wp_abs, wp_neg, wp_lenL, pen0, pen1, pen2, put1, put2, decide_true, decide_false, if_true, if_false, Bool.false_eq_true, Nat.zero_le, exists_eq_left, and_true, true_and, Bool.not_true, Bool.not_false, reduceCtorEq, reduceIte, isi_dctI, isi_dctB, betw]
  | _ => cases g
theorem wp_strip {x y : Str} (h : x.length ≤ 100000) : Wp (stripM (.str x) [.str y]) S Q ↔ Q (.str (Txt.stripChars x y)) S := wp_of (by
  show (if x.length ≤ 100000 then M.pure (D.str (Txt.stripChars x y)) else bad) S = _
  rw [if_pos h]; rfl)
theorem wp_eqS {x y : Str} (hx : PyData.strOk x = true) (hy : PyData.strOk y = true) : Wp (eqM (.str x) (.str y)) S Q ↔ Q (.bl (x == y)) S := wp_of (by
  have h : lenDiff S (.str x) (.str y) = false := rfl
  simp [eqB, h, deS, toPy, shS hx, shS hy, PyData.eqv])
theorem nil_ok : PyData.strOk ("" : Str) = true := by decide +kernel
theorem key_ok (g : okV v) : m_is_key [v] S = some (.ok (.bl (wordB LET v)), S) := by
  refine eq_of_wp ?_
  unfold m_is_key
  refine wp_run ?_
  unfold b_is_key
  cases v with
  | non => simp [sSeq, sIf, sAsg, sRet, sNil, gSet, gPut, tst, b2, b1, cal, on1, aCons, vget, mkL, mkT, calF, andT, orT, notT, andV, notV, wp_bind, wp_pure, wp_if, List.map, List.length, List.replicate, List.append, List.cons_append, List.nil_append, Nat.reduceSub, Nat.reduceAdd, Nat.reduceLeDiff, List.getElem?_cons_zero, List.getElem?_cons_succ, List.set_cons_zero, List.set_cons_succ, wp_int, wp_intb, wp_int20, wp_toB, wp_add, wp_abs, wp_neg, wp_lenL, pen0, pen1, pen2, put1, put2, decide_true, decide_false, if_true, if_false, Bool.false_eq_true, Nat.zero_le, exists_eq_left, and_true, true_and, Bool.not_true, Bool.not_false, reduceCtorEq, reduceIte, isi_nonS, wordB]
  | bl k => simp [sSeq, sIf, sAsg, sRet, sNil, gSet, gPut, tst, b2, b1, cal, on1, aCons, vget, mkL, mkT, calF, andT, orT, notT, andV, notV, wp_bind, wp_pure, wp_if, List.map, List.length, List.replicate, List.append, List.cons_append, List.nil_append, Nat.reduceSub, Nat.reduceAdd, Nat.reduceLeDiff, List.getElem?_cons_zero, List.getElem?_cons_succ, List.set_cons_zero, List.set_cons_succ, wp_int, wp_intb, wp_int20, wp_toB, wp_add, wp_abs, wp_neg, wp_lenL, pen0, pen1, pen2, put1, put2, decide_true, decide_false, if_true, if_false, Bool.false_eq_true, Nat.zero_le, exists_eq_left, and_true, true_and, Bool.not_true, Bool.not_false, reduceCtorEq, reduceIte, isi_blS, wordB]
  | int i => simp [sSeq, sIf, sAsg, sRet, sNil, gSet, gPut, tst, b2, b1, cal, on1, aCons, vget, mkL, mkT, calF, andT, orT, notT, andV, notV, wp_bind, wp_pure, wp_if, List.map, List.length, List.replicate, List.append, List.cons_append, List.nil_append, Nat.reduceSub, Nat.reduceAdd, Nat.reduceLeDiff, List.getElem?_cons_zero, List.getElem?_cons_succ, List.set_cons_zero, List.set_cons_succ, wp_int, wp_intb, wp_int20, wp_toB, wp_add, wp_abs, wp_neg, wp_lenL, pen0, pen1, pen2, put1, put2, decide_true, decide_false, if_true, if_false, Bool.false_eq_true, Nat.zero_le, exists_eq_left, and_true, true_and, Bool.not_true, Bool.not_false, reduceCtorEq, reduceIte, isi_intS, wordB]
  | tup ds => simp [sSeq, sIf, sAsg, sRet, sNil, gSet, gPut, tst, b2, b1, cal, on1, aCons, vget, mkL, mkT, calF, andT, orT, notT, andV, notV, wp_bind, wp_pure, wp_if, List.map, List.length, List.replicate, List.append, List.cons_append, List.nil_append, Nat.reduceSub, Nat.reduceAdd, Nat.reduceLeDiff, List.getElem?_cons_zero, List.getElem?_cons_succ, List.set_cons_zero, List.set_cons_succ, wp_int, wp_intb, wp_int20, wp_toB, wp_add, wp_abs, wp_neg, wp_lenL, pen0, pen1, pen2, put1, put2, decide_true, decide_false, if_true, if_false, Bool.false_eq_true, Nat.zero_le, exists_eq_left, and_true, true_and, Bool.not_true, Bool.not_false, reduceCtorEq, reduceIte, isi_tupS, wordB]
  | lst ds => simp [sSeq, sIf, sAsg, sRet, sNil, gSet, gPut, tst, b2, b1, cal, on1, aCons, vget, mkL, mkT, calF, andT, orT, notT, andV, notV, wp_bind, wp_pure, wp_if, List.map, List.length, List.replicate, List.append, List.cons_append, List.nil_append, Nat.reduceSub, Nat.reduceAdd, Nat.reduceLeDiff, List.getElem?_cons_zero, List.getElem?_cons_succ, List.set_cons_zero, List.set_cons_succ, wp_int, wp_intb, wp_int20, wp_toB, wp_add, wp_abs, wp_neg, wp_lenL, pen0, pen1, pen2, put1, put2, decide_true, decide_false, if_true, if_false, Bool.false_eq_true, Nat.zero_le, exists_eq_left, and_true, true_and, Bool.not_true, Bool.not_false, reduceCtorEq, reduceIte, isi_lstS, wordB]
  | dct kv => simp [sSeq, sIf, sAsg, sRet, sNil, gSet, gPut, tst, b2, b1, cal, on1, aCons, vget, mkL, mkT, calF, andT, orT, notT, andV, notV, wp_bind, wp_pure, wp_if, List.map, List.length, List.replicate, List.append, List.cons_append, List.nil_append, Nat.reduceSub, Nat.reduceAdd, Nat.reduceLeDiff, List.getElem?_cons_zero, List.getElem?_cons_succ, List.set_cons_zero, List.set_cons_succ, wp_int, wp_intb, wp_int20, wp_toB, wp_add, wp_abs, wp_neg, wp_lenL, pen0, pen1, pen2, put1, put2, decide_true, decide_false, if_true, if_false, Bool.false_eq_true, Nat.zero_le, exists_eq_left, and_true, true_and, Bool.not_true, Bool.not_false, reduceCtorEq, reduceIte, isi_dctS, wordB]
  | str x =>
    obtain ⟨hl, hs⟩ := g.2 x rfl
    by_cases h1 : 1 ≤ x.length
    · by_cases h2 : x.length ≤ 8
      · have i1 : (1 : Int) ≤ (x.length : Int) := by omega
        have i2 : (x.length : Int) ≤ 8 := by omega
        simp only [sSeq, sIf, sAsg, sRet, sNil, gSet, gPut, tst, b2, b1, cal, on1, aCons, vget, mkL, mkT, calF, andT, orT, notT, andV, notV, wp_bind, wp_pure, wp_if, List.map, List.length, List.replicate, List.append, List.cons_append, List.nil_append, Nat.reduceSub, Nat.reduceAdd, Nat.reduceLeDiff, List.getElem?_cons_zero, List.getElem?_cons_succ, List.set_cons_zero, List.set_cons_succ, wp_int, wp_intb, wp_int20, wp_toB, wp_add, wp_abs, wp_neg, wp_lenL, pen0, pen1, pen2, put1, put2, decide_true, decide_false, if_true, if_false, Bool.false_eq_true, Nat.zero_le, exists_eq_left, and_true, true_and, Bool.not_true, Bool.not_false, reduceCtorEq, reduceIte, isi_strS, chn, wp_lenS hl, i1, i2, mth, wp_chkS, wp_strip hl, wp_eqS (strip_strOk hs) nil_ok, strip_made h1]
        simp [wordB, h1, h2, LET]
      · have i1 : (1 : Int) ≤ (x.length : Int) := by omega
        have i2 : ¬ (x.length : Int) ≤ 8 := by omega
        simp [sSeq, sIf, sAsg, sRet, sNil, gSet, gPut, tst, b2, b1, cal, on1, aCons, vget, mkL, mkT, calF, andT, orT, notT, andV, notV, wp_bind, wp_pure, wp_if, List.map, List.length, List.replicate, List.append, List.cons_append, List.nil_append, Nat.reduceSub, Nat.reduceAdd, Nat.reduceLeDiff, List.getElem?_cons_zero, List.getElem?_cons_succ, List.set_cons_zero, List.set_cons_succ, wp_int, wp_intb, wp_int20, wp_toB, wp_add, wp_abs, wp_neg, wp_lenL, pen0, pen1, pen2, put1, put2, decide_true, decide_false, if_true, if_false, Bool.false_eq_true, Nat.zero_le, exists_eq_left, and_true, true_and, Bool.not_true, Bool.not_false, reduceCtorEq, reduceIte, isi_strS, chn, wp_lenS hl, i1, i2, wordB, h1, h2]
    · have i1 : ¬ (1 : Int) ≤ (x.length : Int) := by omega
      simp [sSeq, sIf, sAsg, sRet, sNil, gSet, gPut, tst, b2, b1, cal, on1, aCons, vget, mkL, mkT, calF, andT, orT, notT, andV, notV, wp_bind, wp_pure, wp_if, List.map, List.length, List.replicate, List.append, List.cons_append, List.nil_append, Nat.reduceSub, Nat.reduceAdd, Nat.reduceLeDiff, List.getElem?_cons_zero, List.getElem?_cons_succ, List.set_cons_zero, List.set_cons_succ, wp_int, wp_intb, wp_int20, wp_toB, wp_add, wp_abs, wp_neg, wp_lenL, pen0, pen1, pen2, put1, put2, decide_true, decide_false, if_true, if_false, Bool.false_eq_true, Nat.zero_le, exists_eq_left, and_true, true_and, Bool.not_true, Bool.not_false, reduceCtorEq, reduceIte, isi_strS, chn, wp_lenS hl, i1, wordB, h1]
  | ref n => cases g.1
  | lsr ds => cases g.1
theorem value_ok (g : okV v) : m_is_value [v] S = some (.ok (.bl (wordB ALN v)), S) := by
  refine eq_of_wp ?_
  unfold m_is_value
  refine wp_run ?_
  unfold b_is_value
  cases v with
  | non => simp [sSeq, sIf, sAsg, sRet, sNil, gSet, gPut, tst, b2, b1, cal, on1, aCons, vget, mkL, mkT, calF, andT, orT, notT, andV, notV, wp_bind, wp_pure, wp_if, List.map, List.length, List.replicate, List.append, List.cons_append, List.nil_append, Nat.reduceSub, Nat.reduceAdd, Nat.reduceLeDiff, List.getElem?_cons_zero, List.getElem?_cons_succ, List.set_cons_zero, List.set_cons_succ, wp_int, wp_intb, wp_int20, wp_toB, wp_add, wp_abs, wp_neg, wp_lenL, pen0, pen1, pen2, put1, put2, decide_true, decide_false, if_true, if_false, Bool.false_eq_true, Nat.zero_le, exists_eq_left, and_true, true_and, Bool.not_true, Bool.not_false, reduceCtorEq, reduceIte, isi_nonS, wordB]
  | bl k => simp [sSeq, sIf, sAsg, sRet, sNil, gSet, gPut, tst, b2, b1, cal, on1, aCons, vget, mkL, mkT, calF, andT, orT, notT, andV, notV, wp_bind, wp_pure, wp_if, List.map, List.length, List.replicate, List.append, List.cons_append, List.nil_append, Nat.reduceSub, Nat.reduceAdd, Nat.reduceLeDiff, List.getElem?_cons_zero, List.getElem?_cons_succ, List.set_cons_zero, List.set_cons_succ, wp_int, wp_intb, wp_int20, wp_toB, wp_add, wp_abs, wp_neg, wp_lenL, pen0, pen1, pen2, put1, put2, decide_true, decide_false, if_true, if_false, Bool.false_eq_true, Nat.zero_le, exists_eq_left, and_true, true_and, Bool.not_true, Bool.not_false, reduceCtorEq, reduceIte, isi_blS, wordB]
  | int i => simp [sSeq, sIf, sAsg, sRet, sNil, gSet, gPut, tst, b2, b1, cal, on1, aCons, vget, mkL, mkT, calF, andT, orT, notT, andV, notV, wp_bind, wp_pure, wp_if, List.map, List.length, List.replicate, List.append, List.cons_append, List.nil_append, Nat.reduceSub, Nat.reduceAdd, Nat.reduceLeDiff, List.getElem?_cons_zero, List.getElem?_cons_succ, List.set_cons_zero, List.set_cons_succ, wp_int, wp_intb, wp_int20, wp_toB, wp_add, wp_abs, wp_neg, wp_lenL, pen0, pen1, pen2, put1, put2, decide_true, decide_false, if_true, if_false, Bool.false_eq_true, Nat.zero_le, exists_eq_left, and_true, true_and, Bool.not_true, Bool.not_false, reduceCtorEq, reduceIte, isi_intS, wordB]
  | tup ds => simp [sSeq, sIf, sAsg, sRet, sNil, gSet, gPut, tst, b2, b1, cal, on1, aCons, vget, mkL, mkT, calF, andT, orT, notT, andV, notV, wp_bind, wp_pure, wp_if, List.map, List.length, List.replicate, List.append, List.cons_append, List.nil_append, Nat.reduceSub, Nat.reduceAdd, Nat.reduceLeDiff, List.getElem?_cons_zero, List.getElem?_cons_succ, List.set_cons_zero, List.set_cons_succ, wp_int, wp_intb, wp_int20, wp_toB, wp_add, wp_abs, wp_neg, wp_lenL, pen0, pen1, pen2, put1, put2, decide_true, decide_false, if_true, if_false, Bool.false_eq_true, Nat.zero_le, exists_eq_left, and_true, true_and, Bool.not_true, Bool.not_false, reduceCtorEq, reduceIte, isi_tupS, wordB]
  | lst ds => simp [sSeq, sIf, sAsg, sRet, sNil, gSet, gPut, tst, b2, b1, cal, on1, aCons, vget, mkL, mkT, calF, andT, orT, notT, andV, notV, wp_bind, wp_pure, wp_if, List.map, List.length, List.replicate, List.append, List.cons_append, List.nil_append, Nat.reduceSub, Nat.reduceAdd, Nat.reduceLeDiff, List.getElem?_cons_zero, List.getElem?_cons_succ, List.set_cons_zero, List.set_cons_succ, wp_int, wp_intb, wp_int20, wp_toB, wp_add, wp_abs, wp_neg, wp_lenL, pen0, pen1, pen2, put1, put2, decide_true, decide_false, if_true, if_false, Bool.false_eq_true, Nat.zero_le, exists_eq_left, and_true, true_and, Bool.not_true, Bool.not_false, reduceCtorEq, reduceIte, isi_lstS, wordB]
  | dct kv => simp [sSeq, sIf, sAsg, sRet, sNil, gSet, gPut, tst, b2, b1, cal, on1, aCons, vget, mkL, mkT, calF, andT, orT, notT, andV, notV, wp_bind, wp_pure, wp_if, List.map, List.length, List.replicate, List.append, List.cons_append, List.nil_append, Nat.reduceSub, Nat.reduceAdd, Nat.reduceLeDiff, List.getElem?_cons_zero, List.getElem?_cons_succ, List.set_cons_zero, List.set_cons_succ, wp_int, wp_intb, wp_int20, wp_toB, wp_add, wp_abs, wp_neg, wp_lenL, pen0, pen1, pen2, put1, put2, decide_true, decide_false, if_true, if_false, Bool.false_eq_true, Nat.zero_le, exists_eq_left, and_true, true_and, Bool.not_true, Bool.not_false, reduceCtorEq, reduceIte, isi_dctS, wordB]
  | str x =>
    obtain ⟨hl, hs⟩ := g.2 x rfl
    by_cases h1 : 1 ≤ x.length
    · by_cases h2 : x.length ≤ 8
      · have i1 : (1 : Int) ≤ (x.length : Int) := by omega
        have i2 : (x.length : Int) ≤ 8 := by omega
        simp only [sSeq, sIf, sAsg, sRet, sNil, gSet, gPut, tst, b2, b1, cal, on1, aCons, vget, mkL, mkT, calF, andT, orT, notT, andV, notV, wp_bind, wp_pure, wp_if, List.map, List.length, List.replicate, List.append, List.cons_append, List.nil_append, Nat.reduceSub, Nat.reduceAdd, Nat.reduceLeDiff, List.getElem?_cons_zero, List.getElem?_cons_succ, List.set_cons_zero, List.set_cons_succ, wp_int, wp_intb, wp_int20, wp_toB, wp_add, wp_abs, wp_neg, wp_lenL, pen0, pen1, pen2, put1, put2, decide_true, decide_false, if_true, if_false, Bool.false_eq_true, Nat.zero_le, exists_eq_left, and_true, true_and, Bool.not_true, Bool.not_false, reduceCtorEq, reduceIte, isi_strS, chn, wp_lenS hl, i1, i2, mth, wp_chkS, wp_strip hl, wp_eqS (strip_strOk hs) nil_ok, strip_made h1]
        rw [alnum_eq]
        simp [wordB, h1, h2]
      · have i1 : (1 : Int) ≤ (x.length : Int) := by omega
        have i2 : ¬ (x.length : Int) ≤ 8 := by omega
        simp [sSeq, sIf, sAsg, sRet, sNil, gSet, gPut, tst, b2, b1, cal, on1, aCons, vget, mkL, mkT, calF, andT, orT, notT, andV, notV, wp_bind, wp_pure, wp_if, List.map, List.length, List.replicate, List.append, List.cons_append, List.nil_append, Nat.reduceSub, Nat.reduceAdd, Nat.reduceLeDiff, List.getElem?_cons_zero, List.getElem?_cons_succ, List.set_cons_zero, List.set_cons_succ, wp_int, wp_intb, wp_int20, wp_toB, wp_add, wp_abs, wp_neg, wp_lenL, pen0, pen1, pen2, put1, put2, decide_true, decide_false, if_true, if_false, Bool.false_eq_true, Nat.zero_le, exists_eq_left, and_true, true_and, Bool.not_true, Bool.not_false, reduceCtorEq, reduceIte, isi_strS, chn, wp_lenS hl, i1, i2, wordB, h1, h2]
    · have i1 : ¬ (1 : Int) ≤ (x.length : Int) := by omega
      simp [sSeq, sIf, sAsg, sRet, sNil, gSet, gPut, tst, b2, b1, cal, on1, aCons, vget, mkL, mkT, calF, andT, orT, notT, andV, notV, wp_bind, wp_pure, wp_if, List.map, List.length, List.replicate, List.append, List.cons_append, List.nil_append, Nat.reduceSub, Nat.reduceAdd, Nat.reduceLeDiff, List.getElem?_cons_zero, List.getElem?_cons_succ, List.set_cons_zero, List.set_cons_succ, wp_int, wp_intb, wp_int20, wp_toB, wp_add, wp_abs, wp_neg, wp_lenL, pen0, pen1, pen2, put1, put2, decide_true, decide_false, if_true, if_false, Bool.false_eq_true, Nat.zero_le, exists_eq_left, and_true, true_and, Bool.not_true, Bool.not_false, reduceCtorEq, reduceIte, isi_strS, chn, wp_lenS hl, i1, wordB, h1]
  | ref n => cases g.1
  | lsr ds => cases g.1
theorem made_ok {al : Str} (g : okV v) : m__law_made_of [v, .str al] S = some (.ok (.bl (wordB al v)), S) := by
  refine eq_of_wp ?_
  unfold m__law_made_of
  refine wp_run ?_
  unfold b__law_made_of
  cases v with
  | non => simp [sSeq, sIf, sAsg, sRet, sNil, gSet, gPut, tst, b2, b1, cal, on1, aCons, vget, mkL, mkT, calF, andT, orT, notT, andV, notV, wp_bind, wp_pure, wp_if, List.map, List.length, List.replicate, List.append, List.cons_append, List.nil_append, Nat.reduceSub, Nat.reduceAdd, Nat.reduceLeDiff, List.getElem?_cons_zero, List.getElem?_cons_succ, List.set_cons_zero, List.set_cons_succ, wp_int, wp_intb, wp_int20, wp_toB, wp_add, wp_abs, wp_neg, wp_lenL, pen0, pen1, pen2, put1, put2, decide_true, decide_false, if_true, if_false, Bool.false_eq_true, Nat.zero_le, exists_eq_left, and_true, true_and, Bool.not_true, Bool.not_false, reduceCtorEq, reduceIte, isi_nonS, wordB]
  | bl k => simp [sSeq, sIf, sAsg, sRet, sNil, gSet, gPut, tst, b2, b1, cal, on1, aCons, vget, mkL, mkT, calF, andT, orT, notT, andV, notV, wp_bind, wp_pure, wp_if, List.map, List.length, List.replicate, List.append, List.cons_append, List.nil_append, Nat.reduceSub, Nat.reduceAdd, Nat.reduceLeDiff, List.getElem?_cons_zero, List.getElem?_cons_succ, List.set_cons_zero, List.set_cons_succ, wp_int, wp_intb, wp_int20, wp_toB, wp_add, wp_abs, wp_neg, wp_lenL, pen0, pen1, pen2, put1, put2, decide_true, decide_false, if_true, if_false, Bool.false_eq_true, Nat.zero_le, exists_eq_left, and_true, true_and, Bool.not_true, Bool.not_false, reduceCtorEq, reduceIte, isi_blS, wordB]
  | int i => simp [sSeq, sIf, sAsg, sRet, sNil, gSet, gPut, tst, b2, b1, cal, on1, aCons, vget, mkL, mkT, calF, andT, orT, notT, andV, notV, wp_bind, wp_pure, wp_if, List.map, List.length, List.replicate, List.append, List.cons_append, List.nil_append, Nat.reduceSub, Nat.reduceAdd, Nat.reduceLeDiff, List.getElem?_cons_zero, List.getElem?_cons_succ, List.set_cons_zero, List.set_cons_succ, wp_int, wp_intb, wp_int20, wp_toB, wp_add, wp_abs, wp_neg, wp_lenL, pen0, pen1, pen2, put1, put2, decide_true, decide_false, if_true, if_false, Bool.false_eq_true, Nat.zero_le, exists_eq_left, and_true, true_and, Bool.not_true, Bool.not_false, reduceCtorEq, reduceIte, isi_intS, wordB]
  | tup ds => simp [sSeq, sIf, sAsg, sRet, sNil, gSet, gPut, tst, b2, b1, cal, on1, aCons, vget, mkL, mkT, calF, andT, orT, notT, andV, notV, wp_bind, wp_pure, wp_if, List.map, List.length, List.replicate, List.append, List.cons_append, List.nil_append, Nat.reduceSub, Nat.reduceAdd, Nat.reduceLeDiff, List.getElem?_cons_zero, List.getElem?_cons_succ, List.set_cons_zero, List.set_cons_succ, wp_int, wp_intb, wp_int20, wp_toB, wp_add, wp_abs, wp_neg, wp_lenL, pen0, pen1, pen2, put1, put2, decide_true, decide_false, if_true, if_false, Bool.false_eq_true, Nat.zero_le, exists_eq_left, and_true, true_and, Bool.not_true, Bool.not_false, reduceCtorEq, reduceIte, isi_tupS, wordB]
  | lst ds => simp [sSeq, sIf, sAsg, sRet, sNil, gSet, gPut, tst, b2, b1, cal, on1, aCons, vget, mkL, mkT, calF, andT, orT, notT, andV, notV, wp_bind, wp_pure, wp_if, List.map, List.length, List.replicate, List.append, List.cons_append, List.nil_append, Nat.reduceSub, Nat.reduceAdd, Nat.reduceLeDiff, List.getElem?_cons_zero, List.getElem?_cons_succ, List.set_cons_zero, List.set_cons_succ, wp_int, wp_intb, wp_int20, wp_toB, wp_add, wp_abs, wp_neg, wp_lenL, pen0, pen1, pen2, put1, put2, decide_true, decide_false, if_true, if_false, Bool.false_eq_true, Nat.zero_le, exists_eq_left, and_true, true_and, Bool.not_true, Bool.not_false, reduceCtorEq, reduceIte, isi_lstS, wordB]
  | dct kv => simp [sSeq, sIf, sAsg, sRet, sNil, gSet, gPut, tst, b2, b1, cal, on1, aCons, vget, mkL, mkT, calF, andT, orT, notT, andV, notV, wp_bind, wp_pure, wp_if, List.map, List.length, List.replicate, List.append, List.cons_append, List.nil_append, Nat.reduceSub, Nat.reduceAdd, Nat.reduceLeDiff, List.getElem?_cons_zero, List.getElem?_cons_succ, List.set_cons_zero, List.set_cons_succ, wp_int, wp_intb, wp_int20, wp_toB, wp_add, wp_abs, wp_neg, wp_lenL, pen0, pen1, pen2, put1, put2, decide_true, decide_false, if_true, if_false, Bool.false_eq_true, Nat.zero_le, exists_eq_left, and_true, true_and, Bool.not_true, Bool.not_false, reduceCtorEq, reduceIte, isi_dctS, wordB]
  | str x =>
    have hl := (g.2 x rfl).1
    have e : Wp (noErr (lcGo (gSet 2) (tst (b2 ninM (vget 2) (vget 1))) (vget 2) (wipeE [2] [some (.str x), some (.str al), none]) (x.cps.toList.map sgn))) S (fun ys S' => S' = S ∧ ys = (x.cps.toList.filter fun c => !decide (c ∈ al.cps.toList)).map sgn) := by
      rw [wp_lc (g := sgn) (f := sgn) (p := fun c => !decide (c ∈ al.cps.toList))]
      · simp
      · intro y _
        simp only [wipeE, List.foldr, List.set_cons_zero, List.set_cons_succ]
        refine eq_of_wp ?_
        simp [sSeq, sIf, sAsg, sRet, sNil, gSet, gPut, tst, b2, b1, cal, on1, aCons, vget, mkL, mkT, calF, andT, orT, notT, andV, notV, wp_bind, wp_pure, wp_if, List.map, List.length, List.replicate, List.append, List.cons_append, List.nil_append, Nat.reduceSub, Nat.reduceAdd, Nat.reduceLeDiff, List.getElem?_cons_zero, List.getElem?_cons_succ, List.set_cons_zero, List.set_cons_succ, wp_int, wp_intb, wp_int20, wp_toB, wp_add, wp_abs, wp_neg, wp_lenL, pen0, pen1, pen2, put1, put2, decide_true, decide_false, if_true, if_false, Bool.false_eq_true, Nat.zero_le, exists_eq_left, and_true, true_and, Bool.not_true, Bool.not_false, reduceCtorEq, reduceIte, wp_nin]
      · intro y _ _
        rfl
    by_cases h1 : 1 ≤ x.length
    · by_cases h2 : x.length ≤ 8
      · have i1 : (0 : Int) < (x.length : Int) := by omega
        have i2 : (x.length : Int) < 9 := by omega
        have l2 : x.cps.toList.length ≤ 50000 := by rw [Array.length_toList]; have : x.cps.size ≤ 8 := h2; omega
        simp only [sSeq, sIf, sAsg, sRet, sNil, gSet, gPut, tst, b2, b1, cal, on1, aCons, vget, mkL, mkT, calF, andT, orT, notT, andV, notV, wp_bind, wp_pure, wp_if, List.map, List.length, List.replicate, List.append, List.cons_append, List.nil_append, Nat.reduceSub, Nat.reduceAdd, Nat.reduceLeDiff, List.getElem?_cons_zero, List.getElem?_cons_succ, List.set_cons_zero, List.set_cons_succ, wp_int, wp_intb, wp_int20, wp_toB, wp_add, wp_abs, wp_neg, wp_lenL, pen0, pen1, pen2, put1, put2, decide_true, decide_false, if_true, if_false, Bool.false_eq_true, Nat.zero_le, exists_eq_left, and_true, true_and, Bool.not_true, Bool.not_false, reduceCtorEq, reduceIte, isi_strS, chn, wp_lenS hl, i1, i2, iSeq, wp_itS, eLc, List.length_map, l2]
        refine e.mono ?_
        rintro ys S' ⟨rfl, rfl⟩
        simp only [sSeq, sIf, sAsg, sRet, sNil, gSet, gPut, tst, b2, b1, cal, on1, aCons, vget, mkL, mkT, calF, andT, orT, notT, andV, notV, wp_bind, wp_pure, wp_if, List.map, List.length, List.replicate, List.append, List.cons_append, List.nil_append, Nat.reduceSub, Nat.reduceAdd, Nat.reduceLeDiff, List.getElem?_cons_zero, List.getElem?_cons_succ, List.set_cons_zero, List.set_cons_succ, wp_int, wp_intb, wp_int20, wp_toB, wp_add, wp_abs, wp_neg, wp_lenL, pen0, pen1, pen2, put1, put2, decide_true, decide_false, if_true, if_false, Bool.false_eq_true, Nat.zero_le, exists_eq_left, and_true, true_and, Bool.not_true, Bool.not_false, reduceCtorEq, reduceIte, wp_eqNilB]
        rw [isEmpty_map, filter_not]
        simp [wordB, h1, h2]
      · have i1 : (0 : Int) < (x.length : Int) := by omega
        have i2 : ¬ (x.length : Int) < 9 := by omega
        simp [sSeq, sIf, sAsg, sRet, sNil, gSet, gPut, tst, b2, b1, cal, on1, aCons, vget, mkL, mkT, calF, andT, orT, notT, andV, notV, wp_bind, wp_pure, wp_if, List.map, List.length, List.replicate, List.append, List.cons_append, List.nil_append, Nat.reduceSub, Nat.reduceAdd, Nat.reduceLeDiff, List.getElem?_cons_zero, List.getElem?_cons_succ, List.set_cons_zero, List.set_cons_succ, wp_int, wp_intb, wp_int20, wp_toB, wp_add, wp_abs, wp_neg, wp_lenL, pen0, pen1, pen2, put1, put2, decide_true, decide_false, if_true, if_false, Bool.false_eq_true, Nat.zero_le, exists_eq_left, and_true, true_and, Bool.not_true, Bool.not_false, reduceCtorEq, reduceIte, isi_strS, chn, wp_lenS hl, i1, i2, wordB, h1, h2]
    · have i1 : x.length = 0 := by omega
      simp [sSeq, sIf, sAsg, sRet, sNil, gSet, gPut, tst, b2, b1, cal, on1, aCons, vget, mkL, mkT, calF, andT, orT, notT, andV, notV, wp_bind, wp_pure, wp_if, List.map, List.length, List.replicate, List.append, List.cons_append, List.nil_append, Nat.reduceSub, Nat.reduceAdd, Nat.reduceLeDiff, List.getElem?_cons_zero, List.getElem?_cons_succ, List.set_cons_zero, List.set_cons_succ, wp_int, wp_intb, wp_int20, wp_toB, wp_add, wp_abs, wp_neg, wp_lenL, pen0, pen1, pen2, put1, put2, decide_true, decide_false, if_true, if_false, Bool.false_eq_true, Nat.zero_le, exists_eq_left, and_true, true_and, Bool.not_true, Bool.not_false, reduceCtorEq, reduceIte, isi_strS, chn, wp_lenS hl, i1, wordB]
  | ref n => cases g.1
  | lsr ds => cases g.1
/-! ### slots that ascend -/
def slotsB : D → Bool
  | .tup ds => ds.all (betw 0 7) && match intsOf ds with
    | some ns => ascB ns
    | none => false
  | _ => false
theorem all_betw {lo hi : Int} : ∀ {ds : List D}, ds.all (betw lo hi) = true → ∃ ns : List Int, ds = ns.map D.int ∧ intsOf ds = some ns
  | [], _ => ⟨[], rfl, rfl⟩
  | d :: ds, h => by
    rw [List.all_cons, Bool.and_eq_true] at h
    obtain ⟨ns, e1, e2⟩ := all_betw h.2
    cases d with
    | int i => exact ⟨i :: ns, by simp [e1], by simp [intsOf, e2]⟩
    | _ => exact absurd h.1 (by simp [betw])
theorem asc_ok {ns : List Int} (h : ns.length ≤ 50000) : m_is_ascending [.tup (ns.map D.int)] S = some (.ok (.bl (ascB ns)), S) := by
  refine eq_of_wp ?_
  unfold m_is_ascending
  refine wp_run ?_
  unfold b_is_ascending
  have c : cutD (ns.map D.int) (some 1) none = (ns.drop 1).map D.int := by
    rcases ns with _ | ⟨x, ns⟩
    · rfl
    · exact (cut_hi (n := 1) (by simp)).trans (by simp)
  have lz : (ns.zip (ns.drop 1)).length ≤ 50000 := by simp only [List.length_zip]; omega
  by_cases h2 : (ns.length : Int) < 2
  · simp only [sSeq, sIf, sAsg, sRet, sNil, gSet, gPut, tst, b2, b1, cal, on1, aCons, vget, mkL, mkT, calF, andT, orT, notT, andV, notV, wp_bind, wp_pure, wp_if, List.map, List.length, List.replicate, List.append, List.cons_append, List.nil_append, Nat.reduceSub, Nat.reduceAdd, Nat.reduceLeDiff, List.getElem?_cons_zero, List.getElem?_cons_succ, List.set_cons_zero, List.set_cons_succ, wp_int, wp_intb, wp_int20, wp_toB, wp_add, wp_abs, wp_neg, wp_lenL, pen0, pen1, pen2, put1, put2, decide_true, decide_false, if_true, if_false, Bool.false_eq_true, Nat.zero_le, exists_eq_left, and_true, true_and, Bool.not_true, Bool.not_false, reduceCtorEq, reduceIte, orV, wp_lenT, List.length_map, h2]
    refine ⟨_, rfl, ?_⟩
    rcases ns with _ | ⟨x, _ | ⟨y, t⟩⟩
    · rfl
    · rfl
    · simp only [List.length_cons] at h2; omega
  simp only [sSeq, sIf, sAsg, sRet, sNil, gSet, gPut, tst, b2, b1, cal, on1, aCons, vget, mkL, mkT, calF, andT, orT, notT, andV, notV, wp_bind, wp_pure, wp_if, List.map, List.length, List.replicate, List.append, List.cons_append, List.nil_append, Nat.reduceSub, Nat.reduceAdd, Nat.reduceLeDiff, List.getElem?_cons_zero, List.getElem?_cons_succ, List.set_cons_zero, List.set_cons_succ, wp_int, wp_intb, wp_int20, wp_toB, wp_add, wp_abs, wp_neg, wp_lenL, pen0, pen1, pen2, put1, put2, decide_true, decide_false, if_true, if_false, Bool.false_eq_true, Nat.zero_le, exists_eq_left, and_true, true_and, Bool.not_true, Bool.not_false, reduceCtorEq, reduceIte, orV, wp_lenT, h2, slc, parts, optI, slc_T, c, iZip, zipOf, zip_two, eLc, List.length_map, lz]
  refine wp_noErr ?_
  refine (wp_of (lcGo_two (fun p : Int × Int => D.int p.1) (fun p => D.int p.2) (fun p => D.bl (decide (p.1 < p.2))) _ ?_)).2 ?_
  rotate_left
  · simp only [sSeq, sIf, sAsg, sRet, sNil, gSet, gPut, tst, b2, b1, cal, on1, aCons, vget, mkL, mkT, calF, andT, orT, notT, andV, notV, wp_bind, wp_pure, wp_if, List.map, List.length, List.replicate, List.append, List.cons_append, List.nil_append, Nat.reduceSub, Nat.reduceAdd, Nat.reduceLeDiff, List.getElem?_cons_zero, List.getElem?_cons_succ, List.set_cons_zero, List.set_cons_succ, wp_int, wp_intb, wp_int20, wp_toB, wp_add, wp_abs, wp_neg, wp_lenL, pen0, pen1, pen2, put1, put2, decide_true, decide_false, if_true, if_false, Bool.false_eq_true, Nat.zero_le, exists_eq_left, and_true, true_and, Bool.not_true, Bool.not_false, reduceCtorEq, reduceIte, wp_all, zip_asc]
    exact ⟨_, rfl, rfl⟩
  · intro y _
    simp only [wipeE, List.foldr, List.set_cons_zero, List.set_cons_succ]
    refine eq_of_wp ?_
    simp [sSeq, sIf, sAsg, sRet, sNil, gSet, gPut, tst, b2, b1, cal, on1, aCons, vget, mkL, mkT, calF, andT, orT, notT, andV, notV, wp_bind, wp_pure, wp_if, List.map, List.length, List.replicate, List.append, List.cons_append, List.nil_append, Nat.reduceSub, Nat.reduceAdd, Nat.reduceLeDiff, List.getElem?_cons_zero, List.getElem?_cons_succ, List.set_cons_zero, List.set_cons_succ, wp_int, wp_intb, wp_int20, wp_toB, wp_add, wp_abs, wp_neg, wp_lenL, pen0, pen1, pen2, put1, put2, decide_true, decide_false, if_true, if_false, Bool.false_eq_true, Nat.zero_le, exists_eq_left, and_true, true_and, Bool.not_true, Bool.not_false, reduceCtorEq, reduceIte]
theorem eqNN {x z : Str} (hx : PyData.strOk x = true) (hz : PyData.strOk z = true) : Wp (eqM (.str x) (.str z)) S Q ↔ Q (.bl (x == z)) S := eqSS hx hz
theorem any_map {α : Type} (f : α → Bool) {ys : List α} : Wp (anyM (.lst (ys.map fun y => D.bl (f y)))) S Q ↔ Q (.bl (ys.any f)) S := wp_of (by
  simp only [anyM, asR, asC, bls_map]
  simp [List.any_map])
theorem in_ints {i : Int} {ns : List Int} : Wp (inM (.int i) (.tup (ns.map D.int))) S Q ↔ Q (.bl (decide (i ∈ ns))) S := wp_of (by
  have e : ∀ ns : List Int, flatL (ns.map D.int) = some (ns.map V.int) := by
    intro ns
    induction ns with
    | nil => rfl
    | cons n ns ih => simp [flatL, flatD, ih]
  have e2 : (ns.map V.int).all L2.flatV = true := by simp [L2.flatV]
  have e3 : L2.inV (.int i) (ns.map V.int) = decide (i ∈ ns) := by
    unfold L2.inV
    rw [List.any_map]
    by_cases h : i ∈ ns
    · rw [decide_eq_true h, List.any_eq_true]
      exact ⟨i, h, by simp [L2.eqV]⟩
    · rw [decide_eq_false h, List.any_eq_false]
      intro k hk
      have : k ≠ i := fun e => h (e ▸ hk)
      simp [L2.eqV, this]
  simp [inB, flatD, asQ, e, e2, e3, L2.flatV])
def intsD : D → List Int
  | .tup ds => (intsOf ds).getD []
  | _ => []
theorem ints_map : ∀ ns : List Int, intsOf (ns.map D.int) = some ns
  | [] => rfl
  | n :: ns => by simp [intsOf, ints_map ns]
/-- a kind of slots, behind the part before it -/
def slotsK (kind : Str) (p q : D) : Bool := slotsB p && !(kind == "tidied" && (intsD p).isEmpty) && !(kind == "marked" && (intsD p).any fun i => decide (i ∈ intsD q))
def areL : Env → M (Fl × Env) := (sSeq (sIf (notT (tst (calF 1 m_is_place (aCons (vget 1) (fun _ => M.pure []))))) (sSeq (sRet (fun _ => M.pure (.bl false)))
    sNil) sNil)
    sNil)
theorem are_eq : b__are_slots = (sSeq (sIf (notT (tst (b1 (isiM "tuple") (vget 0)))) (sSeq (sRet (fun _ => M.pure (.bl false)))
    sNil) sNil)
    (sSeq (sFor (iSeq (vget 0)) (gSet 1) areL)
    (sSeq (sRet (calF 1 m_is_ascending (aCons (vget 0) (fun _ => M.pure []))))
    sNil))) := rfl
theorem areLoop {v : D} : ∀ (xs : List D) (o : Option D), (∀ d ∈ xs, nrB d = true) →
    Wp (loop (gSet 1) areL xs [some v, o]) S fun r S' => S' = S ∧ (if xs.all (betw 0 7) = true then r.1 = .nx ∧ ∃ p, r.2 = [some v, p] else r.1 = .rt (.bl false))
  | [], o, _ => by
    simp only [loop, wp_pure]
    simp
  | x :: xs, o, h => by
    have hx := h x (by simp)
    simp only [loop, sSeq, sIf, sAsg, sRet, sNil, gSet, gPut, tst, b2, b1, cal, on1, aCons, vget, mkL, mkT, calF, andT, orT, notT, andV, notV, wp_bind, wp_pure, wp_if, List.map, List.length, List.replicate, List.append, List.cons_append, List.nil_append, Nat.reduceSub, Nat.reduceAdd, Nat.reduceLeDiff, List.getElem?_cons_zero, List.getElem?_cons_succ, List.set_cons_zero, List.set_cons_succ, wp_int, wp_intb, wp_int20, wp_toB, wp_add, wp_abs, wp_neg, wp_lenL, pen0, pen1, pen2, put1, put2, decide_true, decide_false, if_true, if_false, Bool.false_eq_true, Nat.zero_le, exists_eq_left, and_true, true_and, Bool.not_true, Bool.not_false, reduceCtorEq, reduceIte]
    unfold areL
    simp only [sSeq, sIf, sAsg, sRet, sNil, gSet, gPut, tst, b2, b1, cal, on1, aCons, vget, mkL, mkT, calF, andT, orT, notT, andV, notV, wp_bind, wp_pure, wp_if, List.map, List.length, List.replicate, List.append, List.cons_append, List.nil_append, Nat.reduceSub, Nat.reduceAdd, Nat.reduceLeDiff, List.getElem?_cons_zero, List.getElem?_cons_succ, List.set_cons_zero, List.set_cons_succ, wp_int, wp_intb, wp_int20, wp_toB, wp_add, wp_abs, wp_neg, wp_lenL, pen0, pen1, pen2, put1, put2, decide_true, decide_false, if_true, if_false, Bool.false_eq_true, Nat.zero_le, exists_eq_left, and_true, true_and, Bool.not_true, Bool.not_false, reduceCtorEq, reduceIte, wp_of (place_ok hx)]
    cases hb : betw 0 7 x
    · simp only [sSeq, sIf, sAsg, sRet, sNil, gSet, gPut, tst, b2, b1, cal, on1, aCons, vget, mkL, mkT, calF, andT, orT, notT, andV, notV, wp_bind, wp_pure, wp_if, List.map, List.length, List.replicate, List.append, List.cons_append, List.nil_append, Nat.reduceSub, Nat.reduceAdd, Nat.reduceLeDiff, List.getElem?_cons_zero, List.getElem?_cons_succ, List.set_cons_zero, List.set_cons_succ, wp_int, wp_intb, wp_int20, wp_toB, wp_add, wp_abs, wp_neg, wp_lenL, pen0, pen1, pen2, put1, put2, decide_true, decide_false, if_true, if_false, Bool.false_eq_true, Nat.zero_le, exists_eq_left, and_true, true_and, Bool.not_true, Bool.not_false, reduceCtorEq, reduceIte]
      simp [hb]
    · simp only [sSeq, sIf, sAsg, sRet, sNil, gSet, gPut, tst, b2, b1, cal, on1, aCons, vget, mkL, mkT, calF, andT, orT, notT, andV, notV, wp_bind, wp_pure, wp_if, List.map, List.length, List.replicate, List.append, List.cons_append, List.nil_append, Nat.reduceSub, Nat.reduceAdd, Nat.reduceLeDiff, List.getElem?_cons_zero, List.getElem?_cons_succ, List.set_cons_zero, List.set_cons_succ, wp_int, wp_intb, wp_int20, wp_toB, wp_add, wp_abs, wp_neg, wp_lenL, pen0, pen1, pen2, put1, put2, decide_true, decide_false, if_true, if_false, Bool.false_eq_true, Nat.zero_le, exists_eq_left, and_true, true_and, Bool.not_true, Bool.not_false, reduceCtorEq, reduceIte]
      rw [show (x :: xs).all (betw 0 7) = xs.all (betw 0 7) by simp [hb]]
      exact areLoop xs (some x) (fun d hd => h d (by simp [hd]))
theorem are_ok {p : D} (gp : partV p) : m__are_slots [p] S = some (.ok (.bl (slotsB p)), S) := by
  refine eq_of_wp ?_
  unfold m__are_slots
  refine wp_run ?_
  rw [are_eq]
  have gn := gp.nr
  cases p with
  | non => simp [sSeq, sIf, sAsg, sRet, sNil, gSet, gPut, tst, b2, b1, cal, on1, aCons, vget, mkL, mkT, calF, andT, orT, notT, andV, notV, wp_bind, wp_pure, wp_if, List.map, List.length, List.replicate, List.append, List.cons_append, List.nil_append, Nat.reduceSub, Nat.reduceAdd, Nat.reduceLeDiff, List.getElem?_cons_zero, List.getElem?_cons_succ, List.set_cons_zero, List.set_cons_succ, wp_int, wp_intb, wp_int20, wp_toB, wp_add, wp_abs, wp_neg, wp_lenL, pen0, pen1, pen2, put1, put2, decide_true, decide_false, if_true, if_false, Bool.false_eq_true, Nat.zero_le, exists_eq_left, and_true, true_and, Bool.not_true, Bool.not_false, reduceCtorEq, reduceIte, isi_nonT, slotsB]
  | bl k => simp [sSeq, sIf, sAsg, sRet, sNil, gSet, gPut, tst, b2, b1, cal, on1, aCons, vget, mkL, mkT, calF, andT, orT, notT, andV, notV, wp_bind, wp_pure, wp_if, List.map, List.length, List.replicate, List.append, List.cons_append, List.nil_append, Nat.reduceSub, Nat.reduceAdd, Nat.reduceLeDiff, List.getElem?_cons_zero, List.getElem?_cons_succ, List.set_cons_zero, List.set_cons_succ, wp_int, wp_intb, wp_int20, wp_toB, wp_add, wp_abs, wp_neg, wp_lenL, pen0, pen1, pen2, put1, put2, decide_true, decide_false, if_true, if_false, Bool.false_eq_true, Nat.zero_le, exists_eq_left, and_true, true_and, Bool.not_true, Bool.not_false, reduceCtorEq, reduceIte, isi_blT, slotsB]
  | int i => simp [sSeq, sIf, sAsg, sRet, sNil, gSet, gPut, tst, b2, b1, cal, on1, aCons, vget, mkL, mkT, calF, andT, orT, notT, andV, notV, wp_bind, wp_pure, wp_if, List.map, List.length, List.replicate, List.append, List.cons_append, List.nil_append, Nat.reduceSub, Nat.reduceAdd, Nat.reduceLeDiff, List.getElem?_cons_zero, List.getElem?_cons_succ, List.set_cons_zero, List.set_cons_succ, wp_int, wp_intb, wp_int20, wp_toB, wp_add, wp_abs, wp_neg, wp_lenL, pen0, pen1, pen2, put1, put2, decide_true, decide_false, if_true, if_false, Bool.false_eq_true, Nat.zero_le, exists_eq_left, and_true, true_and, Bool.not_true, Bool.not_false, reduceCtorEq, reduceIte, isi_intT, slotsB]
  | str ds => simp [sSeq, sIf, sAsg, sRet, sNil, gSet, gPut, tst, b2, b1, cal, on1, aCons, vget, mkL, mkT, calF, andT, orT, notT, andV, notV, wp_bind, wp_pure, wp_if, List.map, List.length, List.replicate, List.append, List.cons_append, List.nil_append, Nat.reduceSub, Nat.reduceAdd, Nat.reduceLeDiff, List.getElem?_cons_zero, List.getElem?_cons_succ, List.set_cons_zero, List.set_cons_succ, wp_int, wp_intb, wp_int20, wp_toB, wp_add, wp_abs, wp_neg, wp_lenL, pen0, pen1, pen2, put1, put2, decide_true, decide_false, if_true, if_false, Bool.false_eq_true, Nat.zero_le, exists_eq_left, and_true, true_and, Bool.not_true, Bool.not_false, reduceCtorEq, reduceIte, isi_strT, slotsB]
  | lst ds => simp [sSeq, sIf, sAsg, sRet, sNil, gSet, gPut, tst, b2, b1, cal, on1, aCons, vget, mkL, mkT, calF, andT, orT, notT, andV, notV, wp_bind, wp_pure, wp_if, List.map, List.length, List.replicate, List.append, List.cons_append, List.nil_append, Nat.reduceSub, Nat.reduceAdd, Nat.reduceLeDiff, List.getElem?_cons_zero, List.getElem?_cons_succ, List.set_cons_zero, List.set_cons_succ, wp_int, wp_intb, wp_int20, wp_toB, wp_add, wp_abs, wp_neg, wp_lenL, pen0, pen1, pen2, put1, put2, decide_true, decide_false, if_true, if_false, Bool.false_eq_true, Nat.zero_le, exists_eq_left, and_true, true_and, Bool.not_true, Bool.not_false, reduceCtorEq, reduceIte, isi_lstT, slotsB]
  | dct kv => simp [sSeq, sIf, sAsg, sRet, sNil, gSet, gPut, tst, b2, b1, cal, on1, aCons, vget, mkL, mkT, calF, andT, orT, notT, andV, notV, wp_bind, wp_pure, wp_if, List.map, List.length, List.replicate, List.append, List.cons_append, List.nil_append, Nat.reduceSub, Nat.reduceAdd, Nat.reduceLeDiff, List.getElem?_cons_zero, List.getElem?_cons_succ, List.set_cons_zero, List.set_cons_succ, wp_int, wp_intb, wp_int20, wp_toB, wp_add, wp_abs, wp_neg, wp_lenL, pen0, pen1, pen2, put1, put2, decide_true, decide_false, if_true, if_false, Bool.false_eq_true, Nat.zero_le, exists_eq_left, and_true, true_and, Bool.not_true, Bool.not_false, reduceCtorEq, reduceIte, isi_dctT, slotsB]
  | ref n => cases gn
  | lsr ds => cases gn
  | tup ds =>
    obtain ⟨gl, gd⟩ := gp.it ds rfl
    simp only [sSeq, sIf, sAsg, sRet, sNil, gSet, gPut, tst, b2, b1, cal, on1, aCons, vget, mkL, mkT, calF, andT, orT, notT, andV, notV, wp_bind, wp_pure, wp_if, List.map, List.length, List.replicate, List.append, List.cons_append, List.nil_append, Nat.reduceSub, Nat.reduceAdd, Nat.reduceLeDiff, List.getElem?_cons_zero, List.getElem?_cons_succ, List.set_cons_zero, List.set_cons_succ, wp_int, wp_intb, wp_int20, wp_toB, wp_add, wp_abs, wp_neg, wp_lenL, pen0, pen1, pen2, put1, put2, decide_true, decide_false, if_true, if_false, Bool.false_eq_true, Nat.zero_le, exists_eq_left, and_true, true_and, Bool.not_true, Bool.not_false, reduceCtorEq, reduceIte, isi_tupT, sFor, iSeq, wp_itT]
    refine (areLoop (v := .tup ds) ds none gd).mono ?_
    rintro ⟨f, ρ⟩ S' ⟨rfl, h⟩
    cases hb : ds.all (betw 0 7)
    · rw [hb] at h
      have h : f = .rt (.bl false) := by simpa using h
      subst h
      simp only [sSeq, sIf, sAsg, sRet, sNil, gSet, gPut, tst, b2, b1, cal, on1, aCons, vget, mkL, mkT, calF, andT, orT, notT, andV, notV, wp_bind, wp_pure, wp_if, List.map, List.length, List.replicate, List.append, List.cons_append, List.nil_append, Nat.reduceSub, Nat.reduceAdd, Nat.reduceLeDiff, List.getElem?_cons_zero, List.getElem?_cons_succ, List.set_cons_zero, List.set_cons_succ, wp_int, wp_intb, wp_int20, wp_toB, wp_add, wp_abs, wp_neg, wp_lenL, pen0, pen1, pen2, put1, put2, decide_true, decide_false, if_true, if_false, Bool.false_eq_true, Nat.zero_le, exists_eq_left, and_true, true_and, Bool.not_true, Bool.not_false, reduceCtorEq, reduceIte]
      exact ⟨_, rfl, by simp [slotsB, hb]⟩
    · rw [hb] at h
      obtain ⟨h1, p2, h2⟩ : f = .nx ∧ ∃ p, ρ = _ := by simpa using h
      subst h1 h2
      obtain ⟨ns, e1, e2⟩ := all_betw hb
      have hl : ns.length ≤ 50000 := by rw [e1, List.length_map] at gl; exact gl
      have A := asc_ok (S := S') hl
      rw [← e1] at A
      simp only [sSeq, sIf, sAsg, sRet, sNil, gSet, gPut, tst, b2, b1, cal, on1, aCons, vget, mkL, mkT, calF, andT, orT, notT, andV, notV, wp_bind, wp_pure, wp_if, List.map, List.length, List.replicate, List.append, List.cons_append, List.nil_append, Nat.reduceSub, Nat.reduceAdd, Nat.reduceLeDiff, List.getElem?_cons_zero, List.getElem?_cons_succ, List.set_cons_zero, List.set_cons_succ, wp_int, wp_intb, wp_int20, wp_toB, wp_add, wp_abs, wp_neg, wp_lenL, pen0, pen1, pen2, put1, put2, decide_true, decide_false, if_true, if_false, Bool.false_eq_true, Nat.zero_le, exists_eq_left, and_true, true_and, Bool.not_true, Bool.not_false, reduceCtorEq, reduceIte, wp_of A]
      exact ⟨_, rfl, by simp [slotsB, hb, e2]⟩
/-- one part behind the part before it -/
def ltB : D → D → Bool
  | .int i, .int j => decide (i < j)
  | _, _ => false
def fitK (kind : Str) (p q : D) : Bool :=
  if kind = "number" then betw 1 999999 p
  else if kind = "outer" then isNon p || (betw 1 999999 p && ltB p q)
  else if kind = "page" ∨ kind = "slot" then betw 0 7 p
  else if kind = "key" then wordB LET p
  else if kind = "value" then wordB ALN p
  else if kind = "view" then betw 0 999999 p
  else if kind = "told" then isNon p || betw 0 999999 p
  else slotsK kind p q
def KINDS : List Str := ["number", "outer", "page", "slot", "key", "value", "view", "told", "removed", "marked", "tidied"]
theorem kind_ok : ∀ k ∈ KINDS, PyData.strOk k = true := by decide +kernel
theorem inSS {x a b : Str} : Wp (inM (.str x) (.tup [.str a, .str b])) S Q ↔ Q (.bl (x == a || x == b)) S := wp_of (by
  have e2 : L2.inV (.str x) [.str a, .str b] = (x == a || x == b) := by
    unfold L2.inV
    simp [L2.eqV]
    rw [show (a == x) = (x == a) from BEq.comm, show (b == x) = (x == b) from BEq.comm]
  simp [inB, flatD, flatL, asQ, e2, L2.flatV])
theorem ne_of_beq_false {x y : Str} (h : (x == y) = false) : ¬ x = y := by
  intro e
  rw [e] at h
  simp at h
end
end Mi
namespace Mi
open PySem PySem.Spec PyProof.Rows L2
def fsR : List (Str × (List D → M D)) := [("open", m__is_open), ("put", m__is_put), ("change", m__is_change), ("strike", m__is_touching), ("lock", m__is_touching), ("refused", m__is_touching), ("commit", m__is_ending), ("abort", m__is_ending), ("prepare", m__is_prepare), ("clean", m__is_clean), ("tidy", m__is_tidy), ("sweep", m__is_bare), ("word", m__is_word), ("fall", m__is_bare)]
def rowEnd : Env → M (Fl × Env) := sDisp 2 1 fsR (vget 1) (aCons (vget 0) (fun _ => M.pure []))
theorem isrow_eq : b_is_row = (sSeq (sIf (orT (notT (tst (b1 (isiM "tuple") (vget 0)))) (orT (tst (b2 eqM (cal (on1 lenM) (aCons (vget 0) (fun _ => M.pure []))) (fun _ => M.pure (.int 0)))) (notT (tst (b1 (isiM "str") (b2 ixM (vget 0) (fun _ => M.pure (.int 0)))))))) (sSeq (sRet (fun _ => M.pure (.bl false)))
    sNil) sNil)
    (sSeq (sAsg (b2 ixM (vget 0) (fun _ => M.pure (.int 0))) (gSet 1))
    (sSeq (sIf (orT (tst (b1 (kdIn true tbl_FORMS) (vget 1))) (tst (b2 neM (cal (on1 lenM) (aCons (vget 0) (fun _ => M.pure []))) (b2 addM (cal (on1 lenM) (aCons (b1 (kdIx tbl_FORMS) (vget 1)) (fun _ => M.pure []))) (fun _ => M.pure (.int 1)))))) (sSeq (sRet (fun _ => M.pure (.bl false)))
    sNil) sNil) rowEnd))) := rfl
def FT : List (Str × List Str) := [("open", ["number", "outer"]), ("put", ["number", "page", "slot", "key", "value"]), ("change", ["number", "page", "slot", "page", "slot", "value"]), ("strike", ["number", "page", "slot"]), ("lock", ["number", "page", "slot"]), ("refused", ["number", "page", "slot"]), ("commit", ["number"]), ("abort", ["number"]), ("prepare", ["number", "view"]), ("clean", ["page", "removed", "marked"]), ("tidy", ["page", "tidied"]), ("sweep", []), ("word", ["told"]), ("fall", [])]
theorem tbl_eq : tbl_FORMS = FT.map fun p => (p.1, D.tup (p.2.map D.str)) := rfl
theorem lookup_map {α β : Type} {f : α → β} {x : Str} : ∀ {l : List (Str × α)}, (l.map fun p => (p.1, f p.2)).lookup x = (l.lookup x).map f
  | [] => rfl
  | (k, v) :: l => by
    simp only [List.map_cons, List.lookup]
    cases x == k
    · exact lookup_map
    · rfl
theorem FT_kinds : ∀ p ∈ FT, ∀ k ∈ p.2, k ∈ KINDS := by decide +kernel
theorem FT_len : ∀ p ∈ FT, p.2.length ≤ 6 := by decide +kernel
theorem mem_of_lookup {α : Type} {x : Str} {v : α} : ∀ {l : List (Str × α)}, l.lookup x = some v → ∃ k, (k, v) ∈ l
  | [], h => by simp at h
  | (k, w) :: l, h => by
    simp only [List.lookup] at h
    cases e : x == k
    · rw [e] at h
      obtain ⟨k2, h2⟩ := mem_of_lookup h
      exact ⟨k2, List.mem_cons_of_mem _ h2⟩
    · rw [e] at h
      cases h
      exact ⟨k, by simp⟩
def kget (ds : List D) (i : Nat) : D := ds.getD i .non
def fitsFrom (ds : List D) : Nat → List Str → Bool
  | _, [] => true
  | i, k :: ks => fitK k (kget ds (i + 1)) (kget ds i) && fitsFrom ds (i + 1) ks
def rowB : D → Bool
  | .tup (.str x :: ps) => match FT.lookup x with
    | some ks => (ps.length == ks.length) && fitsFrom (.str x :: ps) 0 ks
    | none => false
  | _ => false
section
variable {S : Sto} {v : D} {Q : D → Sto → Prop}
theorem ixG {ds : List D} {i : Nat} (h : i < ds.length) : Wp (ixM (.tup ds) (.int (i : Int))) S Q ↔ Q (kget ds i) S := ixT (by
  unfold kget
  rw [List.getD_eq_getElem?_getD, List.getElem?_eq_getElem h]; rfl)
theorem kget_mem {ds : List D} {i : Nat} (h : i < ds.length) : kget ds i ∈ ds := by
  unfold kget
  rw [List.getD_eq_getElem?_getD, List.getElem?_eq_getElem h]
  exact List.getElem_mem h
theorem mem_at {α : Type} {x : Str} {v : α} : ∀ {l : List (Str × α)}, l.lookup x = some v → (x, v) ∈ l
  | [], h => by simp at h
  | (k, w) :: l, h => by
    simp only [List.lookup] at h
    cases e : x == k
    · rw [e] at h
      exact List.mem_cons_of_mem _ (mem_at h)
    · rw [e] at h
      cases h
      rw [eq_of_beq e]
      exact List.mem_cons_self ..
theorem betw_int {lo hi : Int} {d : D} (h : betw lo hi d = true) : ∃ j, d = .int j := by
  cases d with
  | int j => exact ⟨j, rfl⟩
  | _ => cases h
theorem slotsB_tup {d : D} (h : slotsB d = true) : ∃ ns : List Int, d = .tup (ns.map D.int) ∧ ascB ns = true := by
  cases d with
  | tup ds =>
    simp only [slotsB, Bool.and_eq_true] at h
    obtain ⟨ns, e1, e2⟩ := all_betw h.1
    rw [e2] at h
    exact ⟨ns, by rw [e1], h.2⟩
  | _ => cases h
section
variable {x a b c e f g : D}
theorem ix1 {ps : List D} : Wp (ixM (.tup (x :: a :: ps)) (.int 1)) S Q ↔ Q a S := ixT (k := 1) rfl
theorem ix2 {ps : List D} : Wp (ixM (.tup (x :: a :: b :: ps)) (.int 2)) S Q ↔ Q b S := ixT (k := 2) rfl
theorem ix3 {ps : List D} : Wp (ixM (.tup (x :: a :: b :: c :: ps)) (.int 3)) S Q ↔ Q c S := ixT (k := 3) rfl
theorem ix4 {ps : List D} : Wp (ixM (.tup (x :: a :: b :: c :: e :: ps)) (.int 4)) S Q ↔ Q e S := ixT (k := 4) rfl
theorem ix5 {ps : List D} : Wp (ixM (.tup (x :: a :: b :: c :: e :: f :: ps)) (.int 5)) S Q ↔ Q f S := ixT (k := 5) rfl
theorem ix6 {ps : List D} : Wp (ixM (.tup (x :: a :: b :: c :: e :: f :: g :: ps)) (.int 6)) S Q ↔ Q g S := ixT (k := 6) rfl
theorem chk_open (ga : partV a) (gb : partV b) : m__is_open [.tup [x, a, b]] S = some (.ok (.bl (betw 1 999999 a && (isNon b || (betw 1 999999 b && ltB b a)))), S) := by
  refine eq_of_wp ?_
  unfold m__is_open
  refine wp_run ?_
  unfold b__is_open
  simp only [sSeq, sIf, sAsg, sRet, sNil, gSet, gPut, tst, b2, b1, cal, on1, aCons, vget, mkL, mkT, calF, andT, orT, notT, andV, notV, wp_bind, wp_pure, wp_if, List.map, List.length, List.replicate, List.append, List.cons_append, List.nil_append, Nat.reduceSub, Nat.reduceAdd, Nat.reduceLeDiff, List.getElem?_cons_zero, List.getElem?_cons_succ, List.set_cons_zero, List.set_cons_succ, wp_int, wp_intb, wp_int20, wp_toB, wp_add, wp_abs, wp_neg, wp_lenL, pen0, pen1, pen2, put1, put2, decide_true, decide_false, if_true, if_false, Bool.false_eq_true, Nat.zero_le, exists_eq_left, and_true, true_and, Bool.not_true, Bool.not_false, reduceCtorEq, reduceIte, ix1, ix2, orV, isN_any, wp_of (number_okB ga.nr), wp_of (number_okB gb.nr)]
  cases ha : betw 1 999999 a
  · simp
  · obtain ⟨j, rfl⟩ := betw_int ha
    cases hn : isNon b
    · cases hb : betw 1 999999 b
      · simp
      · obtain ⟨i, rfl⟩ := betw_int hb
        simp [sSeq, sIf, sAsg, sRet, sNil, gSet, gPut, tst, b2, b1, cal, on1, aCons, vget, mkL, mkT, calF, andT, orT, notT, andV, notV, wp_bind, wp_pure, wp_if, List.map, List.length, List.replicate, List.append, List.cons_append, List.nil_append, Nat.reduceSub, Nat.reduceAdd, Nat.reduceLeDiff, List.getElem?_cons_zero, List.getElem?_cons_succ, List.set_cons_zero, List.set_cons_succ, wp_int, wp_intb, wp_int20, wp_toB, wp_add, wp_abs, wp_neg, wp_lenL, pen0, pen1, pen2, put1, put2, decide_true, decide_false, if_true, if_false, Bool.false_eq_true, Nat.zero_le, exists_eq_left, and_true, true_and, Bool.not_true, Bool.not_false, reduceCtorEq, reduceIte, ltB]
    · simp
theorem chk_touch (ga : partV a) (gb : partV b) (gc : partV c) : m__is_touching [.tup [x, a, b, c]] S = some (.ok (.bl (betw 1 999999 a && (betw 0 7 b && betw 0 7 c))), S) := by
  refine eq_of_wp ?_
  unfold m__is_touching
  refine wp_run ?_
  unfold b__is_touching
  simp only [sSeq, sIf, sAsg, sRet, sNil, gSet, gPut, tst, b2, b1, cal, on1, aCons, vget, mkL, mkT, calF, andT, orT, notT, andV, notV, wp_bind, wp_pure, wp_if, List.map, List.length, List.replicate, List.append, List.cons_append, List.nil_append, Nat.reduceSub, Nat.reduceAdd, Nat.reduceLeDiff, List.getElem?_cons_zero, List.getElem?_cons_succ, List.set_cons_zero, List.set_cons_succ, wp_int, wp_intb, wp_int20, wp_toB, wp_add, wp_abs, wp_neg, wp_lenL, pen0, pen1, pen2, put1, put2, decide_true, decide_false, if_true, if_false, Bool.false_eq_true, Nat.zero_le, exists_eq_left, and_true, true_and, Bool.not_true, Bool.not_false, reduceCtorEq, reduceIte, ix1, ix2, ix3, wp_of (number_okB ga.nr), wp_of (place_ok gb.nr), wp_of (place_ok gc.nr)]
  cases betw 1 999999 a <;> cases betw 0 7 b <;> simp
theorem cut4 {ps : List D} : cutD (x :: a :: b :: c :: ps) none (some 4) = [x, a, b, c] := (cut_lo (n := 4) (by simp)).trans rfl
theorem chk_put (ga : partV a) (gb : partV b) (gc : partV c) (ge : partV e) (gf : partV f) : m__is_put [.tup [x, a, b, c, e, f]] S = some (.ok (.bl ((betw 1 999999 a && (betw 0 7 b && betw 0 7 c)) && (wordB LET e && wordB ALN f))), S) := by
  refine eq_of_wp ?_
  unfold m__is_put
  refine wp_run ?_
  unfold b__is_put
  simp only [sSeq, sIf, sAsg, sRet, sNil, gSet, gPut, tst, b2, b1, cal, on1, aCons, vget, mkL, mkT, calF, andT, orT, notT, andV, notV, wp_bind, wp_pure, wp_if, List.map, List.length, List.replicate, List.append, List.cons_append, List.nil_append, Nat.reduceSub, Nat.reduceAdd, Nat.reduceLeDiff, List.getElem?_cons_zero, List.getElem?_cons_succ, List.set_cons_zero, List.set_cons_succ, wp_int, wp_intb, wp_int20, wp_toB, wp_add, wp_abs, wp_neg, wp_lenL, pen0, pen1, pen2, put1, put2, decide_true, decide_false, if_true, if_false, Bool.false_eq_true, Nat.zero_le, exists_eq_left, and_true, true_and, Bool.not_true, Bool.not_false, reduceCtorEq, reduceIte, slc, parts, optI, slc_T, cut4, ix4, ix5, wp_of (chk_touch ga gb gc), wp_of (key_ok ge.ok), wp_of (value_ok gf.ok)]
  cases betw 1 999999 a && (betw 0 7 b && betw 0 7 c) <;> cases wordB LET e <;> simp
theorem chk_change (ga : partV a) (gb : partV b) (gc : partV c) (ge : partV e) (gf : partV f) (gg : partV g) : m__is_change [.tup [x, a, b, c, e, f, g]] S = some (.ok (.bl ((betw 1 999999 a && (betw 0 7 b && betw 0 7 c)) && (betw 0 7 e && (betw 0 7 f && wordB ALN g)))), S) := by
  refine eq_of_wp ?_
  unfold m__is_change
  refine wp_run ?_
  unfold b__is_change
  simp only [sSeq, sIf, sAsg, sRet, sNil, gSet, gPut, tst, b2, b1, cal, on1, aCons, vget, mkL, mkT, calF, andT, orT, notT, andV, notV, wp_bind, wp_pure, wp_if, List.map, List.length, List.replicate, List.append, List.cons_append, List.nil_append, Nat.reduceSub, Nat.reduceAdd, Nat.reduceLeDiff, List.getElem?_cons_zero, List.getElem?_cons_succ, List.set_cons_zero, List.set_cons_succ, wp_int, wp_intb, wp_int20, wp_toB, wp_add, wp_abs, wp_neg, wp_lenL, pen0, pen1, pen2, put1, put2, decide_true, decide_false, if_true, if_false, Bool.false_eq_true, Nat.zero_le, exists_eq_left, and_true, true_and, Bool.not_true, Bool.not_false, reduceCtorEq, reduceIte, slc, parts, optI, slc_T, cut4, ix4, ix5, ix6, wp_of (chk_touch ga gb gc), wp_of (place_ok ge.nr), wp_of (place_ok gf.nr), wp_of (value_ok gg.ok)]
  cases betw 1 999999 a && (betw 0 7 b && betw 0 7 c) <;> cases betw 0 7 e <;> cases betw 0 7 f <;> simp
theorem chk_end (ga : partV a) : m__is_ending [.tup [x, a]] S = some (.ok (.bl (betw 1 999999 a)), S) := by
  refine eq_of_wp ?_
  unfold m__is_ending
  refine wp_run ?_
  unfold b__is_ending
  simp only [sSeq, sIf, sAsg, sRet, sNil, gSet, gPut, tst, b2, b1, cal, on1, aCons, vget, mkL, mkT, calF, andT, orT, notT, andV, notV, wp_bind, wp_pure, wp_if, List.map, List.length, List.replicate, List.append, List.cons_append, List.nil_append, Nat.reduceSub, Nat.reduceAdd, Nat.reduceLeDiff, List.getElem?_cons_zero, List.getElem?_cons_succ, List.set_cons_zero, List.set_cons_succ, wp_int, wp_intb, wp_int20, wp_toB, wp_add, wp_abs, wp_neg, wp_lenL, pen0, pen1, pen2, put1, put2, decide_true, decide_false, if_true, if_false, Bool.false_eq_true, Nat.zero_le, exists_eq_left, and_true, true_and, Bool.not_true, Bool.not_false, reduceCtorEq, reduceIte, ix1, wp_of (number_okB ga.nr)]
  exact ⟨_, rfl, rfl⟩
theorem chk_prep (ga : partV a) (gb : partV b) : m__is_prepare [.tup [x, a, b]] S = some (.ok (.bl (betw 1 999999 a && betw 0 999999 b)), S) := by
  refine eq_of_wp ?_
  unfold m__is_prepare
  refine wp_run ?_
  unfold b__is_prepare
  simp only [sSeq, sIf, sAsg, sRet, sNil, gSet, gPut, tst, b2, b1, cal, on1, aCons, vget, mkL, mkT, calF, andT, orT, notT, andV, notV, wp_bind, wp_pure, wp_if, List.map, List.length, List.replicate, List.append, List.cons_append, List.nil_append, Nat.reduceSub, Nat.reduceAdd, Nat.reduceLeDiff, List.getElem?_cons_zero, List.getElem?_cons_succ, List.set_cons_zero, List.set_cons_succ, wp_int, wp_intb, wp_int20, wp_toB, wp_add, wp_abs, wp_neg, wp_lenL, pen0, pen1, pen2, put1, put2, decide_true, decide_false, if_true, if_false, Bool.false_eq_true, Nat.zero_le, exists_eq_left, and_true, true_and, Bool.not_true, Bool.not_false, reduceCtorEq, reduceIte, ix1, ix2, wp_of (number_okB ga.nr), wp_of (view_ok gb.nr)]
  cases betw 1 999999 a <;> simp
theorem chk_word (ga : partV a) : m__is_word [.tup [x, a]] S = some (.ok (.bl (isNon a || betw 0 999999 a)), S) := by
  refine eq_of_wp ?_
  unfold m__is_word
  refine wp_run ?_
  unfold b__is_word
  simp only [sSeq, sIf, sAsg, sRet, sNil, gSet, gPut, tst, b2, b1, cal, on1, aCons, vget, mkL, mkT, calF, andT, orT, notT, andV, notV, wp_bind, wp_pure, wp_if, List.map, List.length, List.replicate, List.append, List.cons_append, List.nil_append, Nat.reduceSub, Nat.reduceAdd, Nat.reduceLeDiff, List.getElem?_cons_zero, List.getElem?_cons_succ, List.set_cons_zero, List.set_cons_succ, wp_int, wp_intb, wp_int20, wp_toB, wp_add, wp_abs, wp_neg, wp_lenL, pen0, pen1, pen2, put1, put2, decide_true, decide_false, if_true, if_false, Bool.false_eq_true, Nat.zero_le, exists_eq_left, and_true, true_and, Bool.not_true, Bool.not_false, reduceCtorEq, reduceIte, ix1, orV, isN_any, wp_of (view_ok ga.nr)]
  cases isNon a <;> simp
theorem chk_bare : m__is_bare [.tup [x]] S = some (.ok (.bl true), S) := by
  refine eq_of_wp ?_
  unfold m__is_bare
  refine wp_run ?_
  unfold b__is_bare
  simp only [sSeq, sIf, sAsg, sRet, sNil, gSet, gPut, tst, b2, b1, cal, on1, aCons, vget, mkL, mkT, calF, andT, orT, notT, andV, notV, wp_bind, wp_pure, wp_if, List.map, List.length, List.replicate, List.append, List.cons_append, List.nil_append, Nat.reduceSub, Nat.reduceAdd, Nat.reduceLeDiff, List.getElem?_cons_zero, List.getElem?_cons_succ, List.set_cons_zero, List.set_cons_succ, wp_int, wp_intb, wp_int20, wp_toB, wp_add, wp_abs, wp_neg, wp_lenL, pen0, pen1, pen2, put1, put2, decide_true, decide_false, if_true, if_false, Bool.false_eq_true, Nat.zero_le, exists_eq_left, and_true, true_and, Bool.not_true, Bool.not_false, reduceCtorEq, reduceIte, wp_lenT, wp_eqI]
  exact ⟨_, rfl, rfl⟩
theorem int_nil {ns : List Int} : (((ns.map D.int).length : Int) == 0) = ns.isEmpty := by
  cases ns with
  | nil => rfl
  | cons n ns => simp; omega
theorem chk_tidy (ga : partV a) (gb : partV b) : m__is_tidy [.tup [x, a, b]] S = some (.ok (.bl (betw 0 7 a && (slotsB b && !(intsD b).isEmpty))), S) := by
  refine eq_of_wp ?_
  unfold m__is_tidy
  refine wp_run ?_
  unfold b__is_tidy
  simp only [sSeq, sIf, sAsg, sRet, sNil, gSet, gPut, tst, b2, b1, cal, on1, aCons, vget, mkL, mkT, calF, andT, orT, notT, andV, notV, wp_bind, wp_pure, wp_if, List.map, List.length, List.replicate, List.append, List.cons_append, List.nil_append, Nat.reduceSub, Nat.reduceAdd, Nat.reduceLeDiff, List.getElem?_cons_zero, List.getElem?_cons_succ, List.set_cons_zero, List.set_cons_succ, wp_int, wp_intb, wp_int20, wp_toB, wp_add, wp_abs, wp_neg, wp_lenL, pen0, pen1, pen2, put1, put2, decide_true, decide_false, if_true, if_false, Bool.false_eq_true, Nat.zero_le, exists_eq_left, and_true, true_and, Bool.not_true, Bool.not_false, reduceCtorEq, reduceIte, ix1, ix2, wp_of (place_ok ga.nr), wp_of (are_ok gb)]
  cases betw 0 7 a
  · simp
  · cases hb : slotsB b
    · simp
    · obtain ⟨ns, rfl, _⟩ := slotsB_tup hb
      have hI : intsD (.tup (ns.map D.int)) = ns := by simp [intsD, ints_map]
      have h0 : decide ((0 : Int) < ((ns.map D.int).length : Int)) = !ns.isEmpty := by
        rw [← int_nil]
        by_cases h : ((ns.map D.int).length : Int) = 0
        · rw [h]; rfl
        · have h1 : (((ns.map D.int).length : Int) == 0) = false := by simpa using h
          rw [h1]
          exact decide_eq_true (by omega)
      simp only [sSeq, sIf, sAsg, sRet, sNil, gSet, gPut, tst, b2, b1, cal, on1, aCons, vget, mkL, mkT, calF, andT, orT, notT, andV, notV, wp_bind, wp_pure, wp_if, List.map, List.length, List.replicate, List.append, List.cons_append, List.nil_append, Nat.reduceSub, Nat.reduceAdd, Nat.reduceLeDiff, List.getElem?_cons_zero, List.getElem?_cons_succ, List.set_cons_zero, List.set_cons_succ, wp_int, wp_intb, wp_int20, wp_toB, wp_add, wp_abs, wp_neg, wp_lenL, pen0, pen1, pen2, put1, put2, decide_true, decide_false, if_true, if_false, Bool.false_eq_true, Nat.zero_le, exists_eq_left, and_true, true_and, Bool.not_true, Bool.not_false, reduceCtorEq, reduceIte, wp_lenT, hI, h0]
      simp
theorem cut2 {ps : List D} : cutD (x :: a :: ps) (some 2) none = ps := (cut_hi (n := 2) (by simp)).trans rfl
theorem chk_clean (ga : partV a) (gb : partV b) (gc : partV c) : m__is_clean [.tup [x, a, b, c]] S = some (.ok (.bl (betw 0 7 a && (slotsB b && (slotsB c && !(intsD c).any fun i => decide (i ∈ intsD b))))), S) := by
  refine eq_of_wp ?_
  unfold m__is_clean
  refine wp_run ?_
  unfold b__is_clean
  simp only [sSeq, sIf, sAsg, sRet, sNil, gSet, gPut, tst, b2, b1, cal, on1, aCons, vget, mkL, mkT, calF, andT, orT, notT, andV, notV, wp_bind, wp_pure, wp_if, List.map, List.length, List.replicate, List.append, List.cons_append, List.nil_append, Nat.reduceSub, Nat.reduceAdd, Nat.reduceLeDiff, List.getElem?_cons_zero, List.getElem?_cons_succ, List.set_cons_zero, List.set_cons_succ, wp_int, wp_intb, wp_int20, wp_toB, wp_add, wp_abs, wp_neg, wp_lenL, pen0, pen1, pen2, put1, put2, decide_true, decide_false, if_true, if_false, Bool.false_eq_true, Nat.zero_le, exists_eq_left, and_true, true_and, Bool.not_true, Bool.not_false, reduceCtorEq, reduceIte, slc, parts, optI, slc_T, cut2, gTwo, ix1, wp_of (place_ok ga.nr), wp_of (are_ok gb), wp_of (are_ok gc)]
  cases betw 0 7 a
  · simp
  · cases hb : slotsB b
    · simp
    · cases hc : slotsB c
      · simp
      · obtain ⟨ns, rfl, _⟩ := slotsB_tup hb
        obtain ⟨ms, rfl, _⟩ := slotsB_tup hc
        have hI : intsD (.tup (ns.map D.int)) = ns := by simp [intsD, ints_map]
        have hJ : intsD (.tup (ms.map D.int)) = ms := by simp [intsD, ints_map]
        have l2 := (gc.it _ rfl).1
        simp only [sSeq, sIf, sAsg, sRet, sNil, gSet, gPut, tst, b2, b1, cal, on1, aCons, vget, mkL, mkT, calF, andT, orT, notT, andV, notV, wp_bind, wp_pure, wp_if, List.map, List.length, List.replicate, List.append, List.cons_append, List.nil_append, Nat.reduceSub, Nat.reduceAdd, Nat.reduceLeDiff, List.getElem?_cons_zero, List.getElem?_cons_succ, List.set_cons_zero, List.set_cons_succ, wp_int, wp_intb, wp_int20, wp_toB, wp_add, wp_abs, wp_neg, wp_lenL, pen0, pen1, pen2, put1, put2, decide_true, decide_false, if_true, if_false, Bool.false_eq_true, Nat.zero_le, exists_eq_left, and_true, true_and, Bool.not_true, Bool.not_false, reduceCtorEq, reduceIte, orV, wp_lenT, wp_eqI, int_nil, hI, hJ]
        cases hn : ns.isEmpty
        · simp only [sSeq, sIf, sAsg, sRet, sNil, gSet, gPut, tst, b2, b1, cal, on1, aCons, vget, mkL, mkT, calF, andT, orT, notT, andV, notV, wp_bind, wp_pure, wp_if, List.map, List.length, List.replicate, List.append, List.cons_append, List.nil_append, Nat.reduceSub, Nat.reduceAdd, Nat.reduceLeDiff, List.getElem?_cons_zero, List.getElem?_cons_succ, List.set_cons_zero, List.set_cons_succ, wp_int, wp_intb, wp_int20, wp_toB, wp_add, wp_abs, wp_neg, wp_lenL, pen0, pen1, pen2, put1, put2, decide_true, decide_false, if_true, if_false, Bool.false_eq_true, Nat.zero_le, exists_eq_left, and_true, true_and, Bool.not_true, Bool.not_false, reduceCtorEq, reduceIte, iSeq, wp_itT, eLc, l2]
          rw [wp_lc (g := D.int) (f := fun i => D.bl (decide (i ∈ ns))) (p := fun _ => true)]
          · rw [List.filter_eq_self.2 (fun _ _ => rfl)]
            simp only [sSeq, sIf, sAsg, sRet, sNil, gSet, gPut, tst, b2, b1, cal, on1, aCons, vget, mkL, mkT, calF, andT, orT, notT, andV, notV, wp_bind, wp_pure, wp_if, List.map, List.length, List.replicate, List.append, List.cons_append, List.nil_append, Nat.reduceSub, Nat.reduceAdd, Nat.reduceLeDiff, List.getElem?_cons_zero, List.getElem?_cons_succ, List.set_cons_zero, List.set_cons_succ, wp_int, wp_intb, wp_int20, wp_toB, wp_add, wp_abs, wp_neg, wp_lenL, pen0, pen1, pen2, put1, put2, decide_true, decide_false, if_true, if_false, Bool.false_eq_true, Nat.zero_le, exists_eq_left, and_true, true_and, Bool.not_true, Bool.not_false, reduceCtorEq, reduceIte, any_map]
            simp
          · intro y _; rfl
          · intro y _ _
            simp only [wipeE, List.foldr, List.set_cons_zero, List.set_cons_succ]
            refine eq_of_wp ?_
            simp only [sSeq, sIf, sAsg, sRet, sNil, gSet, gPut, tst, b2, b1, cal, on1, aCons, vget, mkL, mkT, calF, andT, orT, notT, andV, notV, wp_bind, wp_pure, wp_if, List.map, List.length, List.replicate, List.append, List.cons_append, List.nil_append, Nat.reduceSub, Nat.reduceAdd, Nat.reduceLeDiff, List.getElem?_cons_zero, List.getElem?_cons_succ, List.set_cons_zero, List.set_cons_succ, wp_int, wp_intb, wp_int20, wp_toB, wp_add, wp_abs, wp_neg, wp_lenL, pen0, pen1, pen2, put1, put2, decide_true, decide_false, if_true, if_false, Bool.false_eq_true, Nat.zero_le, exists_eq_left, and_true, true_and, Bool.not_true, Bool.not_false, reduceCtorEq, reduceIte, in_ints]
        · have : ns = [] := by simpa using hn
          subst this
          simp [sSeq, sIf, sAsg, sRet, sNil, gSet, gPut, tst, b2, b1, cal, on1, aCons, vget, mkL, mkT, calF, andT, orT, notT, andV, notV, wp_bind, wp_pure, wp_if, List.map, List.length, List.replicate, List.append, List.cons_append, List.nil_append, Nat.reduceSub, Nat.reduceAdd, Nat.reduceLeDiff, List.getElem?_cons_zero, List.getElem?_cons_succ, List.set_cons_zero, List.set_cons_succ, wp_int, wp_intb, wp_int20, wp_toB, wp_add, wp_abs, wp_neg, wp_lenL, pen0, pen1, pen2, put1, put2, decide_true, decide_false, if_true, if_false, Bool.false_eq_true, Nat.zero_le, exists_eq_left, and_true, true_and, Bool.not_true, Bool.not_false, reduceCtorEq, reduceIte]
end
theorem row_cases {x : Str} {ks : List Str} {ps : List D} (h : (x, ks) ∈ FT) (hl : ps.length = ks.length) (gd : ∀ d ∈ ps, partV d) : ∃ f, fsR.lookup x = some f ∧ ∀ S, f [.tup (.str x :: ps)] S = some (.ok (.bl (fitsFrom (.str x :: ps) 0 ks)), S) := by
  have l1 : ∀ {ps : List D}, ps.length = 1 → ∃ a, ps = [a] := fun {ps} h => by
    rcases ps with _ | ⟨a, _ | ⟨b, t⟩⟩ <;> simp at h
    exact ⟨a, rfl⟩
  have l2 : ∀ {ps : List D}, ps.length = 2 → ∃ a b, ps = [a, b] := fun {ps} h => by
    rcases ps with _ | ⟨a, t⟩ <;> simp at h
    obtain ⟨b, rfl⟩ := l1 h
    exact ⟨a, b, rfl⟩
  have l3 : ∀ {ps : List D}, ps.length = 3 → ∃ a b c, ps = [a, b, c] := fun {ps} h => by
    rcases ps with _ | ⟨a, t⟩ <;> simp at h
    obtain ⟨b, c, rfl⟩ := l2 h
    exact ⟨a, b, c, rfl⟩
  have l5 : ∀ {ps : List D}, ps.length = 5 → ∃ a b c d e, ps = [a, b, c, d, e] := fun {ps} h => by
    rcases ps with _ | ⟨a, _ | ⟨b, t⟩⟩ <;> simp at h
    obtain ⟨c, d, e, rfl⟩ := l3 h
    exact ⟨a, b, c, d, e, rfl⟩
  have l6 : ∀ {ps : List D}, ps.length = 6 → ∃ a b c d e f, ps = [a, b, c, d, e, f] := fun {ps} h => by
    rcases ps with _ | ⟨a, t⟩ <;> simp at h
    obtain ⟨b, c, d, e, f, rfl⟩ := l5 h
    exact ⟨a, b, c, d, e, f, rfl⟩
  simp only [FT, List.mem_cons, List.not_mem_nil, or_false, Prod.mk.injEq] at h
  rcases h with ⟨rfl, rfl⟩ | ⟨rfl, rfl⟩ | ⟨rfl, rfl⟩ | ⟨rfl, rfl⟩ | ⟨rfl, rfl⟩ | ⟨rfl, rfl⟩ | ⟨rfl, rfl⟩ | ⟨rfl, rfl⟩ | ⟨rfl, rfl⟩ | ⟨rfl, rfl⟩ | ⟨rfl, rfl⟩ | ⟨rfl, rfl⟩ | ⟨rfl, rfl⟩ | ⟨rfl, rfl⟩
  · obtain ⟨a, b, rfl⟩ := l2 hl
    refine ⟨_, rfl, fun S => ?_⟩
    rw [chk_open (gd a (by simp)) (gd b (by simp))]
    show _ = some (Except.ok (D.bl (betw 1 999999 a && ((isNon b || (betw 1 999999 b && ltB b a)) && true))), S)
    rw [Bool.and_true]
  · obtain ⟨a, b, c, e, f, rfl⟩ := l5 hl
    refine ⟨_, rfl, fun S => ?_⟩
    rw [chk_put (gd a (by simp)) (gd b (by simp)) (gd c (by simp)) (gd e (by simp)) (gd f (by simp))]
    show _ = some (Except.ok (D.bl (betw 1 999999 a && (betw 0 7 b && (betw 0 7 c && (wordB LET e && (wordB ALN f && true)))))), S)
    rw [Bool.and_true, Bool.and_assoc, Bool.and_assoc]
  · obtain ⟨a, b, c, e, f, g, rfl⟩ := l6 hl
    refine ⟨_, rfl, fun S => ?_⟩
    rw [chk_change (gd a (by simp)) (gd b (by simp)) (gd c (by simp)) (gd e (by simp)) (gd f (by simp)) (gd g (by simp))]
    show _ = some (Except.ok (D.bl (betw 1 999999 a && (betw 0 7 b && (betw 0 7 c && (betw 0 7 e && (betw 0 7 f && (wordB ALN g && true))))))), S)
    rw [Bool.and_true, Bool.and_assoc, Bool.and_assoc]
  · obtain ⟨a, b, c, rfl⟩ := l3 hl
    refine ⟨_, rfl, fun S => ?_⟩
    rw [chk_touch (gd a (by simp)) (gd b (by simp)) (gd c (by simp))]
    show _ = some (Except.ok (D.bl (betw 1 999999 a && (betw 0 7 b && (betw 0 7 c && true)))), S)
    rw [Bool.and_true]
  · obtain ⟨a, b, c, rfl⟩ := l3 hl
    refine ⟨_, rfl, fun S => ?_⟩
    rw [chk_touch (gd a (by simp)) (gd b (by simp)) (gd c (by simp))]
    show _ = some (Except.ok (D.bl (betw 1 999999 a && (betw 0 7 b && (betw 0 7 c && true)))), S)
    rw [Bool.and_true]
  · obtain ⟨a, b, c, rfl⟩ := l3 hl
    refine ⟨_, rfl, fun S => ?_⟩
    rw [chk_touch (gd a (by simp)) (gd b (by simp)) (gd c (by simp))]
    show _ = some (Except.ok (D.bl (betw 1 999999 a && (betw 0 7 b && (betw 0 7 c && true)))), S)
    rw [Bool.and_true]
  · obtain ⟨a, rfl⟩ := l1 hl
    refine ⟨_, rfl, fun S => ?_⟩
    rw [chk_end (gd a (by simp))]
    show _ = some (Except.ok (D.bl (betw 1 999999 a && true)), S)
    rw [Bool.and_true]
  · obtain ⟨a, rfl⟩ := l1 hl
    refine ⟨_, rfl, fun S => ?_⟩
    rw [chk_end (gd a (by simp))]
    show _ = some (Except.ok (D.bl (betw 1 999999 a && true)), S)
    rw [Bool.and_true]
  · obtain ⟨a, b, rfl⟩ := l2 hl
    refine ⟨_, rfl, fun S => ?_⟩
    rw [chk_prep (gd a (by simp)) (gd b (by simp))]
    show _ = some (Except.ok (D.bl (betw 1 999999 a && (betw 0 999999 b && true))), S)
    rw [Bool.and_true]
  · obtain ⟨a, b, c, rfl⟩ := l3 hl
    refine ⟨_, rfl, fun S => ?_⟩
    rw [chk_clean (gd a (by simp)) (gd b (by simp)) (gd c (by simp))]
    have s1 : slotsK "removed" b a = slotsB b := by
      show (slotsB b && !(false && _) && !(false && _)) = _
      simp
    have s2 : slotsK "marked" c b = (slotsB c && !(intsD c).any fun i => decide (i ∈ intsD b)) := by
      show (slotsB c && !(false && _) && !(true && _)) = _
      simp
    show _ = some (Except.ok (D.bl (betw 0 7 a && (slotsK "removed" b a && (slotsK "marked" c b && true)))), S)
    rw [Bool.and_true, s1, s2]
  · obtain ⟨a, b, rfl⟩ := l2 hl
    refine ⟨_, rfl, fun S => ?_⟩
    rw [chk_tidy (gd a (by simp)) (gd b (by simp))]
    have s1 : slotsK "tidied" b a = (slotsB b && !(intsD b).isEmpty) := by
      show (slotsB b && !(true && _) && !(false && _)) = _
      simp
    show _ = some (Except.ok (D.bl (betw 0 7 a && (slotsK "tidied" b a && true))), S)
    rw [Bool.and_true, s1]
  · obtain rfl := List.length_eq_zero_iff.1 hl
    exact ⟨_, rfl, fun S => chk_bare⟩
  · obtain ⟨a, rfl⟩ := l1 hl
    refine ⟨_, rfl, fun S => ?_⟩
    rw [chk_word (gd a (by simp))]
    show _ = some (Except.ok (D.bl ((isNon a || betw 0 999999 a) && true)), S)
    rw [Bool.and_true]
  · obtain rfl := List.length_eq_zero_iff.1 hl
    exact ⟨_, rfl, fun S => chk_bare⟩
theorem tbl_get {x : Str} : tbl_FORMS.lookup x = (FT.lookup x).map fun ks => D.tup (ks.map D.str) := by
  rw [tbl_eq]
  exact lookup_map (f := fun ks : List Str => D.tup (ks.map D.str))
theorem kdNin_S {x : Str} : Wp (kdIn true tbl_FORMS (.str x)) S Q ↔ Q (.bl (!(FT.lookup x).isSome)) S := wp_of (by
  simp only [kdIn, M.pure, tbl_get]
  cases FT.lookup x <;> rfl)
theorem kdIx_S {x : Str} {ks : List Str} (h : FT.lookup x = some ks) : Wp (kdIx tbl_FORMS (.str x)) S Q ↔ Q (.tup (ks.map D.str)) S := wp_of (by
  simp only [kdIx, tbl_get, h]
  rfl)
theorem end_ok {x : Str} {ps : List D} {f : List D → M D} {b : Bool} (hf : fsR.lookup x = some f) (h : f [.tup (.str x :: ps)] S = some (.ok (.bl b), S)) :
    Wp (rowEnd [some (.tup (.str x :: ps)), some (.str x), none]) S fun r S' => ∃ d, r.1 = .rt d ∧ d = .bl b ∧ S' = S := by
  unfold rowEnd sDisp
  simp only [sSeq, sIf, sAsg, sRet, sNil, gSet, gPut, tst, b2, b1, cal, on1, aCons, vget, mkL, mkT, calF, andT, orT, notT, andV, notV, wp_bind, wp_pure, wp_if, List.map, List.length, List.replicate, List.append, List.cons_append, List.nil_append, Nat.reduceSub, Nat.reduceAdd, Nat.reduceLeDiff, List.getElem?_cons_zero, List.getElem?_cons_succ, List.set_cons_zero, List.set_cons_succ, wp_int, wp_intb, wp_int20, wp_toB, wp_add, wp_abs, wp_neg, wp_lenL, pen0, pen1, pen2, put1, put2, decide_true, decide_false, if_true, if_false, Bool.false_eq_true, Nat.zero_le, exists_eq_left, and_true, true_and, Bool.not_true, Bool.not_false, reduceCtorEq, reduceIte, hf]
  rw [if_pos (by decide)]
  simp only [sSeq, sIf, sAsg, sRet, sNil, gSet, gPut, tst, b2, b1, cal, on1, aCons, vget, mkL, mkT, calF, andT, orT, notT, andV, notV, wp_bind, wp_pure, wp_if, List.map, List.length, List.replicate, List.append, List.cons_append, List.nil_append, Nat.reduceSub, Nat.reduceAdd, Nat.reduceLeDiff, List.getElem?_cons_zero, List.getElem?_cons_succ, List.set_cons_zero, List.set_cons_succ, wp_int, wp_intb, wp_int20, wp_toB, wp_add, wp_abs, wp_neg, wp_lenL, pen0, pen1, pen2, put1, put2, decide_true, decide_false, if_true, if_false, Bool.false_eq_true, Nat.zero_le, exists_eq_left, and_true, true_and, Bool.not_true, Bool.not_false, reduceCtorEq, reduceIte, wp_of h]
  exact ⟨_, rfl, rfl⟩
theorem row_ok (gn : nrB v = true) (gt : ∀ ds, v = .tup ds → ds.length ≤ 50000 ∧ ∀ d ∈ ds, partV d) : m_is_row [v] S = some (.ok (.bl (rowB v)), S) := by
  refine eq_of_wp ?_
  unfold m_is_row
  refine wp_run ?_
  rw [isrow_eq]
  cases v with
  | non => simp [sSeq, sIf, sAsg, sRet, sNil, gSet, gPut, tst, b2, b1, cal, on1, aCons, vget, mkL, mkT, calF, andT, orT, notT, andV, notV, wp_bind, wp_pure, wp_if, List.map, List.length, List.replicate, List.append, List.cons_append, List.nil_append, Nat.reduceSub, Nat.reduceAdd, Nat.reduceLeDiff, List.getElem?_cons_zero, List.getElem?_cons_succ, List.set_cons_zero, List.set_cons_succ, wp_int, wp_intb, wp_int20, wp_toB, wp_add, wp_abs, wp_neg, wp_lenL, pen0, pen1, pen2, put1, put2, decide_true, decide_false, if_true, if_false, Bool.false_eq_true, Nat.zero_le, exists_eq_left, and_true, true_and, Bool.not_true, Bool.not_false, reduceCtorEq, reduceIte, isi_nonT, rowB]
  | bl k => simp [sSeq, sIf, sAsg, sRet, sNil, gSet, gPut, tst, b2, b1, cal, on1, aCons, vget, mkL, mkT, calF, andT, orT, notT, andV, notV, wp_bind, wp_pure, wp_if, List.map, List.length, List.replicate, List.append, List.cons_append, List.nil_append, Nat.reduceSub, Nat.reduceAdd, Nat.reduceLeDiff, List.getElem?_cons_zero, List.getElem?_cons_succ, List.set_cons_zero, List.set_cons_succ, wp_int, wp_intb, wp_int20, wp_toB, wp_add, wp_abs, wp_neg, wp_lenL, pen0, pen1, pen2, put1, put2, decide_true, decide_false, if_true, if_false, Bool.false_eq_true, Nat.zero_le, exists_eq_left, and_true, true_and, Bool.not_true, Bool.not_false, reduceCtorEq, reduceIte, isi_blT, rowB]
  | int i => simp [sSeq, sIf, sAsg, sRet, sNil, gSet, gPut, tst, b2, b1, cal, on1, aCons, vget, mkL, mkT, calF, andT, orT, notT, andV, notV, wp_bind, wp_pure, wp_if, List.map, List.length, List.replicate, List.append, List.cons_append, List.nil_append, Nat.reduceSub, Nat.reduceAdd, Nat.reduceLeDiff, List.getElem?_cons_zero, List.getElem?_cons_succ, List.set_cons_zero, List.set_cons_succ, wp_int, wp_intb, wp_int20, wp_toB, wp_add, wp_abs, wp_neg, wp_lenL, pen0, pen1, pen2, put1, put2, decide_true, decide_false, if_true, if_false, Bool.false_eq_true, Nat.zero_le, exists_eq_left, and_true, true_and, Bool.not_true, Bool.not_false, reduceCtorEq, reduceIte, isi_intT, rowB]
  | str ds => simp [sSeq, sIf, sAsg, sRet, sNil, gSet, gPut, tst, b2, b1, cal, on1, aCons, vget, mkL, mkT, calF, andT, orT, notT, andV, notV, wp_bind, wp_pure, wp_if, List.map, List.length, List.replicate, List.append, List.cons_append, List.nil_append, Nat.reduceSub, Nat.reduceAdd, Nat.reduceLeDiff, List.getElem?_cons_zero, List.getElem?_cons_succ, List.set_cons_zero, List.set_cons_succ, wp_int, wp_intb, wp_int20, wp_toB, wp_add, wp_abs, wp_neg, wp_lenL, pen0, pen1, pen2, put1, put2, decide_true, decide_false, if_true, if_false, Bool.false_eq_true, Nat.zero_le, exists_eq_left, and_true, true_and, Bool.not_true, Bool.not_false, reduceCtorEq, reduceIte, isi_strT, rowB]
  | lst ds => simp [sSeq, sIf, sAsg, sRet, sNil, gSet, gPut, tst, b2, b1, cal, on1, aCons, vget, mkL, mkT, calF, andT, orT, notT, andV, notV, wp_bind, wp_pure, wp_if, List.map, List.length, List.replicate, List.append, List.cons_append, List.nil_append, Nat.reduceSub, Nat.reduceAdd, Nat.reduceLeDiff, List.getElem?_cons_zero, List.getElem?_cons_succ, List.set_cons_zero, List.set_cons_succ, wp_int, wp_intb, wp_int20, wp_toB, wp_add, wp_abs, wp_neg, wp_lenL, pen0, pen1, pen2, put1, put2, decide_true, decide_false, if_true, if_false, Bool.false_eq_true, Nat.zero_le, exists_eq_left, and_true, true_and, Bool.not_true, Bool.not_false, reduceCtorEq, reduceIte, isi_lstT, rowB]
  | dct kv => simp [sSeq, sIf, sAsg, sRet, sNil, gSet, gPut, tst, b2, b1, cal, on1, aCons, vget, mkL, mkT, calF, andT, orT, notT, andV, notV, wp_bind, wp_pure, wp_if, List.map, List.length, List.replicate, List.append, List.cons_append, List.nil_append, Nat.reduceSub, Nat.reduceAdd, Nat.reduceLeDiff, List.getElem?_cons_zero, List.getElem?_cons_succ, List.set_cons_zero, List.set_cons_succ, wp_int, wp_intb, wp_int20, wp_toB, wp_add, wp_abs, wp_neg, wp_lenL, pen0, pen1, pen2, put1, put2, decide_true, decide_false, if_true, if_false, Bool.false_eq_true, Nat.zero_le, exists_eq_left, and_true, true_and, Bool.not_true, Bool.not_false, reduceCtorEq, reduceIte, isi_dctT, rowB]
  | ref n => cases gn
  | lsr ds => cases gn
  | tup ds =>
    obtain ⟨gl, gd⟩ := gt ds rfl
    rcases ds with _ | ⟨t, ps⟩
    · simp [sSeq, sIf, sAsg, sRet, sNil, gSet, gPut, tst, b2, b1, cal, on1, aCons, vget, mkL, mkT, calF, andT, orT, notT, andV, notV, wp_bind, wp_pure, wp_if, List.map, List.length, List.replicate, List.append, List.cons_append, List.nil_append, Nat.reduceSub, Nat.reduceAdd, Nat.reduceLeDiff, List.getElem?_cons_zero, List.getElem?_cons_succ, List.set_cons_zero, List.set_cons_succ, wp_int, wp_intb, wp_int20, wp_toB, wp_add, wp_abs, wp_neg, wp_lenL, pen0, pen1, pen2, put1, put2, decide_true, decide_false, if_true, if_false, Bool.false_eq_true, Nat.zero_le, exists_eq_left, and_true, true_and, Bool.not_true, Bool.not_false, reduceCtorEq, reduceIte, isi_tupT, wp_lenT, wp_eqI, rowB]
    · have ht := gd t (by simp)
      have L : ∀ {S : Sto} {Q : D → Sto → Prop}, Wp (lenM (.tup (t :: ps))) S Q ↔ Q (.int ((ps.length : Int) + 1)) S := by
        intro S Q
        rw [wp_lenT]
        have : ((t :: ps).length : Int) = (ps.length : Int) + 1 := by simp only [List.length_cons]; omega
        rw [this]
      have i0 : ∀ {S : Sto} {Q : D → Sto → Prop}, Wp (ixM (.tup (t :: ps)) (.int 0)) S Q ↔ Q t S := ixT (k := 0) rfl
      have e0 : ((ps.length : Int) + 1 == 0) = false := by simp; omega
      cases t with
      | str x =>
        simp only [sSeq, sIf, sAsg, sRet, sNil, gSet, gPut, tst, b2, b1, cal, on1, aCons, vget, mkL, mkT, calF, andT, orT, notT, andV, notV, wp_bind, wp_pure, wp_if, List.map, List.length, List.replicate, List.append, List.cons_append, List.nil_append, Nat.reduceSub, Nat.reduceAdd, Nat.reduceLeDiff, List.getElem?_cons_zero, List.getElem?_cons_succ, List.set_cons_zero, List.set_cons_succ, wp_int, wp_intb, wp_int20, wp_toB, wp_add, wp_abs, wp_neg, wp_lenL, pen0, pen1, pen2, put1, put2, decide_true, decide_false, if_true, if_false, Bool.false_eq_true, Nat.zero_le, exists_eq_left, and_true, true_and, Bool.not_true, Bool.not_false, reduceCtorEq, reduceIte, isi_tupT, L, wp_eqI, e0, i0, isi_strS, kdNin_S]
        cases hx : FT.lookup x with
        | none =>
          simp only [sSeq, sIf, sAsg, sRet, sNil, gSet, gPut, tst, b2, b1, cal, on1, aCons, vget, mkL, mkT, calF, andT, orT, notT, andV, notV, wp_bind, wp_pure, wp_if, List.map, List.length, List.replicate, List.append, List.cons_append, List.nil_append, Nat.reduceSub, Nat.reduceAdd, Nat.reduceLeDiff, List.getElem?_cons_zero, List.getElem?_cons_succ, List.set_cons_zero, List.set_cons_succ, wp_int, wp_intb, wp_int20, wp_toB, wp_add, wp_abs, wp_neg, wp_lenL, pen0, pen1, pen2, put1, put2, decide_true, decide_false, if_true, if_false, Bool.false_eq_true, Nat.zero_le, exists_eq_left, and_true, true_and, Bool.not_true, Bool.not_false, reduceCtorEq, reduceIte, Option.isSome]
          exact ⟨_, rfl, by simp [rowB, hx]⟩
        | some ks =>
          have ne : (!((ps.length : Int) + 1 == ((ks.map D.str).length : Int) + 1)) = !(ps.length == ks.length) := by
            rw [List.length_map]
            by_cases h : ps.length = ks.length
            · simp [h]
            · have : ¬ ((ps.length : Int) + 1 = (ks.length : Int) + 1) := by omega
              rw [beq_eq_false_iff_ne.2 h, beq_eq_false_iff_ne.2 this]
          simp only [sSeq, sIf, sAsg, sRet, sNil, gSet, gPut, tst, b2, b1, cal, on1, aCons, vget, mkL, mkT, calF, andT, orT, notT, andV, notV, wp_bind, wp_pure, wp_if, List.map, List.length, List.replicate, List.append, List.cons_append, List.nil_append, Nat.reduceSub, Nat.reduceAdd, Nat.reduceLeDiff, List.getElem?_cons_zero, List.getElem?_cons_succ, List.set_cons_zero, List.set_cons_succ, wp_int, wp_intb, wp_int20, wp_toB, wp_add, wp_abs, wp_neg, wp_lenL, pen0, pen1, pen2, put1, put2, decide_true, decide_false, if_true, if_false, Bool.false_eq_true, Nat.zero_le, exists_eq_left, and_true, true_and, Bool.not_true, Bool.not_false, reduceCtorEq, reduceIte, Option.isSome, kdIx_S hx, L, wp_lenT, wp_neI, ne]
          cases hl : ps.length == ks.length
          · simp only [sSeq, sIf, sAsg, sRet, sNil, gSet, gPut, tst, b2, b1, cal, on1, aCons, vget, mkL, mkT, calF, andT, orT, notT, andV, notV, wp_bind, wp_pure, wp_if, List.map, List.length, List.replicate, List.append, List.cons_append, List.nil_append, Nat.reduceSub, Nat.reduceAdd, Nat.reduceLeDiff, List.getElem?_cons_zero, List.getElem?_cons_succ, List.set_cons_zero, List.set_cons_succ, wp_int, wp_intb, wp_int20, wp_toB, wp_add, wp_abs, wp_neg, wp_lenL, pen0, pen1, pen2, put1, put2, decide_true, decide_false, if_true, if_false, Bool.false_eq_true, Nat.zero_le, exists_eq_left, and_true, true_and, Bool.not_true, Bool.not_false, reduceCtorEq, reduceIte]
            exact ⟨_, rfl, by simp [rowB, hx, hl]⟩
          · have hl2 : ps.length = ks.length := by simpa using hl
            obtain ⟨f, hf, h⟩ := row_cases (mem_at hx) hl2 fun d hd => gd d (by simp [hd])
            simp only [sSeq, sIf, sAsg, sRet, sNil, gSet, gPut, tst, b2, b1, cal, on1, aCons, vget, mkL, mkT, calF, andT, orT, notT, andV, notV, wp_bind, wp_pure, wp_if, List.map, List.length, List.replicate, List.append, List.cons_append, List.nil_append, Nat.reduceSub, Nat.reduceAdd, Nat.reduceLeDiff, List.getElem?_cons_zero, List.getElem?_cons_succ, List.set_cons_zero, List.set_cons_succ, wp_int, wp_intb, wp_int20, wp_toB, wp_add, wp_abs, wp_neg, wp_lenL, pen0, pen1, pen2, put1, put2, decide_true, decide_false, if_true, if_false, Bool.false_eq_true, Nat.zero_le, exists_eq_left, and_true, true_and, Bool.not_true, Bool.not_false, reduceCtorEq, reduceIte]
            refine (end_ok hf (h S)).mono ?_
            rintro ⟨fl, ρ⟩ S' ⟨d, e1, e2, e3⟩
            exact ⟨d, e1, by rw [e2]; simp [rowB, hx, hl], e3⟩
      | _ => simp only [sSeq, sIf, sAsg, sRet, sNil, gSet, gPut, tst, b2, b1, cal, on1, aCons, vget, mkL, mkT, calF, andT, orT, notT, andV, notV, wp_bind, wp_pure, wp_if, List.map, List.length, List.replicate, List.append, List.cons_append, List.nil_append, Nat.reduceSub, Nat.reduceAdd, Nat.reduceLeDiff, List.getElem?_cons_zero, List.getElem?_cons_succ, List.set_cons_zero, List.set_cons_succ, wp_int, wp_intb, wp_int20, wp_toB, wp_add, wp_abs, wp_neg, wp_lenL, pen0, pen1, pen2, put1, put2, decide_true, decide_false, if_true, if_false, Bool.false_eq_true, Nat.zero_le, exists_eq_left, and_true, true_and, Bool.not_true, Bool.not_false, reduceCtorEq, reduceIte, isi_tupT, L, wp_eqI, e0, i0, isi_S ht.nr, isT]; exact ⟨_, rfl, rfl⟩
end
end Mi
namespace Mi
open PySem PySem.Spec PyProof.Rows L2
section
variable {S : Sto} {v : D} {Q : D → Sto → Prop}
theorem lslots_ok (g : partV v) : m__law_slots [v] S = some (.ok (.bl (slotsB v)), S) := by
  refine eq_of_wp ?_
  unfold m__law_slots
  refine wp_run ?_
  unfold b__law_slots
  have gn := g.nr
  cases v with
  | non => simp [sSeq, sIf, sAsg, sRet, sNil, gSet, gPut, tst, b2, b1, cal, on1, aCons, vget, mkL, mkT, calF, andT, orT, notT, andV, notV, wp_bind, wp_pure, wp_if, List.map, List.length, List.replicate, List.append, List.cons_append, List.nil_append, Nat.reduceSub, Nat.reduceAdd, Nat.reduceLeDiff, List.getElem?_cons_zero, List.getElem?_cons_succ, List.set_cons_zero, List.set_cons_succ, wp_int, wp_intb, wp_int20, wp_toB, wp_add, wp_abs, wp_neg, wp_lenL, pen0, pen1, pen2, put1, put2, decide_true, decide_false, if_true, if_false, Bool.false_eq_true, Nat.zero_le, exists_eq_left, and_true, true_and, Bool.not_true, Bool.not_false, reduceCtorEq, reduceIte, isi_nonT, slotsB]
  | bl k => simp [sSeq, sIf, sAsg, sRet, sNil, gSet, gPut, tst, b2, b1, cal, on1, aCons, vget, mkL, mkT, calF, andT, orT, notT, andV, notV, wp_bind, wp_pure, wp_if, List.map, List.length, List.replicate, List.append, List.cons_append, List.nil_append, Nat.reduceSub, Nat.reduceAdd, Nat.reduceLeDiff, List.getElem?_cons_zero, List.getElem?_cons_succ, List.set_cons_zero, List.set_cons_succ, wp_int, wp_intb, wp_int20, wp_toB, wp_add, wp_abs, wp_neg, wp_lenL, pen0, pen1, pen2, put1, put2, decide_true, decide_false, if_true, if_false, Bool.false_eq_true, Nat.zero_le, exists_eq_left, and_true, true_and, Bool.not_true, Bool.not_false, reduceCtorEq, reduceIte, isi_blT, slotsB]
  | int i => simp [sSeq, sIf, sAsg, sRet, sNil, gSet, gPut, tst, b2, b1, cal, on1, aCons, vget, mkL, mkT, calF, andT, orT, notT, andV, notV, wp_bind, wp_pure, wp_if, List.map, List.length, List.replicate, List.append, List.cons_append, List.nil_append, Nat.reduceSub, Nat.reduceAdd, Nat.reduceLeDiff, List.getElem?_cons_zero, List.getElem?_cons_succ, List.set_cons_zero, List.set_cons_succ, wp_int, wp_intb, wp_int20, wp_toB, wp_add, wp_abs, wp_neg, wp_lenL, pen0, pen1, pen2, put1, put2, decide_true, decide_false, if_true, if_false, Bool.false_eq_true, Nat.zero_le, exists_eq_left, and_true, true_and, Bool.not_true, Bool.not_false, reduceCtorEq, reduceIte, isi_intT, slotsB]
  | str ds => simp [sSeq, sIf, sAsg, sRet, sNil, gSet, gPut, tst, b2, b1, cal, on1, aCons, vget, mkL, mkT, calF, andT, orT, notT, andV, notV, wp_bind, wp_pure, wp_if, List.map, List.length, List.replicate, List.append, List.cons_append, List.nil_append, Nat.reduceSub, Nat.reduceAdd, Nat.reduceLeDiff, List.getElem?_cons_zero, List.getElem?_cons_succ, List.set_cons_zero, List.set_cons_succ, wp_int, wp_intb, wp_int20, wp_toB, wp_add, wp_abs, wp_neg, wp_lenL, pen0, pen1, pen2, put1, put2, decide_true, decide_false, if_true, if_false, Bool.false_eq_true, Nat.zero_le, exists_eq_left, and_true, true_and, Bool.not_true, Bool.not_false, reduceCtorEq, reduceIte, isi_strT, slotsB]
  | lst ds => simp [sSeq, sIf, sAsg, sRet, sNil, gSet, gPut, tst, b2, b1, cal, on1, aCons, vget, mkL, mkT, calF, andT, orT, notT, andV, notV, wp_bind, wp_pure, wp_if, List.map, List.length, List.replicate, List.append, List.cons_append, List.nil_append, Nat.reduceSub, Nat.reduceAdd, Nat.reduceLeDiff, List.getElem?_cons_zero, List.getElem?_cons_succ, List.set_cons_zero, List.set_cons_succ, wp_int, wp_intb, wp_int20, wp_toB, wp_add, wp_abs, wp_neg, wp_lenL, pen0, pen1, pen2, put1, put2, decide_true, decide_false, if_true, if_false, Bool.false_eq_true, Nat.zero_le, exists_eq_left, and_true, true_and, Bool.not_true, Bool.not_false, reduceCtorEq, reduceIte, isi_lstT, slotsB]
  | dct kv => simp [sSeq, sIf, sAsg, sRet, sNil, gSet, gPut, tst, b2, b1, cal, on1, aCons, vget, mkL, mkT, calF, andT, orT, notT, andV, notV, wp_bind, wp_pure, wp_if, List.map, List.length, List.replicate, List.append, List.cons_append, List.nil_append, Nat.reduceSub, Nat.reduceAdd, Nat.reduceLeDiff, List.getElem?_cons_zero, List.getElem?_cons_succ, List.set_cons_zero, List.set_cons_succ, wp_int, wp_intb, wp_int20, wp_toB, wp_add, wp_abs, wp_neg, wp_lenL, pen0, pen1, pen2, put1, put2, decide_true, decide_false, if_true, if_false, Bool.false_eq_true, Nat.zero_le, exists_eq_left, and_true, true_and, Bool.not_true, Bool.not_false, reduceCtorEq, reduceIte, isi_dctT, slotsB]
  | ref n => cases gn
  | lsr ds => cases gn
  | tup ds =>
    obtain ⟨gl, gd⟩ := g.it ds rfl
    simp only [sSeq, sIf, sAsg, sRet, sNil, gSet, gPut, tst, b2, b1, cal, on1, aCons, vget, mkL, mkT, calF, andT, orT, notT, andV, notV, wp_bind, wp_pure, wp_if, List.map, List.length, List.replicate, List.append, List.cons_append, List.nil_append, Nat.reduceSub, Nat.reduceAdd, Nat.reduceLeDiff, List.getElem?_cons_zero, List.getElem?_cons_succ, List.set_cons_zero, List.set_cons_succ, wp_int, wp_intb, wp_int20, wp_toB, wp_add, wp_abs, wp_neg, wp_lenL, pen0, pen1, pen2, put1, put2, decide_true, decide_false, if_true, if_false, Bool.false_eq_true, Nat.zero_le, exists_eq_left, and_true, true_and, Bool.not_true, Bool.not_false, reduceCtorEq, reduceIte, isi_tupT, iSeq, wp_itT, eLc, gl]
    rw [wp_lcD (f := fun d => d) (p := fun d => !betw 0 7 d)]
    · simp only [sSeq, sIf, sAsg, sRet, sNil, gSet, gPut, tst, b2, b1, cal, on1, aCons, vget, mkL, mkT, calF, andT, orT, notT, andV, notV, wp_bind, wp_pure, wp_if, List.map, List.length, List.replicate, List.append, List.cons_append, List.nil_append, Nat.reduceSub, Nat.reduceAdd, Nat.reduceLeDiff, List.getElem?_cons_zero, List.getElem?_cons_succ, List.set_cons_zero, List.set_cons_succ, wp_int, wp_intb, wp_int20, wp_toB, wp_add, wp_abs, wp_neg, wp_lenL, pen0, pen1, pen2, put1, put2, decide_true, decide_false, if_true, if_false, Bool.false_eq_true, Nat.zero_le, exists_eq_left, and_true, true_and, Bool.not_true, Bool.not_false, reduceCtorEq, reduceIte, neNilB, isEmpty_map, filter_not]
      by_cases h : ds.all (betw 0 7) = true
      · obtain ⟨ns, e1, e2⟩ := all_betw h
        subst e1
        have hl : ns.length ≤ 50000 := by rw [List.length_map] at gl; exact gl
        have hr : -100000 ≤ (1 : Int) ∧ (1 : Int) ≤ 100000 ∧ -100000 ≤ (ns.length : Int) ∧ (ns.length : Int) ≤ 100000 := by omega
        have R : ∀ {S : Sto} {Q : List D → Sto → Prop}, Wp (rngOf [.int 1, .int (ns.length : Int)]) S Q ↔ Q (rgD 1 (ns.length - 1)) S := wp_of (by
          show (if -100000 ≤ (1 : Int) ∧ (1 : Int) ≤ 100000 ∧ -100000 ≤ (ns.length : Int) ∧ (ns.length : Int) ≤ 100000 then M.pure (rgD 1 ((ns.length : Int) - 1).toNat) else bad) _ = _
          rw [if_pos hr]
          have : ((ns.length : Int) - 1).toNat = ns.length - 1 := by omega
          rw [this]; rfl)
        simp only [sSeq, sIf, sAsg, sRet, sNil, gSet, gPut, tst, b2, b1, cal, on1, aCons, vget, mkL, mkT, calF, andT, orT, notT, andV, notV, wp_bind, wp_pure, wp_if, List.map, List.length, List.replicate, List.append, List.cons_append, List.nil_append, Nat.reduceSub, Nat.reduceAdd, Nat.reduceLeDiff, List.getElem?_cons_zero, List.getElem?_cons_succ, List.set_cons_zero, List.set_cons_succ, wp_int, wp_intb, wp_int20, wp_toB, wp_add, wp_abs, wp_neg, wp_lenL, pen0, pen1, pen2, put1, put2, decide_true, decide_false, if_true, if_false, Bool.false_eq_true, Nat.zero_le, exists_eq_left, and_true, true_and, Bool.not_true, Bool.not_false, reduceCtorEq, reduceIte, h, len1, wp_lenT, List.length_map, R, rgD_len]
        rw [if_pos (by omega)]
        unfold rgD
        rw [wp_lc (g := fun i : Nat => D.int (1 + i)) (f := fun i : Nat => D.int (1 + i)) (p := fun i => !decide (ns.getD i 0 < ns.getD (i + 1) 0))]
        · simp only [sSeq, sIf, sAsg, sRet, sNil, gSet, gPut, tst, b2, b1, cal, on1, aCons, vget, mkL, mkT, calF, andT, orT, notT, andV, notV, wp_bind, wp_pure, wp_if, List.map, List.length, List.replicate, List.append, List.cons_append, List.nil_append, Nat.reduceSub, Nat.reduceAdd, Nat.reduceLeDiff, List.getElem?_cons_zero, List.getElem?_cons_succ, List.set_cons_zero, List.set_cons_succ, wp_int, wp_intb, wp_int20, wp_toB, wp_add, wp_abs, wp_neg, wp_lenL, pen0, pen1, pen2, put1, put2, decide_true, decide_false, if_true, if_false, Bool.false_eq_true, Nat.zero_le, exists_eq_left, and_true, true_and, Bool.not_true, Bool.not_false, reduceCtorEq, reduceIte, wp_eqNilB, isEmpty_map, filter_not, rng_asc]
          exact ⟨_, rfl, by simp [slotsB, h, e2]⟩
        · intro y hy
          have hy : y < ns.length - 1 := List.mem_range.1 hy
          have a1 : (ns.map D.int)[y]? = some (.int (ns.getD y 0)) := by
            rw [List.getElem?_map, List.getD_eq_getElem?_getD, List.getElem?_eq_getElem (by omega)]; rfl
          have a2 : (ns.map D.int)[y + 1]? = some (.int (ns.getD (y + 1) 0)) := by
            rw [List.getElem?_map, List.getD_eq_getElem?_getD, List.getElem?_eq_getElem (by omega)]; rfl
          have x1 : ∀ {S : Sto} {Q : D → Sto → Prop}, Wp (ixM (.tup (ns.map D.int)) (.int (1 + (y : Int) - 1))) S Q ↔ Q (.int (ns.getD y 0)) S := by
            intro S Q
            rw [show (1 + (y : Int) - 1) = ((y : Nat) : Int) by omega]
            exact ixT a1
          have x2 : ∀ {S : Sto} {Q : D → Sto → Prop}, Wp (ixM (.tup (ns.map D.int)) (.int (1 + (y : Int)))) S Q ↔ Q (.int (ns.getD (y + 1) 0)) S := by
            intro S Q
            rw [show (1 + (y : Int)) = ((y + 1 : Nat) : Int) by omega]
            exact ixT a2
          simp only [wipeE, List.foldr, List.set_cons_zero, List.set_cons_succ]
          refine eq_of_wp ?_
          simp only [sSeq, sIf, sAsg, sRet, sNil, gSet, gPut, tst, b2, b1, cal, on1, aCons, vget, mkL, mkT, calF, andT, orT, notT, andV, notV, wp_bind, wp_pure, wp_if, List.map, List.length, List.replicate, List.append, List.cons_append, List.nil_append, Nat.reduceSub, Nat.reduceAdd, Nat.reduceLeDiff, List.getElem?_cons_zero, List.getElem?_cons_succ, List.set_cons_zero, List.set_cons_succ, wp_int, wp_intb, wp_int20, wp_toB, wp_add, wp_abs, wp_neg, wp_lenL, pen0, pen1, pen2, put1, put2, decide_true, decide_false, if_true, if_false, Bool.false_eq_true, Nat.zero_le, exists_eq_left, and_true, true_and, Bool.not_true, Bool.not_false, reduceCtorEq, reduceIte, subM, x1, x2]
          rw [le_not]
          try exact ⟨rfl, rfl⟩
        · intro y _ _
          rfl
      · have h : ds.all (betw 0 7) = false := by simpa using h
        simp only [sSeq, sIf, sAsg, sRet, sNil, gSet, gPut, tst, b2, b1, cal, on1, aCons, vget, mkL, mkT, calF, andT, orT, notT, andV, notV, wp_bind, wp_pure, wp_if, List.map, List.length, List.replicate, List.append, List.cons_append, List.nil_append, Nat.reduceSub, Nat.reduceAdd, Nat.reduceLeDiff, List.getElem?_cons_zero, List.getElem?_cons_succ, List.set_cons_zero, List.set_cons_succ, wp_int, wp_intb, wp_int20, wp_toB, wp_add, wp_abs, wp_neg, wp_lenL, pen0, pen1, pen2, put1, put2, decide_true, decide_false, if_true, if_false, Bool.false_eq_true, Nat.zero_le, exists_eq_left, and_true, true_and, Bool.not_true, Bool.not_false, reduceCtorEq, reduceIte, h]
        exact ⟨_, rfl, by simp [slotsB, h]⟩
    · intro y hy
      simp only [wipeE, List.foldr, List.set_cons_zero, List.set_cons_succ]
      refine eq_of_wp ?_
      simp only [sSeq, sIf, sAsg, sRet, sNil, gSet, gPut, tst, b2, b1, cal, on1, aCons, vget, mkL, mkT, calF, andT, orT, notT, andV, notV, wp_bind, wp_pure, wp_if, List.map, List.length, List.replicate, List.append, List.cons_append, List.nil_append, Nat.reduceSub, Nat.reduceAdd, Nat.reduceLeDiff, List.getElem?_cons_zero, List.getElem?_cons_succ, List.set_cons_zero, List.set_cons_succ, wp_int, wp_intb, wp_int20, wp_toB, wp_add, wp_abs, wp_neg, wp_lenL, pen0, pen1, pen2, put1, put2, decide_true, decide_false, if_true, if_false, Bool.false_eq_true, Nat.zero_le, exists_eq_left, and_true, true_and, Bool.not_true, Bool.not_false, reduceCtorEq, reduceIte, wp_of (whole_ok (lo := 0) (hi := 7) (gd y hy))]
    · intro y hy _
      rfl
theorem sg_eq {c d : Nat} : ((⟨#[c]⟩ : Str) == ⟨#[d]⟩) = (c == d) := by
  by_cases h : c = d
  · subst h; simp
  · have : ¬ (⟨#[c]⟩ : Str) = ⟨#[d]⟩ := fun e => h (by injection e with e; injection e with e; injection e)
    rw [beq_eq_false_iff_ne.2 this, beq_eq_false_iff_ne.2 h]
def sortB (c : Nat) (p : D) : Bool :=
  if c = 110 then betw 1 999999 p
  else if c = 111 then isNon p || betw 1 999999 p
  else if c = 115 then betw 0 7 p
  else if c = 107 then wordB LET p
  else if c = 118 then wordB ALN p
  else if c = 119 then betw 0 999999 p
  else if c = 101 then isNon p || betw 0 999999 p
  else if c = 116 then slotsB p
  else slotsB p && !(intsD p).isEmpty
def SORTS : List Nat := [110, 111, 115, 107, 118, 119, 101, 116, 117]
theorem sgn_ok : ∀ c ∈ SORTS, PyData.strOk (⟨#[c]⟩ : Str) = true := by decide +kernel
theorem lfits_ok {c : Nat} {p : D} (hc : c ∈ SORTS) (g : partV p) : m__law_fits [p, sgn c] S = some (.ok (.bl (sortB c p)), S) := by
  have hs := sgn_ok c hc
  refine eq_of_wp ?_
  unfold m__law_fits
  refine wp_run ?_
  unfold b__law_fits
  have o : ∀ d : Nat, d < 128 → ∀ {S : Sto} {Q : D → Sto → Prop}, Wp (eqY (sgn c) (.str ⟨#[d]⟩)) S Q ↔ Q (.bl (c == d)) S := fun d hd {S Q} => by
    have := eqSS (S := S) (Q := Q) hs (small_ok (x := ⟨#[d]⟩) fun k hk => by simp at hk; omega)
    rw [sg_eq] at this
    exact this
  have i : ∀ d e : Nat, ∀ {S : Sto} {Q : D → Sto → Prop}, Wp (inM (sgn c) (.tup [.str ⟨#[d]⟩, .str ⟨#[e]⟩])) S Q ↔ Q (.bl (c == d || c == e)) S := fun d e {S Q} => by
    have := inSS (S := S) (Q := Q) (x := ⟨#[c]⟩) (a := ⟨#[d]⟩) (b := ⟨#[e]⟩)
    rw [sg_eq, sg_eq] at this
    exact this
  have es : ("abcdefghijklmnopqrstuvwxyz" : Str).length + ("0123456789" : Str).length ≤ 100000 := by decide +kernel
  have o1 := @o 110 (by decide); have o2 := @o 111 (by decide); have o3 := @o 115 (by decide); have o4 := @o 107 (by decide); have o5 := @o 118 (by decide)
  have o6 := @o 119 (by decide); have o7 := @o 101 (by decide); have o8 := @o 116 (by decide)
  have en : ("n" : Str) = ⟨#[110]⟩ := rfl
  have eo : ("o" : Str) = ⟨#[111]⟩ := rfl
  have ess : ("s" : Str) = ⟨#[115]⟩ := rfl
  have ek : ("k" : Str) = ⟨#[107]⟩ := rfl
  have ev : ("v" : Str) = ⟨#[118]⟩ := rfl
  have ew : ("w" : Str) = ⟨#[119]⟩ := rfl
  have ee : ("e" : Str) = ⟨#[101]⟩ := rfl
  have et : ("t" : Str) = ⟨#[116]⟩ := rfl
  have eT : ∀ {S : Sto} {Q : D → Sto → Prop}, slotsB p = true → (Wp (neX p (.tup [])) S Q ↔ Q (.bl (!(intsD p).isEmpty)) S) := fun {S Q} h => by
    obtain ⟨ns, rfl, _⟩ := slotsB_tup h
    rw [wp_neT0]
    have : intsD (.tup (ns.map D.int)) = ns := by simp [intsD, ints_map]
    rw [this]
    cases ns <;> rfl
  simp only [en, eo, ess, ek, ev, ew, ee, et, sSeq, sIf, sAsg, sRet, sNil, gSet, gPut, tst, b2, b1, cal, on1, aCons, vget, mkL, mkT, calF, andT, orT, notT, andV, notV, wp_bind, wp_pure, wp_if, List.map, List.length, List.replicate, List.append, List.cons_append, List.nil_append, Nat.reduceSub, Nat.reduceAdd, Nat.reduceLeDiff, List.getElem?_cons_zero, List.getElem?_cons_succ, List.set_cons_zero, List.set_cons_succ, wp_int, wp_intb, wp_int20, wp_toB, wp_add, wp_abs, wp_neg, wp_lenL, pen0, pen1, pen2, put1, put2, decide_true, decide_false, if_true, if_false, Bool.false_eq_true, Nat.zero_le, exists_eq_left, and_true, true_and, Bool.not_true, Bool.not_false, reduceCtorEq, reduceIte, o1, o2, o3, o4, o5, o6, o7, o8, i, isN_any, orV, ifV, wp_of (whole_ok (lo := 1) (hi := 999999) g.nr), wp_of (whole_ok (lo := 0) (hi := 7) g.nr), wp_of (whole_ok (lo := 0) (hi := 999999) g.nr), wp_of (lslots_ok g), wp_addS es,
    wp_of (made_ok (al := "abcdefghijklmnopqrstuvwxyz") g.ok), wp_of (made_ok (al := "abcdefghijklmnopqrstuvwxyz" ++ "0123456789") g.ok)]
  have nz : ∀ {lo hi : Int}, isNon p = true → betw lo hi p = false := fun h => by cases p <;> first | rfl | cases h
  simp only [SORTS, List.mem_cons, List.not_mem_nil, or_false] at hc
  rcases hc with rfl | rfl | rfl | rfl | rfl | rfl | rfl | rfl | rfl
  · simp; rfl
  · cases h : isNon p
    · simp [sortB, h]
    · simp [sortB, h]
  · simp; rfl
  · simp; rfl
  · simp; rfl
  · simp; rfl
  · cases h : isNon p
    · simp [sortB, h]
    · simp [sortB, h]
  · cases h : slotsB p
    · simp [sortB, h]
    · simp [sortB, h]
  · cases h : slotsB p
    · simp [sortB, h]
    · have e2 : sortB 117 p = !(intsD p).isEmpty := by simp [sortB, h]
      rw [e2]
      simp [eT h]
def FS : List (Str × Str) := [("open", "no"), ("put", "nsskv"), ("change", "nssssv"), ("strike", "nss"), ("lock", "nss"), ("refused", "nss"), ("commit", "n"), ("abort", "n"), ("prepare", "nw"), ("clean", "stt"), ("tidy", "su"), ("sweep", ""), ("word", "e"), ("fall", "")]
theorem filter_lookup {α : Type} {x : Str} : ∀ {l : List (Str × α)}, (l.filter fun p => p.1 == x).head?.map (·.2) = l.lookup x
  | [] => rfl
  | (k, v) :: l => by
    have e : (k == x) = (x == k) := BEq.comm
    simp only [List.filter, List.lookup, e]
    cases x == k
    · exact filter_lookup
    · rfl
theorem split_ok : ∀ p ∈ FS, (Txt.split (p.1 ++ " " ++ p.2) " ").map D.str = [.str p.1, .str p.2] := by
  have h : ∀ p ∈ FS, Txt.split (p.1 ++ " " ++ p.2) " " = [p.1, p.2] := by decide +kernel
  intro p hp
  rw [h p hp]; rfl
theorem FS_len : ∀ p ∈ FS, (p.1 ++ " " ++ p.2).length ≤ 90000 ∧ PyData.strOk p.1 = true := by decide +kernel
def formD (x : Str) : D := match FS.lookup x with
  | some s => .str s
  | none => .non
theorem form_ok {x : Str} (hx : PyData.strOk x = true) : m__law_form [.str x] S = some (.ok (formD x), S) := by
  refine eq_of_wp ?_
  unfold m__law_form
  refine wp_run ?_
  unfold b__law_form
  simp only [sSeq, sIf, sAsg, sRet, sNil, gSet, gPut, tst, b2, b1, cal, on1, aCons, vget, mkL, mkT, calF, andT, orT, notT, andV, notV, wp_bind, wp_pure, wp_if, List.map, List.length, List.replicate, List.append, List.cons_append, List.nil_append, Nat.reduceSub, Nat.reduceAdd, Nat.reduceLeDiff, List.getElem?_cons_zero, List.getElem?_cons_succ, List.set_cons_zero, List.set_cons_succ, wp_int, wp_intb, wp_int20, wp_toB, wp_add, wp_abs, wp_neg, wp_lenL, pen0, pen1, pen2, put1, put2, decide_true, decide_false, if_true, if_false, Bool.false_eq_true, Nat.zero_le, exists_eq_left, and_true, true_and, Bool.not_true, Bool.not_false, reduceCtorEq, reduceIte]
  rw [wp_addL (by decide)]
  simp only [sSeq, sIf, sAsg, sRet, sNil, gSet, gPut, tst, b2, b1, cal, on1, aCons, vget, mkL, mkT, calF, andT, orT, notT, andV, notV, wp_bind, wp_pure, wp_if, List.map, List.length, List.replicate, List.append, List.cons_append, List.nil_append, Nat.reduceSub, Nat.reduceAdd, Nat.reduceLeDiff, List.getElem?_cons_zero, List.getElem?_cons_succ, List.set_cons_zero, List.set_cons_succ, wp_int, wp_intb, wp_int20, wp_toB, wp_add, wp_abs, wp_neg, wp_lenL, pen0, pen1, pen2, put1, put2, decide_true, decide_false, if_true, if_false, Bool.false_eq_true, Nat.zero_le, exists_eq_left, and_true, true_and, Bool.not_true, Bool.not_false, reduceCtorEq, reduceIte, eLc, iSeq]
  have I : ∀ {ds : List D} {S : Sto} {Q : List D → Sto → Prop}, Wp (itemsOf (.lst ds)) S Q ↔ Q ds S := wp_of rfl
  rw [I]
  rw [if_pos (by decide)]
  have e : [D.str "open no", .str "put nsskv", .str "change nssssv", .str "strike nss", .str "lock nss", .str "refused nss", .str "commit n", .str "abort n", .str "prepare nw", .str "clean stt", .str "tidy su", .str "sweep ", .str "word e", .str "fall "] = FS.map fun p => D.str (p.1 ++ " " ++ p.2) := by
    have h : ([("open no" : Str), "put nsskv", "change nssssv", "strike nss", "lock nss", "refused nss", "commit n", "abort n", "prepare nw", "clean stt", "tidy su", "sweep ", "word e", "fall "] : List Str) = FS.map fun p => (p.1 ++ " " ++ p.2 : Str) := by decide +kernel
    rw [show (FS.map fun p => D.str (p.1 ++ " " ++ p.2)) = (FS.map fun p => (p.1 ++ " " ++ p.2 : Str)).map D.str by rw [List.map_map]; rfl, ← h]
    rfl
  simp only [List.cons_append, List.nil_append, e, wipeE, List.foldr, List.set_cons_zero, List.set_cons_succ]
  rw [wp_lc (g := fun p : Str × Str => D.str (p.1 ++ " " ++ p.2)) (f := fun p => D.str p.2) (p := fun p => p.1 == x)]
  · simp only [sSeq, sIf, sAsg, sRet, sNil, gSet, gPut, tst, b2, b1, cal, on1, aCons, vget, mkL, mkT, calF, andT, orT, notT, andV, notV, wp_bind, wp_pure, wp_if, List.map, List.length, List.replicate, List.append, List.cons_append, List.nil_append, Nat.reduceSub, Nat.reduceAdd, Nat.reduceLeDiff, List.getElem?_cons_zero, List.getElem?_cons_succ, List.set_cons_zero, List.set_cons_succ, wp_int, wp_intb, wp_int20, wp_toB, wp_add, wp_abs, wp_neg, wp_lenL, pen0, pen1, pen2, put1, put2, decide_true, decide_false, if_true, if_false, Bool.false_eq_true, Nat.zero_le, exists_eq_left, and_true, true_and, Bool.not_true, Bool.not_false, reduceCtorEq, reduceIte, neNilB, isEmpty_map, ifV]
    have F := filter_lookup (x := x) (l := FS)
    cases hf : FS.filter fun p => p.1 == x with
    | nil =>
      rw [hf] at F
      have F : FS.lookup x = none := F.symm
      simp only [List.isEmpty, sSeq, sIf, sAsg, sRet, sNil, gSet, gPut, tst, b2, b1, cal, on1, aCons, vget, mkL, mkT, calF, andT, orT, notT, andV, notV, wp_bind, wp_pure, wp_if, List.map, List.length, List.replicate, List.append, List.cons_append, List.nil_append, Nat.reduceSub, Nat.reduceAdd, Nat.reduceLeDiff, List.getElem?_cons_zero, List.getElem?_cons_succ, List.set_cons_zero, List.set_cons_succ, wp_int, wp_intb, wp_int20, wp_toB, wp_add, wp_abs, wp_neg, wp_lenL, pen0, pen1, pen2, put1, put2, decide_true, decide_false, if_true, if_false, Bool.false_eq_true, Nat.zero_le, exists_eq_left, and_true, true_and, Bool.not_true, Bool.not_false, reduceCtorEq, reduceIte]
      exact ⟨_, rfl, by simp [formD, F]⟩
    | cons p ps =>
      rw [hf] at F
      have F : FS.lookup x = some p.2 := F.symm
      simp only [List.isEmpty, sSeq, sIf, sAsg, sRet, sNil, gSet, gPut, tst, b2, b1, cal, on1, aCons, vget, mkL, mkT, calF, andT, orT, notT, andV, notV, wp_bind, wp_pure, wp_if, List.map, List.length, List.replicate, List.append, List.cons_append, List.nil_append, Nat.reduceSub, Nat.reduceAdd, Nat.reduceLeDiff, List.getElem?_cons_zero, List.getElem?_cons_succ, List.set_cons_zero, List.set_cons_succ, wp_int, wp_intb, wp_int20, wp_toB, wp_add, wp_abs, wp_neg, wp_lenL, pen0, pen1, pen2, put1, put2, decide_true, decide_false, if_true, if_false, Bool.false_eq_true, Nat.zero_le, exists_eq_left, and_true, true_and, Bool.not_true, Bool.not_false, reduceCtorEq, reduceIte]
      rw [show (0 : Int) = ((0 : Nat) : Int) from rfl, wp_ixL rfl]
      exact ⟨_, rfl, by simp [formD, F]⟩
  · intro y hy
    obtain ⟨h1, h2⟩ := FS_len y hy
    have sp : ∀ {S : Sto} {Q : D → Sto → Prop}, Wp (splitM (.str (y.1 ++ " " ++ y.2)) [.str " "]) S Q ↔ Q (.lst [.str y.1, .str y.2]) S := wp_of (by
      show (if (" " : Str).length ≠ 0 ∧ (y.1 ++ " " ++ y.2).length ≤ 90000 then _ else _) = _
      rw [if_pos ⟨by decide +kernel, h1⟩, split_ok y hy])
    refine eq_of_wp ?_
    simp only [sSeq, sIf, sAsg, sRet, sNil, gSet, gPut, tst, b2, b1, cal, on1, aCons, vget, mkL, mkT, calF, andT, orT, notT, andV, notV, wp_bind, wp_pure, wp_if, List.map, List.length, List.replicate, List.append, List.cons_append, List.nil_append, Nat.reduceSub, Nat.reduceAdd, Nat.reduceLeDiff, List.getElem?_cons_zero, List.getElem?_cons_succ, List.set_cons_zero, List.set_cons_succ, wp_int, wp_intb, wp_int20, wp_toB, wp_add, wp_abs, wp_neg, wp_lenL, pen0, pen1, pen2, put1, put2, decide_true, decide_false, if_true, if_false, Bool.false_eq_true, Nat.zero_le, exists_eq_left, and_true, true_and, Bool.not_true, Bool.not_false, reduceCtorEq, reduceIte, mth, wp_chkS, sp]
    rw [show (0 : Int) = ((0 : Nat) : Int) from rfl, wp_ixL rfl, eqSS h2 hx]
    simp only [sSeq, sIf, sAsg, sRet, sNil, gSet, gPut, tst, b2, b1, cal, on1, aCons, vget, mkL, mkT, calF, andT, orT, notT, andV, notV, wp_bind, wp_pure, wp_if, List.map, List.length, List.replicate, List.append, List.cons_append, List.nil_append, Nat.reduceSub, Nat.reduceAdd, Nat.reduceLeDiff, List.getElem?_cons_zero, List.getElem?_cons_succ, List.set_cons_zero, List.set_cons_succ, wp_int, wp_intb, wp_int20, wp_toB, wp_add, wp_abs, wp_neg, wp_lenL, pen0, pen1, pen2, put1, put2, decide_true, decide_false, if_true, if_false, Bool.false_eq_true, Nat.zero_le, exists_eq_left, and_true, true_and, Bool.not_true, Bool.not_false, reduceCtorEq, reduceIte]
  · intro y hy _
    obtain ⟨h1, h2⟩ := FS_len y hy
    have sp : ∀ {S : Sto} {Q : D → Sto → Prop}, Wp (splitM (.str (y.1 ++ " " ++ y.2)) [.str " "]) S Q ↔ Q (.lst [.str y.1, .str y.2]) S := wp_of (by
      show (if (" " : Str).length ≠ 0 ∧ (y.1 ++ " " ++ y.2).length ≤ 90000 then _ else _) = _
      rw [if_pos ⟨by decide +kernel, h1⟩, split_ok y hy])
    refine eq_of_wp ?_
    simp only [sSeq, sIf, sAsg, sRet, sNil, gSet, gPut, tst, b2, b1, cal, on1, aCons, vget, mkL, mkT, calF, andT, orT, notT, andV, notV, wp_bind, wp_pure, wp_if, List.map, List.length, List.replicate, List.append, List.cons_append, List.nil_append, Nat.reduceSub, Nat.reduceAdd, Nat.reduceLeDiff, List.getElem?_cons_zero, List.getElem?_cons_succ, List.set_cons_zero, List.set_cons_succ, wp_int, wp_intb, wp_int20, wp_toB, wp_add, wp_abs, wp_neg, wp_lenL, pen0, pen1, pen2, put1, put2, decide_true, decide_false, if_true, if_false, Bool.false_eq_true, Nat.zero_le, exists_eq_left, and_true, true_and, Bool.not_true, Bool.not_false, reduceCtorEq, reduceIte, mth, wp_chkS, sp]
    rw [show (1 : Int) = ((1 : Nat) : Int) from rfl, wp_ixL rfl]
    exact ⟨rfl, rfl⟩
end
end Mi
namespace Mi
open PySem PySem.Spec PyProof.Rows L2
def sortsAll (ds : List D) (cs : List Nat) : Bool := (List.range cs.length).all fun k => sortB (cs.getD k 0) (kget ds (k + 1))
def tailB (x : Str) (ds : List D) : Bool := if x == "open" then isNon (kget ds 2) || ltB (kget ds 2) (kget ds 1) else !(x == "clean") || (intsD (kget ds 2)).all fun i => !decide (i ∈ intsD (kget ds 3))
def lrowB : D → Bool
  | .tup (.str x :: ps) => match FS.lookup x with
    | some s => (ps.length == s.length) && (sortsAll (.str x :: ps) s.cps.toList && tailB x (.str x :: ps))
    | none => false
  | _ => false
theorem FS_sorts : ∀ p ∈ FS, (p.2.cps.toList.all fun c => decide (c ∈ SORTS)) = true ∧ p.2.length ≤ 6 := by decide +kernel
section
variable {S : Sto} {v : D} {Q : D → Sto → Prop}
theorem ixSgn {z : Str} {k : Nat} (h : k < z.cps.toList.length) (hl : z.length ≤ 100000) : Wp (ixM (.str z) (.int (k : Int))) S Q ↔ Q (sgn (z.cps.toList.getD k 0)) S := wp_of (by
  have e : atI z.cps.toList (k : Int) = some (z.cps.toList.getD k 0) := atI_nat (by rw [List.getD_eq_getElem?_getD, List.getElem?_eq_getElem h]; rfl)
  simp only [ixM, e]
  rw [if_pos hl])
theorem lrow_ok (gn : nrB v = true) (gt : ∀ ds, v = .tup ds → ds.length ≤ 50000 ∧ ∀ d ∈ ds, partV d) (gs : ∀ x ps, v = .tup (.str x :: ps) → PyData.strOk x = true) : m__law_is_row [v] S = some (.ok (.bl (lrowB v)), S) := by
  refine eq_of_wp ?_
  unfold m__law_is_row
  refine wp_run ?_
  unfold b__law_is_row
  have Y0 : ∀ {ds : List D} {S : Sto} {Q : D → Sto → Prop}, Wp (eqY (.tup ds) (.tup [])) S Q ↔ Q (.bl ds.isEmpty) S := fun {ds S Q} => wp_of (by
    show some (Except.ok (D.bl (!(!ds.isEmpty))), S) = _
    rw [Bool.not_not])
  cases v with
  | non => simp [sSeq, sIf, sAsg, sRet, sNil, gSet, gPut, tst, b2, b1, cal, on1, aCons, vget, mkL, mkT, calF, andT, orT, notT, andV, notV, wp_bind, wp_pure, wp_if, List.map, List.length, List.replicate, List.append, List.cons_append, List.nil_append, Nat.reduceSub, Nat.reduceAdd, Nat.reduceLeDiff, List.getElem?_cons_zero, List.getElem?_cons_succ, List.set_cons_zero, List.set_cons_succ, wp_int, wp_intb, wp_int20, wp_toB, wp_add, wp_abs, wp_neg, wp_lenL, pen0, pen1, pen2, put1, put2, decide_true, decide_false, if_true, if_false, Bool.false_eq_true, Nat.zero_le, exists_eq_left, and_true, true_and, Bool.not_true, Bool.not_false, reduceCtorEq, reduceIte, isi_nonT, lrowB]
  | bl k => simp [sSeq, sIf, sAsg, sRet, sNil, gSet, gPut, tst, b2, b1, cal, on1, aCons, vget, mkL, mkT, calF, andT, orT, notT, andV, notV, wp_bind, wp_pure, wp_if, List.map, List.length, List.replicate, List.append, List.cons_append, List.nil_append, Nat.reduceSub, Nat.reduceAdd, Nat.reduceLeDiff, List.getElem?_cons_zero, List.getElem?_cons_succ, List.set_cons_zero, List.set_cons_succ, wp_int, wp_intb, wp_int20, wp_toB, wp_add, wp_abs, wp_neg, wp_lenL, pen0, pen1, pen2, put1, put2, decide_true, decide_false, if_true, if_false, Bool.false_eq_true, Nat.zero_le, exists_eq_left, and_true, true_and, Bool.not_true, Bool.not_false, reduceCtorEq, reduceIte, isi_blT, lrowB]
  | int i => simp [sSeq, sIf, sAsg, sRet, sNil, gSet, gPut, tst, b2, b1, cal, on1, aCons, vget, mkL, mkT, calF, andT, orT, notT, andV, notV, wp_bind, wp_pure, wp_if, List.map, List.length, List.replicate, List.append, List.cons_append, List.nil_append, Nat.reduceSub, Nat.reduceAdd, Nat.reduceLeDiff, List.getElem?_cons_zero, List.getElem?_cons_succ, List.set_cons_zero, List.set_cons_succ, wp_int, wp_intb, wp_int20, wp_toB, wp_add, wp_abs, wp_neg, wp_lenL, pen0, pen1, pen2, put1, put2, decide_true, decide_false, if_true, if_false, Bool.false_eq_true, Nat.zero_le, exists_eq_left, and_true, true_and, Bool.not_true, Bool.not_false, reduceCtorEq, reduceIte, isi_intT, lrowB]
  | str ds => simp [sSeq, sIf, sAsg, sRet, sNil, gSet, gPut, tst, b2, b1, cal, on1, aCons, vget, mkL, mkT, calF, andT, orT, notT, andV, notV, wp_bind, wp_pure, wp_if, List.map, List.length, List.replicate, List.append, List.cons_append, List.nil_append, Nat.reduceSub, Nat.reduceAdd, Nat.reduceLeDiff, List.getElem?_cons_zero, List.getElem?_cons_succ, List.set_cons_zero, List.set_cons_succ, wp_int, wp_intb, wp_int20, wp_toB, wp_add, wp_abs, wp_neg, wp_lenL, pen0, pen1, pen2, put1, put2, decide_true, decide_false, if_true, if_false, Bool.false_eq_true, Nat.zero_le, exists_eq_left, and_true, true_and, Bool.not_true, Bool.not_false, reduceCtorEq, reduceIte, isi_strT, lrowB]
  | lst ds => simp [sSeq, sIf, sAsg, sRet, sNil, gSet, gPut, tst, b2, b1, cal, on1, aCons, vget, mkL, mkT, calF, andT, orT, notT, andV, notV, wp_bind, wp_pure, wp_if, List.map, List.length, List.replicate, List.append, List.cons_append, List.nil_append, Nat.reduceSub, Nat.reduceAdd, Nat.reduceLeDiff, List.getElem?_cons_zero, List.getElem?_cons_succ, List.set_cons_zero, List.set_cons_succ, wp_int, wp_intb, wp_int20, wp_toB, wp_add, wp_abs, wp_neg, wp_lenL, pen0, pen1, pen2, put1, put2, decide_true, decide_false, if_true, if_false, Bool.false_eq_true, Nat.zero_le, exists_eq_left, and_true, true_and, Bool.not_true, Bool.not_false, reduceCtorEq, reduceIte, isi_lstT, lrowB]
  | dct kv => simp [sSeq, sIf, sAsg, sRet, sNil, gSet, gPut, tst, b2, b1, cal, on1, aCons, vget, mkL, mkT, calF, andT, orT, notT, andV, notV, wp_bind, wp_pure, wp_if, List.map, List.length, List.replicate, List.append, List.cons_append, List.nil_append, Nat.reduceSub, Nat.reduceAdd, Nat.reduceLeDiff, List.getElem?_cons_zero, List.getElem?_cons_succ, List.set_cons_zero, List.set_cons_succ, wp_int, wp_intb, wp_int20, wp_toB, wp_add, wp_abs, wp_neg, wp_lenL, pen0, pen1, pen2, put1, put2, decide_true, decide_false, if_true, if_false, Bool.false_eq_true, Nat.zero_le, exists_eq_left, and_true, true_and, Bool.not_true, Bool.not_false, reduceCtorEq, reduceIte, isi_dctT, lrowB]
  | ref n => cases gn
  | lsr ds => cases gn
  | tup ds =>
    obtain ⟨gl, gd⟩ := gt ds rfl
    rcases ds with _ | ⟨t, ps⟩
    · simp [sSeq, sIf, sAsg, sRet, sNil, gSet, gPut, tst, b2, b1, cal, on1, aCons, vget, mkL, mkT, calF, andT, orT, notT, andV, notV, wp_bind, wp_pure, wp_if, List.map, List.length, List.replicate, List.append, List.cons_append, List.nil_append, Nat.reduceSub, Nat.reduceAdd, Nat.reduceLeDiff, List.getElem?_cons_zero, List.getElem?_cons_succ, List.set_cons_zero, List.set_cons_succ, wp_int, wp_intb, wp_int20, wp_toB, wp_add, wp_abs, wp_neg, wp_lenL, pen0, pen1, pen2, put1, put2, decide_true, decide_false, if_true, if_false, Bool.false_eq_true, Nat.zero_le, exists_eq_left, and_true, true_and, Bool.not_true, Bool.not_false, reduceCtorEq, reduceIte, isi_tupT, Y0, lrowB]
    · have ht := gd t (by simp)
      have i0 : ∀ {S : Sto} {Q : D → Sto → Prop}, Wp (ixM (.tup (t :: ps)) (.int 0)) S Q ↔ Q t S := ixT (k := 0) rfl
      cases t with
      | str x =>
        have hx := gs x ps rfl
        simp only [sSeq, sIf, sAsg, sRet, sNil, gSet, gPut, tst, b2, b1, cal, on1, aCons, vget, mkL, mkT, calF, andT, orT, notT, andV, notV, wp_bind, wp_pure, wp_if, List.map, List.length, List.replicate, List.append, List.cons_append, List.nil_append, Nat.reduceSub, Nat.reduceAdd, Nat.reduceLeDiff, List.getElem?_cons_zero, List.getElem?_cons_succ, List.set_cons_zero, List.set_cons_succ, wp_int, wp_intb, wp_int20, wp_toB, wp_add, wp_abs, wp_neg, wp_lenL, pen0, pen1, pen2, put1, put2, decide_true, decide_false, if_true, if_false, Bool.false_eq_true, Nat.zero_le, exists_eq_left, and_true, true_and, Bool.not_true, Bool.not_false, reduceCtorEq, reduceIte, isi_tupT, Y0, List.isEmpty, i0, isi_strS, wp_of (form_ok hx), isN_any]
        cases hf : FS.lookup x with
        | none =>
          have e : formD x = .non := by simp [formD, hf]
          simp only [e, isNon, sSeq, sIf, sAsg, sRet, sNil, gSet, gPut, tst, b2, b1, cal, on1, aCons, vget, mkL, mkT, calF, andT, orT, notT, andV, notV, wp_bind, wp_pure, wp_if, List.map, List.length, List.replicate, List.append, List.cons_append, List.nil_append, Nat.reduceSub, Nat.reduceAdd, Nat.reduceLeDiff, List.getElem?_cons_zero, List.getElem?_cons_succ, List.set_cons_zero, List.set_cons_succ, wp_int, wp_intb, wp_int20, wp_toB, wp_add, wp_abs, wp_neg, wp_lenL, pen0, pen1, pen2, put1, put2, decide_true, decide_false, if_true, if_false, Bool.false_eq_true, Nat.zero_le, exists_eq_left, and_true, true_and, Bool.not_true, Bool.not_false, reduceCtorEq, reduceIte]
          exact ⟨_, rfl, by simp [lrowB, hf]⟩
        | some s =>
          obtain ⟨k0, hk0⟩ := mem_of_lookup hf
          obtain ⟨hc, hsl⟩ := FS_sorts _ hk0
          have hsl : s.length ≤ 6 := hsl
          have e : formD x = .str s := by simp [formD, hf]
          have ne : (!(((ps.length + 1 : Nat) : Int) == (s.length : Int) + 1)) = !(ps.length == s.length) := by
            by_cases h : ps.length = s.length
            · simp [h]
            · have : ¬ (((ps.length + 1 : Nat) : Int) = (s.length : Int) + 1) := by omega
              rw [beq_eq_false_iff_ne.2 h, beq_eq_false_iff_ne.2 this]
          have nx : ∀ {i j : Int} {S : Sto} {Q : D → Sto → Prop}, Wp (neX (.int i) (.int j)) S Q ↔ Q (.bl (!(i == j))) S := wp_neI
          have L1 : ∀ {S : Sto} {Q : D → Sto → Prop}, Wp (lenM (.tup (.str x :: ps))) S Q ↔ Q (.int ((ps.length + 1 : Nat) : Int)) S := wp_lenT
          rw [e]
          simp only [isNon, sSeq, sIf, sAsg, sRet, sNil, gSet, gPut, tst, b2, b1, cal, on1, aCons, vget, mkL, mkT, calF, andT, orT, notT, andV, notV, wp_bind, wp_pure, wp_if, List.map, List.length, List.replicate, List.append, List.cons_append, List.nil_append, Nat.reduceSub, Nat.reduceAdd, Nat.reduceLeDiff, List.getElem?_cons_zero, List.getElem?_cons_succ, List.set_cons_zero, List.set_cons_succ, wp_int, wp_intb, wp_int20, wp_toB, wp_add, wp_abs, wp_neg, wp_lenL, pen0, pen1, pen2, put1, put2, decide_true, decide_false, if_true, if_false, Bool.false_eq_true, Nat.zero_le, exists_eq_left, and_true, true_and, Bool.not_true, Bool.not_false, reduceCtorEq, reduceIte, L1, wp_lenS (show s.length ≤ 100000 by omega), nx, ne]
          cases hl : ps.length == s.length
          · simp only [sSeq, sIf, sAsg, sRet, sNil, gSet, gPut, tst, b2, b1, cal, on1, aCons, vget, mkL, mkT, calF, andT, orT, notT, andV, notV, wp_bind, wp_pure, wp_if, List.map, List.length, List.replicate, List.append, List.cons_append, List.nil_append, Nat.reduceSub, Nat.reduceAdd, Nat.reduceLeDiff, List.getElem?_cons_zero, List.getElem?_cons_succ, List.set_cons_zero, List.set_cons_succ, wp_int, wp_intb, wp_int20, wp_toB, wp_add, wp_abs, wp_neg, wp_lenL, pen0, pen1, pen2, put1, put2, decide_true, decide_false, if_true, if_false, Bool.false_eq_true, Nat.zero_le, exists_eq_left, and_true, true_and, Bool.not_true, Bool.not_false, reduceCtorEq, reduceIte]
            exact ⟨_, rfl, by simp [lrowB, hf, hl]⟩
          · have hl2 : ps.length = s.length := by simpa using hl
            have hr : -100000 ≤ (s.length : Int) ∧ (s.length : Int) ≤ 100000 := by omega
            have R : ∀ {S : Sto} {Q : List D → Sto → Prop}, Wp (rngOf [.int (s.length : Int)]) S Q ↔ Q (rgD 0 s.length) S := fun {S Q} => by
              rw [wp_rng hr]
              rfl
            have sl : s.cps.toList.length = s.length := Array.length_toList
            simp only [sSeq, sIf, sAsg, sRet, sNil, gSet, gPut, tst, b2, b1, cal, on1, aCons, vget, mkL, mkT, calF, andT, orT, notT, andV, notV, wp_bind, wp_pure, wp_if, List.map, List.length, List.replicate, List.append, List.cons_append, List.nil_append, Nat.reduceSub, Nat.reduceAdd, Nat.reduceLeDiff, List.getElem?_cons_zero, List.getElem?_cons_succ, List.set_cons_zero, List.set_cons_succ, wp_int, wp_intb, wp_int20, wp_toB, wp_add, wp_abs, wp_neg, wp_lenL, pen0, pen1, pen2, put1, put2, decide_true, decide_false, if_true, if_false, Bool.false_eq_true, Nat.zero_le, exists_eq_left, and_true, true_and, Bool.not_true, Bool.not_false, reduceCtorEq, reduceIte, eLc, len1, wp_lenS (show s.length ≤ 100000 by omega), R, rgD_len]
            rw [if_pos (by omega)]
            unfold rgD
            rw [wp_lc (g := fun i : Nat => D.int (0 + i)) (f := fun i : Nat => D.int (0 + i)) (p := fun k => !sortB (s.cps.toList.getD k 0) (kget (.str x :: ps) (k + 1)))]
            · have nN : ∀ {ds : List D} {S : Sto} {Q : D → Sto → Prop}, Wp (neX (.lst ds) (.lst [])) S Q ↔ Q (.bl (!ds.isEmpty)) S := neNilB
              have sA : (List.range s.length).all (fun k => sortB (s.cps.toList.getD k 0) (kget (.str x :: ps) (k + 1))) = sortsAll (.str x :: ps) s.cps.toList := by rw [← sl]; rfl
              simp only [sSeq, sIf, sAsg, sRet, sNil, gSet, gPut, tst, b2, b1, cal, on1, aCons, vget, mkL, mkT, calF, andT, orT, notT, andV, notV, wp_bind, wp_pure, wp_if, List.map, List.length, List.replicate, List.append, List.cons_append, List.nil_append, Nat.reduceSub, Nat.reduceAdd, Nat.reduceLeDiff, List.getElem?_cons_zero, List.getElem?_cons_succ, List.set_cons_zero, List.set_cons_succ, wp_int, wp_intb, wp_int20, wp_toB, wp_add, wp_abs, wp_neg, wp_lenL, pen0, pen1, pen2, put1, put2, decide_true, decide_false, if_true, if_false, Bool.false_eq_true, Nat.zero_le, exists_eq_left, and_true, true_and, Bool.not_true, Bool.not_false, reduceCtorEq, reduceIte, nN, isEmpty_map, filter_not, sA]
              cases hA : sortsAll (.str x :: ps) s.cps.toList
              · simp only [sSeq, sIf, sAsg, sRet, sNil, gSet, gPut, tst, b2, b1, cal, on1, aCons, vget, mkL, mkT, calF, andT, orT, notT, andV, notV, wp_bind, wp_pure, wp_if, List.map, List.length, List.replicate, List.append, List.cons_append, List.nil_append, Nat.reduceSub, Nat.reduceAdd, Nat.reduceLeDiff, List.getElem?_cons_zero, List.getElem?_cons_succ, List.set_cons_zero, List.set_cons_succ, wp_int, wp_intb, wp_int20, wp_toB, wp_add, wp_abs, wp_neg, wp_lenL, pen0, pen1, pen2, put1, put2, decide_true, decide_false, if_true, if_false, Bool.false_eq_true, Nat.zero_le, exists_eq_left, and_true, true_and, Bool.not_true, Bool.not_false, reduceCtorEq, reduceIte]
                exact ⟨_, rfl, by simp [lrowB, hf, hl, hA]⟩
              · have at' : ∀ k, k < s.length → sortB (s.cps.toList.getD k 0) (kget (.str x :: ps) (k + 1)) = true := fun k hk => List.all_eq_true.1 hA k (List.mem_range.2 (by omega))
                have fin : ∀ {b : Bool}, tailB x (.str x :: ps) = b → ∃ d, Fl.rt (D.bl b) = Fl.rt d ∧ d = D.bl (lrowB (.tup (.str x :: ps))) := fun h => ⟨_, rfl, by simp [lrowB, hf, hl, hA, h]⟩
                have eo : ∀ {S : Sto} {Q : D → Sto → Prop}, Wp (eqY (.str x) (.str "open")) S Q ↔ Q (.bl (x == "open")) S := eqSS hx (by decide +kernel)
                have ec : ∀ {S : Sto} {Q : D → Sto → Prop}, Wp (neX (.str x) (.str "clean")) S Q ↔ Q (.bl (!(x == "clean"))) S := neSS hx (by decide +kernel)
                simp only [sSeq, sIf, sAsg, sRet, sNil, gSet, gPut, tst, b2, b1, cal, on1, aCons, vget, mkL, mkT, calF, andT, orT, notT, andV, notV, wp_bind, wp_pure, wp_if, List.map, List.length, List.replicate, List.append, List.cons_append, List.nil_append, Nat.reduceSub, Nat.reduceAdd, Nat.reduceLeDiff, List.getElem?_cons_zero, List.getElem?_cons_succ, List.set_cons_zero, List.set_cons_succ, wp_int, wp_intb, wp_int20, wp_toB, wp_add, wp_abs, wp_neg, wp_lenL, pen0, pen1, pen2, put1, put2, decide_true, decide_false, if_true, if_false, Bool.false_eq_true, Nat.zero_le, exists_eq_left, and_true, true_and, Bool.not_true, Bool.not_false, reduceCtorEq, reduceIte, eo, ec]
                by_cases h1 : x = "open"
                · subst h1
                  have es : s = "no" := by
                    have : FS.lookup ("open" : Str) = some ("no" : Str) := by decide +kernel
                    rw [this] at hf
                    exact (Option.some.inj hf).symm
                  subst es
                  have hp2 : ps.length = 2 := hl2
                  have j1 : ∀ {S : Sto} {Q : D → Sto → Prop}, Wp (ixM (.tup (.str "open" :: ps)) (.int 1)) S Q ↔ Q (kget (.str "open" :: ps) 1) S := ixG (i := 1) (by simp only [List.length_cons]; omega)
                  have j2 : ∀ {S : Sto} {Q : D → Sto → Prop}, Wp (ixM (.tup (.str "open" :: ps)) (.int 2)) S Q ↔ Q (kget (.str "open" :: ps) 2) S := ixG (i := 2) (by simp only [List.length_cons]; omega)
                  have a0 : betw 1 999999 (kget (.str "open" :: ps) 1) = true := at' 0 (by decide)
                  have a1 : (isNon (kget (.str "open" :: ps) 2) || betw 1 999999 (kget (.str "open" :: ps) 2)) = true := at' 1 (by decide)
                  have eq1 : ((("open" : Str) == "open") = true) = True := by decide +kernel
                  have tb : tailB "open" (.str "open" :: ps) = (isNon (kget (.str "open" :: ps) 2) || ltB (kget (.str "open" :: ps) 2) (kget (.str "open" :: ps) 1)) := rfl
                  simp only [eq1, if_true, orV, sSeq, sIf, sAsg, sRet, sNil, gSet, gPut, tst, b2, b1, cal, on1, aCons, vget, mkL, mkT, calF, andT, orT, notT, andV, notV, wp_bind, wp_pure, wp_if, List.map, List.length, List.replicate, List.append, List.cons_append, List.nil_append, Nat.reduceSub, Nat.reduceAdd, Nat.reduceLeDiff, List.getElem?_cons_zero, List.getElem?_cons_succ, List.set_cons_zero, List.set_cons_succ, wp_int, wp_intb, wp_int20, wp_toB, wp_add, wp_abs, wp_neg, wp_lenL, pen0, pen1, pen2, put1, put2, decide_true, decide_false, if_true, if_false, Bool.false_eq_true, Nat.zero_le, exists_eq_left, and_true, true_and, Bool.not_true, Bool.not_false, reduceCtorEq, reduceIte, j1, j2, isN_any]
                  obtain ⟨n, hn⟩ := betw_int a0
                  rw [hn] at tb ⊢
                  cases h2 : isNon (kget (.str "open" :: ps) 2)
                  · rw [h2] at a1 tb
                    obtain ⟨m, hm⟩ := betw_int (lo := 1) (hi := 999999) (d := kget (.str "open" :: ps) 2) (by simpa using a1)
                    rw [hm] at tb ⊢
                    simp only [sSeq, sIf, sAsg, sRet, sNil, gSet, gPut, tst, b2, b1, cal, on1, aCons, vget, mkL, mkT, calF, andT, orT, notT, andV, notV, wp_bind, wp_pure, wp_if, List.map, List.length, List.replicate, List.append, List.cons_append, List.nil_append, Nat.reduceSub, Nat.reduceAdd, Nat.reduceLeDiff, List.getElem?_cons_zero, List.getElem?_cons_succ, List.set_cons_zero, List.set_cons_succ, wp_int, wp_intb, wp_int20, wp_toB, wp_add, wp_abs, wp_neg, wp_lenL, pen0, pen1, pen2, put1, put2, decide_true, decide_false, if_true, if_false, Bool.false_eq_true, Nat.zero_le, exists_eq_left, and_true, true_and, Bool.not_true, Bool.not_false, reduceCtorEq, reduceIte]
                    simpa [ltB] using fin tb
                  · rw [h2] at tb
                    simp only [sSeq, sIf, sAsg, sRet, sNil, gSet, gPut, tst, b2, b1, cal, on1, aCons, vget, mkL, mkT, calF, andT, orT, notT, andV, notV, wp_bind, wp_pure, wp_if, List.map, List.length, List.replicate, List.append, List.cons_append, List.nil_append, Nat.reduceSub, Nat.reduceAdd, Nat.reduceLeDiff, List.getElem?_cons_zero, List.getElem?_cons_succ, List.set_cons_zero, List.set_cons_succ, wp_int, wp_intb, wp_int20, wp_toB, wp_add, wp_abs, wp_neg, wp_lenL, pen0, pen1, pen2, put1, put2, decide_true, decide_false, if_true, if_false, Bool.false_eq_true, Nat.zero_le, exists_eq_left, and_true, true_and, Bool.not_true, Bool.not_false, reduceCtorEq, reduceIte]
                    simpa using fin tb
                · have n1 : (x == ("open" : Str)) = false := beq_eq_false_iff_ne.2 h1
                  simp only [n1, Bool.false_eq_true, if_false, orV, sSeq, sIf, sAsg, sRet, sNil, gSet, gPut, tst, b2, b1, cal, on1, aCons, vget, mkL, mkT, calF, andT, orT, notT, andV, notV, wp_bind, wp_pure, wp_if, List.map, List.length, List.replicate, List.append, List.cons_append, List.nil_append, Nat.reduceSub, Nat.reduceAdd, Nat.reduceLeDiff, List.getElem?_cons_zero, List.getElem?_cons_succ, List.set_cons_zero, List.set_cons_succ, wp_int, wp_intb, wp_int20, wp_toB, wp_add, wp_abs, wp_neg, wp_lenL, pen0, pen1, pen2, put1, put2, decide_true, decide_false, if_true, if_false, Bool.false_eq_true, Nat.zero_le, exists_eq_left, and_true, true_and, Bool.not_true, Bool.not_false, reduceCtorEq, reduceIte, ec]
                  by_cases h2 : x = "clean"
                  · subst h2
                    have es : s = "stt" := by
                      have : FS.lookup ("clean" : Str) = some ("stt" : Str) := by decide +kernel
                      rw [this] at hf
                      exact (Option.some.inj hf).symm
                    subst es
                    have hp3 : ps.length = 3 := hl2
                    have j2 : ∀ {S : Sto} {Q : D → Sto → Prop}, Wp (ixM (.tup (.str "clean" :: ps)) (.int 2)) S Q ↔ Q (kget (.str "clean" :: ps) 2) S := ixG (i := 2) (by simp only [List.length_cons]; omega)
                    have j3 : ∀ {S : Sto} {Q : D → Sto → Prop}, Wp (ixM (.tup (.str "clean" :: ps)) (.int 3)) S Q ↔ Q (kget (.str "clean" :: ps) 3) S := ixG (i := 3) (by simp only [List.length_cons]; omega)
                    have a1 : slotsB (kget (.str "clean" :: ps) 2) = true := at' 1 (by decide)
                    have a2 : slotsB (kget (.str "clean" :: ps) 3) = true := at' 2 (by decide)
                    have g2 : partV (kget (.str "clean" :: ps) 2) := gd _ (kget_mem (by simp only [List.length_cons]; omega))
                    have eq1 : ((("clean" : Str) == "clean")) = true := by decide +kernel
                    have tb : tailB "clean" (.str "clean" :: ps) = (intsD (kget (.str "clean" :: ps) 2)).all fun i => !decide (i ∈ intsD (kget (.str "clean" :: ps) 3)) := by simp [tailB, n1]
                    obtain ⟨ns, hns, _⟩ := slotsB_tup a1
                    obtain ⟨ms, hms, _⟩ := slotsB_tup a2
                    have l2 := (g2.it _ hns).1
                    have in1 : intsD (.tup (ns.map D.int)) = ns := by simp [intsD, ints_map]
                    have in2 : intsD (.tup (ms.map D.int)) = ms := by simp [intsD, ints_map]
                    rw [hns, hms, in1, in2] at tb
                    simp only [i0, ec, eq1, sSeq, sIf, sAsg, sRet, sNil, gSet, gPut, tst, b2, b1, cal, on1, aCons, vget, mkL, mkT, calF, andT, orT, notT, andV, notV, wp_bind, wp_pure, wp_if, List.map, List.length, List.replicate, List.append, List.cons_append, List.nil_append, Nat.reduceSub, Nat.reduceAdd, Nat.reduceLeDiff, List.getElem?_cons_zero, List.getElem?_cons_succ, List.set_cons_zero, List.set_cons_succ, wp_int, wp_intb, wp_int20, wp_toB, wp_add, wp_abs, wp_neg, wp_lenL, pen0, pen1, pen2, put1, put2, decide_true, decide_false, if_true, if_false, Bool.false_eq_true, Nat.zero_le, exists_eq_left, and_true, true_and, Bool.not_true, Bool.not_false, reduceCtorEq, reduceIte, eLc, iSeq, j2, hns, wp_itT, l2]
                    rw [wp_lc (g := D.int) (f := D.int) (p := fun i => decide (i ∈ ms))]
                    · have eN : ∀ {ds : List D} {S : Sto} {Q : D → Sto → Prop}, Wp (eqY (.lst ds) (.lst [])) S Q ↔ Q (.bl ds.isEmpty) S := wp_eqNilB
                      have F : (ns.filter fun i => decide (i ∈ ms)).isEmpty = ns.all fun i => !decide (i ∈ ms) := by
                        rw [← filter_not]
                        congr 1
                        congr 1
                        funext i
                        simp
                      simp only [sSeq, sIf, sAsg, sRet, sNil, gSet, gPut, tst, b2, b1, cal, on1, aCons, vget, mkL, mkT, calF, andT, orT, notT, andV, notV, wp_bind, wp_pure, wp_if, List.map, List.length, List.replicate, List.append, List.cons_append, List.nil_append, Nat.reduceSub, Nat.reduceAdd, Nat.reduceLeDiff, List.getElem?_cons_zero, List.getElem?_cons_succ, List.set_cons_zero, List.set_cons_succ, wp_int, wp_intb, wp_int20, wp_toB, wp_add, wp_abs, wp_neg, wp_lenL, pen0, pen1, pen2, put1, put2, decide_true, decide_false, if_true, if_false, Bool.false_eq_true, Nat.zero_le, exists_eq_left, and_true, true_and, Bool.not_true, Bool.not_false, reduceCtorEq, reduceIte, eN, isEmpty_map, F]
                      rw [← tb]
                      simpa using fin rfl
                    · intro y _
                      simp only [wipeE, List.foldr, List.set_cons_zero, List.set_cons_succ]
                      refine eq_of_wp ?_
                      simp only [sSeq, sIf, sAsg, sRet, sNil, gSet, gPut, tst, b2, b1, cal, on1, aCons, vget, mkL, mkT, calF, andT, orT, notT, andV, notV, wp_bind, wp_pure, wp_if, List.map, List.length, List.replicate, List.append, List.cons_append, List.nil_append, Nat.reduceSub, Nat.reduceAdd, Nat.reduceLeDiff, List.getElem?_cons_zero, List.getElem?_cons_succ, List.set_cons_zero, List.set_cons_succ, wp_int, wp_intb, wp_int20, wp_toB, wp_add, wp_abs, wp_neg, wp_lenL, pen0, pen1, pen2, put1, put2, decide_true, decide_false, if_true, if_false, Bool.false_eq_true, Nat.zero_le, exists_eq_left, and_true, true_and, Bool.not_true, Bool.not_false, reduceCtorEq, reduceIte, j3, hms, in_ints]
                    · intro y _ _
                      rfl
                  · have n2 : (x == ("clean" : Str)) = false := beq_eq_false_iff_ne.2 h2
                    have tb : tailB x (.str x :: ps) = true := by simp [tailB, n1, n2]
                    simp only [i0, ec, n2, sSeq, sIf, sAsg, sRet, sNil, gSet, gPut, tst, b2, b1, cal, on1, aCons, vget, mkL, mkT, calF, andT, orT, notT, andV, notV, wp_bind, wp_pure, wp_if, List.map, List.length, List.replicate, List.append, List.cons_append, List.nil_append, Nat.reduceSub, Nat.reduceAdd, Nat.reduceLeDiff, List.getElem?_cons_zero, List.getElem?_cons_succ, List.set_cons_zero, List.set_cons_succ, wp_int, wp_intb, wp_int20, wp_toB, wp_add, wp_abs, wp_neg, wp_lenL, pen0, pen1, pen2, put1, put2, decide_true, decide_false, if_true, if_false, Bool.false_eq_true, Nat.zero_le, exists_eq_left, and_true, true_and, Bool.not_true, Bool.not_false, reduceCtorEq, reduceIte]
                    simpa using fin tb
            · intro y hy
              have hy : y < s.length := List.mem_range.1 hy
              have hcy : s.cps.toList.getD y 0 ∈ SORTS := by
                have hm : s.cps.toList.getD y 0 ∈ s.cps.toList := by
                  rw [List.getD_eq_getElem?_getD, List.getElem?_eq_getElem (by omega)]
                  exact List.getElem_mem (by omega)
                exact of_decide_eq_true (List.all_eq_true.1 hc _ hm)
              have g1 : partV (kget (.str x :: ps) (y + 1)) := gd _ (kget_mem (by simp only [List.length_cons]; omega))
              have x1 : ∀ {S : Sto} {Q : D → Sto → Prop}, Wp (ixM (.tup (.str x :: ps)) (.int (0 + (y : Int) + 1))) S Q ↔ Q (kget (.str x :: ps) (y + 1)) S := by
                intro S Q
                rw [show (0 + (y : Int) + 1) = ((y + 1 : Nat) : Int) by omega]
                exact ixG (by simp only [List.length_cons]; omega)
              have x2 : ∀ {S : Sto} {Q : D → Sto → Prop}, Wp (ixM (.str s) (.int (0 + (y : Int)))) S Q ↔ Q (sgn (s.cps.toList.getD y 0)) S := by
                intro S Q
                rw [show (0 + (y : Int)) = ((y : Nat) : Int) by omega]
                exact ixSgn (by omega) (by omega)
              simp only [wipeE, List.foldr, List.set_cons_zero, List.set_cons_succ]
              refine eq_of_wp ?_
              simp only [sSeq, sIf, sAsg, sRet, sNil, gSet, gPut, tst, b2, b1, cal, on1, aCons, vget, mkL, mkT, calF, andT, orT, notT, andV, notV, wp_bind, wp_pure, wp_if, List.map, List.length, List.replicate, List.append, List.cons_append, List.nil_append, Nat.reduceSub, Nat.reduceAdd, Nat.reduceLeDiff, List.getElem?_cons_zero, List.getElem?_cons_succ, List.set_cons_zero, List.set_cons_succ, wp_int, wp_intb, wp_int20, wp_toB, wp_add, wp_abs, wp_neg, wp_lenL, pen0, pen1, pen2, put1, put2, decide_true, decide_false, if_true, if_false, Bool.false_eq_true, Nat.zero_le, exists_eq_left, and_true, true_and, Bool.not_true, Bool.not_false, reduceCtorEq, reduceIte, x1, x2, wp_of (lfits_ok hcy g1)]
            · intro y hy _
              rfl
      | _ => simp only [sSeq, sIf, sAsg, sRet, sNil, gSet, gPut, tst, b2, b1, cal, on1, aCons, vget, mkL, mkT, calF, andT, orT, notT, andV, notV, wp_bind, wp_pure, wp_if, List.map, List.length, List.replicate, List.append, List.cons_append, List.nil_append, Nat.reduceSub, Nat.reduceAdd, Nat.reduceLeDiff, List.getElem?_cons_zero, List.getElem?_cons_succ, List.set_cons_zero, List.set_cons_succ, wp_int, wp_intb, wp_int20, wp_toB, wp_add, wp_abs, wp_neg, wp_lenL, pen0, pen1, pen2, put1, put2, decide_true, decide_false, if_true, if_false, Bool.false_eq_true, Nat.zero_le, exists_eq_left, and_true, true_and, Bool.not_true, Bool.not_false, reduceCtorEq, reduceIte, isi_tupT, Y0, List.isEmpty, i0, isi_S ht.nr, isT]; exact ⟨_, rfl, rfl⟩
end
end Mi
namespace Mi
open PySem PySem.Spec PyProof.Rows L2
theorem slotsK_rem {p q : D} : slotsK "removed" p q = slotsB p := by
  have e1 : (("removed" : Str) == "tidied") = false := by decide +kernel
  have e2 : (("removed" : Str) == "marked") = false := by decide +kernel
  simp [slotsK, e1, e2]
theorem slotsK_mar {p q : D} : slotsK "marked" p q = (slotsB p && !(intsD p).any fun i => decide (i ∈ intsD q)) := by
  have e1 : (("marked" : Str) == "tidied") = false := by decide +kernel
  have e2 : (("marked" : Str) == "marked") = true := by decide +kernel
  simp only [slotsK, e1, e2, Bool.false_and, Bool.true_and, Bool.not_false, Bool.and_true]
theorem slotsK_tid {p q : D} : slotsK "tidied" p q = (slotsB p && !(intsD p).isEmpty) := by
  have e1 : (("tidied" : Str) == "tidied") = true := by decide +kernel
  have e2 : (("tidied" : Str) == "marked") = false := by decide +kernel
  simp only [slotsK, e1, e2, Bool.false_and, Bool.true_and, Bool.not_false, Bool.and_true]
theorem disj {ns ms : List Int} : (!(ms.any fun i => decide (i ∈ ns))) = ns.all fun i => !decide (i ∈ ms) := by
  rw [Bool.eq_iff_iff]
  simp only [Bool.not_eq_true', List.any_eq_false, List.all_eq_true, decide_eq_true_eq, decide_eq_false_iff_not]
  exact ⟨fun h i hi hm => h i hm hi, fun h i hi hm => h i hm hi⟩
theorem none_both {x : Str} (h : FT.lookup x = none) : FS.lookup x = none := by
  have k : FS.map (·.1) = FT.map (·.1) := by decide +kernel
  have none_iff : ∀ {α : Type} {l : List (Str × α)}, l.lookup x = none ↔ x ∉ l.map (·.1) := by
    intro α l
    induction l with
    | nil => simp
    | cons p l ih =>
      obtain ⟨a, b⟩ := p
      simp only [List.lookup, List.map_cons, List.mem_cons]
      cases e : x == a
      · have : ¬ x = a := by simpa using e
        simp [ih, this]
      · have : x = a := by simpa using e
        simp [this]
  rw [none_iff, k, ← none_iff]
  exact h
theorem len_of {α : Type} {n : Nat} {ps : List α} : (ps.length == n) = true ↔ ps.length = n := by simp
theorem row_eq : ∀ v, rowB v = lrowB v := by
  intro v
  cases v with
  | tup ds =>
    rcases ds with _ | ⟨t, ps⟩
    · rfl
    · cases t with
      | str x =>
        cases hx : FT.lookup x with
        | none => simp [rowB, lrowB, hx, none_both hx]
        | some ks =>
          -- which word it is
          have w : x ∈ FT.map (·.1) := by
            have : ∀ {α : Type} {l : List (Str × α)} {v : α}, l.lookup x = some v → x ∈ l.map (·.1) := by
              intro α l v
              induction l with
              | nil => simp
              | cons p l ih =>
                obtain ⟨a, b⟩ := p
                simp only [List.lookup, List.map_cons, List.mem_cons]
                cases e : x == a
                · exact fun h => .inr (ih h)
                · exact fun _ => .inl (by simpa using e)
            exact this hx
          have same : ∀ {x : Str} {ks : List Str} {s : Str}, FT.lookup x = some ks → FS.lookup x = some s → ks.length = s.length → (ps.length = ks.length → fitsFrom (.str x :: ps) 0 ks = (sortsAll (.str x :: ps) s.cps.toList && tailB x (.str x :: ps))) → rowB (.tup (.str x :: ps)) = lrowB (.tup (.str x :: ps)) := by
            intro x ks s h1 h2 h3 h4
            simp only [rowB, lrowB, h1, h2]
            rw [h3]
            by_cases hl : ps.length = s.length
            · rw [h4 (by omega)]
            · rw [beq_eq_false_iff_ne.2 hl]; simp
          have tl : ∀ {x : Str} {ds : List D}, (x == ("open" : Str)) = false → (x == ("clean" : Str)) = false → tailB x ds = true := fun a b => by simp [tailB, a, b]
          simp only [FT, List.map_cons, List.map_nil, List.mem_cons, List.not_mem_nil, or_false] at w
          rcases w with rfl | rfl | rfl | rfl | rfl | rfl | rfl | rfl | rfl | rfl | rfl | rfl | rfl | rfl
          · refine same (ks := ["number", "outer"]) (s := "no") (by decide +kernel) (by decide +kernel) (by decide +kernel) fun _ => ?_
            have e1 : fitsFrom (.str "open" :: ps) 0 ["number", "outer"] = (betw 1 999999 (kget (.str "open" :: ps) 1) && ((isNon (kget (.str "open" :: ps) 2) || (betw 1 999999 (kget (.str "open" :: ps) 2) && ltB (kget (.str "open" :: ps) 2) (kget (.str "open" :: ps) 1))) && true)) := rfl
            have e2 : sortsAll (.str "open" :: ps) ("no" : Str).cps.toList = (betw 1 999999 (kget (.str "open" :: ps) 1) && ((isNon (kget (.str "open" :: ps) 2) || betw 1 999999 (kget (.str "open" :: ps) 2)) && true)) := rfl
            have e3 : tailB "open" (.str "open" :: ps) = (isNon (kget (.str "open" :: ps) 2) || ltB (kget (.str "open" :: ps) 2) (kget (.str "open" :: ps) 1)) := rfl
            rw [e1, e2, e3]
            cases betw 1 999999 (kget (.str "open" :: ps) 1) <;> cases isNon (kget (.str "open" :: ps) 2) <;> cases betw 1 999999 (kget (.str "open" :: ps) 2) <;> cases ltB (kget (.str "open" :: ps) 2) (kget (.str "open" :: ps) 1) <;> rfl
          · refine same (ks := ["number", "page", "slot", "key", "value"]) (s := "nsskv") (by decide +kernel) (by decide +kernel) (by decide +kernel) fun _ => ?_
            rw [tl (by decide +kernel) (by decide +kernel), Bool.and_true]; rfl
          · refine same (ks := ["number", "page", "slot", "page", "slot", "value"]) (s := "nssssv") (by decide +kernel) (by decide +kernel) (by decide +kernel) fun _ => ?_
            rw [tl (by decide +kernel) (by decide +kernel), Bool.and_true]; rfl
          · refine same (ks := ["number", "page", "slot"]) (s := "nss") (by decide +kernel) (by decide +kernel) (by decide +kernel) fun _ => ?_
            rw [tl (by decide +kernel) (by decide +kernel), Bool.and_true]; rfl
          · refine same (ks := ["number", "page", "slot"]) (s := "nss") (by decide +kernel) (by decide +kernel) (by decide +kernel) fun _ => ?_
            rw [tl (by decide +kernel) (by decide +kernel), Bool.and_true]; rfl
          · refine same (ks := ["number", "page", "slot"]) (s := "nss") (by decide +kernel) (by decide +kernel) (by decide +kernel) fun _ => ?_
            rw [tl (by decide +kernel) (by decide +kernel), Bool.and_true]; rfl
          · refine same (ks := ["number"]) (s := "n") (by decide +kernel) (by decide +kernel) (by decide +kernel) fun _ => ?_
            rw [tl (by decide +kernel) (by decide +kernel), Bool.and_true]; rfl
          · refine same (ks := ["number"]) (s := "n") (by decide +kernel) (by decide +kernel) (by decide +kernel) fun _ => ?_
            rw [tl (by decide +kernel) (by decide +kernel), Bool.and_true]; rfl
          · refine same (ks := ["number", "view"]) (s := "nw") (by decide +kernel) (by decide +kernel) (by decide +kernel) fun _ => ?_
            rw [tl (by decide +kernel) (by decide +kernel), Bool.and_true]; rfl
          · refine same (ks := ["page", "removed", "marked"]) (s := "stt") (by decide +kernel) (by decide +kernel) (by decide +kernel) fun _ => ?_
            have e1 : fitsFrom (.str "clean" :: ps) 0 ["page", "removed", "marked"] = (betw 0 7 (kget (.str "clean" :: ps) 1) && (slotsK "removed" (kget (.str "clean" :: ps) 2) (kget (.str "clean" :: ps) 1) && (slotsK "marked" (kget (.str "clean" :: ps) 3) (kget (.str "clean" :: ps) 2) && true))) := rfl
            have e2 : sortsAll (.str "clean" :: ps) ("stt" : Str).cps.toList = (betw 0 7 (kget (.str "clean" :: ps) 1) && (slotsB (kget (.str "clean" :: ps) 2) && (slotsB (kget (.str "clean" :: ps) 3) && true))) := rfl
            have e3 : tailB "clean" (.str "clean" :: ps) = ((intsD (kget (.str "clean" :: ps) 2)).all fun i => !decide (i ∈ intsD (kget (.str "clean" :: ps) 3))) := by
              have n1 : (("clean" : Str) == "open") = false := by decide +kernel
              simp [tailB, n1]
            rw [e1, e2, e3, slotsK_rem, slotsK_mar, disj]
            cases betw 0 7 (kget (.str "clean" :: ps) 1) <;> cases slotsB (kget (.str "clean" :: ps) 2) <;> cases slotsB (kget (.str "clean" :: ps) 3) <;> simp
          · refine same (ks := ["page", "tidied"]) (s := "su") (by decide +kernel) (by decide +kernel) (by decide +kernel) fun _ => ?_
            rw [tl (by decide +kernel) (by decide +kernel), Bool.and_true]
            have e1 : fitsFrom (.str "tidy" :: ps) 0 ["page", "tidied"] = (betw 0 7 (kget (.str "tidy" :: ps) 1) && (slotsK "tidied" (kget (.str "tidy" :: ps) 2) (kget (.str "tidy" :: ps) 1) && true)) := rfl
            rw [e1, slotsK_tid]; rfl
          · refine same (ks := []) (s := "") (by decide +kernel) (by decide +kernel) (by decide +kernel) fun _ => ?_
            rw [tl (by decide +kernel) (by decide +kernel), Bool.and_true]; rfl
          · refine same (ks := ["told"]) (s := "e") (by decide +kernel) (by decide +kernel) (by decide +kernel) fun _ => ?_
            rw [tl (by decide +kernel) (by decide +kernel), Bool.and_true]; rfl
          · refine same (ks := []) (s := "") (by decide +kernel) (by decide +kernel) (by decide +kernel) fun _ => ?_
            rw [tl (by decide +kernel) (by decide +kernel), Bool.and_true]; rfl
      | _ => rfl
  | _ => rfl
end Mi
namespace Mi
open PySem PySem.Spec PyProof.Rows L2
/-! ### a join of single signs -/
def AllC (L : List Nat) (x : Str) : Prop := ∀ c ∈ x.cps.toList, c ∈ L
theorem allc_fold {L : List Nat} : ∀ (ys : List Str) (acc : Array Nat), (∀ c ∈ acc.toList, c ∈ L) → (∀ y ∈ ys, AllC L y) → ∀ c ∈ (ys.foldl (fun acc p => acc ++ (⟨#[]⟩ : Str).cps ++ p.cps) acc).toList, c ∈ L
  | [], acc, h, _ => h
  | y :: ys, acc, h, hy => allc_fold ys _ (fun c hc => by
      simp only [Array.append_empty, Array.toList_append, List.mem_append] at hc
      rcases hc with hc | hc
      · exact h c hc
      · exact hy y (by simp) c hc) (fun z hz => hy z (by simp [hz]))
theorem allc_join {L : List Nat} {ys : List Str} (h : ∀ y ∈ ys, AllC L y) : AllC L (Txt.join (⟨#[]⟩ : Str) ys) := by
  show ∀ c ∈ (Builtin.Str.glued (⟨#[]⟩ : Str) ys).cps.toList, c ∈ L
  unfold Builtin.Str.glued
  rcases ys with _ | ⟨y, ys⟩
  · intro c hc; cases hc
  · exact allc_fold ys _ (h y (by simp)) (fun z hz => h z (by simp [hz]))
def sgL (L : List Nat) (d : D) : Prop := ∃ c ∈ L, d = sgn c
theorem strs_ofL {L : List Nat} : ∀ {ys : List D}, (∀ y ∈ ys, sgL L y) → ∃ xs : List Str, strsOf ys = some xs ∧ xs.length = ys.length ∧ (∀ x ∈ xs, AllC L x ∧ x.length = 1)
  | [], _ => ⟨[], rfl, rfl, fun _ h => by cases h⟩
  | y :: ys, h => by
    obtain ⟨c, hc, rfl⟩ := h y (by simp)
    obtain ⟨xs, h1, h2, h3⟩ := strs_ofL (ys := ys) (fun z hz => h z (by simp [hz]))
    refine ⟨⟨#[c]⟩ :: xs, by simp [strsOf, sgn, h1], by simp [h2], fun x hx => ?_⟩
    rcases List.mem_cons.1 hx with rfl | hx
    · exact ⟨fun k hk => by simp at hk; rw [hk]; exact hc, rfl⟩
    · exact h3 x hx
theorem ones {L : List Nat} : ∀ {xs : List Str}, (∀ x ∈ xs, AllC L x ∧ x.length = 1) → (xs.map (·.length)).sum = xs.length
  | [], _ => rfl
  | x :: xs, h => by
    have := (h x (by simp)).2
    have := ones (xs := xs) (fun z hz => h z (by simp [hz]))
    simp only [List.map_cons, List.sum_cons, List.length_cons]
    omega
theorem join_okL {L : List Nat} {ys : List D} {S : Sto} {Q : D → Sto → Prop} (h : ∀ y ∈ ys, sgL L y) (hl : ys.length ≤ 1000) (hQ : ∀ x : Str, AllC L x → x.length = ys.length → Q (.str x) S) : Wp (joinM (.str (⟨#[]⟩ : Str)) [.lst ys]) S Q := by
  obtain ⟨xs, h1, h2, h3⟩ := strs_ofL h
  have e : (⟨#[]⟩ : Str).length = 0 := rfl
  have s1 := ones h3
  have c1 : (xs.map (·.length)).sum + xs.length * (⟨#[]⟩ : Str).length ≤ 100000 := by rw [s1, e]; omega
  refine (wp_of (x := .str (Txt.join (⟨#[]⟩ : Str) xs)) (S' := S) ?_).2 (hQ _ (allc_join fun y hy => (h3 y hy).1) ?_)
  · simp only [joinM, asQ, asR, asC, h1]
    rw [if_pos c1]
  · have := size_glued (⟨#[]⟩ : Str) xs
    show (Builtin.Str.glued (⟨#[]⟩ : Str) xs).length = ys.length
    rw [this, s1, e, ← h2]
    omega
section
variable {cells : List Int} {T : Sto} {A : Int} {S : Sto}
theorem pick_ok (P : D → Prop) {ds : List D} (hP : ∀ d ∈ ds, P d) (hn : 0 < ds.length) (hn2 : ds.length < 1000) (hc : cells.length ≤ 63) (hA : A ≤ 100000) (hp : Pen cells T A S) :
    Wp (m__law_pick [.ref 0, .lst ds]) S fun v S' => P v ∧ Pen cells T (A + 1) S' := by
  unfold m__law_pick
  refine wp_run ?_
  unfold b__law_pick
  simp only [sSeq, sIf, sAsg, sRet, sNil, gSet, gPut, tst, b2, b1, cal, on1, aCons, vget, mkL, mkT, calF, andT, orT, notT, andV, notV, wp_bind, wp_pure, wp_if, List.map, List.length, List.replicate, List.append, List.cons_append, List.nil_append, Nat.reduceSub, Nat.reduceAdd, Nat.reduceLeDiff, List.getElem?_cons_zero, List.getElem?_cons_succ, List.set_cons_zero, List.set_cons_succ, wp_int, wp_intb, wp_int20, wp_toB, wp_add, wp_abs, wp_neg, wp_lenL, pen0, pen1, pen2, put1, put2, decide_true, decide_false, if_true, if_false, Bool.false_eq_true, Nat.zero_le, exists_eq_left, and_true, true_and, Bool.not_true, Bool.not_false, reduceCtorEq, reduceIte]
  refine (draw_ok hc hA hp (by omega) (by omega)).mono ?_
  rintro v S1 ⟨z, rfl, h0, h1, hp1⟩
  exact wp_pick (P := P) hP h0 h1 fun d hd => ⟨d, rfl, hd, hp1⟩
def OB : Int := 10 ^ 59
theorem OB_big : 10000000 ≤ OB := by decide +kernel
def G0 (d : D) : Prop := GD OB 2 3000 d
theorem g0_int {i : Int} (h : -10000000 ≤ i ∧ i ≤ 10000000) {w : Nat} (hw : 110 ≤ w) {h' : Nat} : GD OB h' w (.int i) := GD.leaf ⟨by have := OB_big; omega, by have := OB_big; omega, hw⟩
theorem g0_str {x : Str} (h : (x.cps.toList.all (fun c => decide (c < 128))) = true) (k : x.length ≤ 9) {w : Nat} (hw : 92 ≤ w) {h' : Nat} : GD OB h' w (.str x) := GD.leaf ⟨fun c hc => of_decide_eq_true (List.all_eq_true.1 h c hc), by omega⟩
theorem g0_lf {d : D} (h : leafG OB 8 d) {w : Nat} (hw : 8 ≤ w) {h' : Nat} : GD OB h' w d := GD.leaf (h.mono (Int.le_refl _) hw)
theorem g0_tup {ds : List D} {w h' : Nat} (g : GL (GD OB h') w ds) {w' : Nat} (hw : w ≤ w') : GD OB (h' + 1) w' (.tup ds) := GD.mono (Int.le_refl _) (GD.tup g) (Nat.le_refl _) hw
theorem g0_lst {ds : List D} {w h' : Nat} (g : GL (GD OB h') w ds) {w' : Nat} (hw : w ≤ w') : GD OB (h' + 1) w' (.lst ds) := GD.mono (Int.le_refl _) (GD.lst g) (Nat.le_refl _) hw
theorem pow59 : ((10 : Int) ^ (59 : Int).toNat) = OB := by decide +kernel
/-! ### written data, weighed -/
def wtL (f : D → Option Nat) : List D → Option Nat
  | [] => some 3
  | d :: ds => match f d, wtL f ds with
    | some a, some b => some (a + 2 + b)
    | _, _ => none
def wtLeaf : D → Option Nat
  | .non => some 8
  | .bl _ => some 8
  | .int i => if -OB ≤ i ∧ i ≤ OB then some 110 else none
  | .str x => if x.cps.toList.all (fun c => decide (c < 128)) = true then some (10 * x.length + 2) else none
  | .dct [] => some 8
  | .dct [(.str x, .int i)] => if x = "a" ∧ i = 1 then some 30 else none
  | _ => none
def wtF : Nat → D → Option Nat
  | h + 1, .tup ds => wtL (wtF h) ds
  | h + 1, .lst ds => wtL (wtF h) ds
  | _, d => wtLeaf d
theorem wtL_ok {f : D → Option Nat} {P : Nat → D → Prop} (h : ∀ d w, f d = some w → P w d) : ∀ {ds : List D} {w : Nat}, wtL f ds = some w → GL P w ds
  | [], w, e => by
    simp only [wtL] at e
    cases e
    exact Nat.le_refl 3
  | d :: ds, w, e => by
    simp only [wtL] at e
    rcases h1 : f d with _ | a
    · rw [h1] at e; cases e
    · rcases h2 : wtL f ds with _ | b
      · rw [h1, h2] at e; cases e
      · rw [h1, h2] at e
        cases e
        exact ⟨a, b, h d a h1, wtL_ok h h2, Nat.le_refl _⟩
theorem wtLeaf_ok {d : D} {w : Nat} (e : wtLeaf d = some w) : leafG OB w d := by
  unfold wtLeaf at e
  split at e
  · cases e; exact Nat.le_refl 8
  · cases e; exact Nat.le_refl 8
  · split at e
    · rename_i h; cases e; exact ⟨h.1, h.2, Nat.le_refl _⟩
    · cases e
  · split at e
    · rename_i h; cases e; exact ⟨fun c hc => of_decide_eq_true (List.all_eq_true.1 h c hc), Nat.le_refl _⟩
    · cases e
  · cases e; exact Nat.le_refl 8
  · split at e
    · rename_i h; cases e; exact ⟨Nat.le_refl _, h.1, h.2⟩
    · cases e
  · cases e
theorem wtF_ok : ∀ (h : Nat) (d : D) (w : Nat), wtF h d = some w → GD OB h w d
  | 0, d, w, e => by
    have e : wtLeaf d = some w := by cases d <;> exact e
    exact wtLeaf_ok e
  | h + 1, d, w, e => by
    cases d with
    | tup ds => exact .inr ⟨ds, .inl rfl, wtL_ok (fun d w e => wtF_ok h d w e) e⟩
    | lst ds => exact .inr ⟨ds, .inr rfl, wtL_ok (fun d w e => wtF_ok h d w e) e⟩
    | non => exact .inl (wtLeaf_ok e)
    | bl k => exact .inl (wtLeaf_ok e)
    | int k => exact .inl (wtLeaf_ok e)
    | str k => exact .inl (wtLeaf_ok e)
    | dct k => exact .inl (wtLeaf_ok e)
    | lsr k => exact .inl (wtLeaf_ok e)
    | ref k => exact .inl (wtLeaf_ok e)
def ckG (d : D) : Bool := match wtF 2 d with
  | some w => decide (w ≤ 3000)
  | none => false
theorem ckG_ok {d : D} (h : ckG d = true) : G0 d := by
  unfold ckG at h
  split at h
  · rename_i w e
    exact GD.mono (Int.le_refl _) (wtF_ok 2 d w e) (Nat.le_refl _) (of_decide_eq_true h)
  · cases h
theorem odd_ok (hc : cells.length ≤ 63) (hA : A ≤ 90000) (hp : Pen cells T A S) : Wp (m__law_odd [.ref 0]) S fun v S' => G0 v ∧ Pen cells T (A + 1) S' := by
  unfold m__law_odd
  refine wp_run ?_
  unfold b__law_odd
  have c59 : CPow 10 59 := by decide
  simp only [sSeq, sIf, sAsg, sRet, sNil, gSet, gPut, tst, b2, b1, cal, on1, aCons, vget, mkL, mkT, calF, andT, orT, notT, andV, notV, wp_bind, wp_pure, wp_if, List.map, List.length, List.replicate, List.append, List.cons_append, List.nil_append, Nat.reduceSub, Nat.reduceAdd, Nat.reduceLeDiff, List.getElem?_cons_zero, List.getElem?_cons_succ, List.set_cons_zero, List.set_cons_succ, wp_int, wp_intb, wp_int20, wp_toB, wp_add, wp_abs, wp_neg, wp_lenL, pen0, pen1, pen2, put1, put2, decide_true, decide_false, if_true, if_false, Bool.false_eq_true, Nat.zero_le, exists_eq_left, and_true, true_and, Bool.not_true, Bool.not_false, reduceCtorEq, reduceIte, wp_int2 c59, subM, pow59]
  rw [wp_addL (by simp)]
  simp only [sSeq, sIf, sAsg, sRet, sNil, gSet, gPut, tst, b2, b1, cal, on1, aCons, vget, mkL, mkT, calF, andT, orT, notT, andV, notV, wp_bind, wp_pure, wp_if, List.map, List.length, List.replicate, List.append, List.cons_append, List.nil_append, Nat.reduceSub, Nat.reduceAdd, Nat.reduceLeDiff, List.getElem?_cons_zero, List.getElem?_cons_succ, List.set_cons_zero, List.set_cons_succ, wp_int, wp_intb, wp_int20, wp_toB, wp_add, wp_abs, wp_neg, wp_lenL, pen0, pen1, pen2, put1, put2, decide_true, decide_false, if_true, if_false, Bool.false_eq_true, Nat.zero_le, exists_eq_left, and_true, true_and, Bool.not_true, Bool.not_false, reduceCtorEq, reduceIte]
  rw [wp_addL (by simp)]
  simp only [sSeq, sIf, sAsg, sRet, sNil, gSet, gPut, tst, b2, b1, cal, on1, aCons, vget, mkL, mkT, calF, andT, orT, notT, andV, notV, wp_bind, wp_pure, wp_if, List.map, List.length, List.replicate, List.append, List.cons_append, List.nil_append, Nat.reduceSub, Nat.reduceAdd, Nat.reduceLeDiff, List.getElem?_cons_zero, List.getElem?_cons_succ, List.set_cons_zero, List.set_cons_succ, wp_int, wp_intb, wp_int20, wp_toB, wp_add, wp_abs, wp_neg, wp_lenL, pen0, pen1, pen2, put1, put2, decide_true, decide_false, if_true, if_false, Bool.false_eq_true, Nat.zero_le, exists_eq_left, and_true, true_and, Bool.not_true, Bool.not_false, reduceCtorEq, reduceIte]
  rw [wp_addL (by simp)]
  simp only [sSeq, sIf, sAsg, sRet, sNil, gSet, gPut, tst, b2, b1, cal, on1, aCons, vget, mkL, mkT, calF, andT, orT, notT, andV, notV, wp_bind, wp_pure, wp_if, List.map, List.length, List.replicate, List.append, List.cons_append, List.nil_append, Nat.reduceSub, Nat.reduceAdd, Nat.reduceLeDiff, List.getElem?_cons_zero, List.getElem?_cons_succ, List.set_cons_zero, List.set_cons_succ, wp_int, wp_intb, wp_int20, wp_toB, wp_add, wp_abs, wp_neg, wp_lenL, pen0, pen1, pen2, put1, put2, decide_true, decide_false, if_true, if_false, Bool.false_eq_true, Nat.zero_le, exists_eq_left, and_true, true_and, Bool.not_true, Bool.not_false, reduceCtorEq, reduceIte]
  refine (pick_ok G0 (fun d hd => ckG_ok (List.all_eq_true.1 ?_ d hd)) (by simp) (by simp) hc (by omega) hp).mono fun v S' q => by simpa using q
  decide +kernel
theorem spot_ok (hc : cells.length ≤ 63) (hA : A ≤ 90000) (hp : Pen cells T A S) : Wp (m__law_spot [.ref 0]) S fun v S' => (∃ i j : Int, v = .tup [.int i, .int j] ∧ (0 ≤ i ∧ i < 8) ∧ 0 ≤ j ∧ j < 8) ∧ Pen cells T (A + 2) S' := by
  unfold m__law_spot
  refine wp_run ?_
  unfold b__law_spot
  simp only [sSeq, sIf, sAsg, sRet, sNil, gSet, gPut, tst, b2, b1, cal, on1, aCons, vget, mkL, mkT, calF, andT, orT, notT, andV, notV, wp_bind, wp_pure, wp_if, List.map, List.length, List.replicate, List.append, List.cons_append, List.nil_append, Nat.reduceSub, Nat.reduceAdd, Nat.reduceLeDiff, List.getElem?_cons_zero, List.getElem?_cons_succ, List.set_cons_zero, List.set_cons_succ, wp_int, wp_intb, wp_int20, wp_toB, wp_add, wp_abs, wp_neg, wp_lenL, pen0, pen1, pen2, put1, put2, decide_true, decide_false, if_true, if_false, Bool.false_eq_true, Nat.zero_le, exists_eq_left, and_true, true_and, Bool.not_true, Bool.not_false, reduceCtorEq, reduceIte]
  refine (draw_ok hc (by omega) hp (by omega) (by omega)).mono ?_
  rintro x S1 ⟨i, rfl, i0, i1, hp1⟩
  try simp only [sSeq, sIf, sAsg, sRet, sNil, gSet, gPut, tst, b2, b1, cal, on1, aCons, vget, mkL, mkT, calF, andT, orT, notT, andV, notV, wp_bind, wp_pure, wp_if, List.map, List.length, List.replicate, List.append, List.cons_append, List.nil_append, Nat.reduceSub, Nat.reduceAdd, Nat.reduceLeDiff, List.getElem?_cons_zero, List.getElem?_cons_succ, List.set_cons_zero, List.set_cons_succ, wp_int, wp_intb, wp_int20, wp_toB, wp_add, wp_abs, wp_neg, wp_lenL, pen0, pen1, pen2, put1, put2, decide_true, decide_false, if_true, if_false, Bool.false_eq_true, Nat.zero_le, exists_eq_left, and_true, true_and, Bool.not_true, Bool.not_false, reduceCtorEq, reduceIte]
  refine (draw_ok hc (by omega) hp1 (by omega) (by omega)).mono ?_
  rintro x S2 ⟨j, rfl, j0, j1, hp2⟩
  try simp only [sSeq, sIf, sAsg, sRet, sNil, gSet, gPut, tst, b2, b1, cal, on1, aCons, vget, mkL, mkT, calF, andT, orT, notT, andV, notV, wp_bind, wp_pure, wp_if, List.map, List.length, List.replicate, List.append, List.cons_append, List.nil_append, Nat.reduceSub, Nat.reduceAdd, Nat.reduceLeDiff, List.getElem?_cons_zero, List.getElem?_cons_succ, List.set_cons_zero, List.set_cons_succ, wp_int, wp_intb, wp_int20, wp_toB, wp_add, wp_abs, wp_neg, wp_lenL, pen0, pen1, pen2, put1, put2, decide_true, decide_false, if_true, if_false, Bool.false_eq_true, Nat.zero_le, exists_eq_left, and_true, true_and, Bool.not_true, Bool.not_false, reduceCtorEq, reduceIte]
  exact ⟨_, rfl, ⟨i, j, rfl, ⟨i0, i1⟩, j0, j1⟩, hp2.mono (by omega)⟩
theorem number_ok (hc : cells.length ≤ 63) (hA : A ≤ 90000) (hp : Pen cells T A S) : Wp (m__law_number [.ref 0]) S fun v S' => (∃ i : Int, v = .int i ∧ 1 ≤ i ∧ i ≤ 999999) ∧ Pen cells T (A + 3) S' := by
  unfold m__law_number
  refine wp_run ?_
  unfold b__law_number
  simp only [sSeq, sIf, sAsg, sRet, sNil, gSet, gPut, tst, b2, b1, cal, on1, aCons, vget, mkL, mkT, calF, andT, orT, notT, andV, notV, wp_bind, wp_pure, wp_if, List.map, List.length, List.replicate, List.append, List.cons_append, List.nil_append, Nat.reduceSub, Nat.reduceAdd, Nat.reduceLeDiff, List.getElem?_cons_zero, List.getElem?_cons_succ, List.set_cons_zero, List.set_cons_succ, wp_int, wp_intb, wp_int20, wp_toB, wp_add, wp_abs, wp_neg, wp_lenL, pen0, pen1, pen2, put1, put2, decide_true, decide_false, if_true, if_false, Bool.false_eq_true, Nat.zero_le, exists_eq_left, and_true, true_and, Bool.not_true, Bool.not_false, reduceCtorEq, reduceIte]
  refine (draw_ok hc (by omega) hp (by omega) (by omega)).mono ?_
  rintro x S1 ⟨i, rfl, i0, i1, hp1⟩
  try simp only [sSeq, sIf, sAsg, sRet, sNil, gSet, gPut, tst, b2, b1, cal, on1, aCons, vget, mkL, mkT, calF, andT, orT, notT, andV, notV, wp_bind, wp_pure, wp_if, List.map, List.length, List.replicate, List.append, List.cons_append, List.nil_append, Nat.reduceSub, Nat.reduceAdd, Nat.reduceLeDiff, List.getElem?_cons_zero, List.getElem?_cons_succ, List.set_cons_zero, List.set_cons_succ, wp_int, wp_intb, wp_int20, wp_toB, wp_add, wp_abs, wp_neg, wp_lenL, pen0, pen1, pen2, put1, put2, decide_true, decide_false, if_true, if_false, Bool.false_eq_true, Nat.zero_le, exists_eq_left, and_true, true_and, Bool.not_true, Bool.not_false, reduceCtorEq, reduceIte]
  refine (draw_ok hc (by omega) hp1 (by omega) (by omega)).mono ?_
  rintro x S2 ⟨j, rfl, j0, j1, hp2⟩
  try simp only [sSeq, sIf, sAsg, sRet, sNil, gSet, gPut, tst, b2, b1, cal, on1, aCons, vget, mkL, mkT, calF, andT, orT, notT, andV, notV, wp_bind, wp_pure, wp_if, List.map, List.length, List.replicate, List.append, List.cons_append, List.nil_append, Nat.reduceSub, Nat.reduceAdd, Nat.reduceLeDiff, List.getElem?_cons_zero, List.getElem?_cons_succ, List.set_cons_zero, List.set_cons_succ, wp_int, wp_intb, wp_int20, wp_toB, wp_add, wp_abs, wp_neg, wp_lenL, pen0, pen1, pen2, put1, put2, decide_true, decide_false, if_true, if_false, Bool.false_eq_true, Nat.zero_le, exists_eq_left, and_true, true_and, Bool.not_true, Bool.not_false, reduceCtorEq, reduceIte]
  refine (pick_ok (fun v => ∃ i : Int, v = .int i ∧ 1 ≤ i ∧ i ≤ 999999) ?_ (by simp) (by simp) hc (by omega) hp2).mono ?_
  · intro d hd
    simp only [List.mem_cons, List.not_mem_nil, or_false] at hd
    rcases hd with rfl | rfl | rfl | rfl | rfl | rfl <;> exact ⟨_, rfl, by omega, by omega⟩
  · rintro v S' ⟨h, hp3⟩
    exact ⟨v, rfl, h, hp3.mono (by omega)⟩
theorem viewD_ok (hc : cells.length ≤ 63) (hA : A ≤ 90000) (hp : Pen cells T A S) : Wp (m__law_view [.ref 0]) S fun v S' => (∃ i : Int, v = .int i ∧ 0 ≤ i ∧ i ≤ 999999) ∧ Pen cells T (A + 3) S' := by
  unfold m__law_view
  refine wp_run ?_
  unfold b__law_view
  simp only [sSeq, sIf, sAsg, sRet, sNil, gSet, gPut, tst, b2, b1, cal, on1, aCons, vget, mkL, mkT, calF, andT, orT, notT, andV, notV, wp_bind, wp_pure, wp_if, List.map, List.length, List.replicate, List.append, List.cons_append, List.nil_append, Nat.reduceSub, Nat.reduceAdd, Nat.reduceLeDiff, List.getElem?_cons_zero, List.getElem?_cons_succ, List.set_cons_zero, List.set_cons_succ, wp_int, wp_intb, wp_int20, wp_toB, wp_add, wp_abs, wp_neg, wp_lenL, pen0, pen1, pen2, put1, put2, decide_true, decide_false, if_true, if_false, Bool.false_eq_true, Nat.zero_le, exists_eq_left, and_true, true_and, Bool.not_true, Bool.not_false, reduceCtorEq, reduceIte]
  refine (draw_ok hc (by omega) hp (by omega) (by omega)).mono ?_
  rintro x S1 ⟨i, rfl, i0, i1, hp1⟩
  try simp only [sSeq, sIf, sAsg, sRet, sNil, gSet, gPut, tst, b2, b1, cal, on1, aCons, vget, mkL, mkT, calF, andT, orT, notT, andV, notV, wp_bind, wp_pure, wp_if, List.map, List.length, List.replicate, List.append, List.cons_append, List.nil_append, Nat.reduceSub, Nat.reduceAdd, Nat.reduceLeDiff, List.getElem?_cons_zero, List.getElem?_cons_succ, List.set_cons_zero, List.set_cons_succ, wp_int, wp_intb, wp_int20, wp_toB, wp_add, wp_abs, wp_neg, wp_lenL, pen0, pen1, pen2, put1, put2, decide_true, decide_false, if_true, if_false, Bool.false_eq_true, Nat.zero_le, exists_eq_left, and_true, true_and, Bool.not_true, Bool.not_false, reduceCtorEq, reduceIte]
  refine (draw_ok hc (by omega) hp1 (by omega) (by omega)).mono ?_
  rintro x S2 ⟨j, rfl, j0, j1, hp2⟩
  try simp only [sSeq, sIf, sAsg, sRet, sNil, gSet, gPut, tst, b2, b1, cal, on1, aCons, vget, mkL, mkT, calF, andT, orT, notT, andV, notV, wp_bind, wp_pure, wp_if, List.map, List.length, List.replicate, List.append, List.cons_append, List.nil_append, Nat.reduceSub, Nat.reduceAdd, Nat.reduceLeDiff, List.getElem?_cons_zero, List.getElem?_cons_succ, List.set_cons_zero, List.set_cons_succ, wp_int, wp_intb, wp_int20, wp_toB, wp_add, wp_abs, wp_neg, wp_lenL, pen0, pen1, pen2, put1, put2, decide_true, decide_false, if_true, if_false, Bool.false_eq_true, Nat.zero_le, exists_eq_left, and_true, true_and, Bool.not_true, Bool.not_false, reduceCtorEq, reduceIte]
  refine (pick_ok (fun v => ∃ i : Int, v = .int i ∧ 0 ≤ i ∧ i ≤ 999999) ?_ (by simp) (by simp) hc (by omega) hp2).mono ?_
  · intro d hd
    simp only [List.mem_cons, List.not_mem_nil, or_false] at hd
    rcases hd with rfl | rfl | rfl | rfl | rfl <;> exact ⟨_, rfl, by omega, by omega⟩
  · rintro v S' ⟨h, hp3⟩
    exact ⟨v, rfl, h, hp3.mono (by omega)⟩
def wordG (al : Str) (v : D) : Prop := ∃ x : Str, v = .str x ∧ AllC al.cps.toList x ∧ 1 ≤ x.length ∧ x.length ≤ 8
theorem wordG_B {al : Str} {v : D} (h : wordG al v) : wordB al v = true := by
  obtain ⟨x, rfl, h1, h2, h3⟩ := h
  simp only [wordB, Bool.and_eq_true, decide_eq_true_eq, List.all_eq_true]
  exact ⟨⟨h2, h3⟩, h1⟩
theorem ixS {z : Str} {k : Int} {Q : D → Sto → Prop} (h0 : 0 ≤ k) (h1 : k < (z.cps.toList.length : Int)) (hl : z.length ≤ 100000) (q : ∀ d, sgL z.cps.toList d → Q d S) : Wp (ixM (.str z) (.int k)) S Q := by
  obtain ⟨n, rfl⟩ : ∃ n : Nat, k = n := ⟨k.toNat, by omega⟩
  have hn : n < z.cps.toList.length := by omega
  rw [ixSgn hn hl]
  refine q _ ⟨_, ?_, rfl⟩
  rw [List.getD_eq_getElem?_getD, List.getElem?_eq_getElem hn]
  exact List.getElem_mem hn
theorem keyD_ok (hc : cells.length ≤ 63) (hA : A ≤ 90000) (hp : Pen cells T A S) : Wp (m__law_key [.ref 0]) S fun v S' => wordG LET v ∧ Pen cells T (A + 10) S' := by
  unfold m__law_key
  refine wp_run ?_
  unfold b__law_key
  simp only [sSeq, sIf, sAsg, sRet, sNil, gSet, gPut, tst, b2, b1, cal, on1, aCons, vget, mkL, mkT, calF, andT, orT, notT, andV, notV, wp_bind, wp_pure, wp_if, List.map, List.length, List.replicate, List.append, List.cons_append, List.nil_append, Nat.reduceSub, Nat.reduceAdd, Nat.reduceLeDiff, List.getElem?_cons_zero, List.getElem?_cons_succ, List.set_cons_zero, List.set_cons_succ, wp_int, wp_intb, wp_int20, wp_toB, wp_add, wp_abs, wp_neg, wp_lenL, pen0, pen1, pen2, put1, put2, decide_true, decide_false, if_true, if_false, Bool.false_eq_true, Nat.zero_le, exists_eq_left, and_true, true_and, Bool.not_true, Bool.not_false, reduceCtorEq, reduceIte]
  refine (draw_ok hc (by omega) hp (by omega) (by omega)).mono ?_
  rintro x S1 ⟨i, rfl, i0, i1, hp1⟩
  try simp only [sSeq, sIf, sAsg, sRet, sNil, gSet, gPut, tst, b2, b1, cal, on1, aCons, vget, mkL, mkT, calF, andT, orT, notT, andV, notV, wp_bind, wp_pure, wp_if, List.map, List.length, List.replicate, List.append, List.cons_append, List.nil_append, Nat.reduceSub, Nat.reduceAdd, Nat.reduceLeDiff, List.getElem?_cons_zero, List.getElem?_cons_succ, List.set_cons_zero, List.set_cons_succ, wp_int, wp_intb, wp_int20, wp_toB, wp_add, wp_abs, wp_neg, wp_lenL, pen0, pen1, pen2, put1, put2, decide_true, decide_false, if_true, if_false, Bool.false_eq_true, Nat.zero_le, exists_eq_left, and_true, true_and, Bool.not_true, Bool.not_false, reduceCtorEq, reduceIte]
  refine (pick_ok (fun v => ∃ i : Int, v = .int i ∧ 1 ≤ i ∧ i ≤ 8) ?_ (by simp) (by simp) hc (by omega) hp1).mono ?_
  · intro d hd
    simp only [List.mem_cons, List.not_mem_nil, or_false] at hd
    rcases hd with rfl | rfl | rfl <;> exact ⟨_, rfl, by omega, by omega⟩
  rintro v S2 ⟨⟨m, rfl, m0, m1⟩, hp2⟩
  simp only [sSeq, sIf, sAsg, sRet, sNil, gSet, gPut, tst, b2, b1, cal, on1, aCons, vget, mkL, mkT, calF, andT, orT, notT, andV, notV, wp_bind, wp_pure, wp_if, List.map, List.length, List.replicate, List.append, List.cons_append, List.nil_append, Nat.reduceSub, Nat.reduceAdd, Nat.reduceLeDiff, List.getElem?_cons_zero, List.getElem?_cons_succ, List.set_cons_zero, List.set_cons_succ, wp_int, wp_intb, wp_int20, wp_toB, wp_add, wp_abs, wp_neg, wp_lenL, pen0, pen1, pen2, put1, put2, decide_true, decide_false, if_true, if_false, Bool.false_eq_true, Nat.zero_le, exists_eq_left, and_true, true_and, Bool.not_true, Bool.not_false, reduceCtorEq, reduceIte, mth, wp_chkS, eLc, len1, wp_rng (show -100000 ≤ m ∧ m ≤ 100000 by omega), rgD_len]
  rw [if_pos (by omega)]
  refine wp_noErr ((lcGo_step (sgL LET.cps.toList) (A + 10) 1 (by decide) ?_ (rgD 0 m.toNat) (A + 1 + 1) S2 (by rw [rgD_len]; omega) hp2).mono ?_)
  · intro y B S3 hB hp3
    simp only [sSeq, sIf, sAsg, sRet, sNil, gSet, gPut, tst, b2, b1, cal, on1, aCons, vget, mkL, mkT, calF, andT, orT, notT, andV, notV, wp_bind, wp_pure, wp_if, List.map, List.length, List.replicate, List.append, List.cons_append, List.nil_append, Nat.reduceSub, Nat.reduceAdd, Nat.reduceLeDiff, List.getElem?_cons_zero, List.getElem?_cons_succ, List.set_cons_zero, List.set_cons_succ, wp_int, wp_intb, wp_int20, wp_toB, wp_add, wp_abs, wp_neg, wp_lenL, pen0, pen1, pen2, put1, put2, decide_true, decide_false, if_true, if_false, Bool.false_eq_true, Nat.zero_le, exists_eq_left, and_true, true_and, Bool.not_true, Bool.not_false, reduceCtorEq, reduceIte, wipeE, List.foldr]
    refine (draw_ok hc (by omega) hp3 (by omega) (by omega)).mono ?_
    rintro x S4 ⟨z, rfl, z0, z1, hp4⟩
    exact ixS (z := LET) z0 (Int.lt_of_lt_of_le z1 (by decide +kernel)) (by decide +kernel) fun d hd => ⟨hd, hp4⟩
  · rintro ys S3 ⟨hy1, hy2, hp3⟩
    rw [rgD_len] at hy1 hp3
    try simp only [sSeq, sIf, sAsg, sRet, sNil, gSet, gPut, tst, b2, b1, cal, on1, aCons, vget, mkL, mkT, calF, andT, orT, notT, andV, notV, wp_bind, wp_pure, wp_if, List.map, List.length, List.replicate, List.append, List.cons_append, List.nil_append, Nat.reduceSub, Nat.reduceAdd, Nat.reduceLeDiff, List.getElem?_cons_zero, List.getElem?_cons_succ, List.set_cons_zero, List.set_cons_succ, wp_int, wp_intb, wp_int20, wp_toB, wp_add, wp_abs, wp_neg, wp_lenL, pen0, pen1, pen2, put1, put2, decide_true, decide_false, if_true, if_false, Bool.false_eq_true, Nat.zero_le, exists_eq_left, and_true, true_and, Bool.not_true, Bool.not_false, reduceCtorEq, reduceIte]
    rw [emptyStr]
    exact join_okL hy2 (by omega) fun z hz hzl => ⟨_, rfl, ⟨z, rfl, hz, by omega, by omega⟩, hp3.mono (by omega)⟩
theorem valueD_ok (hc : cells.length ≤ 63) (hA : A ≤ 90000) (hp : Pen cells T A S) : Wp (m__law_value [.ref 0]) S fun v S' => wordG ALN v ∧ Pen cells T (A + 10) S' := by
  unfold m__law_value
  refine wp_run ?_
  unfold b__law_value
  simp only [sSeq, sIf, sAsg, sRet, sNil, gSet, gPut, tst, b2, b1, cal, on1, aCons, vget, mkL, mkT, calF, andT, orT, notT, andV, notV, wp_bind, wp_pure, wp_if, List.map, List.length, List.replicate, List.append, List.cons_append, List.nil_append, Nat.reduceSub, Nat.reduceAdd, Nat.reduceLeDiff, List.getElem?_cons_zero, List.getElem?_cons_succ, List.set_cons_zero, List.set_cons_succ, wp_int, wp_intb, wp_int20, wp_toB, wp_add, wp_abs, wp_neg, wp_lenL, pen0, pen1, pen2, put1, put2, decide_true, decide_false, if_true, if_false, Bool.false_eq_true, Nat.zero_le, exists_eq_left, and_true, true_and, Bool.not_true, Bool.not_false, reduceCtorEq, reduceIte]
  refine (draw_ok hc (by omega) hp (by omega) (by omega)).mono ?_
  rintro x S1 ⟨i, rfl, i0, i1, hp1⟩
  try simp only [sSeq, sIf, sAsg, sRet, sNil, gSet, gPut, tst, b2, b1, cal, on1, aCons, vget, mkL, mkT, calF, andT, orT, notT, andV, notV, wp_bind, wp_pure, wp_if, List.map, List.length, List.replicate, List.append, List.cons_append, List.nil_append, Nat.reduceSub, Nat.reduceAdd, Nat.reduceLeDiff, List.getElem?_cons_zero, List.getElem?_cons_succ, List.set_cons_zero, List.set_cons_succ, wp_int, wp_intb, wp_int20, wp_toB, wp_add, wp_abs, wp_neg, wp_lenL, pen0, pen1, pen2, put1, put2, decide_true, decide_false, if_true, if_false, Bool.false_eq_true, Nat.zero_le, exists_eq_left, and_true, true_and, Bool.not_true, Bool.not_false, reduceCtorEq, reduceIte]
  refine (pick_ok (fun v => ∃ i : Int, v = .int i ∧ 1 ≤ i ∧ i ≤ 8) ?_ (by simp) (by simp) hc (by omega) hp1).mono ?_
  · intro d hd
    simp only [List.mem_cons, List.not_mem_nil, or_false] at hd
    rcases hd with rfl | rfl | rfl <;> exact ⟨_, rfl, by omega, by omega⟩
  rintro v S2 ⟨⟨m, rfl, m0, m1⟩, hp2⟩
  have eA : ("abcdefghijklmnopqrstuvwxyz0123456789" : Str) = ALN := by decide +kernel
  simp only [sSeq, sIf, sAsg, sRet, sNil, gSet, gPut, tst, b2, b1, cal, on1, aCons, vget, mkL, mkT, calF, andT, orT, notT, andV, notV, wp_bind, wp_pure, wp_if, List.map, List.length, List.replicate, List.append, List.cons_append, List.nil_append, Nat.reduceSub, Nat.reduceAdd, Nat.reduceLeDiff, List.getElem?_cons_zero, List.getElem?_cons_succ, List.set_cons_zero, List.set_cons_succ, wp_int, wp_intb, wp_int20, wp_toB, wp_add, wp_abs, wp_neg, wp_lenL, pen0, pen1, pen2, put1, put2, decide_true, decide_false, if_true, if_false, Bool.false_eq_true, Nat.zero_le, exists_eq_left, and_true, true_and, Bool.not_true, Bool.not_false, reduceCtorEq, reduceIte, mth, wp_chkS, eLc, len1, wp_rng (show -100000 ≤ m ∧ m ≤ 100000 by omega), rgD_len, eA]
  rw [if_pos (by omega)]
  refine wp_noErr ((lcGo_step (sgL ALN.cps.toList) (A + 10) 1 (by decide) ?_ (rgD 0 m.toNat) (A + 1 + 1) S2 (by rw [rgD_len]; omega) hp2).mono ?_)
  · intro y B S3 hB hp3
    simp only [sSeq, sIf, sAsg, sRet, sNil, gSet, gPut, tst, b2, b1, cal, on1, aCons, vget, mkL, mkT, calF, andT, orT, notT, andV, notV, wp_bind, wp_pure, wp_if, List.map, List.length, List.replicate, List.append, List.cons_append, List.nil_append, Nat.reduceSub, Nat.reduceAdd, Nat.reduceLeDiff, List.getElem?_cons_zero, List.getElem?_cons_succ, List.set_cons_zero, List.set_cons_succ, wp_int, wp_intb, wp_int20, wp_toB, wp_add, wp_abs, wp_neg, wp_lenL, pen0, pen1, pen2, put1, put2, decide_true, decide_false, if_true, if_false, Bool.false_eq_true, Nat.zero_le, exists_eq_left, and_true, true_and, Bool.not_true, Bool.not_false, reduceCtorEq, reduceIte, wipeE, List.foldr]
    refine (draw_ok hc (by omega) hp3 (by omega) (by omega)).mono ?_
    rintro x S4 ⟨z, rfl, z0, z1, hp4⟩
    exact ixS (z := ALN) z0 (Int.lt_of_lt_of_le z1 (by decide +kernel)) (by decide +kernel) fun d hd => ⟨hd, hp4⟩
  · rintro ys S3 ⟨hy1, hy2, hp3⟩
    rw [rgD_len] at hy1 hp3
    try simp only [sSeq, sIf, sAsg, sRet, sNil, gSet, gPut, tst, b2, b1, cal, on1, aCons, vget, mkL, mkT, calF, andT, orT, notT, andV, notV, wp_bind, wp_pure, wp_if, List.map, List.length, List.replicate, List.append, List.cons_append, List.nil_append, Nat.reduceSub, Nat.reduceAdd, Nat.reduceLeDiff, List.getElem?_cons_zero, List.getElem?_cons_succ, List.set_cons_zero, List.set_cons_succ, wp_int, wp_intb, wp_int20, wp_toB, wp_add, wp_abs, wp_neg, wp_lenL, pen0, pen1, pen2, put1, put2, decide_true, decide_false, if_true, if_false, Bool.false_eq_true, Nat.zero_le, exists_eq_left, and_true, true_and, Bool.not_true, Bool.not_false, reduceCtorEq, reduceIte]
    rw [emptyStr]
    exact join_okL hy2 (by omega) fun z hz hzl => ⟨_, rfl, ⟨z, rfl, hz, by omega, by omega⟩, hp3.mono (by omega)⟩
end
end Mi
namespace Mi
open PySem PySem.Spec PyProof.Rows L2
theorem ascB_of : ∀ {ns : List Int}, ns.Pairwise (· < ·) → ascB ns = true
  | [], _ => rfl
  | [_], _ => rfl
  | a :: b :: ns, h => by
    have h1 := List.pairwise_cons.1 h
    simp only [ascB, Bool.and_eq_true, decide_eq_true_eq]
    exact ⟨h1.1 b (by simp), ascB_of h1.2⟩
def pickR (p : Nat → Bool) : List Int := ((List.range 8).filter p).map fun (i : Nat) => (0 + (i : Int))
theorem pickR_mem {p : Nat → Bool} {k : Int} : k ∈ pickR p ↔ ∃ i : Nat, i < 8 ∧ p i = true ∧ k = i := by
  unfold pickR
  simp only [List.mem_map, List.mem_filter, List.mem_range]
  constructor
  · rintro ⟨i, ⟨h1, h2⟩, rfl⟩; exact ⟨i, h1, h2, by omega⟩
  · rintro ⟨i, h1, h2, rfl⟩; exact ⟨i, ⟨h1, h2⟩, by omega⟩
theorem pickR_asc {p : Nat → Bool} : ascB (pickR p) = true := by
  refine ascB_of ?_
  unfold pickR
  rw [List.pairwise_map]
  refine List.Pairwise.imp (fun h => by omega) ((List.pairwise_lt_range (n := 8)).sublist List.filter_sublist)
theorem pickR_slots {p : Nat → Bool} : slotsB (.tup ((pickR p).map D.int)) = true := by
  simp only [slotsB, ints_map, pickR_asc, Bool.and_true, List.all_map, List.all_eq_true]
  intro k hk
  obtain ⟨i, h1, _, rfl⟩ := pickR_mem.1 hk
  simp only [Function.comp, betw, Bool.and_eq_true, decide_eq_true_eq]
  omega
theorem pickR_len {p : Nat → Bool} : (pickR p).length ≤ 8 := by
  unfold pickR
  rw [List.length_map]
  exact Nat.le_trans (List.length_filter_le _ _) (by simp)
theorem pickR_map {p : Nat → Bool} : ((List.range 8).filter p).map (fun i : Nat => D.int (0 + (i : Int))) = (pickR p).map D.int := by
  unfold pickR
  rw [List.map_map]; rfl
theorem intsD_map {ns : List Int} : intsD (.tup (ns.map D.int)) = ns := by simp [intsD, ints_map]
theorem g0_pick {p : Nat → Bool} {h : Nat} : GD OB (h + 1) 899 (.tup ((pickR p).map D.int)) := by
  refine g0_tup (GL_of (w := 110) fun d hd => ?_) (by rw [List.length_map]; have := pickR_len (p := p); omega)
  obtain ⟨k, hk, rfl⟩ := List.mem_map.1 hd
  obtain ⟨i, h1, _, rfl⟩ := pickR_mem.1 hk
  exact g0_int (by omega) (Nat.le_refl _)
theorem wordG_g {al : Str} {v : D} {h w : Nat} (ha : (al.cps.toList.all fun c => decide (c < 128)) = true) (g : wordG al v) (hw : 92 ≤ w) : GD OB h w v := by
  obtain ⟨x, rfl, h1, h2, h3⟩ := g
  exact GD.leaf ⟨fun c hc => of_decide_eq_true (List.all_eq_true.1 ha c (h1 c hc)), by omega⟩
theorem LET_low : (LET.cps.toList.all fun c => decide (c < 128)) = true := by decide +kernel
theorem ALN_low : (ALN.cps.toList.all fun c => decide (c < 128)) = true := by decide +kernel
def rowG (v : D) : Prop := (∃ x ps, v = .tup (.str x :: ps)) ∧ rowB v = true ∧ G0 v
theorem row_of {x : Str} {ps : List D} {ks : List Str} (h : FT.lookup x = some ks) (hl : ps.length = ks.length) (hf : fitsFrom (.str x :: ps) 0 ks = true) (g : G0 (.tup (.str x :: ps))) : rowG (.tup (.str x :: ps)) :=
  ⟨⟨x, ps, rfl⟩, by simp [rowB, h, hl, hf], g⟩
theorem bI {lo hi i : Int} (h : lo ≤ i ∧ i ≤ hi) : betw lo hi (.int i) = true := by simp [betw, h.1, h.2]
theorem and3 {a b : Bool} (h : a = true) (k : b = true) : (a && b) = true := by rw [h, k]; rfl
section
variable {n p1 s1 p2 s2 : Int} {a b : D}
theorem r_put (hn : 1 ≤ n ∧ n ≤ 999999) (hp : 0 ≤ p1 ∧ p1 < 8) (hs : 0 ≤ s1 ∧ s1 < 8) (ha : wordG LET a) (hb : wordG ALN b) : rowG (.tup [.str "put", .int n, .int p1, .int s1, a, b]) :=
  row_of (ks := ["number", "page", "slot", "key", "value"]) (by decide +kernel) rfl
    (and3 (bI hn) (and3 (bI (lo := 0) (hi := 7) (by omega)) (and3 (bI (lo := 0) (hi := 7) (by omega)) (and3 (wordG_B ha) (and3 (wordG_B hb) rfl)))))
    (g0_tup (GL.cons (g0_str (by decide +kernel) (by decide +kernel) (Nat.le_refl 92)) (GL.cons (g0_int (by omega) (Nat.le_refl _)) (GL.cons (g0_int (by omega) (Nat.le_refl _)) (GL.cons (g0_int (by omega) (Nat.le_refl _)) (GL.cons (wordG_g LET_low ha (Nat.le_refl _)) (GL.cons (wordG_g ALN_low hb (Nat.le_refl _)) GL.nil)))))) (by decide))
theorem r_change (hn : 1 ≤ n ∧ n ≤ 999999) (hp : 0 ≤ p1 ∧ p1 < 8) (hs : 0 ≤ s1 ∧ s1 < 8) (hp2 : 0 ≤ p2 ∧ p2 < 8) (hs2 : 0 ≤ s2 ∧ s2 < 8) (hb : wordG ALN b) : rowG (.tup [.str "change", .int n, .int p1, .int s1, .int p2, .int s2, b]) :=
  row_of (ks := ["number", "page", "slot", "page", "slot", "value"]) (by decide +kernel) rfl
    (and3 (bI hn) (and3 (bI (lo := 0) (hi := 7) (by omega)) (and3 (bI (lo := 0) (hi := 7) (by omega)) (and3 (bI (lo := 0) (hi := 7) (by omega)) (and3 (bI (lo := 0) (hi := 7) (by omega)) (and3 (wordG_B hb) rfl))))))
    (g0_tup (GL.cons (g0_str (by decide +kernel) (by decide +kernel) (Nat.le_refl 92)) (GL.cons (g0_int (by omega) (Nat.le_refl _)) (GL.cons (g0_int (by omega) (Nat.le_refl _)) (GL.cons (g0_int (by omega) (Nat.le_refl _)) (GL.cons (g0_int (by omega) (Nat.le_refl _)) (GL.cons (g0_int (by omega) (Nat.le_refl _)) (GL.cons (wordG_g ALN_low hb (Nat.le_refl _)) GL.nil))))))) (by decide))
theorem r_three {x : Str} (hx : x = "strike" ∨ x = "lock" ∨ x = "refused") (hn : 1 ≤ n ∧ n ≤ 999999) (hp : 0 ≤ p1 ∧ p1 < 8) (hs : 0 ≤ s1 ∧ s1 < 8) : rowG (.tup [.str x, .int n, .int p1, .int s1]) :=
  row_of (ks := ["number", "page", "slot"]) (by rcases hx with rfl | rfl | rfl <;> decide +kernel) rfl
    (and3 (bI hn) (and3 (bI (lo := 0) (hi := 7) (by omega)) (and3 (bI (lo := 0) (hi := 7) (by omega)) rfl)))
    (g0_tup (GL.cons (g0_str (by rcases hx with rfl | rfl | rfl <;> decide +kernel) (by rcases hx with rfl | rfl | rfl <;> decide +kernel) (Nat.le_refl 92)) (GL.cons (g0_int (by omega) (Nat.le_refl _)) (GL.cons (g0_int (by omega) (Nat.le_refl _)) (GL.cons (g0_int (by omega) (Nat.le_refl _)) GL.nil)))) (by decide))
theorem r_end {x : Str} (hx : x = "commit" ∨ x = "abort") (hn : 1 ≤ n ∧ n ≤ 999999) : rowG (.tup [.str x, .int n]) :=
  row_of (ks := ["number"]) (by rcases hx with rfl | rfl <;> decide +kernel) rfl (and3 (bI hn) rfl)
    (g0_tup (GL.cons (g0_str (by rcases hx with rfl | rfl <;> decide +kernel) (by rcases hx with rfl | rfl <;> decide +kernel) (Nat.le_refl 92)) (GL.cons (g0_int (by omega) (Nat.le_refl _)) GL.nil)) (by decide))
theorem r_prep (hn : 1 ≤ n ∧ n ≤ 999999) (hp : 0 ≤ p1 ∧ p1 ≤ 999999) : rowG (.tup [.str "prepare", .int n, .int p1]) :=
  row_of (ks := ["number", "view"]) (by decide +kernel) rfl (and3 (bI hn) (and3 (bI hp) rfl))
    (g0_tup (GL.cons (g0_str (by decide +kernel) (by decide +kernel) (Nat.le_refl 92)) (GL.cons (g0_int (by omega) (Nat.le_refl _)) (GL.cons (g0_int (by omega) (Nat.le_refl _)) GL.nil))) (by decide))
theorem r_open0 (hn : 1 ≤ n ∧ n ≤ 999999) : rowG (.tup [.str "open", .int n, .non]) :=
  row_of (ks := ["number", "outer"]) (by decide +kernel) rfl (and3 (bI hn) (and3 rfl rfl))
    (g0_tup (GL.cons (g0_str (by decide +kernel) (by decide +kernel) (Nat.le_refl 92)) (GL.cons (g0_int (by omega) (Nat.le_refl _)) (GL.cons (GD.leaf (d := .non) (w := 8) (Nat.le_refl 8)) GL.nil))) (by decide))
theorem r_open1 (hn : 1 ≤ n ∧ n ≤ 999999) (hp : 1 ≤ p1 ∧ p1 < n) : rowG (.tup [.str "open", .int n, .int p1]) :=
  row_of (ks := ["number", "outer"]) (by decide +kernel) rfl (by
    have e : fitsFrom [.str "open", .int n, .int p1] 0 ["number", "outer"] = (betw 1 999999 (.int n) && ((isNon (.int p1) || (betw 1 999999 (.int p1) && ltB (.int p1) (.int n))) && true)) := rfl
    have e1 : isNon (.int p1) = false := rfl
    have e2 : ltB (.int p1) (.int n) = true := decide_eq_true hp.2
    rw [e, e1, e2, bI hn, bI (lo := 1) (hi := 999999) (by omega)]
    rfl)
    (g0_tup (GL.cons (g0_str (by decide +kernel) (by decide +kernel) (Nat.le_refl 92)) (GL.cons (g0_int (by omega) (Nat.le_refl _)) (GL.cons (g0_int (by omega) (Nat.le_refl _)) GL.nil))) (by decide))
theorem r_clean {p q : Nat → Bool} (hp : 0 ≤ p1 ∧ p1 < 8) (h : ∀ i, p i = true → q i = false) : rowG (.tup [.str "clean", .int p1, .tup ((pickR p).map D.int), .tup ((pickR q).map D.int)]) :=
  row_of (ks := ["page", "removed", "marked"]) (by decide +kernel) rfl (by
    have e : fitsFrom [.str "clean", .int p1, .tup ((pickR p).map D.int), .tup ((pickR q).map D.int)] 0 ["page", "removed", "marked"] = (betw 0 7 (.int p1) && (slotsK "removed" (.tup ((pickR p).map D.int)) (.int p1) && (slotsK "marked" (.tup ((pickR q).map D.int)) (.tup ((pickR p).map D.int)) && true))) := rfl
    rw [e, slotsK_rem, slotsK_mar, pickR_slots, pickR_slots, bI (lo := 0) (hi := 7) (by omega), intsD_map, intsD_map]
    have : ((pickR q).any fun i => decide (i ∈ pickR p)) = false := by
      rw [List.any_eq_false]
      intro k hk hm
      obtain ⟨i, _, h2, rfl⟩ := pickR_mem.1 hk
      obtain ⟨j, _, h3, e⟩ := pickR_mem.1 (of_decide_eq_true hm)
      have : i = j := by omega
      subst this
      rw [h i h3] at h2
      cases h2
    rw [this]; rfl)
    (g0_tup (GL.cons (g0_str (by decide +kernel) (by decide +kernel) (Nat.le_refl 92)) (GL.cons (g0_int (by omega) (Nat.le_refl _)) (GL.cons g0_pick (GL.cons g0_pick GL.nil)))) (by decide))
theorem r_tidy {p : Nat → Bool} (hp : 0 ≤ p1 ∧ p1 < 8) (h : ∃ i, i < 8 ∧ p i = true) : rowG (.tup [.str "tidy", .int p1, .tup ((pickR p).map D.int)]) :=
  row_of (ks := ["page", "tidied"]) (by decide +kernel) rfl (by
    have e : fitsFrom [.str "tidy", .int p1, .tup ((pickR p).map D.int)] 0 ["page", "tidied"] = (betw 0 7 (.int p1) && (slotsK "tidied" (.tup ((pickR p).map D.int)) (.int p1) && true)) := rfl
    rw [e, slotsK_tid, pickR_slots, bI (lo := 0) (hi := 7) (by omega), intsD_map]
    obtain ⟨i, h1, h2⟩ := h
    have hm : (i : Int) ∈ pickR p := pickR_mem.2 ⟨i, h1, h2, rfl⟩
    cases hq : pickR p with
    | nil => rw [hq] at hm; cases hm
    | cons a l => rfl)
    (g0_tup (GL.cons (g0_str (by decide +kernel) (by decide +kernel) (Nat.le_refl 92)) (GL.cons (g0_int (by omega) (Nat.le_refl _)) (GL.cons g0_pick GL.nil))) (by decide))
theorem r_word1 (hp : 0 ≤ p1 ∧ p1 ≤ 999999) : rowG (.tup [.str "word", .int p1]) :=
  row_of (ks := ["told"]) (by decide +kernel) rfl (by
    have e : fitsFrom [.str "word", .int p1] 0 ["told"] = ((isNon (.int p1) || betw 0 999999 (.int p1)) && true) := rfl
    rw [e, bI hp, Bool.or_true]; rfl)
    (g0_tup (GL.cons (g0_str (by decide +kernel) (by decide +kernel) (Nat.le_refl 92)) (GL.cons (g0_int (by omega) (Nat.le_refl _)) GL.nil)) (by decide))
theorem r_word0 : rowG (.tup [.str "word", .non]) := ⟨⟨_, _, rfl⟩, by decide +kernel, ckG_ok (by decide +kernel)⟩
theorem r_sweep : rowG (.tup [.str "sweep"]) := ⟨⟨_, _, rfl⟩, by decide +kernel, ckG_ok (by decide +kernel)⟩
theorem r_fall : rowG (.tup [.str "fall"]) := ⟨⟨_, _, rfl⟩, by decide +kernel, ckG_ok (by decide +kernel)⟩
end
end Mi
namespace Mi
open PySem PySem.Spec PyProof.Rows L2
theorem ints_any : ∀ {ys : List D}, (∀ y ∈ ys, ∃ z : Int, y = .int z) → ∃ ns : List Int, ys = ns.map D.int
  | [], _ => ⟨[], rfl⟩
  | y :: ys, h => by
    obtain ⟨z, rfl⟩ := h y (by simp)
    obtain ⟨ns, e1⟩ := ints_any (ys := ys) (fun y hy => h y (by simp [hy]))
    exact ⟨z :: ns, by simp [e1]⟩
theorem rgD_map {n : Nat} : rgD 0 n = (List.range n).map fun (i : Nat) => D.int (0 + (i : Int)) := rfl
section
variable {cells : List Int} {T : Sto} {A : Int} {S : Sto}
theorem wp_r8 {S : Sto} {Q : List D → Sto → Prop} : Wp (rngOf [.int 8]) S Q ↔ Q (rgD 0 8) S := wp_rng (by decide)
theorem ixLn {ns : List Int} {y : Nat} {S : Sto} {Q : D → Sto → Prop} (h : y < ns.length) : Wp (ixM (.lst (ns.map D.int)) (.int (0 + (y : Int)))) S Q ↔ Q (.int (ns.getD y 0)) S := by
  rw [show (0 + (y : Int)) = ((y : Nat) : Int) by omega]
  exact wp_ixL (by rw [List.getElem?_map, List.getD_eq_getElem?_getD, List.getElem?_eq_getElem h]; rfl)
theorem rowD_ok (hc : cells.length ≤ 63) (hA : A ≤ 80000) (hp : Pen cells T A S) : Wp (m__law_row [.ref 0]) S fun v S' => rowG v ∧ Pen cells T (A + 40) S' := by
  unfold m__law_row
  refine wp_run ?_
  unfold b__law_row
  simp only [sSeq, sIf, sAsg, sRet, sNil, gSet, gPut, tst, b2, b1, cal, on1, aCons, vget, mkL, mkT, calF, andT, orT, notT, andV, notV, wp_bind, wp_pure, wp_if, List.map, List.length, List.replicate, List.append, List.cons_append, List.nil_append, Nat.reduceSub, Nat.reduceAdd, Nat.reduceLeDiff, List.getElem?_cons_zero, List.getElem?_cons_succ, List.set_cons_zero, List.set_cons_succ, wp_int, wp_intb, wp_int20, wp_toB, wp_add, wp_abs, wp_neg, wp_lenL, pen0, pen1, pen2, put1, put2, decide_true, decide_false, if_true, if_false, Bool.false_eq_true, Nat.zero_le, exists_eq_left, and_true, true_and, Bool.not_true, Bool.not_false, reduceCtorEq, reduceIte]
  refine (draw_ok hc (by omega) hp (by omega) (by omega)).mono ?_
  rintro x S1 ⟨z, rfl, z0, z1, hp1⟩
  try simp only [sSeq, sIf, sAsg, sRet, sNil, gSet, gPut, tst, b2, b1, cal, on1, aCons, vget, mkL, mkT, calF, andT, orT, notT, andV, notV, wp_bind, wp_pure, wp_if, List.map, List.length, List.replicate, List.append, List.cons_append, List.nil_append, Nat.reduceSub, Nat.reduceAdd, Nat.reduceLeDiff, List.getElem?_cons_zero, List.getElem?_cons_succ, List.set_cons_zero, List.set_cons_succ, wp_int, wp_intb, wp_int20, wp_toB, wp_add, wp_abs, wp_neg, wp_lenL, pen0, pen1, pen2, put1, put2, decide_true, decide_false, if_true, if_false, Bool.false_eq_true, Nat.zero_le, exists_eq_left, and_true, true_and, Bool.not_true, Bool.not_false, reduceCtorEq, reduceIte]
  refine (number_ok hc (by omega) hp1).mono ?_
  rintro x S2 ⟨⟨n, rfl, hn⟩, hp2⟩
  try simp only [sSeq, sIf, sAsg, sRet, sNil, gSet, gPut, tst, b2, b1, cal, on1, aCons, vget, mkL, mkT, calF, andT, orT, notT, andV, notV, wp_bind, wp_pure, wp_if, List.map, List.length, List.replicate, List.append, List.cons_append, List.nil_append, Nat.reduceSub, Nat.reduceAdd, Nat.reduceLeDiff, List.getElem?_cons_zero, List.getElem?_cons_succ, List.set_cons_zero, List.set_cons_succ, wp_int, wp_intb, wp_int20, wp_toB, wp_add, wp_abs, wp_neg, wp_lenL, pen0, pen1, pen2, put1, put2, decide_true, decide_false, if_true, if_false, Bool.false_eq_true, Nat.zero_le, exists_eq_left, and_true, true_and, Bool.not_true, Bool.not_false, reduceCtorEq, reduceIte]
  refine (spot_ok hc (by omega) hp2).mono ?_
  rintro x S3 ⟨⟨p1, s1, rfl, hp1b, hs1⟩, hp3⟩
  try simp only [sSeq, sIf, sAsg, sRet, sNil, gSet, gPut, tst, b2, b1, cal, on1, aCons, vget, mkL, mkT, calF, andT, orT, notT, andV, notV, wp_bind, wp_pure, wp_if, List.map, List.length, List.replicate, List.append, List.cons_append, List.nil_append, Nat.reduceSub, Nat.reduceAdd, Nat.reduceLeDiff, List.getElem?_cons_zero, List.getElem?_cons_succ, List.set_cons_zero, List.set_cons_succ, wp_int, wp_intb, wp_int20, wp_toB, wp_add, wp_abs, wp_neg, wp_lenL, pen0, pen1, pen2, put1, put2, decide_true, decide_false, if_true, if_false, Bool.false_eq_true, Nat.zero_le, exists_eq_left, and_true, true_and, Bool.not_true, Bool.not_false, reduceCtorEq, reduceIte]
  refine (spot_ok hc (by omega) hp3).mono ?_
  rintro x S4 ⟨⟨p2, s2, rfl, hp2b, hs2⟩, hp4⟩
  have hp4 : Pen cells T (A + 8) S4 := hp4.mono (by omega)
  simp only [sSeq, sIf, sAsg, sRet, sNil, gSet, gPut, tst, b2, b1, cal, on1, aCons, vget, mkL, mkT, calF, andT, orT, notT, andV, notV, wp_bind, wp_pure, wp_if, List.map, List.length, List.replicate, List.append, List.cons_append, List.nil_append, Nat.reduceSub, Nat.reduceAdd, Nat.reduceLeDiff, List.getElem?_cons_zero, List.getElem?_cons_succ, List.set_cons_zero, List.set_cons_succ, wp_int, wp_intb, wp_int20, wp_toB, wp_add, wp_abs, wp_neg, wp_lenL, pen0, pen1, pen2, put1, put2, decide_true, decide_false, if_true, if_false, Bool.false_eq_true, Nat.zero_le, exists_eq_left, and_true, true_and, Bool.not_true, Bool.not_false, reduceCtorEq, reduceIte, gTwo, wp_eqI]
  by_cases e0 : (z == 0) = true
  · simp only [sSeq, sIf, sAsg, sRet, sNil, gSet, gPut, tst, b2, b1, cal, on1, aCons, vget, mkL, mkT, calF, andT, orT, notT, andV, notV, wp_bind, wp_pure, wp_if, List.map, List.length, List.replicate, List.append, List.cons_append, List.nil_append, Nat.reduceSub, Nat.reduceAdd, Nat.reduceLeDiff, List.getElem?_cons_zero, List.getElem?_cons_succ, List.set_cons_zero, List.set_cons_succ, wp_int, wp_intb, wp_int20, wp_toB, wp_add, wp_abs, wp_neg, wp_lenL, pen0, pen1, pen2, put1, put2, decide_true, decide_false, if_true, if_false, Bool.false_eq_true, Nat.zero_le, exists_eq_left, and_true, true_and, Bool.not_true, Bool.not_false, reduceCtorEq, reduceIte, e0, ifV]
    by_cases g1 : 1 < n
    · simp only [sSeq, sIf, sAsg, sRet, sNil, gSet, gPut, tst, b2, b1, cal, on1, aCons, vget, mkL, mkT, calF, andT, orT, notT, andV, notV, wp_bind, wp_pure, wp_if, List.map, List.length, List.replicate, List.append, List.cons_append, List.nil_append, Nat.reduceSub, Nat.reduceAdd, Nat.reduceLeDiff, List.getElem?_cons_zero, List.getElem?_cons_succ, List.set_cons_zero, List.set_cons_succ, wp_int, wp_intb, wp_int20, wp_toB, wp_add, wp_abs, wp_neg, wp_lenL, pen0, pen1, pen2, put1, put2, decide_true, decide_false, if_true, if_false, Bool.false_eq_true, Nat.zero_le, exists_eq_left, and_true, true_and, Bool.not_true, Bool.not_false, reduceCtorEq, reduceIte, g1, subM]
      refine (draw_ok hc (by omega) hp4 (by omega) (by omega)).mono ?_
      rintro x S5 ⟨o, rfl, o0, o1, hp5⟩
      try simp only [sSeq, sIf, sAsg, sRet, sNil, gSet, gPut, tst, b2, b1, cal, on1, aCons, vget, mkL, mkT, calF, andT, orT, notT, andV, notV, wp_bind, wp_pure, wp_if, List.map, List.length, List.replicate, List.append, List.cons_append, List.nil_append, Nat.reduceSub, Nat.reduceAdd, Nat.reduceLeDiff, List.getElem?_cons_zero, List.getElem?_cons_succ, List.set_cons_zero, List.set_cons_succ, wp_int, wp_intb, wp_int20, wp_toB, wp_add, wp_abs, wp_neg, wp_lenL, pen0, pen1, pen2, put1, put2, decide_true, decide_false, if_true, if_false, Bool.false_eq_true, Nat.zero_le, exists_eq_left, and_true, true_and, Bool.not_true, Bool.not_false, reduceCtorEq, reduceIte]
      refine (pick_ok (fun v => v = .non ∨ v = .int (1 + o)) (fun d hd => by simpa using hd) (by simp) (by simp) hc (by omega) hp5).mono ?_
      rintro v S6 ⟨rfl | rfl, hp6⟩
      · exact ⟨_, rfl, r_open0 hn, hp6.mono (by omega)⟩
      · exact ⟨_, rfl, r_open1 hn (by omega), hp6.mono (by omega)⟩
    · simp only [sSeq, sIf, sAsg, sRet, sNil, gSet, gPut, tst, b2, b1, cal, on1, aCons, vget, mkL, mkT, calF, andT, orT, notT, andV, notV, wp_bind, wp_pure, wp_if, List.map, List.length, List.replicate, List.append, List.cons_append, List.nil_append, Nat.reduceSub, Nat.reduceAdd, Nat.reduceLeDiff, List.getElem?_cons_zero, List.getElem?_cons_succ, List.set_cons_zero, List.set_cons_succ, wp_int, wp_intb, wp_int20, wp_toB, wp_add, wp_abs, wp_neg, wp_lenL, pen0, pen1, pen2, put1, put2, decide_true, decide_false, if_true, if_false, Bool.false_eq_true, Nat.zero_le, exists_eq_left, and_true, true_and, Bool.not_true, Bool.not_false, reduceCtorEq, reduceIte, g1]
      refine (pick_ok (fun v => v = .non) (fun d hd => by simpa using hd) (by simp) (by simp) hc (by omega) hp4).mono ?_
      rintro v S6 ⟨rfl, hp6⟩
      exact ⟨_, rfl, r_open0 hn, hp6.mono (by omega)⟩
  simp only [sSeq, sIf, sAsg, sRet, sNil, gSet, gPut, tst, b2, b1, cal, on1, aCons, vget, mkL, mkT, calF, andT, orT, notT, andV, notV, wp_bind, wp_pure, wp_if, List.map, List.length, List.replicate, List.append, List.cons_append, List.nil_append, Nat.reduceSub, Nat.reduceAdd, Nat.reduceLeDiff, List.getElem?_cons_zero, List.getElem?_cons_succ, List.set_cons_zero, List.set_cons_succ, wp_int, wp_intb, wp_int20, wp_toB, wp_add, wp_abs, wp_neg, wp_lenL, pen0, pen1, pen2, put1, put2, decide_true, decide_false, if_true, if_false, Bool.false_eq_true, Nat.zero_le, exists_eq_left, and_true, true_and, Bool.not_true, Bool.not_false, reduceCtorEq, reduceIte, e0]
  by_cases l3 : z < 3
  · simp only [sSeq, sIf, sAsg, sRet, sNil, gSet, gPut, tst, b2, b1, cal, on1, aCons, vget, mkL, mkT, calF, andT, orT, notT, andV, notV, wp_bind, wp_pure, wp_if, List.map, List.length, List.replicate, List.append, List.cons_append, List.nil_append, Nat.reduceSub, Nat.reduceAdd, Nat.reduceLeDiff, List.getElem?_cons_zero, List.getElem?_cons_succ, List.set_cons_zero, List.set_cons_succ, wp_int, wp_intb, wp_int20, wp_toB, wp_add, wp_abs, wp_neg, wp_lenL, pen0, pen1, pen2, put1, put2, decide_true, decide_false, if_true, if_false, Bool.false_eq_true, Nat.zero_le, exists_eq_left, and_true, true_and, Bool.not_true, Bool.not_false, reduceCtorEq, reduceIte, l3]
    rw [addM_T (by simp)]
    try simp only [sSeq, sIf, sAsg, sRet, sNil, gSet, gPut, tst, b2, b1, cal, on1, aCons, vget, mkL, mkT, calF, andT, orT, notT, andV, notV, wp_bind, wp_pure, wp_if, List.map, List.length, List.replicate, List.append, List.cons_append, List.nil_append, Nat.reduceSub, Nat.reduceAdd, Nat.reduceLeDiff, List.getElem?_cons_zero, List.getElem?_cons_succ, List.set_cons_zero, List.set_cons_succ, wp_int, wp_intb, wp_int20, wp_toB, wp_add, wp_abs, wp_neg, wp_lenL, pen0, pen1, pen2, put1, put2, decide_true, decide_false, if_true, if_false, Bool.false_eq_true, Nat.zero_le, exists_eq_left, and_true, true_and, Bool.not_true, Bool.not_false, reduceCtorEq, reduceIte]
    refine (keyD_ok hc (by omega) hp4).mono ?_
    rintro a S5 ⟨ha, hp5⟩
    try simp only [sSeq, sIf, sAsg, sRet, sNil, gSet, gPut, tst, b2, b1, cal, on1, aCons, vget, mkL, mkT, calF, andT, orT, notT, andV, notV, wp_bind, wp_pure, wp_if, List.map, List.length, List.replicate, List.append, List.cons_append, List.nil_append, Nat.reduceSub, Nat.reduceAdd, Nat.reduceLeDiff, List.getElem?_cons_zero, List.getElem?_cons_succ, List.set_cons_zero, List.set_cons_succ, wp_int, wp_intb, wp_int20, wp_toB, wp_add, wp_abs, wp_neg, wp_lenL, pen0, pen1, pen2, put1, put2, decide_true, decide_false, if_true, if_false, Bool.false_eq_true, Nat.zero_le, exists_eq_left, and_true, true_and, Bool.not_true, Bool.not_false, reduceCtorEq, reduceIte]
    refine (valueD_ok hc (by omega) hp5).mono ?_
    rintro b S6 ⟨hb, hp6⟩
    try simp only [sSeq, sIf, sAsg, sRet, sNil, gSet, gPut, tst, b2, b1, cal, on1, aCons, vget, mkL, mkT, calF, andT, orT, notT, andV, notV, wp_bind, wp_pure, wp_if, List.map, List.length, List.replicate, List.append, List.cons_append, List.nil_append, Nat.reduceSub, Nat.reduceAdd, Nat.reduceLeDiff, List.getElem?_cons_zero, List.getElem?_cons_succ, List.set_cons_zero, List.set_cons_succ, wp_int, wp_intb, wp_int20, wp_toB, wp_add, wp_abs, wp_neg, wp_lenL, pen0, pen1, pen2, put1, put2, decide_true, decide_false, if_true, if_false, Bool.false_eq_true, Nat.zero_le, exists_eq_left, and_true, true_and, Bool.not_true, Bool.not_false, reduceCtorEq, reduceIte]
    rw [addM_T (by simp)]
    exact ⟨_, rfl, r_put hn hp1b hs1 ha hb, hp6.mono (by omega)⟩
  simp only [sSeq, sIf, sAsg, sRet, sNil, gSet, gPut, tst, b2, b1, cal, on1, aCons, vget, mkL, mkT, calF, andT, orT, notT, andV, notV, wp_bind, wp_pure, wp_if, List.map, List.length, List.replicate, List.append, List.cons_append, List.nil_append, Nat.reduceSub, Nat.reduceAdd, Nat.reduceLeDiff, List.getElem?_cons_zero, List.getElem?_cons_succ, List.set_cons_zero, List.set_cons_succ, wp_int, wp_intb, wp_int20, wp_toB, wp_add, wp_abs, wp_neg, wp_lenL, pen0, pen1, pen2, put1, put2, decide_true, decide_false, if_true, if_false, Bool.false_eq_true, Nat.zero_le, exists_eq_left, and_true, true_and, Bool.not_true, Bool.not_false, reduceCtorEq, reduceIte, l3]
  by_cases l5 : z < 5
  · simp only [sSeq, sIf, sAsg, sRet, sNil, gSet, gPut, tst, b2, b1, cal, on1, aCons, vget, mkL, mkT, calF, andT, orT, notT, andV, notV, wp_bind, wp_pure, wp_if, List.map, List.length, List.replicate, List.append, List.cons_append, List.nil_append, Nat.reduceSub, Nat.reduceAdd, Nat.reduceLeDiff, List.getElem?_cons_zero, List.getElem?_cons_succ, List.set_cons_zero, List.set_cons_succ, wp_int, wp_intb, wp_int20, wp_toB, wp_add, wp_abs, wp_neg, wp_lenL, pen0, pen1, pen2, put1, put2, decide_true, decide_false, if_true, if_false, Bool.false_eq_true, Nat.zero_le, exists_eq_left, and_true, true_and, Bool.not_true, Bool.not_false, reduceCtorEq, reduceIte, l5]
    rw [addM_T (by simp)]
    try simp only [sSeq, sIf, sAsg, sRet, sNil, gSet, gPut, tst, b2, b1, cal, on1, aCons, vget, mkL, mkT, calF, andT, orT, notT, andV, notV, wp_bind, wp_pure, wp_if, List.map, List.length, List.replicate, List.append, List.cons_append, List.nil_append, Nat.reduceSub, Nat.reduceAdd, Nat.reduceLeDiff, List.getElem?_cons_zero, List.getElem?_cons_succ, List.set_cons_zero, List.set_cons_succ, wp_int, wp_intb, wp_int20, wp_toB, wp_add, wp_abs, wp_neg, wp_lenL, pen0, pen1, pen2, put1, put2, decide_true, decide_false, if_true, if_false, Bool.false_eq_true, Nat.zero_le, exists_eq_left, and_true, true_and, Bool.not_true, Bool.not_false, reduceCtorEq, reduceIte]
    rw [addM_T (by simp)]
    try simp only [sSeq, sIf, sAsg, sRet, sNil, gSet, gPut, tst, b2, b1, cal, on1, aCons, vget, mkL, mkT, calF, andT, orT, notT, andV, notV, wp_bind, wp_pure, wp_if, List.map, List.length, List.replicate, List.append, List.cons_append, List.nil_append, Nat.reduceSub, Nat.reduceAdd, Nat.reduceLeDiff, List.getElem?_cons_zero, List.getElem?_cons_succ, List.set_cons_zero, List.set_cons_succ, wp_int, wp_intb, wp_int20, wp_toB, wp_add, wp_abs, wp_neg, wp_lenL, pen0, pen1, pen2, put1, put2, decide_true, decide_false, if_true, if_false, Bool.false_eq_true, Nat.zero_le, exists_eq_left, and_true, true_and, Bool.not_true, Bool.not_false, reduceCtorEq, reduceIte]
    refine (valueD_ok hc (by omega) hp4).mono ?_
    rintro b S6 ⟨hb, hp6⟩
    try simp only [sSeq, sIf, sAsg, sRet, sNil, gSet, gPut, tst, b2, b1, cal, on1, aCons, vget, mkL, mkT, calF, andT, orT, notT, andV, notV, wp_bind, wp_pure, wp_if, List.map, List.length, List.replicate, List.append, List.cons_append, List.nil_append, Nat.reduceSub, Nat.reduceAdd, Nat.reduceLeDiff, List.getElem?_cons_zero, List.getElem?_cons_succ, List.set_cons_zero, List.set_cons_succ, wp_int, wp_intb, wp_int20, wp_toB, wp_add, wp_abs, wp_neg, wp_lenL, pen0, pen1, pen2, put1, put2, decide_true, decide_false, if_true, if_false, Bool.false_eq_true, Nat.zero_le, exists_eq_left, and_true, true_and, Bool.not_true, Bool.not_false, reduceCtorEq, reduceIte]
    rw [addM_T (by simp)]
    exact ⟨_, rfl, r_change hn hp1b hs1 hp2b hs2 hb, hp6.mono (by omega)⟩
  simp only [sSeq, sIf, sAsg, sRet, sNil, gSet, gPut, tst, b2, b1, cal, on1, aCons, vget, mkL, mkT, calF, andT, orT, notT, andV, notV, wp_bind, wp_pure, wp_if, List.map, List.length, List.replicate, List.append, List.cons_append, List.nil_append, Nat.reduceSub, Nat.reduceAdd, Nat.reduceLeDiff, List.getElem?_cons_zero, List.getElem?_cons_succ, List.set_cons_zero, List.set_cons_succ, wp_int, wp_intb, wp_int20, wp_toB, wp_add, wp_abs, wp_neg, wp_lenL, pen0, pen1, pen2, put1, put2, decide_true, decide_false, if_true, if_false, Bool.false_eq_true, Nat.zero_le, exists_eq_left, and_true, true_and, Bool.not_true, Bool.not_false, reduceCtorEq, reduceIte, l5]
  by_cases l8 : z < 8
  · simp only [sSeq, sIf, sAsg, sRet, sNil, gSet, gPut, tst, b2, b1, cal, on1, aCons, vget, mkL, mkT, calF, andT, orT, notT, andV, notV, wp_bind, wp_pure, wp_if, List.map, List.length, List.replicate, List.append, List.cons_append, List.nil_append, Nat.reduceSub, Nat.reduceAdd, Nat.reduceLeDiff, List.getElem?_cons_zero, List.getElem?_cons_succ, List.set_cons_zero, List.set_cons_succ, wp_int, wp_intb, wp_int20, wp_toB, wp_add, wp_abs, wp_neg, wp_lenL, pen0, pen1, pen2, put1, put2, decide_true, decide_false, if_true, if_false, Bool.false_eq_true, Nat.zero_le, exists_eq_left, and_true, true_and, Bool.not_true, Bool.not_false, reduceCtorEq, reduceIte, l8, subM]
    refine wp_pick (P := fun v => ∃ x : Str, v = .str x ∧ (x = "strike" ∨ x = "lock" ∨ x = "refused")) ?_ (by omega) (by simp; omega) ?_
    · intro d hd
      simp only [List.mem_cons, List.not_mem_nil, or_false] at hd
      rcases hd with rfl | rfl | rfl
      · exact ⟨_, rfl, .inl rfl⟩
      · exact ⟨_, rfl, .inr (.inl rfl)⟩
      · exact ⟨_, rfl, .inr (.inr rfl)⟩
    · rintro d ⟨x, rfl, hx⟩
      try simp only [sSeq, sIf, sAsg, sRet, sNil, gSet, gPut, tst, b2, b1, cal, on1, aCons, vget, mkL, mkT, calF, andT, orT, notT, andV, notV, wp_bind, wp_pure, wp_if, List.map, List.length, List.replicate, List.append, List.cons_append, List.nil_append, Nat.reduceSub, Nat.reduceAdd, Nat.reduceLeDiff, List.getElem?_cons_zero, List.getElem?_cons_succ, List.set_cons_zero, List.set_cons_succ, wp_int, wp_intb, wp_int20, wp_toB, wp_add, wp_abs, wp_neg, wp_lenL, pen0, pen1, pen2, put1, put2, decide_true, decide_false, if_true, if_false, Bool.false_eq_true, Nat.zero_le, exists_eq_left, and_true, true_and, Bool.not_true, Bool.not_false, reduceCtorEq, reduceIte]
      rw [addM_T (by simp)]
      exact ⟨_, rfl, r_three hx hn hp1b hs1, hp4.mono (by omega)⟩
  simp only [sSeq, sIf, sAsg, sRet, sNil, gSet, gPut, tst, b2, b1, cal, on1, aCons, vget, mkL, mkT, calF, andT, orT, notT, andV, notV, wp_bind, wp_pure, wp_if, List.map, List.length, List.replicate, List.append, List.cons_append, List.nil_append, Nat.reduceSub, Nat.reduceAdd, Nat.reduceLeDiff, List.getElem?_cons_zero, List.getElem?_cons_succ, List.set_cons_zero, List.set_cons_succ, wp_int, wp_intb, wp_int20, wp_toB, wp_add, wp_abs, wp_neg, wp_lenL, pen0, pen1, pen2, put1, put2, decide_true, decide_false, if_true, if_false, Bool.false_eq_true, Nat.zero_le, exists_eq_left, and_true, true_and, Bool.not_true, Bool.not_false, reduceCtorEq, reduceIte, l8]
  by_cases l10 : z < 10
  · simp only [sSeq, sIf, sAsg, sRet, sNil, gSet, gPut, tst, b2, b1, cal, on1, aCons, vget, mkL, mkT, calF, andT, orT, notT, andV, notV, wp_bind, wp_pure, wp_if, List.map, List.length, List.replicate, List.append, List.cons_append, List.nil_append, Nat.reduceSub, Nat.reduceAdd, Nat.reduceLeDiff, List.getElem?_cons_zero, List.getElem?_cons_succ, List.set_cons_zero, List.set_cons_succ, wp_int, wp_intb, wp_int20, wp_toB, wp_add, wp_abs, wp_neg, wp_lenL, pen0, pen1, pen2, put1, put2, decide_true, decide_false, if_true, if_false, Bool.false_eq_true, Nat.zero_le, exists_eq_left, and_true, true_and, Bool.not_true, Bool.not_false, reduceCtorEq, reduceIte, l10, subM]
    refine wp_pick (P := fun v => ∃ x : Str, v = .str x ∧ (x = "commit" ∨ x = "abort")) ?_ (by omega) (by simp; omega) ?_
    · intro d hd
      simp only [List.mem_cons, List.not_mem_nil, or_false] at hd
      rcases hd with rfl | rfl
      · exact ⟨_, rfl, .inl rfl⟩
      · exact ⟨_, rfl, .inr rfl⟩
    · rintro d ⟨x, rfl, hx⟩
      try simp only [sSeq, sIf, sAsg, sRet, sNil, gSet, gPut, tst, b2, b1, cal, on1, aCons, vget, mkL, mkT, calF, andT, orT, notT, andV, notV, wp_bind, wp_pure, wp_if, List.map, List.length, List.replicate, List.append, List.cons_append, List.nil_append, Nat.reduceSub, Nat.reduceAdd, Nat.reduceLeDiff, List.getElem?_cons_zero, List.getElem?_cons_succ, List.set_cons_zero, List.set_cons_succ, wp_int, wp_intb, wp_int20, wp_toB, wp_add, wp_abs, wp_neg, wp_lenL, pen0, pen1, pen2, put1, put2, decide_true, decide_false, if_true, if_false, Bool.false_eq_true, Nat.zero_le, exists_eq_left, and_true, true_and, Bool.not_true, Bool.not_false, reduceCtorEq, reduceIte]
      exact ⟨_, rfl, r_end hx hn, hp4.mono (by omega)⟩
  simp only [sSeq, sIf, sAsg, sRet, sNil, gSet, gPut, tst, b2, b1, cal, on1, aCons, vget, mkL, mkT, calF, andT, orT, notT, andV, notV, wp_bind, wp_pure, wp_if, List.map, List.length, List.replicate, List.append, List.cons_append, List.nil_append, Nat.reduceSub, Nat.reduceAdd, Nat.reduceLeDiff, List.getElem?_cons_zero, List.getElem?_cons_succ, List.set_cons_zero, List.set_cons_succ, wp_int, wp_intb, wp_int20, wp_toB, wp_add, wp_abs, wp_neg, wp_lenL, pen0, pen1, pen2, put1, put2, decide_true, decide_false, if_true, if_false, Bool.false_eq_true, Nat.zero_le, exists_eq_left, and_true, true_and, Bool.not_true, Bool.not_false, reduceCtorEq, reduceIte, l10, wp_eqI]
  by_cases e10 : (z == 10) = true
  · simp only [sSeq, sIf, sAsg, sRet, sNil, gSet, gPut, tst, b2, b1, cal, on1, aCons, vget, mkL, mkT, calF, andT, orT, notT, andV, notV, wp_bind, wp_pure, wp_if, List.map, List.length, List.replicate, List.append, List.cons_append, List.nil_append, Nat.reduceSub, Nat.reduceAdd, Nat.reduceLeDiff, List.getElem?_cons_zero, List.getElem?_cons_succ, List.set_cons_zero, List.set_cons_succ, wp_int, wp_intb, wp_int20, wp_toB, wp_add, wp_abs, wp_neg, wp_lenL, pen0, pen1, pen2, put1, put2, decide_true, decide_false, if_true, if_false, Bool.false_eq_true, Nat.zero_le, exists_eq_left, and_true, true_and, Bool.not_true, Bool.not_false, reduceCtorEq, reduceIte, e10]
    refine (viewD_ok hc (by omega) hp4).mono ?_
    rintro v S5 ⟨⟨k, rfl, hk⟩, hp5⟩
    try simp only [sSeq, sIf, sAsg, sRet, sNil, gSet, gPut, tst, b2, b1, cal, on1, aCons, vget, mkL, mkT, calF, andT, orT, notT, andV, notV, wp_bind, wp_pure, wp_if, List.map, List.length, List.replicate, List.append, List.cons_append, List.nil_append, Nat.reduceSub, Nat.reduceAdd, Nat.reduceLeDiff, List.getElem?_cons_zero, List.getElem?_cons_succ, List.set_cons_zero, List.set_cons_succ, wp_int, wp_intb, wp_int20, wp_toB, wp_add, wp_abs, wp_neg, wp_lenL, pen0, pen1, pen2, put1, put2, decide_true, decide_false, if_true, if_false, Bool.false_eq_true, Nat.zero_le, exists_eq_left, and_true, true_and, Bool.not_true, Bool.not_false, reduceCtorEq, reduceIte]
    exact ⟨_, rfl, r_prep hn hk, hp5.mono (by omega)⟩
  simp only [sSeq, sIf, sAsg, sRet, sNil, gSet, gPut, tst, b2, b1, cal, on1, aCons, vget, mkL, mkT, calF, andT, orT, notT, andV, notV, wp_bind, wp_pure, wp_if, List.map, List.length, List.replicate, List.append, List.cons_append, List.nil_append, Nat.reduceSub, Nat.reduceAdd, Nat.reduceLeDiff, List.getElem?_cons_zero, List.getElem?_cons_succ, List.set_cons_zero, List.set_cons_succ, wp_int, wp_intb, wp_int20, wp_toB, wp_add, wp_abs, wp_neg, wp_lenL, pen0, pen1, pen2, put1, put2, decide_true, decide_false, if_true, if_false, Bool.false_eq_true, Nat.zero_le, exists_eq_left, and_true, true_and, Bool.not_true, Bool.not_false, reduceCtorEq, reduceIte, e10, eLc, len1, wp_r8, rgD_len]
  refine wp_noErr ((lcGo_step (fun v => ∃ z : Int, v = .int z) (A + 20) 1 (by decide) ?_ (rgD 0 8) (A + 8) S4 (by rw [rgD_len]; omega) hp4).mono ?_)
  · intro y B S5 hB hp5
    simp only [sSeq, sIf, sAsg, sRet, sNil, gSet, gPut, tst, b2, b1, cal, on1, aCons, vget, mkL, mkT, calF, andT, orT, notT, andV, notV, wp_bind, wp_pure, wp_if, List.map, List.length, List.replicate, List.append, List.cons_append, List.nil_append, Nat.reduceSub, Nat.reduceAdd, Nat.reduceLeDiff, List.getElem?_cons_zero, List.getElem?_cons_succ, List.set_cons_zero, List.set_cons_succ, wp_int, wp_intb, wp_int20, wp_toB, wp_add, wp_abs, wp_neg, wp_lenL, pen0, pen1, pen2, put1, put2, decide_true, decide_false, if_true, if_false, Bool.false_eq_true, Nat.zero_le, exists_eq_left, and_true, true_and, Bool.not_true, Bool.not_false, reduceCtorEq, reduceIte, wipeE, List.foldr]
    refine (draw_ok hc (by omega) hp5 (by omega) (by omega)).mono ?_
    rintro x S6 ⟨z, rfl, _, _, hp6⟩
    exact ⟨⟨z, rfl⟩, hp6⟩
  rintro ys S5 ⟨hy1, hy2, hp5⟩
  rw [rgD_len] at hy1 hp5
  have hp5 : Pen cells T (A + 16) S5 := hp5.mono (by omega)
  obtain ⟨ns, rfl⟩ := ints_any hy2
  have h8 : ns.length = 8 := by rw [List.length_map] at hy1; exact hy1
  try simp only [sSeq, sIf, sAsg, sRet, sNil, gSet, gPut, tst, b2, b1, cal, on1, aCons, vget, mkL, mkT, calF, andT, orT, notT, andV, notV, wp_bind, wp_pure, wp_if, List.map, List.length, List.replicate, List.append, List.cons_append, List.nil_append, Nat.reduceSub, Nat.reduceAdd, Nat.reduceLeDiff, List.getElem?_cons_zero, List.getElem?_cons_succ, List.set_cons_zero, List.set_cons_succ, wp_int, wp_intb, wp_int20, wp_toB, wp_add, wp_abs, wp_neg, wp_lenL, pen0, pen1, pen2, put1, put2, decide_true, decide_false, if_true, if_false, Bool.false_eq_true, Nat.zero_le, exists_eq_left, and_true, true_and, Bool.not_true, Bool.not_false, reduceCtorEq, reduceIte, wp_eqI]
  have cmp : ∀ (e : Env) (c : Int) {Q : List D → Sto → Prop}, e.length = 9 → e[6]? = some (some (.lst (ns.map D.int))) →
      (Wp (noErr (lcGo (gSet 8) (tst (b2 eqM (b2 ixM (vget 6) (vget 8)) (fun _ => M.pure (.int c)))) (vget 8) e (rgD 0 8))) S5 Q ↔ Q ((pickR fun k => ns.getD k 0 == c).map D.int) S5) := by
    intro e c Q he h6
    rw [rgD_map, wp_lc (g := fun i : Nat => D.int (0 + i)) (f := fun i : Nat => D.int (0 + i)) (p := fun k => ns.getD k 0 == c), pickR_map]
    · intro y hy
      have hy : y < 8 := List.mem_range.1 hy
      have g6 : (e.set 8 (some (D.int (0 + (y : Int)))))[6]? = some (some (.lst (ns.map D.int))) := by rw [List.getElem?_set_ne (by decide)]; exact h6
      have g8 : (e.set 8 (some (D.int (0 + (y : Int)))))[8]? = some (some (D.int (0 + (y : Int)))) := by rw [List.getElem?_set_self (by omega)]
      refine eq_of_wp ?_
      simp only [tst, b2, vget, g6, g8, wp_bind, wp_pure, ixLn (show y < ns.length by omega), wp_eqI, wp_toB]
      simp
    · intro y hy _
      have g8 : (e.set 8 (some (D.int (0 + (y : Int)))))[8]? = some (some (D.int (0 + (y : Int)))) := by rw [List.getElem?_set_self (by omega)]
      simp only [vget, g8]; rfl
  by_cases e11 : (z == 11) = true
  · simp only [sSeq, sIf, sAsg, sRet, sNil, gSet, gPut, tst, b2, b1, cal, on1, aCons, vget, mkL, mkT, calF, andT, orT, notT, andV, notV, wp_bind, wp_pure, wp_if, List.map, List.length, List.replicate, List.append, List.cons_append, List.nil_append, Nat.reduceSub, Nat.reduceAdd, Nat.reduceLeDiff, List.getElem?_cons_zero, List.getElem?_cons_succ, List.set_cons_zero, List.set_cons_succ, wp_int, wp_intb, wp_int20, wp_toB, wp_add, wp_abs, wp_neg, wp_lenL, pen0, pen1, pen2, put1, put2, decide_true, decide_false, if_true, if_false, Bool.false_eq_true, Nat.zero_le, exists_eq_left, and_true, true_and, Bool.not_true, Bool.not_false, reduceCtorEq, reduceIte, e11, eLc, len1, wp_r8, rgD_len]
    rw [cmp _ _ rfl rfl]
    try simp only [sSeq, sIf, sAsg, sRet, sNil, gSet, gPut, tst, b2, b1, cal, on1, aCons, vget, mkL, mkT, calF, andT, orT, notT, andV, notV, wp_bind, wp_pure, wp_if, List.map, List.length, List.replicate, List.append, List.cons_append, List.nil_append, Nat.reduceSub, Nat.reduceAdd, Nat.reduceLeDiff, List.getElem?_cons_zero, List.getElem?_cons_succ, List.set_cons_zero, List.set_cons_succ, wp_int, wp_intb, wp_int20, wp_toB, wp_add, wp_abs, wp_neg, wp_lenL, pen0, pen1, pen2, put1, put2, decide_true, decide_false, if_true, if_false, Bool.false_eq_true, Nat.zero_le, exists_eq_left, and_true, true_and, Bool.not_true, Bool.not_false, reduceCtorEq, reduceIte, tuple_L, eLc, len1, wp_r8, rgD_len]
    have i0 : ∀ {S : Sto} {Q : D → Sto → Prop}, Wp (ixM (.tup [.int p1, .int s1]) (.int 0)) S Q ↔ Q (.int p1) S := ixT (k := 0) rfl
    simp only [i0]
    rw [cmp _ _ rfl rfl]
    try simp only [sSeq, sIf, sAsg, sRet, sNil, gSet, gPut, tst, b2, b1, cal, on1, aCons, vget, mkL, mkT, calF, andT, orT, notT, andV, notV, wp_bind, wp_pure, wp_if, List.map, List.length, List.replicate, List.append, List.cons_append, List.nil_append, Nat.reduceSub, Nat.reduceAdd, Nat.reduceLeDiff, List.getElem?_cons_zero, List.getElem?_cons_succ, List.set_cons_zero, List.set_cons_succ, wp_int, wp_intb, wp_int20, wp_toB, wp_add, wp_abs, wp_neg, wp_lenL, pen0, pen1, pen2, put1, put2, decide_true, decide_false, if_true, if_false, Bool.false_eq_true, Nat.zero_le, exists_eq_left, and_true, true_and, Bool.not_true, Bool.not_false, reduceCtorEq, reduceIte, tuple_L]
    refine ⟨_, rfl, r_clean hp1b (fun i h => ?_), hp5.mono (by omega)⟩
    have : ns.getD i 0 = 0 := by simpa using h
    rw [this]; rfl
  simp only [sSeq, sIf, sAsg, sRet, sNil, gSet, gPut, tst, b2, b1, cal, on1, aCons, vget, mkL, mkT, calF, andT, orT, notT, andV, notV, wp_bind, wp_pure, wp_if, List.map, List.length, List.replicate, List.append, List.cons_append, List.nil_append, Nat.reduceSub, Nat.reduceAdd, Nat.reduceLeDiff, List.getElem?_cons_zero, List.getElem?_cons_succ, List.set_cons_zero, List.set_cons_succ, wp_int, wp_intb, wp_int20, wp_toB, wp_add, wp_abs, wp_neg, wp_lenL, pen0, pen1, pen2, put1, put2, decide_true, decide_false, if_true, if_false, Bool.false_eq_true, Nat.zero_le, exists_eq_left, and_true, true_and, Bool.not_true, Bool.not_false, reduceCtorEq, reduceIte, e11, wp_eqI]
  by_cases e12 : (z == 12) = true
  · simp only [sSeq, sIf, sAsg, sRet, sNil, gSet, gPut, tst, b2, b1, cal, on1, aCons, vget, mkL, mkT, calF, andT, orT, notT, andV, notV, wp_bind, wp_pure, wp_if, List.map, List.length, List.replicate, List.append, List.cons_append, List.nil_append, Nat.reduceSub, Nat.reduceAdd, Nat.reduceLeDiff, List.getElem?_cons_zero, List.getElem?_cons_succ, List.set_cons_zero, List.set_cons_succ, wp_int, wp_intb, wp_int20, wp_toB, wp_add, wp_abs, wp_neg, wp_lenL, pen0, pen1, pen2, put1, put2, decide_true, decide_false, if_true, if_false, Bool.false_eq_true, Nat.zero_le, exists_eq_left, and_true, true_and, Bool.not_true, Bool.not_false, reduceCtorEq, reduceIte, e12, eLc, len1, wp_r8, rgD_len]
    have i0 : ∀ {S : Sto} {Q : D → Sto → Prop}, Wp (ixM (.tup [.int p1, .int s1]) (.int 0)) S Q ↔ Q (.int p1) S := ixT (k := 0) rfl
    have i1 : ∀ {S : Sto} {Q : D → Sto → Prop}, Wp (ixM (.tup [.int p1, .int s1]) (.int 1)) S Q ↔ Q (.int s1) S := ixT (k := 1) rfl
    rw [rgD_map, wp_lc (g := fun i : Nat => D.int (0 + i)) (f := fun i : Nat => D.int (0 + i)) (p := fun k => ns.getD k 0 == 0 || (0 + (k : Int)) == s1), pickR_map]
    · simp only [sSeq, sIf, sAsg, sRet, sNil, gSet, gPut, tst, b2, b1, cal, on1, aCons, vget, mkL, mkT, calF, andT, orT, notT, andV, notV, wp_bind, wp_pure, wp_if, List.map, List.length, List.replicate, List.append, List.cons_append, List.nil_append, Nat.reduceSub, Nat.reduceAdd, Nat.reduceLeDiff, List.getElem?_cons_zero, List.getElem?_cons_succ, List.set_cons_zero, List.set_cons_succ, wp_int, wp_intb, wp_int20, wp_toB, wp_add, wp_abs, wp_neg, wp_lenL, pen0, pen1, pen2, put1, put2, decide_true, decide_false, if_true, if_false, Bool.false_eq_true, Nat.zero_le, exists_eq_left, and_true, true_and, Bool.not_true, Bool.not_false, reduceCtorEq, reduceIte, i0, tuple_L]
      refine ⟨_, rfl, r_tidy hp1b ⟨s1.toNat, by omega, ?_⟩, hp5.mono (by omega)⟩
      have : (0 + ((s1.toNat : Nat) : Int)) = s1 := by omega
      rw [this]; simp
    · intro y hy
      have hy : y < 8 := List.mem_range.1 hy
      simp only [wipeE, List.foldr, List.set_cons_zero, List.set_cons_succ]
      refine eq_of_wp ?_
      simp only [sSeq, sIf, sAsg, sRet, sNil, gSet, gPut, tst, b2, b1, cal, on1, aCons, vget, mkL, mkT, calF, andT, orT, notT, andV, notV, wp_bind, wp_pure, wp_if, List.map, List.length, List.replicate, List.append, List.cons_append, List.nil_append, Nat.reduceSub, Nat.reduceAdd, Nat.reduceLeDiff, List.getElem?_cons_zero, List.getElem?_cons_succ, List.set_cons_zero, List.set_cons_succ, wp_int, wp_intb, wp_int20, wp_toB, wp_add, wp_abs, wp_neg, wp_lenL, pen0, pen1, pen2, put1, put2, decide_true, decide_false, if_true, if_false, Bool.false_eq_true, Nat.zero_le, exists_eq_left, and_true, true_and, Bool.not_true, Bool.not_false, reduceCtorEq, reduceIte, ixLn (show y < ns.length by omega), wp_eqI, i1]
      cases (ns.getD y 0 == 0) <;> simp
    · intro y hy _
      rfl
  simp only [sSeq, sIf, sAsg, sRet, sNil, gSet, gPut, tst, b2, b1, cal, on1, aCons, vget, mkL, mkT, calF, andT, orT, notT, andV, notV, wp_bind, wp_pure, wp_if, List.map, List.length, List.replicate, List.append, List.cons_append, List.nil_append, Nat.reduceSub, Nat.reduceAdd, Nat.reduceLeDiff, List.getElem?_cons_zero, List.getElem?_cons_succ, List.set_cons_zero, List.set_cons_succ, wp_int, wp_intb, wp_int20, wp_toB, wp_add, wp_abs, wp_neg, wp_lenL, pen0, pen1, pen2, put1, put2, decide_true, decide_false, if_true, if_false, Bool.false_eq_true, Nat.zero_le, exists_eq_left, and_true, true_and, Bool.not_true, Bool.not_false, reduceCtorEq, reduceIte, e12]
  refine (viewD_ok hc (by omega) hp5).mono ?_
  rintro v S6 ⟨⟨k, rfl, hk⟩, hp6⟩
  try simp only [sSeq, sIf, sAsg, sRet, sNil, gSet, gPut, tst, b2, b1, cal, on1, aCons, vget, mkL, mkT, calF, andT, orT, notT, andV, notV, wp_bind, wp_pure, wp_if, List.map, List.length, List.replicate, List.append, List.cons_append, List.nil_append, Nat.reduceSub, Nat.reduceAdd, Nat.reduceLeDiff, List.getElem?_cons_zero, List.getElem?_cons_succ, List.set_cons_zero, List.set_cons_succ, wp_int, wp_intb, wp_int20, wp_toB, wp_add, wp_abs, wp_neg, wp_lenL, pen0, pen1, pen2, put1, put2, decide_true, decide_false, if_true, if_false, Bool.false_eq_true, Nat.zero_le, exists_eq_left, and_true, true_and, Bool.not_true, Bool.not_false, reduceCtorEq, reduceIte]
  refine (pick_ok rowG ?_ (by simp) (by simp) hc (by omega) hp6).mono ?_
  · intro d hd
    simp only [List.mem_cons, List.not_mem_nil, or_false] at hd
    rcases hd with rfl | rfl | rfl | rfl
    · exact r_sweep
    · exact r_fall
    · exact r_word0
    · exact r_word1 hk
  · rintro v S7 ⟨h, hp7⟩
    exact ⟨v, rfl, h, hp7.mono (by omega)⟩
end
end Mi
namespace Mi
open PySem PySem.Spec PyProof.Rows L2
def bentTail : Env → M (Fl × Env) := (sSeq (sIf (tst (b2 eqY (vget 2) (fun _ => M.pure (.int 4)))) (sSeq (sRet (b2 addM (slc (vget 1) none (some (vget 3))) (slc (vget 1) (some (b2 addM (vget 3) (fun _ => M.pure (.int 1)))) none)))
    sNil) sNil)
    (sSeq (sIf (tst (b2 eqY (vget 2) (fun _ => M.pure (.int 5)))) (sSeq (sRet (b2 addM (slc (vget 1) none (some (b2 addM (vget 3) (fun _ => M.pure (.int 1))))) (slc (vget 1) (some (vget 3)) none)))
    sNil) sNil)
    (sSeq (sIf (tst (b2 eqY (vget 2) (fun _ => M.pure (.int 6)))) (sSeq (sRet (b2 addM (b2 addM (slc (vget 1) none (some (vget 3))) (b1 revU (slc (vget 1) (some (vget 3)) (some (b2 addM (vget 3) (fun _ => M.pure (.int 2))))))) (slc (vget 1) (some (b2 addM (vget 3) (fun _ => M.pure (.int 2)))) none)))
    sNil) sNil)
    (sSeq (sRet (calF 2 m__law_pick (aCons (vget 0) (aCons (mkL (aCons (cal (on1 listM) (aCons (vget 1) (fun _ => M.pure []))) (aCons (b2 addM (vget 1) (mkT (aCons (fun _ => M.pure .non) (fun _ => M.pure [])))) (aCons (mkT (aCons (vget 1) (fun _ => M.pure []))) (aCons (b2 ixM (vget 1) (fun _ => M.pure (.int 0))) (aCons (calF 1 m__law_odd (aCons (vget 0) (fun _ => M.pure []))) (aCons (calF 1 m__law_odd (aCons (vget 0) (fun _ => M.pure []))) (fun _ => M.pure [])))))))) (fun _ => M.pure [])))))
    sNil))))
def bentRet : Env → M (Fl × Env) := (sSeq (sRet (b2 addM (b2 addM (slc (vget 1) none (some (vget 3))) (mkT (aCons (calF 2 m__law_pick (aCons (vget 0) (aCons (b2 addM (vget 5) (mkL (aCons (calF 1 m__law_odd (aCons (vget 0) (fun _ => M.pure []))) (fun _ => M.pure [])))) (fun _ => M.pure [])))) (fun _ => M.pure [])))) (slc (vget 1) (some (b2 addM (vget 3) (fun _ => M.pure (.int 1)))) none)))
    sNil)
theorem bent_eq : b__law_bent = (sSeq (sAsg (calF 2 m__law_draw (aCons (vget 0) (aCons (fun _ => M.pure (.int 9)) (fun _ => M.pure [])))) (gSet 2))
    (sSeq (sAsg (calF 2 m__law_draw (aCons (vget 0) (aCons (cal (on1 lenM) (aCons (vget 1) (fun _ => M.pure []))) (fun _ => M.pure [])))) (gSet 3))
    (sSeq (sIf (tst (b2 ltM (vget 2) (fun _ => M.pure (.int 4)))) (sSeq (sAsg (b2 ixM (vget 1) (vget 3)) (gSet 4))
    (sSeq (sAsg (mkL (aCons (calF 1 m__law_odd (aCons (vget 0) (fun _ => M.pure []))) (fun _ => M.pure []))) (gSet 5))
    (sSeq (sIf (tst (calF 3 m__law_whole (aCons (vget 4) (aCons (b1 negM (fun _ => M.pure (.int 9))) (aCons (b2 powM (fun _ => M.pure (.int 10)) (fun _ => M.pure (.int 9))) (fun _ => M.pure [])))))) (sSeq (sAsg (mkL (aCons (b2 addM (vget 4) (fun _ => M.pure (.int 1))) (aCons (b2 subM (vget 4) (fun _ => M.pure (.int 1))) (aCons (b2 eqY (vget 4) (fun _ => M.pure (.int 1))) (aCons (cal (on1 strM) (aCons (vget 4) (fun _ => M.pure []))) (aCons (b2 subM (fun _ => M.pure (.int 0)) (vget 4)) (aCons (mkT (aCons (vget 4) (fun _ => M.pure []))) (aCons (fun _ => M.pure (.int 8)) (aCons (fun _ => M.pure (.int 1000000)) (fun _ => M.pure [])))))))))) (gSet 5))
    sNil) (sSeq (sIf (tst (b1 (isiM "tuple") (vget 4))) (sSeq (sAsg (mkL (aCons (b2 addM (vget 4) (slc (vget 4) none (some (fun _ => M.pure (.int 1))))) (aCons (b1 revU (vget 4)) (aCons (cal (on1 listM) (aCons (vget 4) (fun _ => M.pure []))) (aCons (b2 addM (vget 4) (mkT (aCons (fun _ => M.pure (.int 8)) (fun _ => M.pure [])))) (aCons (slc (vget 4) (some (fun _ => M.pure (.int 1))) none) (aCons (mkT (aCons (fun _ => M.pure (.bl true)) (fun _ => M.pure []))) (aCons (mkT (fun _ => M.pure [])) (fun _ => M.pure []))))))))) (gSet 5))
    sNil) (sSeq (sIf (tst (b1 (isiM "str") (vget 4))) (sSeq (sAsg (mkL (aCons (b2 addM (vget 4) (fun _ => M.pure (.str "a"))) (aCons (slc (vget 4) (some (fun _ => M.pure (.int 1))) none) (aCons (mth0 chkS upperM (vget 4)) (aCons (b2 addM (vget 4) (fun _ => M.pure (.str "\n"))) (aCons (fun _ => M.pure (.str "fall")) (aCons (fun _ => M.pure (.str "word")) (aCons (mkT (aCons (vget 4) (fun _ => M.pure []))) (aCons (fun _ => M.pure .non) (fun _ => M.pure [])))))))))) (gSet 5))
    sNil) sNil)
    sNil))
    sNil))
    bentRet))) sNil)
    bentTail))) := rfl
section
variable {cells : List Int} {T : Sto} {A : Int} {S : Sto} {b : Int} {h w : Nat}
/-- what a change gives -/
def BG (b : Int) (h w : Nat) (d : D) : Prop := GD (b + 1) (h + 2) (3 * w + 8000) d
theorem G0.up {d : D} (g : G0 d) (hb : OB ≤ b) {h' : Nat} (hh : 2 ≤ h') {w' : Nat} (hw : 3000 ≤ w') : GD (b + 1) h' w' d := GD.mono (by omega) g hh hw
theorem bentTail_ok {ds : List D} {z m : Int} {o4 o5 : Option D} (hc : cells.length ≤ 63) (hA : A ≤ 80000) (hp : Pen cells T A S) (hb : OB ≤ b) (hw : w ≤ 30000) (hd : ds ≠ []) (g : GL (GD b h) w ds) :
    Wp (bentTail [some (.ref 0), some (.tup ds), some (.int z), some (.int m), o4, o5]) S fun r S' => ∃ d, r.1 = .rt d ∧ BG b (h + 1) w d ∧ Pen cells T (A + 5) S' := by
  have hl := g.ge
  have lc : ∀ lo hi, (cutD ds lo hi).length ≤ ds.length := fun lo hi => len_cut
  have a1 : ∀ lo hi lo2 hi2, (cutD ds lo hi).length + (cutD ds lo2 hi2).length ≤ 100000 := fun lo hi lo2 hi2 => by
    have := lc lo hi
    have := lc lo2 hi2
    omega
  have a1r : ∀ lo hi lo2 hi2, (cutD ds lo hi).length + (cutD ds lo2 hi2).reverse.length ≤ 100000 := fun lo hi lo2 hi2 => by
    have := lc lo hi
    have := lc lo2 hi2
    rw [List.length_reverse]
    omega
  have a2 : ∀ lo hi lo2 hi2 lo3 hi3, (cutD ds lo hi ++ (cutD ds lo2 hi2).reverse).length + (cutD ds lo3 hi3).length ≤ 100000 := fun lo hi lo2 hi2 lo3 hi3 => by
    have := lc lo hi
    have := lc lo2 hi2
    have := lc lo3 hi3
    rw [List.length_append, List.length_reverse]
    omega
  have a3 : ds.length + [D.non].length ≤ 100000 := by simp only [List.length_cons, List.length_nil]; omega
  have eY : ∀ {i j : Int} {S : Sto} {Q : D → Sto → Prop}, Wp (eqY (.int i) (.int j)) S Q ↔ Q (.bl (i == j)) S := wp_eqI
  have up : ∀ {ds : List D} {w' : Nat}, GL (GD b h) w' ds → w' ≤ 3 * w + 8000 → BG b (h + 1) w (.tup ds) := fun g k => GD.mono (by omega) (GD.tup g) (by omega) k
  have upl : ∀ {ds : List D} {w' : Nat}, GL (GD b h) w' ds → w' ≤ 3 * w + 8000 → BG b (h + 1) w (.lst ds) := fun g k => GD.mono (by omega) (GD.lst g) (by omega) k
  unfold bentTail
  simp only [sSeq, sIf, sAsg, sRet, sNil, gSet, gPut, tst, b2, b1, cal, on1, aCons, vget, mkL, mkT, calF, andT, orT, notT, andV, notV, wp_bind, wp_pure, wp_if, List.map, List.length, List.replicate, List.append, List.cons_append, List.nil_append, Nat.reduceSub, Nat.reduceAdd, Nat.reduceLeDiff, List.getElem?_cons_zero, List.getElem?_cons_succ, List.set_cons_zero, List.set_cons_succ, wp_int, wp_intb, wp_int20, wp_toB, wp_add, wp_abs, wp_neg, wp_lenL, pen0, pen1, pen2, put1, put2, decide_true, decide_false, if_true, if_false, Bool.false_eq_true, Nat.zero_le, exists_eq_left, and_true, true_and, Bool.not_true, Bool.not_false, reduceCtorEq, reduceIte, eY]
  by_cases e4 : (z == 4) = true
  · simp only [sSeq, sIf, sAsg, sRet, sNil, gSet, gPut, tst, b2, b1, cal, on1, aCons, vget, mkL, mkT, calF, andT, orT, notT, andV, notV, wp_bind, wp_pure, wp_if, List.map, List.length, List.replicate, List.append, List.cons_append, List.nil_append, Nat.reduceSub, Nat.reduceAdd, Nat.reduceLeDiff, List.getElem?_cons_zero, List.getElem?_cons_succ, List.set_cons_zero, List.set_cons_succ, wp_int, wp_intb, wp_int20, wp_toB, wp_add, wp_abs, wp_neg, wp_lenL, pen0, pen1, pen2, put1, put2, decide_true, decide_false, if_true, if_false, Bool.false_eq_true, Nat.zero_le, exists_eq_left, and_true, true_and, Bool.not_true, Bool.not_false, reduceCtorEq, reduceIte, e4, slc, parts, optI, slc_T, addM_T (a1 _ _ _ _)]
    exact ⟨_, rfl, up ((cut_G g).app (cut_G g)) (by omega), hp.mono (by omega)⟩
  simp only [sSeq, sIf, sAsg, sRet, sNil, gSet, gPut, tst, b2, b1, cal, on1, aCons, vget, mkL, mkT, calF, andT, orT, notT, andV, notV, wp_bind, wp_pure, wp_if, List.map, List.length, List.replicate, List.append, List.cons_append, List.nil_append, Nat.reduceSub, Nat.reduceAdd, Nat.reduceLeDiff, List.getElem?_cons_zero, List.getElem?_cons_succ, List.set_cons_zero, List.set_cons_succ, wp_int, wp_intb, wp_int20, wp_toB, wp_add, wp_abs, wp_neg, wp_lenL, pen0, pen1, pen2, put1, put2, decide_true, decide_false, if_true, if_false, Bool.false_eq_true, Nat.zero_le, exists_eq_left, and_true, true_and, Bool.not_true, Bool.not_false, reduceCtorEq, reduceIte, e4, eY]
  by_cases e5 : (z == 5) = true
  · simp only [sSeq, sIf, sAsg, sRet, sNil, gSet, gPut, tst, b2, b1, cal, on1, aCons, vget, mkL, mkT, calF, andT, orT, notT, andV, notV, wp_bind, wp_pure, wp_if, List.map, List.length, List.replicate, List.append, List.cons_append, List.nil_append, Nat.reduceSub, Nat.reduceAdd, Nat.reduceLeDiff, List.getElem?_cons_zero, List.getElem?_cons_succ, List.set_cons_zero, List.set_cons_succ, wp_int, wp_intb, wp_int20, wp_toB, wp_add, wp_abs, wp_neg, wp_lenL, pen0, pen1, pen2, put1, put2, decide_true, decide_false, if_true, if_false, Bool.false_eq_true, Nat.zero_le, exists_eq_left, and_true, true_and, Bool.not_true, Bool.not_false, reduceCtorEq, reduceIte, e5, slc, parts, optI, slc_T, addM_T (a1 _ _ _ _)]
    exact ⟨_, rfl, up ((cut_G g).app (cut_G g)) (by omega), hp.mono (by omega)⟩
  simp only [sSeq, sIf, sAsg, sRet, sNil, gSet, gPut, tst, b2, b1, cal, on1, aCons, vget, mkL, mkT, calF, andT, orT, notT, andV, notV, wp_bind, wp_pure, wp_if, List.map, List.length, List.replicate, List.append, List.cons_append, List.nil_append, Nat.reduceSub, Nat.reduceAdd, Nat.reduceLeDiff, List.getElem?_cons_zero, List.getElem?_cons_succ, List.set_cons_zero, List.set_cons_succ, wp_int, wp_intb, wp_int20, wp_toB, wp_add, wp_abs, wp_neg, wp_lenL, pen0, pen1, pen2, put1, put2, decide_true, decide_false, if_true, if_false, Bool.false_eq_true, Nat.zero_le, exists_eq_left, and_true, true_and, Bool.not_true, Bool.not_false, reduceCtorEq, reduceIte, e5, eY]
  by_cases e6 : (z == 6) = true
  · simp only [sSeq, sIf, sAsg, sRet, sNil, gSet, gPut, tst, b2, b1, cal, on1, aCons, vget, mkL, mkT, calF, andT, orT, notT, andV, notV, wp_bind, wp_pure, wp_if, List.map, List.length, List.replicate, List.append, List.cons_append, List.nil_append, Nat.reduceSub, Nat.reduceAdd, Nat.reduceLeDiff, List.getElem?_cons_zero, List.getElem?_cons_succ, List.set_cons_zero, List.set_cons_succ, wp_int, wp_intb, wp_int20, wp_toB, wp_add, wp_abs, wp_neg, wp_lenL, pen0, pen1, pen2, put1, put2, decide_true, decide_false, if_true, if_false, Bool.false_eq_true, Nat.zero_le, exists_eq_left, and_true, true_and, Bool.not_true, Bool.not_false, reduceCtorEq, reduceIte, e6, slc, parts, optI, slc_T, rev_T, addM_T (a1r _ _ _ _), addM_T (a2 _ _ _ _ _ _)]
    exact ⟨_, rfl, up (((cut_G g).app (cut_G g).rev).app (cut_G g)) (by omega), hp.mono (by omega)⟩
  obtain ⟨d0, ds0, hds⟩ : ∃ d0 ds0, ds = d0 :: ds0 := by
    cases ds with
    | nil => exact absurd rfl hd
    | cons d0 ds0 => exact ⟨d0, ds0, rfl⟩
  have i0 : ∀ {S : Sto} {Q : D → Sto → Prop}, Wp (ixM (.tup ds) (.int 0)) S Q ↔ Q d0 S := ixT (k := 0) (by rw [hds]; rfl)
  have gm := g.mem (d := d0) (by rw [hds]; simp)
  obtain ⟨wi, g0, hwi⟩ := gm
  simp only [sSeq, sIf, sAsg, sRet, sNil, gSet, gPut, tst, b2, b1, cal, on1, aCons, vget, mkL, mkT, calF, andT, orT, notT, andV, notV, wp_bind, wp_pure, wp_if, List.map, List.length, List.replicate, List.append, List.cons_append, List.nil_append, Nat.reduceSub, Nat.reduceAdd, Nat.reduceLeDiff, List.getElem?_cons_zero, List.getElem?_cons_succ, List.set_cons_zero, List.set_cons_succ, wp_int, wp_intb, wp_int20, wp_toB, wp_add, wp_abs, wp_neg, wp_lenL, pen0, pen1, pen2, put1, put2, decide_true, decide_false, if_true, if_false, Bool.false_eq_true, Nat.zero_le, exists_eq_left, and_true, true_and, Bool.not_true, Bool.not_false, reduceCtorEq, reduceIte, e6, list_T, addM_T a3, i0]
  refine (odd_ok hc (by omega) hp).mono ?_
  rintro o1 S1 ⟨ho1, hp1⟩
  try simp only [sSeq, sIf, sAsg, sRet, sNil, gSet, gPut, tst, b2, b1, cal, on1, aCons, vget, mkL, mkT, calF, andT, orT, notT, andV, notV, wp_bind, wp_pure, wp_if, List.map, List.length, List.replicate, List.append, List.cons_append, List.nil_append, Nat.reduceSub, Nat.reduceAdd, Nat.reduceLeDiff, List.getElem?_cons_zero, List.getElem?_cons_succ, List.set_cons_zero, List.set_cons_succ, wp_int, wp_intb, wp_int20, wp_toB, wp_add, wp_abs, wp_neg, wp_lenL, pen0, pen1, pen2, put1, put2, decide_true, decide_false, if_true, if_false, Bool.false_eq_true, Nat.zero_le, exists_eq_left, and_true, true_and, Bool.not_true, Bool.not_false, reduceCtorEq, reduceIte]
  refine (odd_ok hc (by omega) hp1).mono ?_
  rintro o2 S2 ⟨ho2, hp2⟩
  try simp only [sSeq, sIf, sAsg, sRet, sNil, gSet, gPut, tst, b2, b1, cal, on1, aCons, vget, mkL, mkT, calF, andT, orT, notT, andV, notV, wp_bind, wp_pure, wp_if, List.map, List.length, List.replicate, List.append, List.cons_append, List.nil_append, Nat.reduceSub, Nat.reduceAdd, Nat.reduceLeDiff, List.getElem?_cons_zero, List.getElem?_cons_succ, List.set_cons_zero, List.set_cons_succ, wp_int, wp_intb, wp_int20, wp_toB, wp_add, wp_abs, wp_neg, wp_lenL, pen0, pen1, pen2, put1, put2, decide_true, decide_false, if_true, if_false, Bool.false_eq_true, Nat.zero_le, exists_eq_left, and_true, true_and, Bool.not_true, Bool.not_false, reduceCtorEq, reduceIte]
  refine (pick_ok (BG b (h + 1) w) ?_ (by simp) (by simp) hc (by omega) hp2).mono ?_
  · intro d hd
    simp only [List.mem_cons, List.not_mem_nil, or_false] at hd
    rcases hd with rfl | rfl | rfl | rfl | rfl | rfl
    · exact upl g (by omega)
    · exact up (g.app (GL.one (d := .non) (w := 8) (GD.leaf (Nat.le_refl 8)))) (by omega)
    · exact GD.mono (by omega) (GD.tup (GL.one (GD.tup g))) (by omega) (by omega)
    · exact GD.mono (by omega) g0 (by omega) (by omega)
    · exact ho1.up hb (by omega) (by omega)
    · exact ho2.up hb (by omega) (by omega)
  · rintro v S' ⟨h, hp'⟩
    exact ⟨v, rfl, h, hp'.mono (by omega)⟩
end
end Mi
namespace Mi
open PySem PySem.Spec PyProof.Rows L2
section
variable {cells : List Int} {T : Sto} {A : Int} {S : Sto} {b : Int} {h w : Nat}
/-- what may stand in the place of a part -/
def NG (b : Int) (h wi : Nat) (d : D) : Prop := GD (b + 1) (h + 2) (3 * wi + 6000) d
theorem bentRet_ok {ds near : List D} {m wi wl wr : Nat} {o2 o4 : Option D} (hc : cells.length ≤ 63) (hA : A ≤ 80000) (hp : Pen cells T A S) (hb : OB ≤ b) (hw : w ≤ 30000) (hds : ds.length ≤ 30000) (hm : m < ds.length)
    (k1 : GL (GD b h) wl (ds.take m)) (k3 : GL (GD b h) wr (ds.drop (m + 1))) (k4 : wl + wi + wr ≤ w + 1) (hn : ∀ d ∈ near, NG b h wi d) (hnl : near.length ≤ 20) :
    Wp (bentRet [some (.ref 0), some (.tup ds), o2, some (.int (m : Int)), o4, some (.lst near)]) S fun r S' => ∃ d, r.1 = .rt d ∧ BG b (h + 1) w d ∧ Pen cells T (A + 5) S' := by
  unfold bentRet
  have c1 : cutD ds none (some (m : Int)) = ds.take m := cut_lo (by omega)
  have c2 : cutD ds (some ((m : Int) + 1)) none = ds.drop (m + 1) := cut_hi (n := m + 1) (by omega)
  simp only [sSeq, sIf, sAsg, sRet, sNil, gSet, gPut, tst, b2, b1, cal, on1, aCons, vget, mkL, mkT, calF, andT, orT, notT, andV, notV, wp_bind, wp_pure, wp_if, List.map, List.length, List.replicate, List.append, List.cons_append, List.nil_append, Nat.reduceSub, Nat.reduceAdd, Nat.reduceLeDiff, List.getElem?_cons_zero, List.getElem?_cons_succ, List.set_cons_zero, List.set_cons_succ, wp_int, wp_intb, wp_int20, wp_toB, wp_add, wp_abs, wp_neg, wp_lenL, pen0, pen1, pen2, put1, put2, decide_true, decide_false, if_true, if_false, Bool.false_eq_true, Nat.zero_le, exists_eq_left, and_true, true_and, Bool.not_true, Bool.not_false, reduceCtorEq, reduceIte, slc, parts, optI, slc_T, c1]
  refine (odd_ok hc (by omega) hp).mono ?_
  rintro o1 S1 ⟨ho1, hp1⟩
  try simp only [sSeq, sIf, sAsg, sRet, sNil, gSet, gPut, tst, b2, b1, cal, on1, aCons, vget, mkL, mkT, calF, andT, orT, notT, andV, notV, wp_bind, wp_pure, wp_if, List.map, List.length, List.replicate, List.append, List.cons_append, List.nil_append, Nat.reduceSub, Nat.reduceAdd, Nat.reduceLeDiff, List.getElem?_cons_zero, List.getElem?_cons_succ, List.set_cons_zero, List.set_cons_succ, wp_int, wp_intb, wp_int20, wp_toB, wp_add, wp_abs, wp_neg, wp_lenL, pen0, pen1, pen2, put1, put2, decide_true, decide_false, if_true, if_false, Bool.false_eq_true, Nat.zero_le, exists_eq_left, and_true, true_and, Bool.not_true, Bool.not_false, reduceCtorEq, reduceIte]
  rw [wp_addL (by simp; omega)]
  try simp only [sSeq, sIf, sAsg, sRet, sNil, gSet, gPut, tst, b2, b1, cal, on1, aCons, vget, mkL, mkT, calF, andT, orT, notT, andV, notV, wp_bind, wp_pure, wp_if, List.map, List.length, List.replicate, List.append, List.cons_append, List.nil_append, Nat.reduceSub, Nat.reduceAdd, Nat.reduceLeDiff, List.getElem?_cons_zero, List.getElem?_cons_succ, List.set_cons_zero, List.set_cons_succ, wp_int, wp_intb, wp_int20, wp_toB, wp_add, wp_abs, wp_neg, wp_lenL, pen0, pen1, pen2, put1, put2, decide_true, decide_false, if_true, if_false, Bool.false_eq_true, Nat.zero_le, exists_eq_left, and_true, true_and, Bool.not_true, Bool.not_false, reduceCtorEq, reduceIte]
  refine (pick_ok (NG b h wi) ?_ (by simp) (by simp; omega) hc (by omega) hp1).mono ?_
  · intro d hd
    rcases List.mem_append.1 hd with hd | hd
    · exact hn d hd
    · rw [List.mem_singleton.1 hd]
      exact ho1.up hb (by omega) (by omega)
  · rintro d S2 ⟨gd, hp2⟩
    have a1 : (ds.take m).length + [d].length ≤ 100000 := by simp only [List.length_take, List.length_cons, List.length_nil]; omega
    have a2 : (ds.take m ++ [d]).length + (ds.drop (m + 1)).length ≤ 100000 := by simp only [List.length_append, List.length_take, List.length_cons, List.length_nil, List.length_drop]; omega
    simp only [sSeq, sIf, sAsg, sRet, sNil, gSet, gPut, tst, b2, b1, cal, on1, aCons, vget, mkL, mkT, calF, andT, orT, notT, andV, notV, wp_bind, wp_pure, wp_if, List.map, List.length, List.replicate, List.append, List.cons_append, List.nil_append, Nat.reduceSub, Nat.reduceAdd, Nat.reduceLeDiff, List.getElem?_cons_zero, List.getElem?_cons_succ, List.set_cons_zero, List.set_cons_succ, wp_int, wp_intb, wp_int20, wp_toB, wp_add, wp_abs, wp_neg, wp_lenL, pen0, pen1, pen2, put1, put2, decide_true, decide_false, if_true, if_false, Bool.false_eq_true, Nat.zero_le, exists_eq_left, and_true, true_and, Bool.not_true, Bool.not_false, reduceCtorEq, reduceIte, addM_T a1, c2, slc_T, addM_T a2]
    have l1 := k1.ge
    have l3 := k3.ge
    have up : ∀ {w : Nat} {ds : List D}, GL (GD b h) w ds → GL (GD (b + 1) (h + 2)) w ds := fun g => GL.mono (fun w d g => GD.mono (by omega) g (by omega) (Nat.le_refl _)) g (Nat.le_refl _)
    exact ⟨_, rfl, GD.mono (Int.le_refl _) (GD.tup (((up k1).app (GL.one gd)).app (up k3))) (Nat.le_refl _) (by omega), hp2.mono (by omega)⟩
theorem pow9 : ((10 : Int) ^ (9 : Int).toNat) = 1000000000 := by decide
theorem bent_ok {ds : List D} (hc : cells.length ≤ 63) (hA : A ≤ 70000) (hp : Pen cells T A S) (hb : OB ≤ b) (hb2 : b ≤ GB) (hw : w ≤ 30000) (hd : ds ≠ []) (g : GL (GD b h) w ds) :
    Wp (m__law_bent [.ref 0, .tup ds]) S fun d S' => BG b (h + 1) w d ∧ Pen cells T (A + 10) S' := by
  unfold m__law_bent
  refine wp_run ?_
  rw [bent_eq]
  have hl := g.ge
  have hpos : 0 < ds.length := by
    cases ds with
    | nil => exact absurd rfl hd
    | cons _ _ => simp
  simp only [sSeq, sIf, sAsg, sRet, sNil, gSet, gPut, tst, b2, b1, cal, on1, aCons, vget, mkL, mkT, calF, andT, orT, notT, andV, notV, wp_bind, wp_pure, wp_if, List.map, List.length, List.replicate, List.append, List.cons_append, List.nil_append, Nat.reduceSub, Nat.reduceAdd, Nat.reduceLeDiff, List.getElem?_cons_zero, List.getElem?_cons_succ, List.set_cons_zero, List.set_cons_succ, wp_int, wp_intb, wp_int20, wp_toB, wp_add, wp_abs, wp_neg, wp_lenL, pen0, pen1, pen2, put1, put2, decide_true, decide_false, if_true, if_false, Bool.false_eq_true, Nat.zero_le, exists_eq_left, and_true, true_and, Bool.not_true, Bool.not_false, reduceCtorEq, reduceIte]
  refine (draw_ok hc (by omega) hp (by omega) (by omega)).mono ?_
  rintro x S1 ⟨z, rfl, z0, z1, hp1⟩
  simp only [sSeq, sIf, sAsg, sRet, sNil, gSet, gPut, tst, b2, b1, cal, on1, aCons, vget, mkL, mkT, calF, andT, orT, notT, andV, notV, wp_bind, wp_pure, wp_if, List.map, List.length, List.replicate, List.append, List.cons_append, List.nil_append, Nat.reduceSub, Nat.reduceAdd, Nat.reduceLeDiff, List.getElem?_cons_zero, List.getElem?_cons_succ, List.set_cons_zero, List.set_cons_succ, wp_int, wp_intb, wp_int20, wp_toB, wp_add, wp_abs, wp_neg, wp_lenL, pen0, pen1, pen2, put1, put2, decide_true, decide_false, if_true, if_false, Bool.false_eq_true, Nat.zero_le, exists_eq_left, and_true, true_and, Bool.not_true, Bool.not_false, reduceCtorEq, reduceIte, wp_lenT]
  refine (draw_ok hc (by omega) hp1 (by omega) (by omega)).mono ?_
  rintro x S2 ⟨y, rfl, y0, y1, hp2⟩
  obtain ⟨m, rfl⟩ : ∃ m : Nat, y = m := ⟨y.toNat, by omega⟩
  have hm : m < ds.length := by omega
  by_cases l4 : z < 4
  · have e : ds[m]? = some (ds[m]'hm) := by simp [hm]
    obtain ⟨wl, wi, wr, k1, k2, k3, k4⟩ := GL.at g e
    have l1 := k1.ge
    have l3 := k3.ge
    generalize ds[m]'hm = p at *
    have c9 : CPow 10 9 := by decide
    simp only [sSeq, sIf, sAsg, sRet, sNil, gSet, gPut, tst, b2, b1, cal, on1, aCons, vget, mkL, mkT, calF, andT, orT, notT, andV, notV, wp_bind, wp_pure, wp_if, List.map, List.length, List.replicate, List.append, List.cons_append, List.nil_append, Nat.reduceSub, Nat.reduceAdd, Nat.reduceLeDiff, List.getElem?_cons_zero, List.getElem?_cons_succ, List.set_cons_zero, List.set_cons_succ, wp_int, wp_intb, wp_int20, wp_toB, wp_add, wp_abs, wp_neg, wp_lenL, pen0, pen1, pen2, put1, put2, decide_true, decide_false, if_true, if_false, Bool.false_eq_true, Nat.zero_le, exists_eq_left, and_true, true_and, Bool.not_true, Bool.not_false, reduceCtorEq, reduceIte, l4, ixT e]
    refine (odd_ok hc (by omega) hp2).mono ?_
    rintro od S3 ⟨hod, hp3⟩
    have np := k2.nr
    have R : ∀ {near : List D} {o2 o4 : Option D}, (∀ d ∈ near, NG b h wi d) → near.length ≤ 20 → Wp (bentRet [some (.ref 0), some (.tup ds), o2, some (.int (m : Int)), o4, some (.lst near)]) S3 (fun x S' => Wp (match x with
        | (Fl.nx, ρ') => bentTail ρ'
        | r => M.pure r) S' fun r S' => ∃ d, r.1 = .rt d ∧ BG b (h + 1) w d ∧ Pen cells T (A + 10) S') := fun hn hl => by
      refine (bentRet_ok hc (by omega) hp3 hb hw (by omega) hm k1 k3 k4 hn hl).mono ?_
      rintro ⟨f, ρ⟩ S' ⟨d, e, q1, q2⟩
      cases e
      exact wp_pure.2 ⟨d, rfl, q1, q2.mono (by omega)⟩
    have hodN : ∀ d ∈ [od], NG b h wi d := fun d hd => by
      rw [List.mem_singleton.1 hd]
      exact hod.up hb (by omega) (by omega)
    have w9 : ∀ {Q : D → Sto → Prop}, Wp (m__law_whole [p, .int (-9), .int 1000000000]) S3 Q ↔ Q (.bl (betw (-9) 1000000000 p)) S3 := wp_of (whole_ok (S := S3) (lo := -9) (hi := 1000000000) np)
    simp only [sSeq, sIf, sAsg, sRet, sNil, gSet, gPut, tst, b2, b1, cal, on1, aCons, vget, mkL, mkT, calF, andT, orT, notT, andV, notV, wp_bind, wp_pure, wp_if, List.map, List.length, List.replicate, List.append, List.cons_append, List.nil_append, Nat.reduceSub, Nat.reduceAdd, Nat.reduceLeDiff, List.getElem?_cons_zero, List.getElem?_cons_succ, List.set_cons_zero, List.set_cons_succ, wp_int, wp_intb, wp_int20, wp_toB, wp_add, wp_abs, wp_neg, wp_lenL, pen0, pen1, pen2, put1, put2, decide_true, decide_false, if_true, if_false, Bool.false_eq_true, Nat.zero_le, exists_eq_left, and_true, true_and, Bool.not_true, Bool.not_false, reduceCtorEq, reduceIte, wp_neg, wp_int2 c9, pow9, w9]
    cases hwh : betw (-9) 1000000000 p
    · simp only [sSeq, sIf, sAsg, sRet, sNil, gSet, gPut, tst, b2, b1, cal, on1, aCons, vget, mkL, mkT, calF, andT, orT, notT, andV, notV, wp_bind, wp_pure, wp_if, List.map, List.length, List.replicate, List.append, List.cons_append, List.nil_append, Nat.reduceSub, Nat.reduceAdd, Nat.reduceLeDiff, List.getElem?_cons_zero, List.getElem?_cons_succ, List.set_cons_zero, List.set_cons_succ, wp_int, wp_intb, wp_int20, wp_toB, wp_add, wp_abs, wp_neg, wp_lenL, pen0, pen1, pen2, put1, put2, decide_true, decide_false, if_true, if_false, Bool.false_eq_true, Nat.zero_le, exists_eq_left, and_true, true_and, Bool.not_true, Bool.not_false, reduceCtorEq, reduceIte]
      rcases k2.shape with k | ⟨h', es, rfl, rfl | rfl, k⟩
      · cases p with
        | non => simp only [sSeq, sIf, sAsg, sRet, sNil, gSet, gPut, tst, b2, b1, cal, on1, aCons, vget, mkL, mkT, calF, andT, orT, notT, andV, notV, wp_bind, wp_pure, wp_if, List.map, List.length, List.replicate, List.append, List.cons_append, List.nil_append, Nat.reduceSub, Nat.reduceAdd, Nat.reduceLeDiff, List.getElem?_cons_zero, List.getElem?_cons_succ, List.set_cons_zero, List.set_cons_succ, wp_int, wp_intb, wp_int20, wp_toB, wp_add, wp_abs, wp_neg, wp_lenL, pen0, pen1, pen2, put1, put2, decide_true, decide_false, if_true, if_false, Bool.false_eq_true, Nat.zero_le, exists_eq_left, and_true, true_and, Bool.not_true, Bool.not_false, reduceCtorEq, reduceIte, isi_nonT, isi_nonS]; exact R hodN (by simp)
        | bl k => simp only [sSeq, sIf, sAsg, sRet, sNil, gSet, gPut, tst, b2, b1, cal, on1, aCons, vget, mkL, mkT, calF, andT, orT, notT, andV, notV, wp_bind, wp_pure, wp_if, List.map, List.length, List.replicate, List.append, List.cons_append, List.nil_append, Nat.reduceSub, Nat.reduceAdd, Nat.reduceLeDiff, List.getElem?_cons_zero, List.getElem?_cons_succ, List.set_cons_zero, List.set_cons_succ, wp_int, wp_intb, wp_int20, wp_toB, wp_add, wp_abs, wp_neg, wp_lenL, pen0, pen1, pen2, put1, put2, decide_true, decide_false, if_true, if_false, Bool.false_eq_true, Nat.zero_le, exists_eq_left, and_true, true_and, Bool.not_true, Bool.not_false, reduceCtorEq, reduceIte, isi_blT, isi_blS]; exact R hodN (by simp)
        | int i => simp only [sSeq, sIf, sAsg, sRet, sNil, gSet, gPut, tst, b2, b1, cal, on1, aCons, vget, mkL, mkT, calF, andT, orT, notT, andV, notV, wp_bind, wp_pure, wp_if, List.map, List.length, List.replicate, List.append, List.cons_append, List.nil_append, Nat.reduceSub, Nat.reduceAdd, Nat.reduceLeDiff, List.getElem?_cons_zero, List.getElem?_cons_succ, List.set_cons_zero, List.set_cons_succ, wp_int, wp_intb, wp_int20, wp_toB, wp_add, wp_abs, wp_neg, wp_lenL, pen0, pen1, pen2, put1, put2, decide_true, decide_false, if_true, if_false, Bool.false_eq_true, Nat.zero_le, exists_eq_left, and_true, true_and, Bool.not_true, Bool.not_false, reduceCtorEq, reduceIte, isi_intT, isi_intS]; exact R hodN (by simp)
        | dct kv => simp only [sSeq, sIf, sAsg, sRet, sNil, gSet, gPut, tst, b2, b1, cal, on1, aCons, vget, mkL, mkT, calF, andT, orT, notT, andV, notV, wp_bind, wp_pure, wp_if, List.map, List.length, List.replicate, List.append, List.cons_append, List.nil_append, Nat.reduceSub, Nat.reduceAdd, Nat.reduceLeDiff, List.getElem?_cons_zero, List.getElem?_cons_succ, List.set_cons_zero, List.set_cons_succ, wp_int, wp_intb, wp_int20, wp_toB, wp_add, wp_abs, wp_neg, wp_lenL, pen0, pen1, pen2, put1, put2, decide_true, decide_false, if_true, if_false, Bool.false_eq_true, Nat.zero_le, exists_eq_left, and_true, true_and, Bool.not_true, Bool.not_false, reduceCtorEq, reduceIte, isi_dctT, isi_dctS]; exact R hodN (by simp)
        | str x =>
          obtain ⟨q1, q2⟩ := k
          have s1 : x.length + ("a" : Str).length ≤ 100000 := Nat.add_le_add (show x.length ≤ 90000 by omega) (by decide +kernel : ("a" : Str).length ≤ 10000)
          have s2 : x.length + ("\n" : Str).length ≤ 100000 := Nat.add_le_add (show x.length ≤ 90000 by omega) (by decide +kernel : ("\n" : Str).length ≤ 10000)
          have s3 : x.length ≤ 100000 := by omega
          simp only [sSeq, sIf, sAsg, sRet, sNil, gSet, gPut, tst, b2, b1, cal, on1, aCons, vget, mkL, mkT, calF, andT, orT, notT, andV, notV, wp_bind, wp_pure, wp_if, List.map, List.length, List.replicate, List.append, List.cons_append, List.nil_append, Nat.reduceSub, Nat.reduceAdd, Nat.reduceLeDiff, List.getElem?_cons_zero, List.getElem?_cons_succ, List.set_cons_zero, List.set_cons_succ, wp_int, wp_intb, wp_int20, wp_toB, wp_add, wp_abs, wp_neg, wp_lenL, pen0, pen1, pen2, put1, put2, decide_true, decide_false, if_true, if_false, Bool.false_eq_true, Nat.zero_le, exists_eq_left, and_true, true_and, Bool.not_true, Bool.not_false, reduceCtorEq, reduceIte, isi_strT, isi_strS, wp_addS s1, wp_addS s2, slc, parts, optI, slc_S s3, mth0, wp_chkS, upper_S s3]
          refine R ?_ (by simp)
          have sm : ∀ y : Str, Small y → y.length ≤ 3 * x.length + 8 → NG b h wi (.str y) := fun y h k => GD.leaf ⟨h, by omega⟩
          have sc : ∀ y : Str, (y.cps.toList.all (fun c => decide (c < 128))) = true → Small y := fun y h c hc => of_decide_eq_true (List.all_eq_true.1 h c hc)
          intro d hd
          simp only [List.mem_cons, List.not_mem_nil, or_false] at hd
          rcases hd with rfl | rfl | rfl | rfl | rfl | rfl | rfl | rfl
          · exact sm _ (small_app q1 (sc _ (by decide +kernel))) (by rw [len_app]; exact Nat.le_trans (Nat.add_le_add_left (by decide +kernel : ("a" : Str).length ≤ 8) _) (by omega))
          · exact sm _ (small_cut q1).1 (by have := (small_cut (lo := some 1) (hi := none) q1).2; omega)
          · exact sm _ (small_upper q1).1 (by have := (small_upper q1).2; omega)
          · exact sm _ (small_app q1 (sc _ (by decide +kernel))) (by rw [len_app]; exact Nat.le_trans (Nat.add_le_add_left (by decide +kernel : ("\n" : Str).length ≤ 8) _) (by omega))
          · exact sm _ (sc _ (by decide +kernel)) (Nat.le_trans (by decide +kernel : ("fall" : Str).length ≤ 8) (by omega))
          · exact sm _ (sc _ (by decide +kernel)) (Nat.le_trans (by decide +kernel : ("word" : Str).length ≤ 8) (by omega))
          · exact GD.mono (Int.le_refl _) (GD.tup (GL.one (GD.leaf (h := h) (w := wi) ⟨q1, q2⟩))) (by omega) (by omega)
          · exact GD.leaf (show 8 ≤ 3 * wi + 6000 by omega)
        | _ => exact k.elim
      · have hk := k.ge
        have t1 : es.length + (cutD es none (some 1)).length ≤ 100000 := by have := len_cut (ds := es) (lo := none) (hi := some 1); omega
        have t2 : es.length + [D.int 8].length ≤ 100000 := by simp only [List.length_cons, List.length_nil]; omega
        simp only [sSeq, sIf, sAsg, sRet, sNil, gSet, gPut, tst, b2, b1, cal, on1, aCons, vget, mkL, mkT, calF, andT, orT, notT, andV, notV, wp_bind, wp_pure, wp_if, List.map, List.length, List.replicate, List.append, List.cons_append, List.nil_append, Nat.reduceSub, Nat.reduceAdd, Nat.reduceLeDiff, List.getElem?_cons_zero, List.getElem?_cons_succ, List.set_cons_zero, List.set_cons_succ, wp_int, wp_intb, wp_int20, wp_toB, wp_add, wp_abs, wp_neg, wp_lenL, pen0, pen1, pen2, put1, put2, decide_true, decide_false, if_true, if_false, Bool.false_eq_true, Nat.zero_le, exists_eq_left, and_true, true_and, Bool.not_true, Bool.not_false, reduceCtorEq, reduceIte, isi_tupT, slc, parts, optI, slc_T, addM_T t1, addM_T t2, rev_T, list_T]
        refine R ?_ (by simp)
        have up : ∀ {es : List D} {w' : Nat}, GL (GD b h') w' es → w' ≤ 3 * wi + 6000 → NG b (h' + 1) wi (.tup es) := fun g k => GD.mono (by omega) (GD.tup g) (by omega) k
        have hOB := OB_big
        intro d hd
        simp only [List.mem_cons, List.not_mem_nil, or_false] at hd
        rcases hd with rfl | rfl | rfl | rfl | rfl | rfl | rfl
        · exact up (k.app (cut_G k)) (by omega)
        · exact up k.rev (by omega)
        · exact GD.mono (by omega) (GD.lst k) (by omega) (by omega)
        · exact up (k.app (GL.one (d := .int 8) (w := 110) (GD.leaf ⟨by omega, by omega, Nat.le_refl _⟩))) (by omega)
        · exact up (cut_G k) (by omega)
        · exact up (GL.one (d := .bl true) (w := 8) (GD.leaf (Nat.le_refl 8))) (by omega)
        · exact up (es := []) (GL.nil) (by omega)
      · simp only [sSeq, sIf, sAsg, sRet, sNil, gSet, gPut, tst, b2, b1, cal, on1, aCons, vget, mkL, mkT, calF, andT, orT, notT, andV, notV, wp_bind, wp_pure, wp_if, List.map, List.length, List.replicate, List.append, List.cons_append, List.nil_append, Nat.reduceSub, Nat.reduceAdd, Nat.reduceLeDiff, List.getElem?_cons_zero, List.getElem?_cons_succ, List.set_cons_zero, List.set_cons_succ, wp_int, wp_intb, wp_int20, wp_toB, wp_add, wp_abs, wp_neg, wp_lenL, pen0, pen1, pen2, put1, put2, decide_true, decide_false, if_true, if_false, Bool.false_eq_true, Nat.zero_le, exists_eq_left, and_true, true_and, Bool.not_true, Bool.not_false, reduceCtorEq, reduceIte, isi_lstT, isi_lstS]
        exact R hodN (by simp)
    · obtain ⟨i, rfl⟩ := betw_int hwh
      have hi : -9 ≤ i ∧ i ≤ 1000000000 := by simpa [betw] using hwh
      have eY : ∀ {i j : Int} {S : Sto} {Q : D → Sto → Prop}, Wp (eqY (.int i) (.int j)) S Q ↔ Q (.bl (i == j)) S := wp_eqI
      have hGB : (1000000000 : Int) ≤ GB := by decide +kernel
      have lg := int_log (i := i) (b := 1000000000) ⟨by omega, by omega⟩ hGB
      have ln := int_len (i := i) (b := 1000000000) ⟨by omega, by omega⟩ hGB
      have hOB2 : (2000000000 : Int) ≤ OB := by decide +kernel
      simp only [sSeq, sIf, sAsg, sRet, sNil, gSet, gPut, tst, b2, b1, cal, on1, aCons, vget, mkL, mkT, calF, andT, orT, notT, andV, notV, wp_bind, wp_pure, wp_if, List.map, List.length, List.replicate, List.append, List.cons_append, List.nil_append, Nat.reduceSub, Nat.reduceAdd, Nat.reduceLeDiff, List.getElem?_cons_zero, List.getElem?_cons_succ, List.set_cons_zero, List.set_cons_succ, wp_int, wp_intb, wp_int20, wp_toB, wp_add, wp_abs, wp_neg, wp_lenL, pen0, pen1, pen2, put1, put2, decide_true, decide_false, if_true, if_false, Bool.false_eq_true, Nat.zero_le, exists_eq_left, and_true, true_and, Bool.not_true, Bool.not_false, reduceCtorEq, reduceIte, eY, str_I lg, subM]
      refine R ?_ (by simp)
      have ig : ∀ j : Int, -2000000000 ≤ j → j ≤ 2000000000 → NG b h wi (.int j) := fun j h k => GD.leaf ⟨by omega, by omega, by omega⟩
      intro d hd
      simp only [List.mem_cons, List.not_mem_nil, or_false] at hd
      rcases hd with rfl | rfl | rfl | rfl | rfl | rfl | rfl | rfl
      · exact ig _ (by omega) (by omega)
      · exact ig _ (by omega) (by omega)
      · exact GD.leaf (show 8 ≤ 3 * wi + 6000 by omega)
      · exact GD.leaf ⟨int_small i, by omega⟩
      · exact ig _ (by omega) (by omega)
      · exact GD.mono (Int.le_refl _) (GD.tup (GL.one (GD.leaf (h := h) (w := 110) ⟨by omega, by omega, Nat.le_refl _⟩))) (by omega) (by omega)
      · exact ig _ (by omega) (by omega)
      · exact ig _ (by omega) (by omega)
  · simp only [sSeq, sIf, sAsg, sRet, sNil, gSet, gPut, tst, b2, b1, cal, on1, aCons, vget, mkL, mkT, calF, andT, orT, notT, andV, notV, wp_bind, wp_pure, wp_if, List.map, List.length, List.replicate, List.append, List.cons_append, List.nil_append, Nat.reduceSub, Nat.reduceAdd, Nat.reduceLeDiff, List.getElem?_cons_zero, List.getElem?_cons_succ, List.set_cons_zero, List.set_cons_succ, wp_int, wp_intb, wp_int20, wp_toB, wp_add, wp_abs, wp_neg, wp_lenL, pen0, pen1, pen2, put1, put2, decide_true, decide_false, if_true, if_false, Bool.false_eq_true, Nat.zero_le, exists_eq_left, and_true, true_and, Bool.not_true, Bool.not_false, reduceCtorEq, reduceIte, l4]
    refine (bentTail_ok hc (by omega) hp2 hb hw hd g).mono ?_
    rintro r S' ⟨d, e, q1, q2⟩
    exact ⟨d, e, q1, q2.mono (by omega)⟩
end
end Mi
namespace Mi
open PySem PySem.Spec PyProof.Rows L2
def lawL2 : Env → M (Fl × Env) := (sSeq (sAsg (cal (on1 reprM) (aCons (vget 6) (fun _ => M.pure []))) (gSet 7))
    (sSeq (sAsg (calF 1 m__law_is_row (aCons (vget 6) (fun _ => M.pure []))) (gSet 8))
    (sSeq (sIf (orT (tst (b2 neX (cal (on1 reprM) (aCons (mkL (aCons (calF 1 m_is_row (aCons (vget 6) (fun _ => M.pure []))) (aCons (calK 1 [0] m_is_row (aCons (vget 6) (fun _ => M.pure []))) (fun _ => M.pure [])))) (fun _ => M.pure []))) (cal (on1 reprM) (aCons (mkL (aCons (vget 8) (aCons (vget 8) (fun _ => M.pure [])))) (fun _ => M.pure []))))) (tst (b2 neX (cal (on1 reprM) (aCons (vget 6) (fun _ => M.pure []))) (vget 7)))) (sSeq (sRet (fun _ => M.pure (.bl false)))
    sNil) sNil)
    sNil)))
def lawL1 : Env → M (Fl × Env) := (sSeq (sAsg (calF 1 m__law_row (aCons (vget 1) (fun _ => M.pure []))) (gSet 3))
    (sSeq (sIf (notT (tst (calF 1 m__law_is_row (aCons (vget 3) (fun _ => M.pure []))))) (sSeq (sRet (fun _ => M.pure (.bl false)))
    sNil) sNil)
    (sSeq (sAsg (calF 2 m__law_bent (aCons (vget 1) (aCons (vget 3) (fun _ => M.pure [])))) (gSet 4))
    (sSeq (sAsg (mkC (aCons (vget 3) (aCons (vget 4) (aCons (calF 1 m__law_odd (aCons (vget 1) (fun _ => M.pure []))) (aCons (b2 addM (vget 3) (mkT (fun _ => M.pure []))) (fun _ => M.pure [])))))) (gSet 5))
    (sSeq (sIf (andT (tst (b1 (isiM "tuple") (vget 4))) (tst (b2 neX (vget 4) (mkT (fun _ => M.pure []))))) (sSeq (sDrop (mth chkL appM (vget 5) (aCons (calF 2 m__law_bent (aCons (vget 1) (aCons (vget 4) (fun _ => M.pure [])))) (fun _ => M.pure []))))
    sNil) sNil)
    (sSeq (sForC (vget 5) (gSet 6) lawL2)
    sNil))))))
theorem law_eq : b_law = (sSeq (sAsg (calF 1 m__law_pen (aCons (vget 0) (fun _ => M.pure []))) (gSet 1))
    (sSeq (sFor (len1 rngOf 1 (aCons (fun _ => M.pure (.int 24)) (fun _ => M.pure []))) (gSet 2) lawL1)
    (sSeq (sAsg (mkL (aCons (mkT (aCons (fun _ => M.pure (.str "open")) (aCons (fun _ => M.pure (.int 2)) (aCons (fun _ => M.pure (.int 1)) (fun _ => M.pure []))))) (aCons (mkT (aCons (fun _ => M.pure (.str "open")) (aCons (fun _ => M.pure (.int 2)) (aCons (fun _ => M.pure (.int 2)) (fun _ => M.pure []))))) (aCons (mkT (aCons (fun _ => M.pure (.str "clean")) (aCons (fun _ => M.pure (.int 0)) (aCons (mkT (aCons (fun _ => M.pure (.int 1)) (fun _ => M.pure []))) (aCons (mkT (aCons (fun _ => M.pure (.int 1)) (fun _ => M.pure []))) (fun _ => M.pure [])))))) (aCons (mkT (aCons (fun _ => M.pure (.str "tidy")) (aCons (fun _ => M.pure (.int 0)) (aCons (mkT (fun _ => M.pure [])) (fun _ => M.pure []))))) (aCons (mkT (aCons (fun _ => M.pure (.str "clean")) (aCons (fun _ => M.pure (.int 7)) (aCons (mkT (fun _ => M.pure [])) (aCons (mkT (fun _ => M.pure [])) (fun _ => M.pure [])))))) (fun _ => M.pure []))))))) (gSet 9))
    (sSeq (sRet (b2 eqY (eLc (iSeq (vget 9)) (gSet 6) (fun _ => M.pure true) (calF 1 m_is_row (aCons (vget 6) (fun _ => M.pure []))) [6]) (mkL (aCons (fun _ => M.pure (.bl true)) (aCons (fun _ => M.pure (.bl false)) (aCons (fun _ => M.pure (.bl false)) (aCons (fun _ => M.pure (.bl false)) (aCons (fun _ => M.pure (.bl true)) (fun _ => M.pure [])))))))))
    sNil)))) := rfl
def thingG (d : D) : Prop := GD (OB + 2) 6 60000 d
theorem OB_GB : OB + 2 ≤ GB := by decide +kernel
theorem GD.partV {b : Int} {h w : Nat} {v : D} (g : GD b h w v) (hw : w ≤ 90000) : partV v := by
  refine ⟨g.okV (by omega), fun ds e => ?_⟩
  subst e
  rcases g.shape with g | ⟨h', ds', e, e1 | e1, g⟩
  · exact g.elim
  · cases e1
    have := g.ge
    refine ⟨by omega, fun d hd => ?_⟩
    obtain ⟨wi, g2, _⟩ := g.mem hd
    exact g2.nr
  · cases e1
theorem GD.rowV {b : Int} {h w : Nat} {v : D} (g : GD b h w v) (hw : w ≤ 90000) : nrB v = true ∧ (∀ ds, v = .tup ds → ds.length ≤ 50000 ∧ ∀ d ∈ ds, Mi.partV d) ∧ ∀ x ps, v = .tup (.str x :: ps) → PyData.strOk x = true := by
  refine ⟨g.nr, fun ds e => ?_, fun x ps e => ?_⟩
  · subst e
    rcases g.shape with g | ⟨h', ds', e, e1 | e1, g⟩
    · exact g.elim
    · cases e1
      have := g.ge
      refine ⟨by omega, fun d hd => ?_⟩
      obtain ⟨wi, g2, _⟩ := g.mem hd
      exact g2.partV (by omega)
    · cases e1
  · subst e
    rcases g.shape with g | ⟨h', ds', e, e1 | e1, g⟩
    · exact g.elim
    · cases e1
      obtain ⟨wi, g2, _⟩ := g.mem (d := .str x) (by simp)
      rcases g2.shape with g | ⟨h', ds', e, e1 | e1, g⟩
      · exact small_ok g.1
      · cases e1
      · cases e1
    · cases e1
section
variable {cells : List Int} {T : Sto} {ts : List D} {A : Int} {S : Sto} {Q : D → Sto → Prop} {d v : D}
theorem isi_T (g : nrB v = true) : Wp (isiM "tuple" v) S Q ↔ Q (.bl (isTup v)) S := by
  cases v with
  | non => exact isi_nonT
  | bl k => exact isi_blT
  | int i => exact isi_intT
  | str x => exact isi_strT
  | tup ds => exact isi_tupT
  | lst ds => exact isi_lstT
  | dct kv => exact isi_dctT
  | _ => cases g
theorem wp_new (hp : Pen cells T A S) (q : ∀ S', Pen cells (T ++ [.lst ts]) A S' → Q (.ref (T.length + 1)) S') : Wp (newL ts) S Q := by
  obtain ⟨a, r, h0, h1, rfl⟩ := hp
  exact (wp_of (x := .ref (T.length + 1)) (S' := penS cells a r (T ++ [.lst ts])) rfl).2 (q _ ⟨a, r, h0, h1, rfl⟩)
theorem cell_at (hp : Pen cells (T ++ [.lst ts]) A S) : S[T.length + 1]? = some (.lst ts) := by
  obtain ⟨a, r, h0, h1, rfl⟩ := hp
  show (T ++ [Cell.lst ts])[T.length]? = _
  simp
theorem wp_appN (hp : Pen cells (T ++ [.lst ts]) A S) (h : ts.length < 100000) (q : ∀ S', Pen cells (T ++ [.lst (ts ++ [d])]) A S' → Q .non S') : Wp (appM (.ref (T.length + 1)) [d]) S Q := by
  have e := cell_at hp
  obtain ⟨a, r, h0, h1, rfl⟩ := hp
  refine (wp_of (x := .non) (S' := penS cells a r (T ++ [.lst (ts ++ [d])])) ?_).2 (q _ ⟨a, r, h0, h1, rfl⟩)
  simp only [appM, e, if_pos h]
  have : (penS cells a r (T ++ [Cell.lst ts])).set (T.length + 1) (Cell.lst (ts ++ [d])) = penS cells a r (T ++ [Cell.lst (ts ++ [d])]) := by
    show _ :: (T ++ [Cell.lst ts]).set T.length _ = _ :: _
    rw [List.set_append_right _ _ (Nat.le_refl _)]
    simp
  rw [this]
theorem wp_chkN (hp : Pen cells (T ++ [.lst ts]) A S) {Q : Unit → Sto → Prop} : Wp (chkL (.ref (T.length + 1))) S Q ↔ Q () S := wp_of (by
  simp only [chkL, cell_at hp])
theorem good2 {k : Bool} : goodB (.lst [.bl k, .bl k]) = true := by cases k <;> decide +kernel
theorem ask_ok {S : Sto} {o0 o1 o2 o3 o4 o5 o7 o8 o9 : Option D} (g : thingG d) : Wp (lawL2 [o0, o1, o2, o3, o4, o5, some d, o7, o8, o9]) S fun r S' => S' = S ∧ r.1 = .nx ∧ (∃ p7 p8, r.2 = [o0, o1, o2, o3, o4, o5, some d, p7, p8, o9]) := by
  obtain ⟨x, hx, rx⟩ := GD.repr g OB_GB (by decide) (by decide)
  obtain ⟨h1, h2, h3⟩ := GD.rowV g (by decide)
  obtain ⟨t, ht, rt⟩ := repr_ok (good2 (k := lrowB d))
  have nS : ∀ {x : Str} {S : Sto} {Q : D → Sto → Prop}, PyData.strOk x = true → (Wp (neX (.str x) (.str x)) S Q ↔ Q (.bl false) S) := fun h => wp_neS h
  unfold lawL2
  simp only [sSeq, sIf, sAsg, sRet, sNil, gSet, gPut, tst, b2, b1, cal, on1, aCons, vget, mkL, mkT, calF, andT, orT, notT, andV, notV, wp_bind, wp_pure, wp_if, List.map, List.length, List.replicate, List.append, List.cons_append, List.nil_append, Nat.reduceSub, Nat.reduceAdd, Nat.reduceLeDiff, List.getElem?_cons_zero, List.getElem?_cons_succ, List.set_cons_zero, List.set_cons_succ, wp_int, wp_intb, wp_int20, wp_toB, wp_add, wp_abs, wp_neg, wp_lenL, pen0, pen1, pen2, put1, put2, decide_true, decide_false, if_true, if_false, Bool.false_eq_true, Nat.zero_le, exists_eq_left, and_true, true_and, Bool.not_true, Bool.not_false, reduceCtorEq, reduceIte, rx, wp_of (row_ok h1 h2), wp_of (lrow_ok h1 h2 h3), row_eq, calK, perm1, rt, nS ht, nS hx]
  exact ⟨_, _, rfl⟩
theorem asksC {n : Nat} {ds : List D} : ∀ (k : Nat) (S : Sto) (o0 o1 o2 o3 o4 o5 o6 o7 o8 o9 : Option D), S[n]? = some (.lst ds) → k ≤ ds.length → (∀ d ∈ ds, thingG d) →
    Wp (loopC n ds.length (gSet 6) lawL2 k [o0, o1, o2, o3, o4, o5, o6, o7, o8, o9]) S fun r S' => S' = S ∧ r.1 = .nx ∧ ∃ p6 p7 p8, r.2 = [o0, o1, o2, o3, o4, o5, p6, p7, p8, o9]
  | 0, S, o0, o1, o2, o3, o4, o5, o6, o7, o8, o9, hs, _, _ => by
    refine (wp_of (S' := S) (x := (.nx, [o0, o1, o2, o3, o4, o5, o6, o7, o8, o9])) ?_).2 ⟨rfl, rfl, _, _, _, rfl⟩
    simp only [loopC, hs, if_true]
  | k + 1, S, o0, o1, o2, o3, o4, o5, o6, o7, o8, o9, hs, hk, hg => by
    have hd : ds[ds.length - (k + 1)]? = some (ds[ds.length - (k + 1)]'(by omega)) := by simp
    obtain ⟨d, hd⟩ : ∃ d, ds[ds.length - (k + 1)]? = some d := ⟨_, hd⟩
    have gd : thingG d := hg d (List.mem_of_getElem? hd)
    obtain ⟨⟨f, ρ⟩, S1, e1, rfl, h1, p7, p8, h2⟩ := ask_ok (S := S) (o0 := o0) (o1 := o1) (o2 := o2) (o3 := o3) (o4 := o4) (o5 := o5) (o7 := o7) (o8 := o8) (o9 := o9) gd
    have h1 : f = .nx := h1
    have h2 : ρ = _ := h2
    subst h1 h2
    obtain ⟨r, S2, e2, q⟩ := asksC k S1 o0 o1 o2 o3 o4 o5 (some d) p7 p8 o9 hs (by omega) hg
    refine ⟨r, S2, ?_, q⟩
    simp only [loopC, hs, if_true, hd, gSet, List.set_cons_zero, List.set_cons_succ, M.bind, M.pure, e1]
    exact e2
theorem neX0 {ds : List D} : Wp (neX (.tup ds) (.tup [])) S Q ↔ Q (.bl (!ds.isEmpty)) S := wp_neT0
theorem turn_ok {sc : D} {o2 o3 o4 o5 o6 o7 o8 o9 : Option D} (hc : cells.length ≤ 63) (hA : A ≤ 50000) (hp : Pen cells T A S) :
    Wp (lawL1 [some sc, some (.ref 0), o2, o3, o4, o5, o6, o7, o8, o9]) S fun r S' => r.1 = .nx ∧ (∃ p3 p4 p5 p6 p7 p8, r.2 = [some sc, some (.ref 0), o2, p3, p4, p5, p6, p7, p8, o9]) ∧ ∃ T', Pen cells T' (A + 100) S' := by
  unfold lawL1
  simp only [sSeq, sIf, sAsg, sRet, sNil, gSet, gPut, tst, b2, b1, cal, on1, aCons, vget, mkL, mkT, calF, andT, orT, notT, andV, notV, wp_bind, wp_pure, wp_if, List.map, List.length, List.replicate, List.append, List.cons_append, List.nil_append, Nat.reduceSub, Nat.reduceAdd, Nat.reduceLeDiff, List.getElem?_cons_zero, List.getElem?_cons_succ, List.set_cons_zero, List.set_cons_succ, wp_int, wp_intb, wp_int20, wp_toB, wp_add, wp_abs, wp_neg, wp_lenL, pen0, pen1, pen2, put1, put2, decide_true, decide_false, if_true, if_false, Bool.false_eq_true, Nat.zero_le, exists_eq_left, and_true, true_and, Bool.not_true, Bool.not_false, reduceCtorEq, reduceIte]
  refine (rowD_ok hc (by omega) hp).mono ?_
  rintro row S1 ⟨⟨⟨x, ps, rfl⟩, hr, hg⟩, hp1⟩
  have hrow : thingG (.tup (.str x :: ps)) := GD.mono (by omega) hg (by omega) (by omega)
  obtain ⟨h1, h2, h3⟩ := GD.rowV hrow (by decide)
  rw [row_eq] at hr
  simp only [sSeq, sIf, sAsg, sRet, sNil, gSet, gPut, tst, b2, b1, cal, on1, aCons, vget, mkL, mkT, calF, andT, orT, notT, andV, notV, wp_bind, wp_pure, wp_if, List.map, List.length, List.replicate, List.append, List.cons_append, List.nil_append, Nat.reduceSub, Nat.reduceAdd, Nat.reduceLeDiff, List.getElem?_cons_zero, List.getElem?_cons_succ, List.set_cons_zero, List.set_cons_succ, wp_int, wp_intb, wp_int20, wp_toB, wp_add, wp_abs, wp_neg, wp_lenL, pen0, pen1, pen2, put1, put2, decide_true, decide_false, if_true, if_false, Bool.false_eq_true, Nat.zero_le, exists_eq_left, and_true, true_and, Bool.not_true, Bool.not_false, reduceCtorEq, reduceIte, wp_of (lrow_ok h1 h2 h3), hr]
  obtain ⟨h', hh, g1⟩ : ∃ h', 2 = h' + 1 ∧ GL (GD OB h') 3000 (.str x :: ps) := by
    rcases hg.shape with g1 | ⟨h', ds, e, e1 | e1, g2⟩
    · exact g1.elim
    · cases e1; exact ⟨h', e, g2⟩
    · cases e1
  have h' : h' = 1 := by omega
  subst h'
  refine (bent_ok hc (by omega) hp1 (Int.le_refl _) (by have := OB_GB; omega) (by decide) (by simp) g1).mono ?_
  rintro bent S2 ⟨gb, hp2⟩
  have gb : GD (OB + 1) 4 17000 bent := gb
  have hbent : thingG bent := GD.mono (by omega) gb (by omega) (by omega)
  try simp only [sSeq, sIf, sAsg, sRet, sNil, gSet, gPut, tst, b2, b1, cal, on1, aCons, vget, mkL, mkT, calF, andT, orT, notT, andV, notV, wp_bind, wp_pure, wp_if, List.map, List.length, List.replicate, List.append, List.cons_append, List.nil_append, Nat.reduceSub, Nat.reduceAdd, Nat.reduceLeDiff, List.getElem?_cons_zero, List.getElem?_cons_succ, List.set_cons_zero, List.set_cons_succ, wp_int, wp_intb, wp_int20, wp_toB, wp_add, wp_abs, wp_neg, wp_lenL, pen0, pen1, pen2, put1, put2, decide_true, decide_false, if_true, if_false, Bool.false_eq_true, Nat.zero_le, exists_eq_left, and_true, true_and, Bool.not_true, Bool.not_false, reduceCtorEq, reduceIte]
  have mk0 : ∀ {o : D} {S : Sto} {ρ : Env} {Q : D → Sto → Prop}, Wp (newL [D.tup (D.str x :: ps), bent, o, D.tup (D.str x :: ps)]) S Q → Wp (if [D.tup (D.str x :: ps), bent, o, D.tup (D.str x :: ps)].length ≤ 100000 then newL [D.tup (D.str x :: ps), bent, o, D.tup (D.str x :: ps)] else bad) S Q := fun h => by rw [if_pos (by simp)]; exact h
  try simp only [mkC, sSeq, sIf, sAsg, sRet, sNil, gSet, gPut, tst, b2, b1, cal, on1, aCons, vget, mkL, mkT, calF, andT, orT, notT, andV, notV, wp_bind, wp_pure, wp_if, List.map, List.length, List.replicate, List.append, List.cons_append, List.nil_append, Nat.reduceSub, Nat.reduceAdd, Nat.reduceLeDiff, List.getElem?_cons_zero, List.getElem?_cons_succ, List.set_cons_zero, List.set_cons_succ, wp_int, wp_intb, wp_int20, wp_toB, wp_add, wp_abs, wp_neg, wp_lenL, pen0, pen1, pen2, put1, put2, decide_true, decide_false, if_true, if_false, Bool.false_eq_true, Nat.zero_le, exists_eq_left, and_true, true_and, Bool.not_true, Bool.not_false, reduceCtorEq, reduceIte]
  refine (odd_ok hc (by omega) hp2).mono ?_
  rintro o S3 ⟨ho, hp3⟩
  have hodd : thingG o := GD.mono (by omega) ho (by omega) (by omega)
  have hlen := g1.ge
  try simp only [sSeq, sIf, sAsg, sRet, sNil, gSet, gPut, tst, b2, b1, cal, on1, aCons, vget, mkL, mkT, calF, andT, orT, notT, andV, notV, wp_bind, wp_pure, wp_if, List.map, List.length, List.replicate, List.append, List.cons_append, List.nil_append, Nat.reduceSub, Nat.reduceAdd, Nat.reduceLeDiff, List.getElem?_cons_zero, List.getElem?_cons_succ, List.set_cons_zero, List.set_cons_succ, wp_int, wp_intb, wp_int20, wp_toB, wp_add, wp_abs, wp_neg, wp_lenL, pen0, pen1, pen2, put1, put2, decide_true, decide_false, if_true, if_false, Bool.false_eq_true, Nat.zero_le, exists_eq_left, and_true, true_and, Bool.not_true, Bool.not_false, reduceCtorEq, reduceIte]
  rw [addM_T (by simp only [List.length_cons, List.length_nil] at hlen ⊢; omega)]
  try simp only [sSeq, sIf, sAsg, sRet, sNil, gSet, gPut, tst, b2, b1, cal, on1, aCons, vget, mkL, mkT, calF, andT, orT, notT, andV, notV, wp_bind, wp_pure, wp_if, List.map, List.length, List.replicate, List.append, List.cons_append, List.nil_append, Nat.reduceSub, Nat.reduceAdd, Nat.reduceLeDiff, List.getElem?_cons_zero, List.getElem?_cons_succ, List.set_cons_zero, List.set_cons_succ, wp_int, wp_intb, wp_int20, wp_toB, wp_add, wp_abs, wp_neg, wp_lenL, pen0, pen1, pen2, put1, put2, decide_true, decide_false, if_true, if_false, Bool.false_eq_true, Nat.zero_le, exists_eq_left, and_true, true_and, Bool.not_true, Bool.not_false, reduceCtorEq, reduceIte, List.append_nil]
  refine wp_new hp3 fun S4 hp4 => ?_
  have things : ∀ d ∈ [D.tup (D.str x :: ps), bent, o, D.tup (D.str x :: ps)], thingG d := fun d hd => by
    simp only [List.mem_cons, List.not_mem_nil, or_false] at hd
    rcases hd with rfl | rfl | rfl | rfl
    · exact hrow
    · exact hbent
    · exact hodd
    · exact hrow
  have go : ∀ {ts : List D} {S5 : Sto} {o6 o7 o8 o9 : Option D}, Pen cells (T ++ [.lst ts]) (A + 100) S5 → (∀ d ∈ ts, thingG d) →
      Wp (sForC (vget 5) (gSet 6) lawL2 [some sc, some (.ref 0), o2, some (.tup (.str x :: ps)), some bent, some (.ref (T.length + 1)), o6, o7, o8, o9]) S5 (fun r S' => r.1 = .nx ∧ (∃ p3 p4 p5 p6 p7 p8, r.2 = [some sc, some (.ref 0), o2, p3, p4, p5, p6, p7, p8, o9]) ∧ ∃ T', Pen cells T' (A + 100) S') := fun {ts S5 o6 o7 o8 o9} hp5 hts => by
    have e := cell_at hp5
    obtain ⟨r, S6, e6, rfl, h1, p6, p7, p8, h2⟩ := asksC (n := T.length + 1) (ds := ts) ts.length S5 (some sc) (some (.ref 0)) o2 (some (.tup (.str x :: ps))) (some bent) (some (.ref (T.length + 1))) o6 o7 o8 o9 e (Nat.le_refl _) hts
    refine ⟨r, S6, ?_, h1, ⟨_, _, _, _, _, _, h2⟩, _, hp5⟩
    simp only [sForC, M.bind, vget, List.getElem?_cons_zero, List.getElem?_cons_succ, M.pure, e]
    exact e6
  have tail : ∀ {ρ : Env} {S5 : Sto}, Wp (sForC (vget 5) (gSet 6) lawL2 ρ) S5 (fun r S' => r.1 = .nx ∧ (∃ p3 p4 p5 p6 p7 p8, r.2 = [some sc, some (.ref 0), o2, p3, p4, p5, p6, p7, p8, o9]) ∧ ∃ T', Pen cells T' (A + 100) S') →
      Wp (sForC (vget 5) (gSet 6) lawL2 ρ) S5 (fun x S' => Wp (match x with
        | (Fl.nx, ρ') => M.pure (Fl.nx, ρ')
        | r => M.pure r) S' fun r S' => r.1 = .nx ∧ (∃ p3 p4 p5 p6 p7 p8, r.2 = [some sc, some (.ref 0), o2, p3, p4, p5, p6, p7, p8, o9]) ∧ ∃ T', Pen cells T' (A + 100) S') := fun h => h.mono (by
    rintro ⟨f, ρ⟩ S' ⟨h1, h2⟩
    have h1 : f = .nx := h1
    subst h1
    exact wp_pure.2 ⟨rfl, h2⟩)
  simp only [sSeq, sIf, sAsg, sRet, sNil, gSet, gPut, tst, b2, b1, cal, on1, aCons, vget, mkL, mkT, calF, andT, orT, notT, andV, notV, wp_bind, wp_pure, wp_if, List.map, List.length, List.replicate, List.append, List.cons_append, List.nil_append, Nat.reduceSub, Nat.reduceAdd, Nat.reduceLeDiff, List.getElem?_cons_zero, List.getElem?_cons_succ, List.set_cons_zero, List.set_cons_succ, wp_int, wp_intb, wp_int20, wp_toB, wp_add, wp_abs, wp_neg, wp_lenL, pen0, pen1, pen2, put1, put2, decide_true, decide_false, if_true, if_false, Bool.false_eq_true, Nat.zero_le, exists_eq_left, and_true, true_and, Bool.not_true, Bool.not_false, reduceCtorEq, reduceIte, isi_T gb.nr]
  cases hb : isTup bent
  · simp only [sSeq, sIf, sAsg, sRet, sNil, gSet, gPut, tst, b2, b1, cal, on1, aCons, vget, mkL, mkT, calF, andT, orT, notT, andV, notV, wp_bind, wp_pure, wp_if, List.map, List.length, List.replicate, List.append, List.cons_append, List.nil_append, Nat.reduceSub, Nat.reduceAdd, Nat.reduceLeDiff, List.getElem?_cons_zero, List.getElem?_cons_succ, List.set_cons_zero, List.set_cons_succ, wp_int, wp_intb, wp_int20, wp_toB, wp_add, wp_abs, wp_neg, wp_lenL, pen0, pen1, pen2, put1, put2, decide_true, decide_false, if_true, if_false, Bool.false_eq_true, Nat.zero_le, exists_eq_left, and_true, true_and, Bool.not_true, Bool.not_false, reduceCtorEq, reduceIte]
    exact tail (go (hp4.mono (by omega)) things)
  · obtain ⟨es, rfl⟩ : ∃ es, bent = .tup es := by
      cases bent with
      | tup es => exact ⟨es, rfl⟩
      | _ => cases hb
    simp only [sSeq, sIf, sAsg, sRet, sNil, gSet, gPut, tst, b2, b1, cal, on1, aCons, vget, mkL, mkT, calF, andT, orT, notT, andV, notV, wp_bind, wp_pure, wp_if, List.map, List.length, List.replicate, List.append, List.cons_append, List.nil_append, Nat.reduceSub, Nat.reduceAdd, Nat.reduceLeDiff, List.getElem?_cons_zero, List.getElem?_cons_succ, List.set_cons_zero, List.set_cons_succ, wp_int, wp_intb, wp_int20, wp_toB, wp_add, wp_abs, wp_neg, wp_lenL, pen0, pen1, pen2, put1, put2, decide_true, decide_false, if_true, if_false, Bool.false_eq_true, Nat.zero_le, exists_eq_left, and_true, true_and, Bool.not_true, Bool.not_false, reduceCtorEq, reduceIte, neX0]
    cases he : es.isEmpty
    · simp only [sSeq, sIf, sAsg, sRet, sNil, gSet, gPut, tst, b2, b1, cal, on1, aCons, vget, mkL, mkT, calF, andT, orT, notT, andV, notV, wp_bind, wp_pure, wp_if, List.map, List.length, List.replicate, List.append, List.cons_append, List.nil_append, Nat.reduceSub, Nat.reduceAdd, Nat.reduceLeDiff, List.getElem?_cons_zero, List.getElem?_cons_succ, List.set_cons_zero, List.set_cons_succ, wp_int, wp_intb, wp_int20, wp_toB, wp_add, wp_abs, wp_neg, wp_lenL, pen0, pen1, pen2, put1, put2, decide_true, decide_false, if_true, if_false, Bool.false_eq_true, Nat.zero_le, exists_eq_left, and_true, true_and, Bool.not_true, Bool.not_false, reduceCtorEq, reduceIte, sDrop, mth, wp_chkN hp4]
      obtain ⟨h'', hh2, g2⟩ : ∃ h', 4 = h' + 1 ∧ GL (GD (OB + 1) h') 17000 es := by
        rcases gb.shape with g1 | ⟨h', ds, e, e1 | e1, g2⟩
        · exact g1.elim
        · cases e1; exact ⟨h', e, g2⟩
        · cases e1
      have h3' : h'' = 3 := by omega
      subst h3'
      refine (bent_ok hc (by omega) hp4 (by omega) (by have := OB_GB; omega) (by decide) (by intro e; rw [e] at he; cases he) g2).mono ?_
      rintro b2' S5 ⟨gb2, hp5⟩
      have gb2 : GD (OB + 1 + 1) 6 59000 b2' := gb2
      refine wp_appN hp5 (by simp) fun S6 hp6 => ?_
      try simp only [sSeq, sIf, sAsg, sRet, sNil, gSet, gPut, tst, b2, b1, cal, on1, aCons, vget, mkL, mkT, calF, andT, orT, notT, andV, notV, wp_bind, wp_pure, wp_if, List.map, List.length, List.replicate, List.append, List.cons_append, List.nil_append, Nat.reduceSub, Nat.reduceAdd, Nat.reduceLeDiff, List.getElem?_cons_zero, List.getElem?_cons_succ, List.set_cons_zero, List.set_cons_succ, wp_int, wp_intb, wp_int20, wp_toB, wp_add, wp_abs, wp_neg, wp_lenL, pen0, pen1, pen2, put1, put2, decide_true, decide_false, if_true, if_false, Bool.false_eq_true, Nat.zero_le, exists_eq_left, and_true, true_and, Bool.not_true, Bool.not_false, reduceCtorEq, reduceIte]
      refine tail (go (hp6.mono (by omega)) fun d hd => ?_)
      rcases List.mem_append.1 hd with hd | hd
      · exact things d hd
      · rw [List.mem_singleton.1 hd]
        exact GD.mono (by omega) gb2 (by omega) (by omega)
    · simp only [sSeq, sIf, sAsg, sRet, sNil, gSet, gPut, tst, b2, b1, cal, on1, aCons, vget, mkL, mkT, calF, andT, orT, notT, andV, notV, wp_bind, wp_pure, wp_if, List.map, List.length, List.replicate, List.append, List.cons_append, List.nil_append, Nat.reduceSub, Nat.reduceAdd, Nat.reduceLeDiff, List.getElem?_cons_zero, List.getElem?_cons_succ, List.set_cons_zero, List.set_cons_succ, wp_int, wp_intb, wp_int20, wp_toB, wp_add, wp_abs, wp_neg, wp_lenL, pen0, pen1, pen2, put1, put2, decide_true, decide_false, if_true, if_false, Bool.false_eq_true, Nat.zero_le, exists_eq_left, and_true, true_and, Bool.not_true, Bool.not_false, reduceCtorEq, reduceIte]
      exact tail (go (hp4.mono (by omega)) things)
theorem turns_ok {sc : D} (hc : cells.length ≤ 63) : ∀ (xs : List D) (T : Sto) (A : Int) (S : Sto) (o2 o3 o4 o5 o6 o7 o8 o9 : Option D), A + 100 * xs.length ≤ 50000 → Pen cells T A S →
    Wp (loop (gSet 2) lawL1 xs [some sc, some (.ref 0), o2, o3, o4, o5, o6, o7, o8, o9]) S fun r S' => r.1 = .nx ∧ ∃ p2 p3 p4 p5 p6 p7 p8, r.2 = [some sc, some (.ref 0), p2, p3, p4, p5, p6, p7, p8, o9]
  | [], T, A, S, o2, o3, o4, o5, o6, o7, o8, o9, _, hp => wp_pure.2 ⟨rfl, _, _, _, _, _, _, _, rfl⟩
  | x :: xs, T, A, S, o2, o3, o4, o5, o6, o7, o8, o9, h, hp => by
    simp only [List.length_cons] at h
    simp only [loop, gSet, wp_bind, wp_pure, List.set_cons_zero, List.set_cons_succ]
    refine (turn_ok hc (by omega) hp).mono ?_
    rintro ⟨f, ρ⟩ S' ⟨rfl, ⟨p3, p4, p5, p6, p7, p8, rfl⟩, T', hp'⟩
    exact turns_ok hc xs T' (A + 100) S' _ _ _ _ _ _ _ _ (by omega) hp'
end
theorem pen_ok (ns : List Int) (hl : ns.length ≤ 63) : ∃ cells : List Int, cells.length ≤ 63 ∧ ∀ {Q : D → Sto → Prop}, Wp (m__law_pen [.lsr (ns.map D.int)]) [] Q ↔ Q (.ref 0) (penS cells 0 0 []) := by
  have hc : ∀ lo hi : Option Int, ∃ cells : List Int, cells.length ≤ ns.length ∧ cutD (ns.map D.int) lo hi = cells.map D.int := fun lo hi => by
    unfold cutD
    rw [← List.map_drop, ← List.map_take]
    exact ⟨_, by simp; omega, rfl⟩
  obtain ⟨cells, h1, h2⟩ := hc none (some 63)
  refine ⟨cells, by omega, ?_⟩
  intro Q
  refine wp_of (eq_of_wp ?_)
  unfold m__law_pen
  refine wp_run ?_
  unfold b__law_pen
  have e1 : ∀ {S : Sto} {Q : D → Sto → Prop}, Wp (slcM none (some 63) (.lsr (ns.map D.int))) S Q ↔ Q (.lst (cells.map D.int)) S := wp_of (by
    simp only [slcM, asR, h2])
  have e2 : ∀ {S : Sto} {ds : List D} {Q : D → Sto → Prop}, Wp (listM (.lst ds)) S Q ↔ Q (.lst ds) S := wp_of rfl
  have e3 : ∀ {ds : List D} {Q : D → Sto → Prop}, Wp (newL ds) [] Q ↔ Q (.ref 0) [.lst ds] := wp_of rfl
  simp only [sSeq, sIf, sAsg, sRet, sNil, gSet, gPut, tst, b2, b1, cal, on1, aCons, vget, mkL, mkT, calF, andT, orT, notT, andV, notV, wp_bind, wp_pure, wp_if, List.map, List.length, List.replicate, List.append, List.cons_append, List.nil_append, Nat.reduceSub, Nat.reduceAdd, Nat.reduceLeDiff, List.getElem?_cons_zero, List.getElem?_cons_succ, List.set_cons_zero, List.set_cons_succ, wp_int, wp_intb, wp_int20, wp_toB, wp_add, wp_abs, wp_neg, wp_lenL, pen0, pen1, pen2, put1, put2, decide_true, decide_false, if_true, if_false, Bool.false_eq_true, Nat.zero_le, exists_eq_left, and_true, true_and, Bool.not_true, Bool.not_false, reduceCtorEq, reduceIte, slc, parts, optI, e1, e2, mkC, e3]
  exact ⟨_, rfl, rfl, rfl⟩
theorem math (ns : List Int) (hl : ns.length ≤ 63) : ∃ S, m_law [.lsr (ns.map D.int)] [] = some (.ok (.bl true), S) := by
  have h : Wp (m_law [.lsr (ns.map D.int)]) [] fun v S' => v = .bl true := by
    unfold m_law
    refine wp_run ?_
    rw [law_eq]
    obtain ⟨cells, hc, hp⟩ := pen_ok ns hl
    simp only [sSeq, sIf, sAsg, sRet, sNil, gSet, gPut, tst, b2, b1, cal, on1, aCons, vget, mkL, mkT, calF, andT, orT, notT, andV, notV, wp_bind, wp_pure, wp_if, List.map, List.length, List.replicate, List.append, List.cons_append, List.nil_append, Nat.reduceSub, Nat.reduceAdd, Nat.reduceLeDiff, List.getElem?_cons_zero, List.getElem?_cons_succ, List.set_cons_zero, List.set_cons_succ, wp_int, wp_intb, wp_int20, wp_toB, wp_add, wp_abs, wp_neg, wp_lenL, pen0, pen1, pen2, put1, put2, decide_true, decide_false, if_true, if_false, Bool.false_eq_true, Nat.zero_le, exists_eq_left, and_true, true_and, Bool.not_true, Bool.not_false, reduceCtorEq, reduceIte, hp, sFor, len1]
    rw [wp_rng (by decide)]
    refine (turns_ok hc _ [] 0 _ _ _ _ _ _ _ _ _ (by rw [rgD_len]; decide) ⟨0, 0, Int.le_refl _, Int.le_refl _, rfl⟩).mono ?_
    rintro ⟨f, ρ⟩ S' ⟨h1, p2, p3, p4, p5, p6, p7, p8, h2⟩
    have h1 : f = .nx := h1
    have h2 : ρ = _ := h2
    subst h1 h2
    have five : ([D.tup [.str "open", .int 2, .int 1], .tup [.str "open", .int 2, .int 2], .tup [.str "clean", .int 0, .tup [.int 1], .tup [.int 1]], .tup [.str "tidy", .int 0, .tup []], .tup [.str "clean", .int 7, .tup [], .tup []]]).all ckG = true := by decide +kernel
    have r1 : rowB (.tup [.str "open", .int 2, .int 1]) = true := by decide +kernel
    have r2 : rowB (.tup [.str "open", .int 2, .int 2]) = false := by decide +kernel
    have r3 : rowB (.tup [.str "clean", .int 0, .tup [.int 1], .tup [.int 1]]) = false := by decide +kernel
    have r4 : rowB (.tup [.str "tidy", .int 0, .tup []]) = false := by decide +kernel
    have r5 : rowB (.tup [.str "clean", .int 7, .tup [], .tup []]) = true := by decide +kernel
    have I : ∀ {ds : List D} {S : Sto} {Q : List D → Sto → Prop}, Wp (itemsOf (.lst ds)) S Q ↔ Q ds S := wp_of rfl
    have E : ∀ {S : Sto} {Q : D → Sto → Prop}, Wp (eqY (.lst [.bl true, .bl false, .bl false, .bl false, .bl true]) (.lst [.bl true, .bl false, .bl false, .bl false, .bl true])) S Q ↔ Q (.bl true) S := fun {S Q} => wp_of (by
      show eqM (.lst [.bl true, .bl false, .bl false, .bl false, .bl true]) (.lst [.bl true, .bl false, .bl false, .bl false, .bl true]) S = some (.ok (.bl true), S)
      have h : lenDiff S (.lst [.bl true, .bl false, .bl false, .bl false, .bl true]) (.lst [.bl true, .bl false, .bl false, .bl false, .bl true]) = false := rfl
      have h1 : SeqAt.shaped (.list [.bool true, .bool false, .bool false, .bool false, .bool true]) = true := by decide +kernel
      have h2 : PyData.eqv (.list [.bool true, .bool false, .bool false, .bool false, .bool true]) (.list [.bool true, .bool false, .bool false, .bool false, .bool true]) = true := by decide +kernel
      simp [eqB, h, deS, toPy, toPyL, h1, h2])
    simp only [sSeq, sIf, sAsg, sRet, sNil, gSet, gPut, tst, b2, b1, cal, on1, aCons, vget, mkL, mkT, calF, andT, orT, notT, andV, notV, wp_bind, wp_pure, wp_if, List.map, List.length, List.replicate, List.append, List.cons_append, List.nil_append, Nat.reduceSub, Nat.reduceAdd, Nat.reduceLeDiff, List.getElem?_cons_zero, List.getElem?_cons_succ, List.set_cons_zero, List.set_cons_succ, wp_int, wp_intb, wp_int20, wp_toB, wp_add, wp_abs, wp_neg, wp_lenL, pen0, pen1, pen2, put1, put2, decide_true, decide_false, if_true, if_false, Bool.false_eq_true, Nat.zero_le, exists_eq_left, and_true, true_and, Bool.not_true, Bool.not_false, reduceCtorEq, reduceIte, eLc, iSeq, I]
    rw [wp_lcD (f := fun d => D.bl (rowB d)) (p := fun _ => true)]
    · rw [List.filter_eq_self.2 (fun _ _ => rfl)]
      simp only [List.map, r1, r2, r3, r4, r5, sSeq, sIf, sAsg, sRet, sNil, gSet, gPut, tst, b2, b1, cal, on1, aCons, vget, mkL, mkT, calF, andT, orT, notT, andV, notV, wp_bind, wp_pure, wp_if, List.map, List.length, List.replicate, List.append, List.cons_append, List.nil_append, Nat.reduceSub, Nat.reduceAdd, Nat.reduceLeDiff, List.getElem?_cons_zero, List.getElem?_cons_succ, List.set_cons_zero, List.set_cons_succ, wp_int, wp_intb, wp_int20, wp_toB, wp_add, wp_abs, wp_neg, wp_lenL, pen0, pen1, pen2, put1, put2, decide_true, decide_false, if_true, if_false, Bool.false_eq_true, Nat.zero_le, exists_eq_left, and_true, true_and, Bool.not_true, Bool.not_false, reduceCtorEq, reduceIte, E]
      exact ⟨_, rfl, rfl⟩
    · intro y _; rfl
    · intro y hy _
      have gy := ckG_ok (List.all_eq_true.1 five y hy)
      obtain ⟨q1, q2, _⟩ := GD.rowV gy (by decide)
      simp only [wipeE, List.foldr, List.set_cons_zero, List.set_cons_succ]
      refine eq_of_wp ?_
      simp only [sSeq, sIf, sAsg, sRet, sNil, gSet, gPut, tst, b2, b1, cal, on1, aCons, vget, mkL, mkT, calF, andT, orT, notT, andV, notV, wp_bind, wp_pure, wp_if, List.map, List.length, List.replicate, List.append, List.cons_append, List.nil_append, Nat.reduceSub, Nat.reduceAdd, Nat.reduceLeDiff, List.getElem?_cons_zero, List.getElem?_cons_succ, List.set_cons_zero, List.set_cons_succ, wp_int, wp_intb, wp_int20, wp_toB, wp_add, wp_abs, wp_neg, wp_lenL, pen0, pen1, pen2, put1, put2, decide_true, decide_false, if_true, if_false, Bool.false_eq_true, Nat.zero_le, exists_eq_left, and_true, true_and, Bool.not_true, Bool.not_false, reduceCtorEq, reduceIte, wp_of (row_ok q1 q2)]
  obtain ⟨x, S', e, rfl⟩ := h
  exact ⟨S', e⟩
end Mi
namespace Mi
open PySem PySem.Spec PyProof.Rows L2
theorem fin {l : PySem.W.OpenLaw} {w : World} {K : PySem.W.Frag} {h : Heap} {mg : Str → Option Value} (X : K.In h) (G : h.Ns mainGlobals mg) {t0 : Tok} {t1 : Tok} {t2 : Tok} {t3 : Tok} {t4 : Tok} {q0 : Addr} {qn0 : Nat} {q0r0h : Int} {q0r0t : Tok} {q0r0p : Addr} {q0r0o : Option Addr} {q0r0n : Nat} {q0r0s : Array (Option Value)} {q0r0v0 : Tok} {q0r0v1 : Tok} {q0r1h : Int} {q0r1t : Tok} {q0r1p : Addr} {q0r1o : Option Addr} {q0r1n : Nat} {q0r1s : Array (Option Value)} {q0r1v0 : Tok} {q0r1v1 : Tok} {q0r1v2 : Tok} {q0r1v3 : Tok} {q0r1v4 : Tok} {q0r2h : Int} {q0r2t : Tok} {q0r2p : Addr} {q0r2o : Option Addr} {q0r2n : Nat} {q0r2s : Array (Option Value)} {q0r2v0 : Tok} {q0r2v1 : Tok} {q0r2v2 : Tok} {q0r2v3 : Tok} {q0r2v4 : Tok} {q0r2v5 : Tok} {q0r3h : Int} {q0r3t : Tok} {q0r3p : Addr} {q0r3o : Option Addr} {q0r3n : Nat} {q0r3s : Array (Option Value)} {q0r3v0 : Tok} {q0r3v1 : Tok} {q0r3v2 : Tok} {q0r4h : Int} {q0r4t : Tok} {q0r4p : Addr} {q0r4o : Option Addr} {q0r4n : Nat} {q0r4s : Array (Option Value)} {q0r4v0 : Tok} {q0r4v1 : Tok} {q0r4v2 : Tok} {q0r5h : Int} {q0r5t : Tok} {q0r5p : Addr} {q0r5o : Option Addr} {q0r5n : Nat} {q0r5s : Array (Option Value)} {q0r5v0 : Tok} {q0r5v1 : Tok} {q0r5v2 : Tok} {q0r6h : Int} {q0r6t : Tok} {q0r6p : Addr} {q0r6o : Option Addr} {q0r6n : Nat} {q0r6s : Array (Option Value)} {q0r6v0 : Tok} {q0r7h : Int} {q0r7t : Tok} {q0r7p : Addr} {q0r7o : Option Addr} {q0r7n : Nat} {q0r7s : Array (Option Value)} {q0r7v0 : Tok} {q0r8h : Int} {q0r8t : Tok} {q0r8p : Addr} {q0r8o : Option Addr} {q0r8n : Nat} {q0r8s : Array (Option Value)} {q0r8v0 : Tok} {q0r8v1 : Tok} {q0r9h : Int} {q0r9t : Tok} {q0r9p : Addr} {q0r9o : Option Addr} {q0r9n : Nat} {q0r9s : Array (Option Value)} {q0r9v0 : Tok} {q0r9v1 : Tok} {q0r9v2 : Tok} {q0r10h : Int} {q0r10t : Tok} {q0r10p : Addr} {q0r10o : Option Addr} {q0r10n : Nat} {q0r10s : Array (Option Value)} {q0r10v0 : Tok} {q0r10v1 : Tok} {q0r11h : Int} {q0r11t : Tok} {q0r11p : Addr} {q0r11o : Option Addr} {q0r11n : Nat} {q0r11s : Array (Option Value)}  {q0r12h : Int} {q0r12t : Tok} {q0r12p : Addr} {q0r12o : Option Addr} {q0r12n : Nat} {q0r12s : Array (Option Value)} {q0r12v0 : Tok} {q0r13h : Int} {q0r13t : Tok} {q0r13p : Addr} {q0r13o : Option Addr} {q0r13n : Nat} {q0r13s : Array (Option Value)}  {e0 : Addr} {en0 : Nat} {e0h0 : Int} {e0t0 : Tok} {e0h1 : Int} {e0t1 : Tok} {e0h2 : Int} {e0t2 : Tok} {e0h3 : Int} {e0t3 : Tok} {e0h4 : Int} {e0t4 : Tok} {e0h5 : Int} {e0t5 : Tok} {e0h6 : Int} {e0t6 : Tok} {e0h7 : Int} {e0t7 : Tok} {e0h8 : Int} {e0t8 : Tok} {e0h9 : Int} {e0t9 : Tok} {e0h10 : Int} {e0t10 : Tok} {e0h11 : Int} {e0t11 : Tok} {e0h12 : Int} {e0t12 : Tok} {e0h13 : Int} {e0t13 : Tok} {f0 : Addr} {od0 an0 : Option Addr} {sl0 : Array (Option Value)} {oc0 kV0 dc0 pm0 cd0 ct0 : Value} {f1 : Addr} {od1 an1 : Option Addr} {sl1 : Array (Option Value)} {oc1 kV1 dc1 pm1 cd1 ct1 : Value} {f2 : Addr} {od2 an2 : Option Addr} {sl2 : Array (Option Value)} {oc2 kV2 dc2 pm2 cd2 ct2 : Value} {f3 : Addr} {od3 an3 : Option Addr} {sl3 : Array (Option Value)} {oc3 kV3 dc3 pm3 cd3 ct3 : Value} {f4 : Addr} {od4 an4 : Option Addr} {sl4 : Array (Option Value)} {oc4 kV4 dc4 pm4 cd4 ct4 : Value} {f5 : Addr} {od5 an5 : Option Addr} {sl5 : Array (Option Value)} {oc5 kV5 dc5 pm5 cd5 ct5 : Value} {f6 : Addr} {od6 an6 : Option Addr} {sl6 : Array (Option Value)} {oc6 kV6 dc6 pm6 cd6 ct6 : Value} {f7 : Addr} {od7 an7 : Option Addr} {sl7 : Array (Option Value)} {oc7 kV7 dc7 pm7 cd7 ct7 : Value} {f8 : Addr} {od8 an8 : Option Addr} {sl8 : Array (Option Value)} {oc8 kV8 dc8 pm8 cd8 ct8 : Value} {f9 : Addr} {od9 an9 : Option Addr} {sl9 : Array (Option Value)} {oc9 kV9 dc9 pm9 cd9 ct9 : Value} {f10 : Addr} {od10 an10 : Option Addr} {sl10 : Array (Option Value)} {oc10 kV10 dc10 pm10 cd10 ct10 : Value} {f11 : Addr} {od11 an11 : Option Addr} {sl11 : Array (Option Value)} {oc11 kV11 dc11 pm11 cd11 ct11 : Value} {f12 : Addr} {od12 an12 : Option Addr} {sl12 : Array (Option Value)} {oc12 kV12 dc12 pm12 cd12 ct12 : Value} {f13 : Addr} {od13 an13 : Option Addr} {sl13 : Array (Option Value)} {oc13 kV13 dc13 pm13 cd13 ct13 : Value} {f14 : Addr} {od14 an14 : Option Addr} {sl14 : Array (Option Value)} {oc14 kV14 dc14 pm14 cd14 ct14 : Value} {f15 : Addr} {od15 an15 : Option Addr} {sl15 : Array (Option Value)} {oc15 kV15 dc15 pm15 cd15 ct15 : Value} {f16 : Addr} {od16 an16 : Option Addr} {sl16 : Array (Option Value)} {oc16 kV16 dc16 pm16 cd16 ct16 : Value} {f17 : Addr} {od17 an17 : Option Addr} {sl17 : Array (Option Value)} {oc17 kV17 dc17 pm17 cd17 ct17 : Value} {f18 : Addr} {od18 an18 : Option Addr} {sl18 : Array (Option Value)} {oc18 kV18 dc18 pm18 cd18 ct18 : Value} {f19 : Addr} {od19 an19 : Option Addr} {sl19 : Array (Option Value)} {oc19 kV19 dc19 pm19 cd19 ct19 : Value} {f20 : Addr} {od20 an20 : Option Addr} {sl20 : Array (Option Value)} {oc20 kV20 dc20 pm20 cd20 ct20 : Value} {f21 : Addr} {od21 an21 : Option Addr} {sl21 : Array (Option Value)} {oc21 kV21 dc21 pm21 cd21 ct21 : Value} {f22 : Addr} {od22 an22 : Option Addr} {sl22 : Array (Option Value)} {oc22 kV22 dc22 pm22 cd22 ct22 : Value} {f23 : Addr} {od23 an23 : Option Addr} {sl23 : Array (Option Value)} {oc23 kV23 dc23 pm23 cd23 ct23 : Value} {f24 : Addr} {od24 an24 : Option Addr} {sl24 : Array (Option Value)} {oc24 kV24 dc24 pm24 cd24 ct24 : Value} {f25 : Addr} {od25 an25 : Option Addr} {sl25 : Array (Option Value)} {oc25 kV25 dc25 pm25 cd25 ct25 : Value} {f26 : Addr} {od26 an26 : Option Addr} {sl26 : Array (Option Value)} {oc26 kV26 dc26 pm26 cd26 ct26 : Value} {f27 : Addr} {od27 an27 : Option Addr} {sl27 : Array (Option Value)} {oc27 kV27 dc27 pm27 cd27 ct27 : Value} {f28 : Addr} {od28 an28 : Option Addr} {sl28 : Array (Option Value)} {oc28 kV28 dc28 pm28 cd28 ct28 : Value} {f29 : Addr} {od29 an29 : Option Addr} {sl29 : Array (Option Value)} {oc29 kV29 dc29 pm29 cd29 ct29 : Value} {f30 : Addr} {od30 an30 : Option Addr} {sl30 : Array (Option Value)} {oc30 kV30 dc30 pm30 cd30 ct30 : Value} {f31 : Addr} {od31 an31 : Option Addr} {sl31 : Array (Option Value)} {oc31 kV31 dc31 pm31 cd31 ct31 : Value} {f32 : Addr} {od32 an32 : Option Addr} {sl32 : Array (Option Value)} {oc32 kV32 dc32 pm32 cd32 ct32 : Value} {f33 : Addr} {od33 an33 : Option Addr} {sl33 : Array (Option Value)} {oc33 kV33 dc33 pm33 cd33 ct33 : Value} {f34 : Addr} {od34 an34 : Option Addr} {sl34 : Array (Option Value)} {oc34 kV34 dc34 pm34 cd34 ct34 : Value} {f35 : Addr} {od35 an35 : Option Addr} {sl35 : Array (Option Value)} {oc35 kV35 dc35 pm35 cd35 ct35 : Value}
    (z0 : PySem.W.nsIn K mainGlobals "abs" = some none)
    (z1 : PySem.W.nsIn K mainGlobals "all" = some none)
    (z2 : PySem.W.nsIn K mainGlobals "any" = some none)
    (z3 : PySem.W.nsIn K mainGlobals "bool" = some none)
    (z4 : PySem.W.nsIn K mainGlobals "int" = some none)
    (z5 : PySem.W.nsIn K mainGlobals "isinstance" = some none)
    (z6 : PySem.W.nsIn K mainGlobals "len" = some none)
    (z7 : PySem.W.nsIn K mainGlobals "list" = some none)
    (z8 : PySem.W.nsIn K mainGlobals "range" = some none)
    (z9 : PySem.W.nsIn K mainGlobals "repr" = some none)
    (z10 : PySem.W.nsIn K mainGlobals "str" = some none)
    (z11 : PySem.W.nsIn K mainGlobals "tuple" = some none)
    (z12 : PySem.W.nsIn K mainGlobals "zip" = some none)
    (y0 : PySem.W.nsIn K mainGlobals "CHARACTERS" = some (some (.str "abcdefghijklmnopqrstuvwxyz0123456789" t0)))
    (y1 : PySem.W.nsIn K mainGlobals "LETTERS" = some (some (.str "abcdefghijklmnopqrstuvwxyz" t1)))
    (y2 : PySem.W.nsIn K mainGlobals "MOST_CHARACTERS" = some (some (.int 8 t2)))
    (y3 : PySem.W.nsIn K mainGlobals "MOST_NUMBER" = some (some (.int 999999 t3)))
    (y4 : PySem.W.nsIn K mainGlobals "MOST_PLACES" = some (some (.int 8 t4)))
    (q0a : PySem.W.nsIn K mainGlobals "FORMS" = some (some (.ref q0)))
    (q0b : K.lookup q0 = some ⟨.type "dict", none, .dict #[⟨q0r0h, .str "open" q0r0t, .ref q0r0p⟩, ⟨q0r1h, .str "put" q0r1t, .ref q0r1p⟩, ⟨q0r2h, .str "change" q0r2t, .ref q0r2p⟩, ⟨q0r3h, .str "strike" q0r3t, .ref q0r3p⟩, ⟨q0r4h, .str "lock" q0r4t, .ref q0r4p⟩, ⟨q0r5h, .str "refused" q0r5t, .ref q0r5p⟩, ⟨q0r6h, .str "commit" q0r6t, .ref q0r6p⟩, ⟨q0r7h, .str "abort" q0r7t, .ref q0r7p⟩, ⟨q0r8h, .str "prepare" q0r8t, .ref q0r8p⟩, ⟨q0r9h, .str "clean" q0r9t, .ref q0r9p⟩, ⟨q0r10h, .str "tidy" q0r10t, .ref q0r10p⟩, ⟨q0r11h, .str "sweep" q0r11t, .ref q0r11p⟩, ⟨q0r12h, .str "word" q0r12t, .ref q0r12p⟩, ⟨q0r13h, .str "fall" q0r13t, .ref q0r13p⟩] qn0, #[]⟩)
    (q0r0l : K.lookup q0r0p = some ⟨.type "tuple", q0r0o, .seq #[.str "number" q0r0v0, .str "outer" q0r0v1] q0r0n, q0r0s⟩)
    (q0r1l : K.lookup q0r1p = some ⟨.type "tuple", q0r1o, .seq #[.str "number" q0r1v0, .str "page" q0r1v1, .str "slot" q0r1v2, .str "key" q0r1v3, .str "value" q0r1v4] q0r1n, q0r1s⟩)
    (q0r2l : K.lookup q0r2p = some ⟨.type "tuple", q0r2o, .seq #[.str "number" q0r2v0, .str "page" q0r2v1, .str "slot" q0r2v2, .str "page" q0r2v3, .str "slot" q0r2v4, .str "value" q0r2v5] q0r2n, q0r2s⟩)
    (q0r3l : K.lookup q0r3p = some ⟨.type "tuple", q0r3o, .seq #[.str "number" q0r3v0, .str "page" q0r3v1, .str "slot" q0r3v2] q0r3n, q0r3s⟩)
    (q0r4l : K.lookup q0r4p = some ⟨.type "tuple", q0r4o, .seq #[.str "number" q0r4v0, .str "page" q0r4v1, .str "slot" q0r4v2] q0r4n, q0r4s⟩)
    (q0r5l : K.lookup q0r5p = some ⟨.type "tuple", q0r5o, .seq #[.str "number" q0r5v0, .str "page" q0r5v1, .str "slot" q0r5v2] q0r5n, q0r5s⟩)
    (q0r6l : K.lookup q0r6p = some ⟨.type "tuple", q0r6o, .seq #[.str "number" q0r6v0] q0r6n, q0r6s⟩)
    (q0r7l : K.lookup q0r7p = some ⟨.type "tuple", q0r7o, .seq #[.str "number" q0r7v0] q0r7n, q0r7s⟩)
    (q0r8l : K.lookup q0r8p = some ⟨.type "tuple", q0r8o, .seq #[.str "number" q0r8v0, .str "view" q0r8v1] q0r8n, q0r8s⟩)
    (q0r9l : K.lookup q0r9p = some ⟨.type "tuple", q0r9o, .seq #[.str "page" q0r9v0, .str "removed" q0r9v1, .str "marked" q0r9v2] q0r9n, q0r9s⟩)
    (q0r10l : K.lookup q0r10p = some ⟨.type "tuple", q0r10o, .seq #[.str "page" q0r10v0, .str "tidied" q0r10v1] q0r10n, q0r10s⟩)
    (q0r11l : K.lookup q0r11p = some ⟨.type "tuple", q0r11o, .seq #[] q0r11n, q0r11s⟩)
    (q0r12l : K.lookup q0r12p = some ⟨.type "tuple", q0r12o, .seq #[.str "told" q0r12v0] q0r12n, q0r12s⟩)
    (q0r13l : K.lookup q0r13p = some ⟨.type "tuple", q0r13o, .seq #[] q0r13n, q0r13s⟩)
    (q0k : PySem.W.KeysLit w.params (#[⟨q0r0h, .str "open" q0r0t, .ref q0r0p⟩, ⟨q0r1h, .str "put" q0r1t, .ref q0r1p⟩, ⟨q0r2h, .str "change" q0r2t, .ref q0r2p⟩, ⟨q0r3h, .str "strike" q0r3t, .ref q0r3p⟩, ⟨q0r4h, .str "lock" q0r4t, .ref q0r4p⟩, ⟨q0r5h, .str "refused" q0r5t, .ref q0r5p⟩, ⟨q0r6h, .str "commit" q0r6t, .ref q0r6p⟩, ⟨q0r7h, .str "abort" q0r7t, .ref q0r7p⟩, ⟨q0r8h, .str "prepare" q0r8t, .ref q0r8p⟩, ⟨q0r9h, .str "clean" q0r9t, .ref q0r9p⟩, ⟨q0r10h, .str "tidy" q0r10t, .ref q0r10p⟩, ⟨q0r11h, .str "sweep" q0r11t, .ref q0r11p⟩, ⟨q0r12h, .str "word" q0r12t, .ref q0r12p⟩, ⟨q0r13h, .str "fall" q0r13t, .ref q0r13p⟩] : Array DictEntry).toList) (q0s : (q0 == sysModules) = false)
    (e0a : PySem.W.nsIn K mainGlobals "CHECKS" = some (some (.ref e0)))
    (e0b : K.lookup e0 = some ⟨.type "dict", none, .dict #[⟨e0h0, .str "open" e0t0, .ref f6⟩, ⟨e0h1, .str "put" e0t1, .ref f30⟩, ⟨e0h2, .str "change" e0t2, .ref f31⟩, ⟨e0h3, .str "strike" e0t3, .ref f7⟩, ⟨e0h4, .str "lock" e0t4, .ref f7⟩, ⟨e0h5, .str "refused" e0t5, .ref f7⟩, ⟨e0h6, .str "commit" e0t6, .ref f8⟩, ⟨e0h7, .str "abort" e0t7, .ref f8⟩, ⟨e0h8, .str "prepare" e0t8, .ref f9⟩, ⟨e0h9, .str "clean" e0t9, .ref f32⟩, ⟨e0h10, .str "tidy" e0t10, .ref f33⟩, ⟨e0h11, .str "sweep" e0t11, .ref f11⟩, ⟨e0h12, .str "word" e0t12, .ref f10⟩, ⟨e0h13, .str "fall" e0t13, .ref f11⟩] en0, #[]⟩)
    (e0k : PySem.W.KeysLit w.params (#[⟨e0h0, .str "open" e0t0, .ref f6⟩, ⟨e0h1, .str "put" e0t1, .ref f30⟩, ⟨e0h2, .str "change" e0t2, .ref f31⟩, ⟨e0h3, .str "strike" e0t3, .ref f7⟩, ⟨e0h4, .str "lock" e0t4, .ref f7⟩, ⟨e0h5, .str "refused" e0t5, .ref f7⟩, ⟨e0h6, .str "commit" e0t6, .ref f8⟩, ⟨e0h7, .str "abort" e0t7, .ref f8⟩, ⟨e0h8, .str "prepare" e0t8, .ref f9⟩, ⟨e0h9, .str "clean" e0t9, .ref f32⟩, ⟨e0h10, .str "tidy" e0t10, .ref f33⟩, ⟨e0h11, .str "sweep" e0t11, .ref f11⟩, ⟨e0h12, .str "word" e0t12, .ref f10⟩, ⟨e0h13, .str "fall" e0t13, .ref f11⟩] : Array DictEntry).toList) (e0s : (e0 == sysModules) = false)
    (a0 : PySem.W.nsIn K mainGlobals "is_key" = some (some (.ref f0)))
    (l0 : K.lookup f0 = some ⟨oc0, od0, .func (PySem.W.fnOf "is_key" "is_key" (defArgs s_is_key) (defBody s_is_key) (defScope s_is_key) .none kV0 dc0 pm0 an0 cd0 ct0), sl0⟩)
    (c0 : PySem.W.codeIn K cd0 "is_key" = true) (k0 : PySem.W.keepIn K (.ref f0) = true)
    (a1 : PySem.W.nsIn K mainGlobals "is_value" = some (some (.ref f1)))
    (l1 : K.lookup f1 = some ⟨oc1, od1, .func (PySem.W.fnOf "is_value" "is_value" (defArgs s_is_value) (defBody s_is_value) (defScope s_is_value) .none kV1 dc1 pm1 an1 cd1 ct1), sl1⟩)
    (c1 : PySem.W.codeIn K cd1 "is_value" = true) (k1 : PySem.W.keepIn K (.ref f1) = true)
    (a2 : PySem.W.nsIn K mainGlobals "is_number" = some (some (.ref f2)))
    (l2 : K.lookup f2 = some ⟨oc2, od2, .func (PySem.W.fnOf "is_number" "is_number" (defArgs s_is_number) (defBody s_is_number) (defScope s_is_number) .none kV2 dc2 pm2 an2 cd2 ct2), sl2⟩)
    (c2 : PySem.W.codeIn K cd2 "is_number" = true) (k2 : PySem.W.keepIn K (.ref f2) = true)
    (a3 : PySem.W.nsIn K mainGlobals "is_view" = some (some (.ref f3)))
    (l3 : K.lookup f3 = some ⟨oc3, od3, .func (PySem.W.fnOf "is_view" "is_view" (defArgs s_is_view) (defBody s_is_view) (defScope s_is_view) .none kV3 dc3 pm3 an3 cd3 ct3), sl3⟩)
    (c3 : PySem.W.codeIn K cd3 "is_view" = true) (k3 : PySem.W.keepIn K (.ref f3) = true)
    (a4 : PySem.W.nsIn K mainGlobals "is_place" = some (some (.ref f4)))
    (l4 : K.lookup f4 = some ⟨oc4, od4, .func (PySem.W.fnOf "is_place" "is_place" (defArgs s_is_place) (defBody s_is_place) (defScope s_is_place) .none kV4 dc4 pm4 an4 cd4 ct4), sl4⟩)
    (c4 : PySem.W.codeIn K cd4 "is_place" = true) (k4 : PySem.W.keepIn K (.ref f4) = true)
    (a5 : PySem.W.nsIn K mainGlobals "is_ascending" = some (some (.ref f5)))
    (l5 : K.lookup f5 = some ⟨oc5, od5, .func (PySem.W.fnOf "is_ascending" "is_ascending" (defArgs s_is_ascending) (defBody s_is_ascending) (defScope s_is_ascending) .none kV5 dc5 pm5 an5 cd5 ct5), sl5⟩)
    (c5 : PySem.W.codeIn K cd5 "is_ascending" = true) (k5 : PySem.W.keepIn K (.ref f5) = true)
    (a6 : PySem.W.nsIn K mainGlobals "_is_open" = some (some (.ref f6)))
    (l6 : K.lookup f6 = some ⟨oc6, od6, .func (PySem.W.fnOf "_is_open" "_is_open" (defArgs s__is_open) (defBody s__is_open) (defScope s__is_open) .none kV6 dc6 pm6 an6 cd6 ct6), sl6⟩)
    (c6 : PySem.W.codeIn K cd6 "_is_open" = true) (k6 : PySem.W.keepIn K (.ref f6) = true)
    (a7 : PySem.W.nsIn K mainGlobals "_is_touching" = some (some (.ref f7)))
    (l7 : K.lookup f7 = some ⟨oc7, od7, .func (PySem.W.fnOf "_is_touching" "_is_touching" (defArgs s__is_touching) (defBody s__is_touching) (defScope s__is_touching) .none kV7 dc7 pm7 an7 cd7 ct7), sl7⟩)
    (c7 : PySem.W.codeIn K cd7 "_is_touching" = true) (k7 : PySem.W.keepIn K (.ref f7) = true)
    (a8 : PySem.W.nsIn K mainGlobals "_is_ending" = some (some (.ref f8)))
    (l8 : K.lookup f8 = some ⟨oc8, od8, .func (PySem.W.fnOf "_is_ending" "_is_ending" (defArgs s__is_ending) (defBody s__is_ending) (defScope s__is_ending) .none kV8 dc8 pm8 an8 cd8 ct8), sl8⟩)
    (c8 : PySem.W.codeIn K cd8 "_is_ending" = true) (k8 : PySem.W.keepIn K (.ref f8) = true)
    (a9 : PySem.W.nsIn K mainGlobals "_is_prepare" = some (some (.ref f9)))
    (l9 : K.lookup f9 = some ⟨oc9, od9, .func (PySem.W.fnOf "_is_prepare" "_is_prepare" (defArgs s__is_prepare) (defBody s__is_prepare) (defScope s__is_prepare) .none kV9 dc9 pm9 an9 cd9 ct9), sl9⟩)
    (c9 : PySem.W.codeIn K cd9 "_is_prepare" = true) (k9 : PySem.W.keepIn K (.ref f9) = true)
    (a10 : PySem.W.nsIn K mainGlobals "_is_word" = some (some (.ref f10)))
    (l10 : K.lookup f10 = some ⟨oc10, od10, .func (PySem.W.fnOf "_is_word" "_is_word" (defArgs s__is_word) (defBody s__is_word) (defScope s__is_word) .none kV10 dc10 pm10 an10 cd10 ct10), sl10⟩)
    (c10 : PySem.W.codeIn K cd10 "_is_word" = true) (k10 : PySem.W.keepIn K (.ref f10) = true)
    (a11 : PySem.W.nsIn K mainGlobals "_is_bare" = some (some (.ref f11)))
    (l11 : K.lookup f11 = some ⟨oc11, od11, .func (PySem.W.fnOf "_is_bare" "_is_bare" (defArgs s__is_bare) (defBody s__is_bare) (defScope s__is_bare) .none kV11 dc11 pm11 an11 cd11 ct11), sl11⟩)
    (c11 : PySem.W.codeIn K cd11 "_is_bare" = true) (k11 : PySem.W.keepIn K (.ref f11) = true)
    (a12 : PySem.W.nsIn K mainGlobals "_are_slots" = some (some (.ref f12)))
    (l12 : K.lookup f12 = some ⟨oc12, od12, .func (PySem.W.fnOf "_are_slots" "_are_slots" (defArgs s__are_slots) (defBody s__are_slots) (defScope s__are_slots) .none kV12 dc12 pm12 an12 cd12 ct12), sl12⟩)
    (c12 : PySem.W.codeIn K cd12 "_are_slots" = true) (k12 : PySem.W.keepIn K (.ref f12) = true)
    (a13 : PySem.W.nsIn K mainGlobals "_law_pen" = some (some (.ref f13)))
    (l13 : K.lookup f13 = some ⟨oc13, od13, .func (PySem.W.fnOf "_law_pen" "_law_pen" (defArgs s__law_pen) (defBody s__law_pen) (defScope s__law_pen) .none kV13 dc13 pm13 an13 cd13 ct13), sl13⟩)
    (c13 : PySem.W.codeIn K cd13 "_law_pen" = true) (k13 : PySem.W.keepIn K (.ref f13) = true)
    (a14 : PySem.W.nsIn K mainGlobals "_law_draw" = some (some (.ref f14)))
    (l14 : K.lookup f14 = some ⟨oc14, od14, .func (PySem.W.fnOf "_law_draw" "_law_draw" (defArgs s__law_draw) (defBody s__law_draw) (defScope s__law_draw) .none kV14 dc14 pm14 an14 cd14 ct14), sl14⟩)
    (c14 : PySem.W.codeIn K cd14 "_law_draw" = true) (k14 : PySem.W.keepIn K (.ref f14) = true)
    (a15 : PySem.W.nsIn K mainGlobals "_law_pick" = some (some (.ref f15)))
    (l15 : K.lookup f15 = some ⟨oc15, od15, .func (PySem.W.fnOf "_law_pick" "_law_pick" (defArgs s__law_pick) (defBody s__law_pick) (defScope s__law_pick) .none kV15 dc15 pm15 an15 cd15 ct15), sl15⟩)
    (c15 : PySem.W.codeIn K cd15 "_law_pick" = true) (k15 : PySem.W.keepIn K (.ref f15) = true)
    (a16 : PySem.W.nsIn K mainGlobals "_law_odd" = some (some (.ref f16)))
    (l16 : K.lookup f16 = some ⟨oc16, od16, .func (PySem.W.fnOf "_law_odd" "_law_odd" (defArgs s__law_odd) (defBody s__law_odd) (defScope s__law_odd) .none kV16 dc16 pm16 an16 cd16 ct16), sl16⟩)
    (c16 : PySem.W.codeIn K cd16 "_law_odd" = true) (k16 : PySem.W.keepIn K (.ref f16) = true)
    (a17 : PySem.W.nsIn K mainGlobals "_law_spot" = some (some (.ref f17)))
    (l17 : K.lookup f17 = some ⟨oc17, od17, .func (PySem.W.fnOf "_law_spot" "_law_spot" (defArgs s__law_spot) (defBody s__law_spot) (defScope s__law_spot) .none kV17 dc17 pm17 an17 cd17 ct17), sl17⟩)
    (c17 : PySem.W.codeIn K cd17 "_law_spot" = true) (k17 : PySem.W.keepIn K (.ref f17) = true)
    (a18 : PySem.W.nsIn K mainGlobals "_law_number" = some (some (.ref f18)))
    (l18 : K.lookup f18 = some ⟨oc18, od18, .func (PySem.W.fnOf "_law_number" "_law_number" (defArgs s__law_number) (defBody s__law_number) (defScope s__law_number) .none kV18 dc18 pm18 an18 cd18 ct18), sl18⟩)
    (c18 : PySem.W.codeIn K cd18 "_law_number" = true) (k18 : PySem.W.keepIn K (.ref f18) = true)
    (a19 : PySem.W.nsIn K mainGlobals "_law_view" = some (some (.ref f19)))
    (l19 : K.lookup f19 = some ⟨oc19, od19, .func (PySem.W.fnOf "_law_view" "_law_view" (defArgs s__law_view) (defBody s__law_view) (defScope s__law_view) .none kV19 dc19 pm19 an19 cd19 ct19), sl19⟩)
    (c19 : PySem.W.codeIn K cd19 "_law_view" = true) (k19 : PySem.W.keepIn K (.ref f19) = true)
    (a20 : PySem.W.nsIn K mainGlobals "_law_key" = some (some (.ref f20)))
    (l20 : K.lookup f20 = some ⟨oc20, od20, .func (PySem.W.fnOf "_law_key" "_law_key" (defArgs s__law_key) (defBody s__law_key) (defScope s__law_key) .none kV20 dc20 pm20 an20 cd20 ct20), sl20⟩)
    (c20 : PySem.W.codeIn K cd20 "_law_key" = true) (k20 : PySem.W.keepIn K (.ref f20) = true)
    (a21 : PySem.W.nsIn K mainGlobals "_law_value" = some (some (.ref f21)))
    (l21 : K.lookup f21 = some ⟨oc21, od21, .func (PySem.W.fnOf "_law_value" "_law_value" (defArgs s__law_value) (defBody s__law_value) (defScope s__law_value) .none kV21 dc21 pm21 an21 cd21 ct21), sl21⟩)
    (c21 : PySem.W.codeIn K cd21 "_law_value" = true) (k21 : PySem.W.keepIn K (.ref f21) = true)
    (a22 : PySem.W.nsIn K mainGlobals "_law_row" = some (some (.ref f22)))
    (l22 : K.lookup f22 = some ⟨oc22, od22, .func (PySem.W.fnOf "_law_row" "_law_row" (defArgs s__law_row) (defBody s__law_row) (defScope s__law_row) .none kV22 dc22 pm22 an22 cd22 ct22), sl22⟩)
    (c22 : PySem.W.codeIn K cd22 "_law_row" = true) (k22 : PySem.W.keepIn K (.ref f22) = true)
    (a23 : PySem.W.nsIn K mainGlobals "_law_whole" = some (some (.ref f23)))
    (l23 : K.lookup f23 = some ⟨oc23, od23, .func (PySem.W.fnOf "_law_whole" "_law_whole" (defArgs s__law_whole) (defBody s__law_whole) (defScope s__law_whole) .none kV23 dc23 pm23 an23 cd23 ct23), sl23⟩)
    (c23 : PySem.W.codeIn K cd23 "_law_whole" = true) (k23 : PySem.W.keepIn K (.ref f23) = true)
    (a24 : PySem.W.nsIn K mainGlobals "_law_made_of" = some (some (.ref f24)))
    (l24 : K.lookup f24 = some ⟨oc24, od24, .func (PySem.W.fnOf "_law_made_of" "_law_made_of" (defArgs s__law_made_of) (defBody s__law_made_of) (defScope s__law_made_of) .none kV24 dc24 pm24 an24 cd24 ct24), sl24⟩)
    (c24 : PySem.W.codeIn K cd24 "_law_made_of" = true) (k24 : PySem.W.keepIn K (.ref f24) = true)
    (a25 : PySem.W.nsIn K mainGlobals "_law_slots" = some (some (.ref f25)))
    (l25 : K.lookup f25 = some ⟨oc25, od25, .func (PySem.W.fnOf "_law_slots" "_law_slots" (defArgs s__law_slots) (defBody s__law_slots) (defScope s__law_slots) .none kV25 dc25 pm25 an25 cd25 ct25), sl25⟩)
    (c25 : PySem.W.codeIn K cd25 "_law_slots" = true) (k25 : PySem.W.keepIn K (.ref f25) = true)
    (a26 : PySem.W.nsIn K mainGlobals "_law_fits" = some (some (.ref f26)))
    (l26 : K.lookup f26 = some ⟨oc26, od26, .func (PySem.W.fnOf "_law_fits" "_law_fits" (defArgs s__law_fits) (defBody s__law_fits) (defScope s__law_fits) .none kV26 dc26 pm26 an26 cd26 ct26), sl26⟩)
    (c26 : PySem.W.codeIn K cd26 "_law_fits" = true) (k26 : PySem.W.keepIn K (.ref f26) = true)
    (a27 : PySem.W.nsIn K mainGlobals "_law_form" = some (some (.ref f27)))
    (l27 : K.lookup f27 = some ⟨oc27, od27, .func (PySem.W.fnOf "_law_form" "_law_form" (defArgs s__law_form) (defBody s__law_form) (defScope s__law_form) .none kV27 dc27 pm27 an27 cd27 ct27), sl27⟩)
    (c27 : PySem.W.codeIn K cd27 "_law_form" = true) (k27 : PySem.W.keepIn K (.ref f27) = true)
    (a28 : PySem.W.nsIn K mainGlobals "_law_is_row" = some (some (.ref f28)))
    (l28 : K.lookup f28 = some ⟨oc28, od28, .func (PySem.W.fnOf "_law_is_row" "_law_is_row" (defArgs s__law_is_row) (defBody s__law_is_row) (defScope s__law_is_row) .none kV28 dc28 pm28 an28 cd28 ct28), sl28⟩)
    (c28 : PySem.W.codeIn K cd28 "_law_is_row" = true) (k28 : PySem.W.keepIn K (.ref f28) = true)
    (a29 : PySem.W.nsIn K mainGlobals "_law_bent" = some (some (.ref f29)))
    (l29 : K.lookup f29 = some ⟨oc29, od29, .func (PySem.W.fnOf "_law_bent" "_law_bent" (defArgs s__law_bent) (defBody s__law_bent) (defScope s__law_bent) .none kV29 dc29 pm29 an29 cd29 ct29), sl29⟩)
    (c29 : PySem.W.codeIn K cd29 "_law_bent" = true) (k29 : PySem.W.keepIn K (.ref f29) = true)
    (a30 : PySem.W.nsIn K mainGlobals "_is_put" = some (some (.ref f30)))
    (l30 : K.lookup f30 = some ⟨oc30, od30, .func (PySem.W.fnOf "_is_put" "_is_put" (defArgs s__is_put) (defBody s__is_put) (defScope s__is_put) .none kV30 dc30 pm30 an30 cd30 ct30), sl30⟩)
    (c30 : PySem.W.codeIn K cd30 "_is_put" = true) (k30 : PySem.W.keepIn K (.ref f30) = true)
    (a31 : PySem.W.nsIn K mainGlobals "_is_change" = some (some (.ref f31)))
    (l31 : K.lookup f31 = some ⟨oc31, od31, .func (PySem.W.fnOf "_is_change" "_is_change" (defArgs s__is_change) (defBody s__is_change) (defScope s__is_change) .none kV31 dc31 pm31 an31 cd31 ct31), sl31⟩)
    (c31 : PySem.W.codeIn K cd31 "_is_change" = true) (k31 : PySem.W.keepIn K (.ref f31) = true)
    (a32 : PySem.W.nsIn K mainGlobals "_is_clean" = some (some (.ref f32)))
    (l32 : K.lookup f32 = some ⟨oc32, od32, .func (PySem.W.fnOf "_is_clean" "_is_clean" (defArgs s__is_clean) (defBody s__is_clean) (defScope s__is_clean) .none kV32 dc32 pm32 an32 cd32 ct32), sl32⟩)
    (c32 : PySem.W.codeIn K cd32 "_is_clean" = true) (k32 : PySem.W.keepIn K (.ref f32) = true)
    (a33 : PySem.W.nsIn K mainGlobals "_is_tidy" = some (some (.ref f33)))
    (l33 : K.lookup f33 = some ⟨oc33, od33, .func (PySem.W.fnOf "_is_tidy" "_is_tidy" (defArgs s__is_tidy) (defBody s__is_tidy) (defScope s__is_tidy) .none kV33 dc33 pm33 an33 cd33 ct33), sl33⟩)
    (c33 : PySem.W.codeIn K cd33 "_is_tidy" = true) (k33 : PySem.W.keepIn K (.ref f33) = true)
    (a34 : PySem.W.nsIn K mainGlobals "is_row" = some (some (.ref f34)))
    (l34 : K.lookup f34 = some ⟨oc34, od34, .func (PySem.W.fnOf "is_row" "is_row" (defArgs s_is_row) (defBody s_is_row) (defScope s_is_row) .none kV34 dc34 pm34 an34 cd34 ct34), sl34⟩)
    (c34 : PySem.W.codeIn K cd34 "is_row" = true) (k34 : PySem.W.keepIn K (.ref f34) = true)
    (a35 : PySem.W.nsIn K mainGlobals "law" = some (some (.ref f35)))
    (l35 : K.lookup f35 = some ⟨oc35, od35, .func (PySem.W.fnOf "law" "law" (defArgs s_law) (defBody s_law) (defScope s_law) .none kV35 dc35 pm35 an35 cd35 ct35), sl35⟩)
    (c35 : PySem.W.codeIn K cd35 "law" = true) (k35 : PySem.W.keepIn K (.ref f35) = true) : ∀ fa, mg "law" = some (.ref fa) → TopOk l.prog w K mg fa "_law_script" (spM K 1 m_law) := by
  have T : Txt w K mg := ⟨PySem.W.mg_none_of X G z0, PySem.W.mg_none_of X G z1, PySem.W.mg_none_of X G z2, PySem.W.mg_none_of X G z3, PySem.W.mg_none_of X G z4, PySem.W.mg_none_of X G z5, PySem.W.mg_none_of X G z6, PySem.W.mg_none_of X G z7, PySem.W.mg_none_of X G z8, PySem.W.mg_none_of X G z9, PySem.W.mg_none_of X G z10, PySem.W.mg_none_of X G z11, PySem.W.mg_none_of X G z12, ⟨_, PySem.W.mg_of X G y0⟩, ⟨_, PySem.W.mg_of X G y1⟩, ⟨_, PySem.W.mg_of X G y2⟩, ⟨_, PySem.W.mg_of X G y3⟩, ⟨_, PySem.W.mg_of X G y4⟩, ⟨_, PySem.W.mg_of X G q0a, ktab_of ⟨q0b, q0k, q0s⟩ (⟨⟨_, rfl⟩, ⟨.ref q0r0p, rfl, rv_ktup q0r0l (by simp) ⟨[V.str "number", V.str "outer"], .cons ⟨_, rfl⟩ (.cons ⟨_, rfl⟩ .nil), fun _ => .cons (.str _) (.cons (.str _) .nil)⟩⟩, ⟨⟨_, rfl⟩, ⟨.ref q0r1p, rfl, rv_ktup q0r1l (by simp) ⟨[V.str "number", V.str "page", V.str "slot", V.str "key", V.str "value"], .cons ⟨_, rfl⟩ (.cons ⟨_, rfl⟩ (.cons ⟨_, rfl⟩ (.cons ⟨_, rfl⟩ (.cons ⟨_, rfl⟩ .nil)))), fun _ => .cons (.str _) (.cons (.str _) (.cons (.str _) (.cons (.str _) (.cons (.str _) .nil))))⟩⟩, ⟨⟨_, rfl⟩, ⟨.ref q0r2p, rfl, rv_ktup q0r2l (by simp) ⟨[V.str "number", V.str "page", V.str "slot", V.str "page", V.str "slot", V.str "value"], .cons ⟨_, rfl⟩ (.cons ⟨_, rfl⟩ (.cons ⟨_, rfl⟩ (.cons ⟨_, rfl⟩ (.cons ⟨_, rfl⟩ (.cons ⟨_, rfl⟩ .nil))))), fun _ => .cons (.str _) (.cons (.str _) (.cons (.str _) (.cons (.str _) (.cons (.str _) (.cons (.str _) .nil)))))⟩⟩, ⟨⟨_, rfl⟩, ⟨.ref q0r3p, rfl, rv_ktup q0r3l (by simp) ⟨[V.str "number", V.str "page", V.str "slot"], .cons ⟨_, rfl⟩ (.cons ⟨_, rfl⟩ (.cons ⟨_, rfl⟩ .nil)), fun _ => .cons (.str _) (.cons (.str _) (.cons (.str _) .nil))⟩⟩, ⟨⟨_, rfl⟩, ⟨.ref q0r4p, rfl, rv_ktup q0r4l (by simp) ⟨[V.str "number", V.str "page", V.str "slot"], .cons ⟨_, rfl⟩ (.cons ⟨_, rfl⟩ (.cons ⟨_, rfl⟩ .nil)), fun _ => .cons (.str _) (.cons (.str _) (.cons (.str _) .nil))⟩⟩, ⟨⟨_, rfl⟩, ⟨.ref q0r5p, rfl, rv_ktup q0r5l (by simp) ⟨[V.str "number", V.str "page", V.str "slot"], .cons ⟨_, rfl⟩ (.cons ⟨_, rfl⟩ (.cons ⟨_, rfl⟩ .nil)), fun _ => .cons (.str _) (.cons (.str _) (.cons (.str _) .nil))⟩⟩, ⟨⟨_, rfl⟩, ⟨.ref q0r6p, rfl, rv_ktup q0r6l (by simp) ⟨[V.str "number"], .cons ⟨_, rfl⟩ .nil, fun _ => .cons (.str _) .nil⟩⟩, ⟨⟨_, rfl⟩, ⟨.ref q0r7p, rfl, rv_ktup q0r7l (by simp) ⟨[V.str "number"], .cons ⟨_, rfl⟩ .nil, fun _ => .cons (.str _) .nil⟩⟩, ⟨⟨_, rfl⟩, ⟨.ref q0r8p, rfl, rv_ktup q0r8l (by simp) ⟨[V.str "number", V.str "view"], .cons ⟨_, rfl⟩ (.cons ⟨_, rfl⟩ .nil), fun _ => .cons (.str _) (.cons (.str _) .nil)⟩⟩, ⟨⟨_, rfl⟩, ⟨.ref q0r9p, rfl, rv_ktup q0r9l (by simp) ⟨[V.str "page", V.str "removed", V.str "marked"], .cons ⟨_, rfl⟩ (.cons ⟨_, rfl⟩ (.cons ⟨_, rfl⟩ .nil)), fun _ => .cons (.str _) (.cons (.str _) (.cons (.str _) .nil))⟩⟩, ⟨⟨_, rfl⟩, ⟨.ref q0r10p, rfl, rv_ktup q0r10l (by simp) ⟨[V.str "page", V.str "tidied"], .cons ⟨_, rfl⟩ (.cons ⟨_, rfl⟩ .nil), fun _ => .cons (.str _) (.cons (.str _) .nil)⟩⟩, ⟨⟨_, rfl⟩, ⟨.ref q0r11p, rfl, rv_ktup q0r11l (by simp) ⟨[], .nil, fun _ => .nil⟩⟩, ⟨⟨_, rfl⟩, ⟨.ref q0r12p, rfl, rv_ktup q0r12l (by simp) ⟨[V.str "told"], .cons ⟨_, rfl⟩ .nil, fun _ => .cons (.str _) .nil⟩⟩, ⟨⟨_, rfl⟩, ⟨.ref q0r13p, rfl, rv_ktup q0r13l (by simp) ⟨[], .nil, fun _ => .nil⟩⟩, trivial⟩⟩⟩⟩⟩⟩⟩⟩⟩⟩⟩⟩⟩⟩)⟩, ⟨_, PySem.W.mg_of X G e0a, ftab_of ⟨e0b, e0k, e0s⟩ (⟨⟨_, rfl⟩, ⟨_, rfl, PySem.W.mg_of X G a6⟩, ⟨⟨_, rfl⟩, ⟨_, rfl, PySem.W.mg_of X G a30⟩, ⟨⟨_, rfl⟩, ⟨_, rfl, PySem.W.mg_of X G a31⟩, ⟨⟨_, rfl⟩, ⟨_, rfl, PySem.W.mg_of X G a7⟩, ⟨⟨_, rfl⟩, ⟨_, rfl, PySem.W.mg_of X G a7⟩, ⟨⟨_, rfl⟩, ⟨_, rfl, PySem.W.mg_of X G a7⟩, ⟨⟨_, rfl⟩, ⟨_, rfl, PySem.W.mg_of X G a8⟩, ⟨⟨_, rfl⟩, ⟨_, rfl, PySem.W.mg_of X G a8⟩, ⟨⟨_, rfl⟩, ⟨_, rfl, PySem.W.mg_of X G a9⟩, ⟨⟨_, rfl⟩, ⟨_, rfl, PySem.W.mg_of X G a32⟩, ⟨⟨_, rfl⟩, ⟨_, rfl, PySem.W.mg_of X G a33⟩, ⟨⟨_, rfl⟩, ⟨_, rfl, PySem.W.mg_of X G a11⟩, ⟨⟨_, rfl⟩, ⟨_, rfl, PySem.W.mg_of X G a10⟩, ⟨⟨_, rfl⟩, ⟨_, rfl, PySem.W.mg_of X G a11⟩, trivial⟩⟩⟩⟩⟩⟩⟩⟩⟩⟩⟩⟩⟩⟩)⟩⟩
  have D_is_key : DefAt K mg "is_key" s_is_key ps_is_key := ⟨⟨_, _, fun_mk (st := s_is_key) l0 c0 k0, PySem.W.mg_of X G a0, (fun_mk (st := s_is_key) l0 c0 k0).binds (ps := ps_is_key) fun _ _ _ _ _ _ us hl => match us, hl with | [_], _ => rfl⟩⟩
  have D_is_value : DefAt K mg "is_value" s_is_value ps_is_value := ⟨⟨_, _, fun_mk (st := s_is_value) l1 c1 k1, PySem.W.mg_of X G a1, (fun_mk (st := s_is_value) l1 c1 k1).binds (ps := ps_is_value) fun _ _ _ _ _ _ us hl => match us, hl with | [_], _ => rfl⟩⟩
  have D_is_number : DefAt K mg "is_number" s_is_number ps_is_number := ⟨⟨_, _, fun_mk (st := s_is_number) l2 c2 k2, PySem.W.mg_of X G a2, (fun_mk (st := s_is_number) l2 c2 k2).binds (ps := ps_is_number) fun _ _ _ _ _ _ us hl => match us, hl with | [_], _ => rfl⟩⟩
  have D_is_view : DefAt K mg "is_view" s_is_view ps_is_view := ⟨⟨_, _, fun_mk (st := s_is_view) l3 c3 k3, PySem.W.mg_of X G a3, (fun_mk (st := s_is_view) l3 c3 k3).binds (ps := ps_is_view) fun _ _ _ _ _ _ us hl => match us, hl with | [_], _ => rfl⟩⟩
  have D_is_place : DefAt K mg "is_place" s_is_place ps_is_place := ⟨⟨_, _, fun_mk (st := s_is_place) l4 c4 k4, PySem.W.mg_of X G a4, (fun_mk (st := s_is_place) l4 c4 k4).binds (ps := ps_is_place) fun _ _ _ _ _ _ us hl => match us, hl with | [_], _ => rfl⟩⟩
  have D_is_ascending : DefAt K mg "is_ascending" s_is_ascending ps_is_ascending := ⟨⟨_, _, fun_mk (st := s_is_ascending) l5 c5 k5, PySem.W.mg_of X G a5, (fun_mk (st := s_is_ascending) l5 c5 k5).binds (ps := ps_is_ascending) fun _ _ _ _ _ _ us hl => match us, hl with | [_], _ => rfl⟩⟩
  have D__is_open : DefAt K mg "_is_open" s__is_open ps__is_open := ⟨⟨_, _, fun_mk (st := s__is_open) l6 c6 k6, PySem.W.mg_of X G a6, (fun_mk (st := s__is_open) l6 c6 k6).binds (ps := ps__is_open) fun _ _ _ _ _ _ us hl => match us, hl with | [_], _ => rfl⟩⟩
  have D__is_touching : DefAt K mg "_is_touching" s__is_touching ps__is_touching := ⟨⟨_, _, fun_mk (st := s__is_touching) l7 c7 k7, PySem.W.mg_of X G a7, (fun_mk (st := s__is_touching) l7 c7 k7).binds (ps := ps__is_touching) fun _ _ _ _ _ _ us hl => match us, hl with | [_], _ => rfl⟩⟩
  have D__is_ending : DefAt K mg "_is_ending" s__is_ending ps__is_ending := ⟨⟨_, _, fun_mk (st := s__is_ending) l8 c8 k8, PySem.W.mg_of X G a8, (fun_mk (st := s__is_ending) l8 c8 k8).binds (ps := ps__is_ending) fun _ _ _ _ _ _ us hl => match us, hl with | [_], _ => rfl⟩⟩
  have D__is_prepare : DefAt K mg "_is_prepare" s__is_prepare ps__is_prepare := ⟨⟨_, _, fun_mk (st := s__is_prepare) l9 c9 k9, PySem.W.mg_of X G a9, (fun_mk (st := s__is_prepare) l9 c9 k9).binds (ps := ps__is_prepare) fun _ _ _ _ _ _ us hl => match us, hl with | [_], _ => rfl⟩⟩
  have D__is_word : DefAt K mg "_is_word" s__is_word ps__is_word := ⟨⟨_, _, fun_mk (st := s__is_word) l10 c10 k10, PySem.W.mg_of X G a10, (fun_mk (st := s__is_word) l10 c10 k10).binds (ps := ps__is_word) fun _ _ _ _ _ _ us hl => match us, hl with | [_], _ => rfl⟩⟩
  have D__is_bare : DefAt K mg "_is_bare" s__is_bare ps__is_bare := ⟨⟨_, _, fun_mk (st := s__is_bare) l11 c11 k11, PySem.W.mg_of X G a11, (fun_mk (st := s__is_bare) l11 c11 k11).binds (ps := ps__is_bare) fun _ _ _ _ _ _ us hl => match us, hl with | [_], _ => rfl⟩⟩
  have D__are_slots : DefAt K mg "_are_slots" s__are_slots ps__are_slots := ⟨⟨_, _, fun_mk (st := s__are_slots) l12 c12 k12, PySem.W.mg_of X G a12, (fun_mk (st := s__are_slots) l12 c12 k12).binds (ps := ps__are_slots) fun _ _ _ _ _ _ us hl => match us, hl with | [_], _ => rfl⟩⟩
  have D__law_pen : DefAt K mg "_law_pen" s__law_pen ps__law_pen := ⟨⟨_, _, fun_mk (st := s__law_pen) l13 c13 k13, PySem.W.mg_of X G a13, (fun_mk (st := s__law_pen) l13 c13 k13).binds (ps := ps__law_pen) fun _ _ _ _ _ _ us hl => match us, hl with | [_], _ => rfl⟩⟩
  have D__law_draw : DefAt K mg "_law_draw" s__law_draw ps__law_draw := ⟨⟨_, _, fun_mk (st := s__law_draw) l14 c14 k14, PySem.W.mg_of X G a14, (fun_mk (st := s__law_draw) l14 c14 k14).binds (ps := ps__law_draw) fun _ _ _ _ _ _ us hl => match us, hl with | [_, _], _ => rfl⟩⟩
  have D__law_pick : DefAt K mg "_law_pick" s__law_pick ps__law_pick := ⟨⟨_, _, fun_mk (st := s__law_pick) l15 c15 k15, PySem.W.mg_of X G a15, (fun_mk (st := s__law_pick) l15 c15 k15).binds (ps := ps__law_pick) fun _ _ _ _ _ _ us hl => match us, hl with | [_, _], _ => rfl⟩⟩
  have D__law_odd : DefAt K mg "_law_odd" s__law_odd ps__law_odd := ⟨⟨_, _, fun_mk (st := s__law_odd) l16 c16 k16, PySem.W.mg_of X G a16, (fun_mk (st := s__law_odd) l16 c16 k16).binds (ps := ps__law_odd) fun _ _ _ _ _ _ us hl => match us, hl with | [_], _ => rfl⟩⟩
  have D__law_spot : DefAt K mg "_law_spot" s__law_spot ps__law_spot := ⟨⟨_, _, fun_mk (st := s__law_spot) l17 c17 k17, PySem.W.mg_of X G a17, (fun_mk (st := s__law_spot) l17 c17 k17).binds (ps := ps__law_spot) fun _ _ _ _ _ _ us hl => match us, hl with | [_], _ => rfl⟩⟩
  have D__law_number : DefAt K mg "_law_number" s__law_number ps__law_number := ⟨⟨_, _, fun_mk (st := s__law_number) l18 c18 k18, PySem.W.mg_of X G a18, (fun_mk (st := s__law_number) l18 c18 k18).binds (ps := ps__law_number) fun _ _ _ _ _ _ us hl => match us, hl with | [_], _ => rfl⟩⟩
  have D__law_view : DefAt K mg "_law_view" s__law_view ps__law_view := ⟨⟨_, _, fun_mk (st := s__law_view) l19 c19 k19, PySem.W.mg_of X G a19, (fun_mk (st := s__law_view) l19 c19 k19).binds (ps := ps__law_view) fun _ _ _ _ _ _ us hl => match us, hl with | [_], _ => rfl⟩⟩
  have D__law_key : DefAt K mg "_law_key" s__law_key ps__law_key := ⟨⟨_, _, fun_mk (st := s__law_key) l20 c20 k20, PySem.W.mg_of X G a20, (fun_mk (st := s__law_key) l20 c20 k20).binds (ps := ps__law_key) fun _ _ _ _ _ _ us hl => match us, hl with | [_], _ => rfl⟩⟩
  have D__law_value : DefAt K mg "_law_value" s__law_value ps__law_value := ⟨⟨_, _, fun_mk (st := s__law_value) l21 c21 k21, PySem.W.mg_of X G a21, (fun_mk (st := s__law_value) l21 c21 k21).binds (ps := ps__law_value) fun _ _ _ _ _ _ us hl => match us, hl with | [_], _ => rfl⟩⟩
  have D__law_row : DefAt K mg "_law_row" s__law_row ps__law_row := ⟨⟨_, _, fun_mk (st := s__law_row) l22 c22 k22, PySem.W.mg_of X G a22, (fun_mk (st := s__law_row) l22 c22 k22).binds (ps := ps__law_row) fun _ _ _ _ _ _ us hl => match us, hl with | [_], _ => rfl⟩⟩
  have D__law_whole : DefAt K mg "_law_whole" s__law_whole ps__law_whole := ⟨⟨_, _, fun_mk (st := s__law_whole) l23 c23 k23, PySem.W.mg_of X G a23, (fun_mk (st := s__law_whole) l23 c23 k23).binds (ps := ps__law_whole) fun _ _ _ _ _ _ us hl => match us, hl with | [_, _, _], _ => rfl⟩⟩
  have D__law_made_of : DefAt K mg "_law_made_of" s__law_made_of ps__law_made_of := ⟨⟨_, _, fun_mk (st := s__law_made_of) l24 c24 k24, PySem.W.mg_of X G a24, (fun_mk (st := s__law_made_of) l24 c24 k24).binds (ps := ps__law_made_of) fun _ _ _ _ _ _ us hl => match us, hl with | [_, _], _ => rfl⟩⟩
  have D__law_slots : DefAt K mg "_law_slots" s__law_slots ps__law_slots := ⟨⟨_, _, fun_mk (st := s__law_slots) l25 c25 k25, PySem.W.mg_of X G a25, (fun_mk (st := s__law_slots) l25 c25 k25).binds (ps := ps__law_slots) fun _ _ _ _ _ _ us hl => match us, hl with | [_], _ => rfl⟩⟩
  have D__law_fits : DefAt K mg "_law_fits" s__law_fits ps__law_fits := ⟨⟨_, _, fun_mk (st := s__law_fits) l26 c26 k26, PySem.W.mg_of X G a26, (fun_mk (st := s__law_fits) l26 c26 k26).binds (ps := ps__law_fits) fun _ _ _ _ _ _ us hl => match us, hl with | [_, _], _ => rfl⟩⟩
  have D__law_form : DefAt K mg "_law_form" s__law_form ps__law_form := ⟨⟨_, _, fun_mk (st := s__law_form) l27 c27 k27, PySem.W.mg_of X G a27, (fun_mk (st := s__law_form) l27 c27 k27).binds (ps := ps__law_form) fun _ _ _ _ _ _ us hl => match us, hl with | [_], _ => rfl⟩⟩
  have D__law_is_row : DefAt K mg "_law_is_row" s__law_is_row ps__law_is_row := ⟨⟨_, _, fun_mk (st := s__law_is_row) l28 c28 k28, PySem.W.mg_of X G a28, (fun_mk (st := s__law_is_row) l28 c28 k28).binds (ps := ps__law_is_row) fun _ _ _ _ _ _ us hl => match us, hl with | [_], _ => rfl⟩⟩
  have D__law_bent : DefAt K mg "_law_bent" s__law_bent ps__law_bent := ⟨⟨_, _, fun_mk (st := s__law_bent) l29 c29 k29, PySem.W.mg_of X G a29, (fun_mk (st := s__law_bent) l29 c29 k29).binds (ps := ps__law_bent) fun _ _ _ _ _ _ us hl => match us, hl with | [_, _], _ => rfl⟩⟩
  have D__is_put : DefAt K mg "_is_put" s__is_put ps__is_put := ⟨⟨_, _, fun_mk (st := s__is_put) l30 c30 k30, PySem.W.mg_of X G a30, (fun_mk (st := s__is_put) l30 c30 k30).binds (ps := ps__is_put) fun _ _ _ _ _ _ us hl => match us, hl with | [_], _ => rfl⟩⟩
  have D__is_change : DefAt K mg "_is_change" s__is_change ps__is_change := ⟨⟨_, _, fun_mk (st := s__is_change) l31 c31 k31, PySem.W.mg_of X G a31, (fun_mk (st := s__is_change) l31 c31 k31).binds (ps := ps__is_change) fun _ _ _ _ _ _ us hl => match us, hl with | [_], _ => rfl⟩⟩
  have D__is_clean : DefAt K mg "_is_clean" s__is_clean ps__is_clean := ⟨⟨_, _, fun_mk (st := s__is_clean) l32 c32 k32, PySem.W.mg_of X G a32, (fun_mk (st := s__is_clean) l32 c32 k32).binds (ps := ps__is_clean) fun _ _ _ _ _ _ us hl => match us, hl with | [_], _ => rfl⟩⟩
  have D__is_tidy : DefAt K mg "_is_tidy" s__is_tidy ps__is_tidy := ⟨⟨_, _, fun_mk (st := s__is_tidy) l33 c33 k33, PySem.W.mg_of X G a33, (fun_mk (st := s__is_tidy) l33 c33 k33).binds (ps := ps__is_tidy) fun _ _ _ _ _ _ us hl => match us, hl with | [_], _ => rfl⟩⟩
  have D_is_row : DefAt K mg "is_row" s_is_row ps_is_row := ⟨⟨_, _, fun_mk (st := s_is_row) l34 c34 k34, PySem.W.mg_of X G a34, (fun_mk (st := s_is_row) l34 c34 k34).binds (ps := ps_is_row) fun _ _ _ _ _ _ us hl => match us, hl with | [_], _ => rfl⟩⟩
  have D_law : DefAt K mg "law" s_law ps_law := ⟨⟨_, _, fun_mk (st := s_law) l35 c35 k35, PySem.W.mg_of X G a35, (fun_mk (st := s_law) l35 c35 k35).binds (ps := ps_law) fun _ _ _ _ _ _ us hl => match us, hl with | [_], _ => rfl⟩⟩
  refine ok_law T D_law fun base _ _ => ?_
  have O_is_key := ok_is_key (P := l.prog) (w := w) (base := base) T D_is_key 
  have O_is_value := ok_is_value (P := l.prog) (w := w) (base := base) T D_is_value 
  have O_is_number := ok_is_number (P := l.prog) (w := w) (base := base) T D_is_number 
  have O_is_view := ok_is_view (P := l.prog) (w := w) (base := base) T D_is_view 
  have O_is_place := ok_is_place (P := l.prog) (w := w) (base := base) T D_is_place 
  have O_is_ascending := ok_is_ascending (P := l.prog) (w := w) (base := base) T D_is_ascending 
  have O__is_open := ok__is_open (P := l.prog) (w := w) (base := base) T D__is_open O_is_number
  have O__is_touching := ok__is_touching (P := l.prog) (w := w) (base := base) T D__is_touching O_is_number O_is_place
  have O__is_ending := ok__is_ending (P := l.prog) (w := w) (base := base) T D__is_ending O_is_number
  have O__is_prepare := ok__is_prepare (P := l.prog) (w := w) (base := base) T D__is_prepare O_is_number O_is_view
  have O__is_word := ok__is_word (P := l.prog) (w := w) (base := base) T D__is_word O_is_view
  have O__is_bare := ok__is_bare (P := l.prog) (w := w) (base := base) T D__is_bare 
  have O__are_slots := ok__are_slots (P := l.prog) (w := w) (base := base) T D__are_slots O_is_ascending O_is_place
  have O__law_pen := ok__law_pen (P := l.prog) (w := w) (base := base) T D__law_pen 
  have O__law_draw := ok__law_draw (P := l.prog) (w := w) (base := base) T D__law_draw 
  have O__law_pick := ok__law_pick (P := l.prog) (w := w) (base := base) T D__law_pick O__law_draw
  have O__law_odd := ok__law_odd (P := l.prog) (w := w) (base := base) T D__law_odd O__law_pick
  have O__law_spot := ok__law_spot (P := l.prog) (w := w) (base := base) T D__law_spot O__law_draw
  have O__law_number := ok__law_number (P := l.prog) (w := w) (base := base) T D__law_number O__law_pick O__law_draw
  have O__law_view := ok__law_view (P := l.prog) (w := w) (base := base) T D__law_view O__law_pick O__law_draw
  have O__law_key := ok__law_key (P := l.prog) (w := w) (base := base) T D__law_key O__law_draw O__law_pick
  have O__law_value := ok__law_value (P := l.prog) (w := w) (base := base) T D__law_value O__law_draw O__law_pick
  have O__law_row := ok__law_row (P := l.prog) (w := w) (base := base) T D__law_row O__law_pick O__law_view O__law_draw O__law_value O__law_key O__law_spot O__law_number
  have O__law_whole := ok__law_whole (P := l.prog) (w := w) (base := base) T D__law_whole 
  have O__law_made_of := ok__law_made_of (P := l.prog) (w := w) (base := base) T D__law_made_of 
  have O__law_slots := ok__law_slots (P := l.prog) (w := w) (base := base) T D__law_slots O__law_whole
  have O__law_fits := ok__law_fits (P := l.prog) (w := w) (base := base) T D__law_fits O__law_slots O__law_whole O__law_made_of
  have O__law_form := ok__law_form (P := l.prog) (w := w) (base := base) T D__law_form 
  have O__law_is_row := ok__law_is_row (P := l.prog) (w := w) (base := base) T D__law_is_row O__law_fits O__law_form
  have O__law_bent := ok__law_bent (P := l.prog) (w := w) (base := base) T D__law_bent O__law_pick O__law_odd O__law_whole O__law_draw
  have O__is_put := ok__is_put (P := l.prog) (w := w) (base := base) T D__is_put O__is_touching O_is_key O_is_value
  have O__is_change := ok__is_change (P := l.prog) (w := w) (base := base) T D__is_change O__is_touching O_is_place O_is_value
  have O__is_clean := ok__is_clean (P := l.prog) (w := w) (base := base) T D__is_clean O_is_place O__are_slots
  have O__is_tidy := ok__is_tidy (P := l.prog) (w := w) (base := base) T D__is_tidy O_is_place O__are_slots
  have O_is_row := ok_is_row (P := l.prog) (w := w) (base := base) T D_is_row O__is_open O__is_put O__is_change O__is_touching O__is_ending O__is_prepare O__is_clean O__is_tidy O__is_bare O__is_word
  exact ⟨O_is_row, O__law_is_row, O__law_bent, O__law_odd, O__law_row, O__law_pen⟩
end Mi
open PySem PySem.W PyProof.Rows
set_option maxRecDepth 100000 in
set_option maxHeartbeats 0 in
theorem PySem.Challenge.cw_whoheld_k03_forms_of_rows_holds : PySem.Challenge.rw_whoheld_k03_forms_of_rows.Holds := by
  w_on; o_law; k_head; (case hw => w_witness2)
  k_fill
  refine Mi.walk_top (n := 63) (sp := fun K => Mi.spM K 1 Mi.m_law) (x := "_law_script") rfl (by decide) rfl (fun w h Y => PySem.W.kIn_of Y) ?Himp ?Hkno ?F ?S
  case Himp => decide +kernel
  case Hkno => intro p; rfl
  case F =>
    intro w mg fa h KX G hmg
    refine' Mi.fin KX G ?z0 ?z1 ?z2 ?z3 ?z4 ?z5 ?z6 ?z7 ?z8 ?z9 ?z10 ?z11 ?z12 ?y0 ?y1 ?y2 ?y3 ?y4 ?q0a ?q0b ?q0r0l ?q0r1l ?q0r2l ?q0r3l ?q0r4l ?q0r5l ?q0r6l ?q0r7l ?q0r8l ?q0r9l ?q0r10l ?q0r11l ?q0r12l ?q0r13l ?q0k ?q0s ?e0a ?e0b ?e0k ?e0s ?a0 ?l0 ?c0 ?k0 ?a1 ?l1 ?c1 ?k1 ?a2 ?l2 ?c2 ?k2 ?a3 ?l3 ?c3 ?k3 ?a4 ?l4 ?c4 ?k4 ?a5 ?l5 ?c5 ?k5 ?a6 ?l6 ?c6 ?k6 ?a7 ?l7 ?c7 ?k7 ?a8 ?l8 ?c8 ?k8 ?a9 ?l9 ?c9 ?k9 ?a10 ?l10 ?c10 ?k10 ?a11 ?l11 ?c11 ?k11 ?a12 ?l12 ?c12 ?k12 ?a13 ?l13 ?c13 ?k13 ?a14 ?l14 ?c14 ?k14 ?a15 ?l15 ?c15 ?k15 ?a16 ?l16 ?c16 ?k16 ?a17 ?l17 ?c17 ?k17 ?a18 ?l18 ?c18 ?k18 ?a19 ?l19 ?c19 ?k19 ?a20 ?l20 ?c20 ?k20 ?a21 ?l21 ?c21 ?k21 ?a22 ?l22 ?c22 ?k22 ?a23 ?l23 ?c23 ?k23 ?a24 ?l24 ?c24 ?k24 ?a25 ?l25 ?c25 ?k25 ?a26 ?l26 ?c26 ?k26 ?a27 ?l27 ?c27 ?k27 ?a28 ?l28 ?c28 ?k28 ?a29 ?l29 ?c29 ?k29 ?a30 ?l30 ?c30 ?k30 ?a31 ?l31 ?c31 ?k31 ?a32 ?l32 ?c32 ?k32 ?a33 ?l33 ?c33 ?k33 ?a34 ?l34 ?c34 ?k34 ?a35 ?l35 ?c35 ?k35 _ hmg
    (case z0 => k_is)
    (case z1 => k_is)
    (case z2 => k_is)
    (case z3 => k_is)
    (case z4 => k_is)
    (case z5 => k_is)
    (case z6 => k_is)
    (case z7 => k_is)
    (case z8 => k_is)
    (case z9 => k_is)
    (case z10 => k_is)
    (case z11 => k_is)
    (case z12 => k_is)
    (case y0 => k_is)
    (case y1 => k_is)
    (case y2 => k_is)
    (case y3 => k_is)
    (case y4 => k_is)
    (case q0a => k_is)
    (case q0b => k_is)
    (case q0r0l => k_is)
    (case q0r1l => k_is)
    (case q0r2l => k_is)
    (case q0r3l => k_is)
    (case q0r4l => k_is)
    (case q0r5l => k_is)
    (case q0r6l => k_is)
    (case q0r7l => k_is)
    (case q0r8l => k_is)
    (case q0r9l => k_is)
    (case q0r10l => k_is)
    (case q0r11l => k_is)
    (case q0r12l => k_is)
    (case q0r13l => k_is)
    (case q0k => k_keys)
    (case q0s => rfl)
    (case e0a => k_is)
    (case e0b => k_is)
    (case e0k => k_keys)
    (case e0s => rfl)
    (case a0 => k_is)
    (case l0 => k_is)
    (case c0 => k_is)
    (case k0 => k_is)
    (case a1 => k_is)
    (case l1 => k_is)
    (case c1 => k_is)
    (case k1 => k_is)
    (case a2 => k_is)
    (case l2 => k_is)
    (case c2 => k_is)
    (case k2 => k_is)
    (case a3 => k_is)
    (case l3 => k_is)
    (case c3 => k_is)
    (case k3 => k_is)
    (case a4 => k_is)
    (case l4 => k_is)
    (case c4 => k_is)
    (case k4 => k_is)
    (case a5 => k_is)
    (case l5 => k_is)
    (case c5 => k_is)
    (case k5 => k_is)
    (case a6 => k_is)
    (case l6 => k_is)
    (case c6 => k_is)
    (case k6 => k_is)
    (case a7 => k_is)
    (case l7 => k_is)
    (case c7 => k_is)
    (case k7 => k_is)
    (case a8 => k_is)
    (case l8 => k_is)
    (case c8 => k_is)
    (case k8 => k_is)
    (case a9 => k_is)
    (case l9 => k_is)
    (case c9 => k_is)
    (case k9 => k_is)
    (case a10 => k_is)
    (case l10 => k_is)
    (case c10 => k_is)
    (case k10 => k_is)
    (case a11 => k_is)
    (case l11 => k_is)
    (case c11 => k_is)
    (case k11 => k_is)
    (case a12 => k_is)
    (case l12 => k_is)
    (case c12 => k_is)
    (case k12 => k_is)
    (case a13 => k_is)
    (case l13 => k_is)
    (case c13 => k_is)
    (case k13 => k_is)
    (case a14 => k_is)
    (case l14 => k_is)
    (case c14 => k_is)
    (case k14 => k_is)
    (case a15 => k_is)
    (case l15 => k_is)
    (case c15 => k_is)
    (case k15 => k_is)
    (case a16 => k_is)
    (case l16 => k_is)
    (case c16 => k_is)
    (case k16 => k_is)
    (case a17 => k_is)
    (case l17 => k_is)
    (case c17 => k_is)
    (case k17 => k_is)
    (case a18 => k_is)
    (case l18 => k_is)
    (case c18 => k_is)
    (case k18 => k_is)
    (case a19 => k_is)
    (case l19 => k_is)
    (case c19 => k_is)
    (case k19 => k_is)
    (case a20 => k_is)
    (case l20 => k_is)
    (case c20 => k_is)
    (case k20 => k_is)
    (case a21 => k_is)
    (case l21 => k_is)
    (case c21 => k_is)
    (case k21 => k_is)
    (case a22 => k_is)
    (case l22 => k_is)
    (case c22 => k_is)
    (case k22 => k_is)
    (case a23 => k_is)
    (case l23 => k_is)
    (case c23 => k_is)
    (case k23 => k_is)
    (case a24 => k_is)
    (case l24 => k_is)
    (case c24 => k_is)
    (case k24 => k_is)
    (case a25 => k_is)
    (case l25 => k_is)
    (case c25 => k_is)
    (case k25 => k_is)
    (case a26 => k_is)
    (case l26 => k_is)
    (case c26 => k_is)
    (case k26 => k_is)
    (case a27 => k_is)
    (case l27 => k_is)
    (case c27 => k_is)
    (case k27 => k_is)
    (case a28 => k_is)
    (case l28 => k_is)
    (case c28 => k_is)
    (case k28 => k_is)
    (case a29 => k_is)
    (case l29 => k_is)
    (case c29 => k_is)
    (case k29 => k_is)
    (case a30 => k_is)
    (case l30 => k_is)
    (case c30 => k_is)
    (case k30 => k_is)
    (case a31 => k_is)
    (case l31 => k_is)
    (case c31 => k_is)
    (case k31 => k_is)
    (case a32 => k_is)
    (case l32 => k_is)
    (case c32 => k_is)
    (case k32 => k_is)
    (case a33 => k_is)
    (case l33 => k_is)
    (case c33 => k_is)
    (case k33 => k_is)
    (case a34 => k_is)
    (case l34 => k_is)
    (case c34 => k_is)
    (case k34 => k_is)
    (case a35 => k_is)
    (case l35 => k_is)
    (case c35 => k_is)
    (case k35 => k_is)
  case S =>
    intro K H a ns φ hl hO hS
    exact Mi.script_in hO hS (Mi.math ns hl)
