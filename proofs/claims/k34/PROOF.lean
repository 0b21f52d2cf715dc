import PyProof.Rows.All
import PyProof.LongRange
import HandS.Style
import PyProof.ReprRoads
import PyProof.ReprBulk
import Wide.All
import OpenK.AllK
import Wide.FinOn
import HandS.ForMost
import HandS.ForExc
import HandS.Wide
import HandS.Property
import HandS.Gcd
import HandS.ExcInit
import HandS.IsInst
import HandS.MakeKw
import KE.KMathGC
import HandS.Conv
import KE.KExcIs
import HandS.ExcIs
import HandS.ExcField
import HandS.WordsExc
import HandS.Iter
import HandS.Walk
import KE.DataMinMax
import HandS.RevRange
import HandS.SortRule
import PyProof.Rows.SetFrom
import HandS.SetFor
import HandS.Strs
import HandS.SortInts
import HandS.SetBool
import HandS.HotCalls
import HandS.ExcCtx
import HandS.ExcInitHot
import HandS.FStr
import HandS.Text
import PyProof.FitsInt
import KE.GoesEnum
import KE.GoesMore
import KE.GoesZip
import PySem.Challenge.RW_fitsizes_k34_least_fixes
set_option Elab.async false
set_option linter.all false
set_option autoImplicit false
set_option maxRecDepth 100000
/-! A calculus over the hand layer: names hold data, mutable things stand in a store, the heap is hidden. -/
namespace Gm
open PySem L2

/-! ### data -/
inductive D where
  | non | bl (b : Bool) | int (i : Int) | str (s : Str)
  | scr (ns : List Int)
  | lst (xs : List D) | tup (xs : List D)
  | obj (C : Addr) (fs : List (Str × D))
  | cls (C : Addr) | ty (n : String)
  /-- a caught error at a, its dict at dd, its value -/
  | exn (a dd : Addr) (u : D)
  /-- an error that is held: its class, its value -/
  | eob (C : Addr) (u : D)

mutual
inductive Den (K : PySem.W.Frag) (R : Hp) : V → D → Prop
  | non : Den K R .non .non
  | bl (b : Bool) : Den K R (.bl b) (.bl b)
  | int (i : Int) : Den K R (.int i) (.int i)
  | str (x : Str) : Den K R (.str x) (.str x)
  | cls (C : Addr) : Den K R (.ref C) (.cls C)
  | ty (n : String) : Den K R (.ty n) (.ty n)
  | scr {a : Addr} {ns : List Int} : SqL K R a (ns.map V.int) → Den K R (.ref a) (.scr ns)
  | lst {a : Addr} {vs : List V} {ds : List D} : R a = some (.lst vs) → Dens K R vs ds → Den K R (.ref a) (.lst ds)
  | tup {a : Addr} {vs : List V} {ds : List D} : R a = some (.tup vs) → Dens K R vs ds → Den K R (.ref a) (.tup ds)
  | obj {a C dx : Addr} {fs : List (Str × V)} {gs : List (Str × D)} : R a = some (.ins C dx fs) → DenF K R fs gs → Den K R (.ref a) (.obj C gs)
  | exn {a dd : Addr} {z : V} {u : D} : R dd = some (.xd [(("value" : Str), z)]) → Den K R z u → Den K R (.ref a) (.exn a dd u)
  | eob {a dd C : Addr} {z : V} {u : D} : R a = some (exo a C (some dd)) → R dd = some (exd dd [(("value" : Str), z)]) → Den K R z u → Den K R (.ref a) (.eob C u)
inductive Dens (K : PySem.W.Frag) (R : Hp) : List V → List D → Prop
  | nil : Dens K R [] []
  | cons {v : V} {vs : List V} {d : D} {ds : List D} : Den K R v d → Dens K R vs ds → Dens K R (v :: vs) (d :: ds)
inductive DenF (K : PySem.W.Frag) (R : Hp) : List (Str × V) → List (Str × D) → Prop
  | nil : DenF K R [] []
  | cons {x : Str} {v : V} {d : D} {fs : List (Str × V)} {gs : List (Str × D)} : Den K R v d → DenF K R fs gs → DenF K R ((x, v) :: fs) ((x, d) :: gs)
end

def Sub (R R' : Hp) : Prop := ∀ b o, R b = some o → R' b = some o
theorem Sub.refl (R : Hp) : Sub R R := fun _ _ h => h
theorem Sub.trans {R R1 R2 : Hp} (a : Sub R R1) (b : Sub R1 R2) : Sub R R2 := fun c o h => b c o (a c o h)
theorem sub_seq {K : PySem.W.Frag} {H H' : Hp} {a : Addr} {xs : List V} (e : Sub H H') (h : SqL K H a xs) : SqL K H' a xs := by
  rcases h with (h | ⟨o, h⟩) | h
  · exact .inl (.inl (e _ _ h))
  · exact .inl (.inr ⟨o, e _ _ h⟩)
  · exact .inr h

section
variable {K : PySem.W.Frag} {R R' : Hp}
mutual
theorem Den.mono (e : Sub R R') : ∀ {v : V} {d : D}, Den K R v d → Den K R' v d
  | _, _, .non => .non
  | _, _, .bl b => .bl b
  | _, _, .int i => .int i
  | _, _, .str x => .str x
  | _, _, .exn h t => .exn (e _ _ h) (Den.mono e t)
  | _, _, .eob h i t => .eob (e _ _ h) (e _ _ i) (Den.mono e t)
  | _, _, .cls C => .cls C
  | _, _, .ty n => .ty n
  | _, _, .scr h => .scr (sub_seq e h)
  | _, _, .lst h r => .lst (e _ _ h) (Dens.mono e r)
  | _, _, .tup h r => .tup (e _ _ h) (Dens.mono e r)
  | _, _, .obj h r => .obj (e _ _ h) (DenF.mono e r)
theorem Dens.mono (e : Sub R R') : ∀ {vs : List V} {ds : List D}, Dens K R vs ds → Dens K R' vs ds
  | _, _, .nil => .nil
  | _, _, .cons h r => .cons (Den.mono e h) (Dens.mono e r)
theorem DenF.mono (e : Sub R R') : ∀ {vs : List (Str × V)} {ds : List (Str × D)}, DenF K R vs ds → DenF K R' vs ds
  | _, _, .nil => .nil
  | _, _, .cons h r => .cons (Den.mono e h) (DenF.mono e r)
end
theorem Dens.len : ∀ {vs : List V} {ds : List D}, Dens K R vs ds → vs.length = ds.length
  | _, _, .nil => rfl
  | _, _, .cons _ r => congrArg (· + 1) (Dens.len r)
theorem Dens.get : ∀ {vs : List V} {ds : List D} {i : Nat} {d : D}, Dens K R vs ds → ds[i]? = some d → ∃ v, vs[i]? = some v ∧ Den K R v d
  | _, _, _, _, .nil, e => by simp at e
  | _, _, 0, _, .cons h _, e => by simp at e; subst e; exact ⟨_, rfl, h⟩
  | _, _, i + 1, _, .cons _ r, e => by
    obtain ⟨v, h1, h2⟩ := Dens.get (i := i) r (by simpa using e)
    exact ⟨v, by simpa using h1, h2⟩
theorem Dens.get2 : ∀ {vs : List V} {ds : List D} {i : Nat} {v : V}, Dens K R vs ds → vs[i]? = some v → ∃ d, ds[i]? = some d ∧ Den K R v d
  | _, _, _, _, .nil, e => by simp at e
  | _, _, 0, _, .cons h _, e => by simp at e; subst e; exact ⟨_, rfl, h⟩
  | _, _, i + 1, _, .cons _ r, e => by
    obtain ⟨v, h1, h2⟩ := Dens.get2 (i := i) r (by simpa using e)
    exact ⟨v, by simpa using h1, h2⟩
theorem Dens.append : ∀ {vs ws : List V} {ds es : List D}, Dens K R vs ds → Dens K R ws es → Dens K R (vs ++ ws) (ds ++ es)
  | _, _, _, _, .nil, s => s
  | _, _, _, _, .cons h r, s => .cons h (Dens.append r s)
theorem Dens.take : ∀ {vs : List V} {ds : List D} (n : Nat), Dens K R vs ds → Dens K R (vs.take n) (ds.take n)
  | _, _, 0, _ => by simpa using Dens.nil
  | _, _, _ + 1, .nil => .nil
  | _, _, n + 1, .cons h r => .cons h (Dens.take n r)
theorem Dens.drop : ∀ {vs : List V} {ds : List D} (n : Nat), Dens K R vs ds → Dens K R (vs.drop n) (ds.drop n)
  | _, _, 0, r => r
  | _, _, _ + 1, .nil => .nil
  | _, _, n + 1, .cons _ r => Dens.drop n r
theorem Dens.set {v : V} {d : D} (h : Den K R v d) : ∀ {vs : List V} {ds : List D} (i : Nat), Dens K R vs ds → Dens K R (vs.set i v) (ds.set i d)
  | _, _, _, .nil => .nil
  | _, _, 0, .cons _ r => .cons h r
  | _, _, i + 1, .cons h' r => .cons h' (Dens.set h i r)
theorem Dens.dropLast {vs : List V} {ds : List D} (r : Dens K R vs ds) : Dens K R vs.dropLast ds.dropLast := by
  rw [List.dropLast_eq_take, List.dropLast_eq_take, r.len]
  exact r.take _
theorem Dens.ints : ∀ {vs : List V} {ns : List Int}, Dens K R vs (ns.map D.int) → vs = ns.map V.int
  | _, [], r => by cases r; rfl
  | _, n :: ns, r => by
    cases r with
    | cons h r => cases h; rw [Dens.ints r]; rfl
theorem Dens.of_ints : ∀ (ns : List Int), Dens K R (ns.map V.int) (ns.map D.int)
  | [] => .nil
  | n :: ns => .cons (.int n) (Dens.of_ints ns)
theorem DenF.lookup {f : Str} : ∀ {fs : List (Str × V)} {gs : List (Str × D)} {d : D}, DenF K R fs gs → gs.lookup f = some d → ∃ v, fs.lookup f = some v ∧ Den K R v d
  | _, _, _, .nil, e => by simp at e
  | _, _, d, .cons (x := x) (v := v) (d := d') h r, e => by
    simp only [List.lookup_cons] at e ⊢
    cases q : (f == x) with
    | true => rw [q] at e; cases e; exact ⟨_, rfl, h⟩
    | false => rw [q] at e; exact DenF.lookup r e
theorem DenF.none {f : Str} : ∀ {fs : List (Str × V)} {gs : List (Str × D)}, DenF K R fs gs → gs.lookup f = none → fs.lookup f = none
  | _, _, .nil, _ => rfl
  | _, _, .cons (x := x) (v := v) (d := d') h r, e => by
    simp only [List.lookup_cons] at e ⊢
    cases q : (f == x) with
    | true => rw [q] at e; cases e
    | false => rw [q] at e; exact DenF.none r e
theorem DenF.len : ∀ {fs : List (Str × V)} {gs : List (Str × D)}, DenF K R fs gs → fs.length = gs.length
  | _, _, .nil => rfl
  | _, _, .cons _ r => congrArg (· + 1) (DenF.len r)
/-- a field stored, over data -/
def putG (f : Str) (d : D) : List (Str × D) → List (Str × D)
  | [] => [(f, d)]
  | (x, e) :: r => if x = f then (x, d) :: r else (x, e) :: putG f d r
theorem DenF.put {f : Str} {v : V} {d : D} (h : Den K R v d) : ∀ {fs : List (Str × V)} {gs : List (Str × D)}, DenF K R fs gs → DenF K R (putF f v fs) (putG f d gs)
  | _, _, .nil => .cons h .nil
  | _, _, .cons (x := x) (v := w) (d := e) (fs := fs) (gs := gs) h' r => by
    show DenF K R (if x = f then (x, v) :: fs else (x, w) :: putF f v fs) (if x = f then (x, d) :: gs else (x, e) :: putG f d gs)
    by_cases q : x = f
    · rw [if_pos q, if_pos q]; exact .cons h r
    · rw [if_neg q, if_neg q]; exact .cons h' (DenF.put h r)
end

/-! ### the store -/
inductive Own where
  | lst (xs : List D) | ins (C : Addr) (fs : List (Str × D)) | gone
  /-- a dict with texts as keys; a list that stands at g -/
  | dct (gs : List (Str × D)) | lat (g : Addr) (xs : List D)
  /-- a dict whose keys are pairs of numbers (what stands there is not told) -/
  | sn (ps : List (Int × Int))
inductive Ent where
  | d (x : D) | own (i : Nat) | tup (es : List Ent)

structure Wd where
  K : PySem.W.Frag
  R0 : Hp
  H0 : Hp
  as0 : List Addr

/-- the pairs of a dict whose keys are texts -/
def DenK (K : PySem.W.Frag) (R : Hp) : List (L2.Key × V) → List (Str × D) → Prop
  | [], [] => True
  | p :: ps, q :: qs => p.1 = .inr q.1 ∧ Den K R p.2 q.2 ∧ DenK K R ps qs
  | _, _ => False
theorem DenK.mono {K : PySem.W.Frag} {R R' : Hp} (r : Sub R R') : ∀ {ps : List (L2.Key × V)} {qs : List (Str × D)}, DenK K R ps qs → DenK K R' ps qs
  | [], [], _ => trivial
  | _ :: _, _ :: _, ⟨a, b, c⟩ => ⟨a, b.mono r, c.mono r⟩
  | [], _ :: _, h => h.elim
  | _ :: _, [], h => h.elim
def RegOk (K : PySem.W.Frag) (R H : Hp) (a : Addr) : Own → Prop
  | .lst xs => R a = none ∧ ∃ vs, H a = some (.lst vs) ∧ Dens K R vs xs
  | .ins C gs => R a = none ∧ ∃ dx fs, H a = some (.ins C dx fs) ∧ DenF K R fs gs
  | .gone => True
  | .dct gs => R a = none ∧ ∃ kvs, H a = some (.dK kvs) ∧ DenK K R kvs gs
  | .lat g xs => a = g ∧ R a = none ∧ ∃ vs, H a = some (.lst vs) ∧ Dens K R vs xs
  | .sn ps => R a = none ∧ ∃ kvs : List (List L2.Key × V), H a = some (.dT kvs) ∧ kvs.map (·.1) = ps.map fun p => [.inl p.1, .inl p.2]

structure Rel (w : Wd) (R H : Hp) (as : List Addr) (S : List Own) : Prop where
  r0 : Sub w.R0 R
  sub : Sub R H
  keep : ∀ b o, w.H0 b = some o → b ∉ w.as0 → H b = some o
  there : ∀ b, H b = none → w.H0 b = none
  pre : ∀ (i : Nat) (a : Addr), w.as0[i]? = some a → as[i]? = some a
  orig : ∀ b o, R b = some o → w.R0 b = some o ∨ w.H0 b = none ∨ b ∈ w.as0
  len : as.length = S.length
  reg : ∀ (i : Nat) (o : Own) (a : Addr), S[i]? = some o → as[i]? = some a → o ≠ .gone → RegOk w.K R H a o ∧ (w.H0 a = none ∨ a ∈ w.as0)
  dist : ∀ (i j : Nat) (a : Addr) (o u : Own), S[i]? = some o → S[j]? = some u → o ≠ .gone → u ≠ .gone → as[i]? = some a → as[j]? = some a → i = j

mutual
def EntOk (K : PySem.W.Frag) (R : Hp) (as : List Addr) : V → Ent → Prop
  | v, .d x => Den K R v x
  | v, .own i => ∃ a, as[i]? = some a ∧ v = .ref a
  | v, .tup es => ∃ a vs, v = .ref a ∧ R a = some (.tup vs) ∧ EntsOk K R as vs es
def EntsOk (K : PySem.W.Frag) (R : Hp) (as : List Addr) : List V → List Ent → Prop
  | [], [] => True
  | v :: vs, e :: es => EntOk K R as v e ∧ EntsOk K R as vs es
  | _, _ => False
end
def Pre (as as' : List Addr) : Prop := ∀ (i : Nat) (a : Addr), as[i]? = some a → as'[i]? = some a
theorem Pre.refl (as : List Addr) : Pre as as := fun _ _ h => h
theorem Pre.trans {a b c : List Addr} (h : Pre a b) (k : Pre b c) : Pre a c := fun i x e => k i x (h i x e)
theorem Pre.app (as bs : List Addr) : Pre as (as ++ bs) := fun i a h => by
  have := (List.getElem?_eq_some_iff.mp h).1
  rw [List.getElem?_append_left this]; exact h
mutual
theorem EntOk.mono {K : PySem.W.Frag} {R R' : Hp} {as as' : List Addr} (r : Sub R R') (p : Pre as as') : ∀ {v : V} {e : Ent}, EntOk K R as v e → EntOk K R' as' v e
  | _, .d _, h => Den.mono r h
  | _, .own _, ⟨a, h1, h2⟩ => ⟨a, p _ _ h1, h2⟩
  | _, .tup _, ⟨a, vs, h1, h2, h3⟩ => ⟨a, vs, h1, r _ _ h2, EntsOk.mono r p h3⟩
theorem EntsOk.mono {K : PySem.W.Frag} {R R' : Hp} {as as' : List Addr} (r : Sub R R') (p : Pre as as') : ∀ {vs : List V} {es : List Ent}, EntsOk K R as vs es → EntsOk K R' as' vs es
  | [], [], _ => trivial
  | _ :: _, _ :: _, ⟨h, t⟩ => ⟨EntOk.mono r p h, EntsOk.mono r p t⟩
  | [], _ :: _, h => h.elim
  | _ :: _, [], h => h.elim
end
theorem EntOk.mo {K : PySem.W.Frag} {R R' : Hp} {as as' : List Addr} {v : V} {e : Ent} (h : EntOk K R as v e) (r : Sub R R') (p : Pre as as') : EntOk K R' as' v e := EntOk.mono r p h
theorem EntsOk.mo {K : PySem.W.Frag} {R R' : Hp} {as as' : List Addr} {vs : List V} {es : List Ent} (h : EntsOk K R as vs es) (r : Sub R R') (p : Pre as as') : EntsOk K R' as' vs es := EntsOk.mono r p h
abbrev Env := List (Option Ent)
structure Sts (K : PySem.W.Frag) (R : Hp) (as : List Addr) (σ : St) (Γ : Env) : Prop where
  len : σ.length = Γ.length
  get : ∀ (i : Nat) (e : Ent), Γ[i]? = some (some e) → ∃ v, σ[i]? = some (some v) ∧ EntOk K R as v e
theorem Sts.mono {K : PySem.W.Frag} {R R' : Hp} {as as' : List Addr} {σ : St} {Γ : Env} (h : Sts K R as σ Γ) (r : Sub R R') (p : Pre as as') : Sts K R' as' σ Γ :=
  ⟨h.len, fun i e q => let ⟨v, h1, h2⟩ := h.get i e q; ⟨v, h1, h2.mo r p⟩⟩
theorem Sts.set {K : PySem.W.Frag} {R : Hp} {as : List Addr} {σ : St} {Γ : Env} {v : V} {e : Ent} (h : Sts K R as σ Γ) (i : Nat) (q : EntOk K R as v e) : Sts K R as (σ.set i (some v)) (Γ.set i (some e)) := by
  refine ⟨by rw [List.length_set, List.length_set]; exact h.len, fun j u hj => ?_⟩
  by_cases hij : i = j
  · subst hij
    have hlt : i < Γ.length := by
      have := (List.getElem?_eq_some_iff.mp hj).1
      rw [List.length_set] at this; exact this
    rw [List.getElem?_set_self hlt] at hj
    cases hj
    exact ⟨v, List.getElem?_set_self (by rw [h.len]; exact hlt), q⟩
  · rw [List.getElem?_set_ne hij] at hj
    obtain ⟨x, h1, h2⟩ := h.get j u hj
    exact ⟨x, by rw [List.getElem?_set_ne hij]; exact h1, h2⟩
theorem Sts.wipe1 {K : PySem.W.Frag} {R : Hp} {as : List Addr} {σ : St} {Γ : Env} (h : Sts K R as σ Γ) (i : Nat) : Sts K R as (σ.set i none) (Γ.set i none) := by
  refine ⟨by rw [List.length_set, List.length_set]; exact h.len, fun j u hj => ?_⟩
  by_cases hij : i = j
  · subst hij
    have hlt : i < Γ.length := by
      have := (List.getElem?_eq_some_iff.mp hj).1
      rw [List.length_set] at this; exact this
    rw [List.getElem?_set_self hlt] at hj
    cases hj
  · rw [List.getElem?_set_ne hij] at hj
    obtain ⟨x, h1, h2⟩ := h.get j u hj
    exact ⟨x, by rw [List.getElem?_set_ne hij]; exact h1, h2⟩
/-- slots forgotten -/
def wipeG (Γ : Env) : List Nat → Env
  | [] => Γ
  | v :: vs => (wipeG Γ vs).set v none
theorem Sts.wipe {K : PySem.W.Frag} {R : Hp} {as : List Addr} {σ : St} {Γ : Env} (h : Sts K R as σ Γ) : ∀ vs : List Nat, Sts K R as (wipe σ vs) (wipeG Γ vs)
  | [] => h
  | v :: vs => (Sts.wipe h vs).wipe1 v
theorem Sts.weak {K : PySem.W.Frag} {R : Hp} {as : List Addr} {σ : St} {Γ Γ' : Env} (h : Sts K R as σ Γ) (hl : Γ'.length = Γ.length) (g : ∀ (i : Nat) (e : Ent), Γ'[i]? = some (some e) → Γ[i]? = some (some e)) : Sts K R as σ Γ' :=
  ⟨h.len.trans hl.symm, fun i e q => h.get i e (g i e q)⟩

section
variable {w : Wd} {R H : Hp} {as : List Addr} {S : List Own}
theorem Rel.own (r : Rel w R H as S) {i : Nat} {o : Own} (h : S[i]? = some o) : ∃ a, as[i]? = some a := by
  have := (List.getElem?_eq_some_iff.mp h).1
  exact ⟨as[i]'(by rw [r.len]; exact this), List.getElem?_eq_getElem _⟩
theorem Rel.fresh (r : Rel w R H as S) {p : Addr} (h : H p = none) : R p = none ∧ w.H0 p = none := by
  refine ⟨?_, r.there p h⟩
  cases q : R p with
  | none => rfl
  | some o => rw [r.sub p o q] at h; cases h
theorem RegOk.upd_ {K : PySem.W.Frag} {R R' H H' : Hp} {a : Addr} {o : Own} (h : RegOk K R H a o) (r : Sub R R') (n : o ≠ .gone → R a = none → R' a = none) (k : o ≠ .gone → H' a = H a) : RegOk K R' H' a o := by
  cases o with
  | lst xs =>
    obtain ⟨h1, vs, h2, h3⟩ := h
    exact ⟨n (by intro z; cases z) h1, vs, by rw [k (by intro z; cases z)]; exact h2, h3.mono r⟩
  | ins C gs =>
    obtain ⟨h1, dx, fs, h2, h3⟩ := h
    exact ⟨n (by intro z; cases z) h1, dx, fs, by rw [k (by intro z; cases z)]; exact h2, h3.mono r⟩
  | gone => trivial
  | dct gs =>
    obtain ⟨h1, kvs, h2, h3⟩ := h
    exact ⟨n (by intro z; cases z) h1, kvs, by rw [k (by intro z; cases z)]; exact h2, h3.mono r⟩
  | lat g xs =>
    obtain ⟨h0, h1, vs, h2, h3⟩ := h
    exact ⟨h0, n (by intro z; cases z) h1, vs, by rw [k (by intro z; cases z)]; exact h2, h3.mono r⟩
  | sn ps =>
    obtain ⟨h1, kvs, h2, h3⟩ := h
    exact ⟨n (by intro z; cases z) h1, kvs, by rw [k (by intro z; cases z)]; exact h2, h3⟩
theorem RegOk.there {K : PySem.W.Frag} {R H : Hp} {a : Addr} {o : Own} (h : RegOk K R H a o) (n : o ≠ .gone) : R a = none ∧ ∃ u, H a = some u := by
  cases o with
  | lst xs => obtain ⟨h1, vs, h2, h3⟩ := h; exact ⟨h1, _, h2⟩
  | ins C gs => obtain ⟨h1, dx, fs, h2, h3⟩ := h; exact ⟨h1, _, h2⟩
  | gone => exact absurd rfl n
  | dct gs => obtain ⟨h1, kvs, h2, h3⟩ := h; exact ⟨h1, _, h2⟩
  | lat g xs => obtain ⟨h0, h1, vs, h2, h3⟩ := h; exact ⟨h1, _, h2⟩
  | sn ps => obtain ⟨h1, kvs, h2, h3⟩ := h; exact ⟨h1, _, h2⟩
/-- a new object, immutable from then on -/
theorem Rel.alloc (r : Rel w R H as S) {p : Addr} (hp : H p = none) (o : HO) : Rel w (upd R p o) (upd H p o) as S ∧ Sub R (upd R p o) := by
  obtain ⟨hR, h0⟩ := r.fresh hp
  have hs : Sub R (upd R p o) := fun b u e => by rw [upd_ne (ne_of_none e hR)]; exact e
  refine ⟨⟨r.r0.trans hs, fun b u e => ?_, fun b u e n => ?_, fun b e => ?_, r.pre, fun b u e => ?_, r.len, fun i u a h1 h2 h3 => ?_, r.dist⟩, hs⟩
  · by_cases hb : b = p
    · subst hb; rw [upd_same] at e; rw [upd_same]; exact e
    · rw [upd_ne hb] at e ⊢; exact r.sub b u e
  · have := r.keep b u e n
    rw [upd_ne (ne_of_none this hp)]; exact this
  · by_cases hb : b = p
    · subst hb; exact h0
    · rw [upd_ne hb] at e; exact r.there b e
  · by_cases hb : b = p
    · subst hb; exact .inr (.inl h0)
    · rw [upd_ne hb] at e; exact r.orig b u e
  · obtain ⟨g1, g2⟩ := r.reg i u a h1 h2 h3
    obtain ⟨z1, z, z2⟩ := g1.there h3
    have ne : a ≠ p := ne_of_none z2 hp
    exact ⟨g1.upd_ hs (fun _ q => by rw [upd_ne ne]; exact q) fun _ => upd_ne ne, g2⟩
/-- a new region -/
theorem Rel.allocO (r : Rel w R H as S) {p : Addr} (hp : H p = none) (u : HO) {o : Own} (ho : RegOk w.K R (upd H p u) p o) : Rel w R (upd H p u) (as ++ [p]) (S ++ [o]) := by
  obtain ⟨hR, h0⟩ := r.fresh hp
  refine ⟨r.r0, fun b u' e => ?_, fun b u' e n => ?_, fun b e => ?_, fun i a h => Pre.app _ _ i a (r.pre i a h), r.orig, by rw [List.length_append, List.length_append, r.len]; rfl, fun i o' a h1 h2 h3 => ?_, fun i j a o1 o2 h1 h2 n1 n2 a1 a2 => ?_⟩
  · rw [upd_ne (ne_of_none e hR)]; exact r.sub b u' e
  · have := r.keep b u' e n
    rw [upd_ne (ne_of_none this hp)]; exact this
  · by_cases hb : b = p
    · subst hb; exact h0
    · rw [upd_ne hb] at e; exact r.there b e
  · by_cases hi : i < S.length
    · rw [List.getElem?_append_left hi] at h1
      rw [List.getElem?_append_left (by rw [r.len]; exact hi)] at h2
      obtain ⟨g1, g2⟩ := r.reg i o' a h1 h2 h3
      obtain ⟨z1, z, z2⟩ := g1.there h3
      have ne : a ≠ p := ne_of_none z2 hp
      exact ⟨g1.upd_ (Sub.refl _) (fun _ q => q) fun _ => upd_ne ne, g2⟩
    · have hi' : i = S.length := by
        have := (List.getElem?_eq_some_iff.mp h1).1
        rw [List.length_append] at this; simp at this; omega
      subst hi'
      rw [List.getElem?_append_right (Nat.le_refl _)] at h1
      rw [← r.len, List.getElem?_append_right (Nat.le_refl _)] at h2
      simp at h1 h2
      subst h1 h2
      exact ⟨ho, .inl h0⟩
  · have old : ∀ (k : Nat) (q : Own), (S ++ [o])[k]? = some q → q ≠ .gone → (as ++ [p])[k]? = some a → k < S.length → a ≠ p := fun k q e1 e2 e3 hk => by
      rw [List.getElem?_append_left hk] at e1
      rw [List.getElem?_append_left (by rw [r.len]; exact hk)] at e3
      obtain ⟨z1, z, z2⟩ := (r.reg k q a e1 e3 e2).1.there e2
      exact ne_of_none z2 hp
    have new : ∀ k : Nat, (as ++ [p])[k]? = some a → ¬ k < S.length → a = p ∧ k = S.length := fun k e hk => by
      have h := (List.getElem?_eq_some_iff.mp e).1
      rw [List.length_append] at h
      simp at h
      have hk' : k = as.length := by rw [r.len] at h ⊢; omega
      subst hk'
      rw [List.getElem?_append_right (Nat.le_refl _)] at e
      simp at e
      exact ⟨e.symm, r.len⟩
    by_cases hi : i < S.length <;> by_cases hj : j < S.length
    · rw [List.getElem?_append_left hi] at h1
      rw [List.getElem?_append_left hj] at h2
      rw [List.getElem?_append_left (by rw [r.len]; exact hi)] at a1
      rw [List.getElem?_append_left (by rw [r.len]; exact hj)] at a2
      exact r.dist i j a o1 o2 h1 h2 n1 n2 a1 a2
    · exact absurd (new j a2 hj).1 (old i o1 h1 n1 a1 hi)
    · exact absurd (new i a1 hi).1 (old j o2 h2 n2 a2 hj)
    · rw [(new i a1 hi).2, (new j a2 hj).2]
/-- a region changed -/
theorem Rel.write (r : Rel w R H as S) {i : Nat} {a : Addr} {o o' : Own} {u : HO} (hi : S[i]? = some o) (ha : as[i]? = some a) (n : o ≠ .gone) (n' : o' ≠ .gone) (ho : RegOk w.K R (upd H a u) a o') : Rel w R (upd H a u) as (S.set i o') := by
  obtain ⟨g1, g2⟩ := r.reg i o a hi ha n
  obtain ⟨z1, z, z2⟩ := g1.there n
  have hlt := (List.getElem?_eq_some_iff.mp hi).1
  have setn : ∀ (k : Nat) (q : Own), (S.set i o')[k]? = some q → q ≠ .gone → ∃ q', S[k]? = some q' ∧ q' ≠ .gone := fun k q e e2 => by
    by_cases hk : i = k
    · subst hk; exact ⟨o, hi, n⟩
    · rw [List.getElem?_set_ne hk] at e; exact ⟨q, e, e2⟩
  refine ⟨r.r0, fun b u' e => ?_, fun b u' e m => ?_, fun b e => ?_, r.pre, r.orig, by rw [List.length_set]; exact r.len, fun k q b h1 h2 h3 => ?_, fun k j b o1 o2 h1 h2 n1 n2 a1 a2 => ?_⟩
  · rw [upd_ne (ne_of_none e z1)]; exact r.sub b u' e
  · have ne : b ≠ a := by
      rintro rfl
      rcases g2 with g2 | g2
      · rw [e] at g2; cases g2
      · exact m g2
    rw [upd_ne ne]; exact r.keep b u' e m
  · by_cases hb : b = a
    · subst hb; rw [upd_same] at e; cases e
    · rw [upd_ne hb] at e; exact r.there b e
  · by_cases hk : i = k
    · subst hk
      rw [List.getElem?_set_self hlt] at h1
      cases h1
      rw [ha] at h2; cases h2
      exact ⟨ho, g2⟩
    · rw [List.getElem?_set_ne hk] at h1
      obtain ⟨y1, y2⟩ := r.reg k q b h1 h2 h3
      have ne : b ≠ a := by
        rintro rfl
        exact hk (r.dist i k b o q hi h1 n h3 ha h2)
      exact ⟨y1.upd_ (Sub.refl _) (fun _ q => q) fun _ => upd_ne ne, y2⟩
  · obtain ⟨q1, e1, m1⟩ := setn k o1 h1 n1
    obtain ⟨q2, e2, m2⟩ := setn j o2 h2 n2
    exact r.dist k j b q1 q2 e1 e2 m1 m2 a1 a2
/-- a region becomes data -/
theorem Rel.freeze (r : Rel w R H as S) {i : Nat} {a : Addr} {o : Own} {u : HO} (hi : S[i]? = some o) (ha : as[i]? = some a) (n : o ≠ .gone) (hu : H a = some u) : Rel w (upd R a u) H as (S.set i .gone) ∧ Sub R (upd R a u) := by
  obtain ⟨g1, g2⟩ := r.reg i o a hi ha n
  obtain ⟨z1, z, z2⟩ := g1.there n
  have hlt := (List.getElem?_eq_some_iff.mp hi).1
  have hs : Sub R (upd R a u) := fun b u' e => by rw [upd_ne (ne_of_none e z1)]; exact e
  have setn : ∀ (k : Nat) (q : Own), (S.set i .gone)[k]? = some q → q ≠ .gone → S[k]? = some q ∧ i ≠ k := fun k q e e2 => by
    by_cases hk : i = k
    · subst hk
      rw [List.getElem?_set_self hlt] at e
      cases e; exact absurd rfl e2
    · rw [List.getElem?_set_ne hk] at e; exact ⟨e, hk⟩
  refine ⟨⟨r.r0.trans hs, fun b u' e => ?_, r.keep, r.there, r.pre, fun b u' e => ?_, by rw [List.length_set]; exact r.len, fun k q b h1 h2 h3 => ?_, fun k j b o1 o2 h1 h2 n1 n2 a1 a2 => ?_⟩, hs⟩
  · by_cases hb : b = a
    · subst hb; rw [upd_same] at e; cases e; exact hu
    · rw [upd_ne hb] at e; exact r.sub b u' e
  · by_cases hb : b = a
    · subst hb; exact .inr g2
    · rw [upd_ne hb] at e; exact r.orig b u' e
  · obtain ⟨e1, hk⟩ := setn k q h1 h3
    obtain ⟨y1, y2⟩ := r.reg k q b e1 h2 h3
    have ne : b ≠ a := by
      rintro rfl
      exact hk (r.dist i k b o q hi e1 n h3 ha h2)
    exact ⟨y1.upd_ hs (fun _ q => by rw [upd_ne ne]; exact q) fun _ => rfl, y2⟩
  · exact r.dist k j b o1 o2 (setn k o1 h1 n1).1 (setn j o2 h2 n2).1 n1 n2 a1 a2
end
end Gm
namespace Gm
open PySem L2

/-! ### judgements: what a reading needs, over data -/
abbrev KE := Ent → List Own → Prop
abbrev KX := Addr → D → List Own → Prop
/-- an expression's reading t, names Γ, store S: k holds of what comes -/
def LE (w : Wd) (t : TE) (Γ : Env) (S : List Own) (k : KE) : Prop :=
  ∀ (σ : St) (R H : Hp) (as : List Addr) (Q : VK), Rel w R H as S → Sts w.K R as σ Γ →
    (∀ v e S' R' H' as', Rel w R' H' as' S' → Sub R R' → Pre as as' → EntOk w.K R' as' v e → k e S' → Q v H') → t σ H Q
theorem EntsOk.len {K : PySem.W.Frag} {R : Hp} {as : List Addr} : ∀ {vs : List V} {es : List Ent}, EntsOk K R as vs es → vs.length = es.length
  | [], [], _ => rfl
  | _ :: _, _ :: _, ⟨_, t⟩ => congrArg (· + 1) (EntsOk.len t)
def LA (w : Wd) (t : TA) (Γ : Env) (S : List Own) (k : List Ent → List Own → Prop) : Prop :=
  ∀ (σ : St) (R H : Hp) (as : List Addr) (Q : List V → Hp → Prop), Rel w R H as S → Sts w.K R as σ Γ →
    (∀ vs es S' R' H' as', Rel w R' H' as' S' → Sub R R' → Pre as as' → EntsOk w.K R' as' vs es → k es S' → Q vs H') → t σ H Q
def LT (w : Wd) (t : TT) (Γ : Env) (S : List Own) (k : Bool → List Own → Prop) : Prop :=
  ∀ (σ : St) (R H : Hp) (as : List Addr) (Q : Bool → Hp → Prop), Rel w R H as S → Sts w.K R as σ Γ →
    (∀ b S' R' H' as', Rel w R' H' as' S' → Sub R R' → Pre as as' → k b S' → Q b H') → t σ H Q
/-- an operation on two values; on one; a call of a built-in on values -/
def RR (w : Wd) (r : R2) (x y : Ent) (S : List Own) (k : KE) : Prop :=
  ∀ (R H : Hp) (as : List Addr) (u v : V) (Q : VK), Rel w R H as S → EntOk w.K R as u x → EntOk w.K R as v y →
    (∀ v e S' R' H' as', Rel w R' H' as' S' → Sub R R' → Pre as as' → EntOk w.K R' as' v e → k e S' → Q v H') → r u v H Q
def R1 (w : Wd) (r : V → Hp → VK → Prop) (x : Ent) (S : List Own) (k : KE) : Prop :=
  ∀ (R H : Hp) (as : List Addr) (u : V) (Q : VK), Rel w R H as S → EntOk w.K R as u x →
    (∀ v e S' R' H' as', Rel w R' H' as' S' → Sub R R' → Pre as as' → EntOk w.K R' as' v e → k e S' → Q v H') → r u H Q
def RC (w : Wd) (r : List V → Hp → VK → Prop) (xs : List Ent) (S : List Own) (k : KE) : Prop :=
  ∀ (R H : Hp) (as : List Addr) (us : List V) (Q : VK), Rel w R H as S → EntsOk w.K R as us xs →
    (∀ v e S' R' H' as', Rel w R' H' as' S' → Sub R R' → Pre as as' → EntOk w.K R' as' v e → k e S' → Q v H') → r us H Q
/-- a method of a built-in type, on the receiver and the arguments -/
def RM (w : Wd) (r : V → List V → Hp → VK → Prop) (x : Ent) (xs : List Ent) (S : List Own) (k : KE) : Prop :=
  ∀ (R H : Hp) (as : List Addr) (u : V) (us : List V) (Q : VK), Rel w R H as S → EntOk w.K R as u x → EntsOk w.K R as us xs →
    (∀ v e S' R' H' as', Rel w R' H' as' S' → Sub R R' → Pre as as' → EntOk w.K R' as' v e → k e S' → Q v H') → r u us H Q
structure GE where
  nx : Env → List Own → Prop
  rt : KE
  bk : Env → List Own → Prop := fun _ _ => False
  ct : Env → List Own → Prop := fun _ _ => False
structure EndsOk (w : Wd) (Rb : Hp) (G : GE) (D : Ends) : Prop where
  nx : ∀ Γ S σ R H as, Sub Rb R → Rel w R H as S → Sts w.K R as σ Γ → G.nx Γ S → D.nx σ H
  rt : ∀ v e S R H as, Sub Rb R → Rel w R H as S → EntOk w.K R as v e → G.rt e S → D.rt v H
  bk : ∀ Γ S σ R H as, Sub Rb R → Rel w R H as S → Sts w.K R as σ Γ → G.bk Γ S → D.bk σ H
  ct : ∀ Γ S σ R H as, Sub Rb R → Rel w R H as S → Sts w.K R as σ Γ → G.ct Γ S → D.ct σ H
theorem EndsOk.up {w : Wd} {Ra Rb : Hp} {G : GE} {D : Ends} (e : EndsOk w Ra G D) (h : Sub Ra Rb) : EndsOk w Rb G D :=
  ⟨fun Γ S σ R H as s => e.nx Γ S σ R H as (h.trans s), fun v x S R H as s => e.rt v x S R H as (h.trans s), fun Γ S σ R H as s => e.bk Γ S σ R H as (h.trans s), fun Γ S σ R H as s => e.ct Γ S σ R H as (h.trans s)⟩
def LS (w : Wd) (t : TS) (Γ : Env) (S : List Own) (G : GE) : Prop :=
  ∀ (D : Ends) (σ : St) (R H : Hp) (as : List Addr), Rel w R H as S → Sts w.K R as σ Γ → EndsOk w R G D → t D σ H
/-- an assignment's target -/
def LG (w : Wd) (g : TG) (e : Ent) (Γ : Env) (S : List Own) (k : Env → List Own → Prop) : Prop :=
  ∀ (v : V) (σ : St) (R H : Hp) (as : List Addr) (Q : St → Hp → Prop), Rel w R H as S → Sts w.K R as σ Γ → EntOk w.K R as v e →
    (∀ Γ' S' σ' R' H' as', Rel w R' H' as' S' → Sub R R' → Pre as as' → Sts w.K R' as' σ' Γ' → k Γ' S' → Q σ' H') → g v σ H Q

section
variable {w : Wd} {Γ : Env} {S : List Own} {k : KE} {ta tb te : TE} {G : GE}

/-! ### expressions -/
theorem ok_own {K : PySem.W.Frag} {R : Hp} {as : List Addr} {i : Nat} {a : Addr} (h : as[i]? = some a) : EntOk K R as (.ref a) (.own i) := ⟨a, h, rfl⟩
theorem ok_d {K : PySem.W.Frag} {R : Hp} {as : List Addr} {v : V} {x : D} (h : Den K R v x) : EntOk K R as v (.d x) := h
theorem le_var {i : Nat} {e : Ent} (h : Γ[i]? = some (some e)) (q : k e S) : LE w (tVar i) Γ S k := fun σ R H as Q r s c => by
  obtain ⟨v, h1, h2⟩ := s.get i e h
  exact ⟨v, h1, c v e S R H as r (Sub.refl _) (Pre.refl _) h2 q⟩
theorem le_int {i : Int} (q : k (.d (.int i)) S) : LE w (tC (.int i)) Γ S k := fun σ R H as Q r s c => c _ _ S R H as r (Sub.refl _) (Pre.refl _) (ok_d (Den.int i)) q
theorem le_bl {b : Bool} (q : k (.d (.bl b)) S) : LE w (tC (.bl b)) Γ S k := fun σ R H as Q r s c => c _ _ S R H as r (Sub.refl _) (Pre.refl _) (ok_d (Den.bl b)) q
theorem le_str {x : Str} (q : k (.d (.str x)) S) : LE w (tC (.str x)) Γ S k := fun σ R H as Q r s c => c _ _ S R H as r (Sub.refl _) (Pre.refl _) (ok_d (Den.str x)) q
theorem le_non (q : k (.d .non) S) : LE w (tC .non) Γ S k := fun σ R H as Q r s c => c _ _ S R H as r (Sub.refl _) (Pre.refl _) (ok_d Den.non) q
theorem le_cls {C : Addr} (q : k (.d (.cls C)) S) : LE w (tC (.ref C)) Γ S k := fun σ R H as Q r s c => c _ _ S R H as r (Sub.refl _) (Pre.refl _) (ok_d (Den.cls C)) q
theorem le_ty {n : String} (q : k (.d (.ty n)) S) : LE w (tC (.ty n)) Γ S k := fun σ R H as Q r s c => c _ _ S R H as r (Sub.refl _) (Pre.refl _) (ok_d (Den.ty n)) q
theorem le_op {r : R2} (h : LE w ta Γ S fun x S1 => LE w tb Γ S1 fun y S2 => RR w r x y S2 k) : LE w (tOp r ta tb) Γ S k := fun σ R H as Q rl s c =>
  h σ R H as _ rl s fun v e S1 R1 H1 as1 rl1 s1 p1 e1 h1 => h1 σ R1 H1 as1 _ rl1 (s.mono s1 p1) fun v2 e2 S2 R2 H2 as2 rl2 s2 p2 e2' h2 =>
    h2 R2 H2 as2 v v2 Q rl2 (e1.mono s2 p2) e2' fun v' e' S' R' H' as' a1 a2 a3 a4 a5 => c v' e' S' R' H' as' a1 ((s1.trans s2).trans a2) ((p1.trans p2).trans a3) a4 a5
theorem le_un {r : V → Hp → VK → Prop} (h : LE w ta Γ S fun x S1 => R1 w r x S1 k) : LE w (tUn r ta) Γ S k := fun σ R H as Q rl s c =>
  h σ R H as _ rl s fun v e S1 R1 H1 as1 rl1 s1 p1 e1 h1 => h1 R1 H1 as1 v Q rl1 e1 fun v' e' S' R' H' as' a1 a2 a3 a4 a5 => c v' e' S' R' H' as' a1 (s1.trans a2) (p1.trans a3) a4 a5
theorem la_nil {k : List Ent → List Own → Prop} (q : k [] S) : LA w tNil Γ S k := fun σ R H as Q rl s c => c [] [] S R H as rl (Sub.refl _) (Pre.refl _) trivial q
theorem la_cons {tr : TA} {k : List Ent → List Own → Prop} (h : LE w ta Γ S fun x S1 => LA w tr Γ S1 fun xs S2 => k (x :: xs) S2) : LA w (tCons ta tr) Γ S k := fun σ R H as Q rl s c =>
  h σ R H as _ rl s fun v e S1 R1 H1 as1 rl1 s1 p1 e1 h1 => h1 σ R1 H1 as1 _ rl1 (s.mono s1 p1) fun vs es S2 R2 H2 as2 rl2 s2 p2 es2 h2 =>
    c (v :: vs) (e :: es) S2 R2 H2 as2 rl2 (s1.trans s2) (p1.trans p2) ⟨e1.mono s2 p2, es2⟩ h2
theorem le_cb {r : List V → Hp → VK → Prop} {t : TA} (h : LA w t Γ S fun xs S1 => RC w r xs S1 k) : LE w (tCB r t) Γ S k := fun σ R H as Q rl s c =>
  h σ R H as _ rl s fun vs es S1 R1 H1 as1 rl1 s1 p1 e1 h1 => h1 R1 H1 as1 vs Q rl1 e1 fun v' e' S' R' H' as' a1 a2 a3 a4 a5 => c v' e' S' R' H' as' a1 (s1.trans a2) (p1.trans a3) a4 a5
theorem le_if {t : TT} (h : LT w t Γ S fun b S1 => (b = true → LE w ta Γ S1 k) ∧ (b = false → LE w tb Γ S1 k)) : LE w (tIf t ta tb) Γ S k := fun σ R H as Q rl s c =>
  h σ R H as _ rl s fun b S1 R1 H1 as1 rl1 s1 p1 h1 => by
    cases b with
    | true => exact h1.1 rfl σ R1 H1 as1 Q rl1 (s.mono s1 p1) fun v' e' S' R' H' as' a1 a2 a3 a4 a5 => c v' e' S' R' H' as' a1 (s1.trans a2) (p1.trans a3) a4 a5
    | false => exact h1.2 rfl σ R1 H1 as1 Q rl1 (s.mono s1 p1) fun v' e' S' R' H' as' a1 a2 a3 a4 a5 => c v' e' S' R' H' as' a1 (s1.trans a2) (p1.trans a3) a4 a5
theorem le_mono {k' : KE} (h : LE w te Γ S k) (q : ∀ e S', k e S' → k' e S') : LE w te Γ S k' := fun σ R H as Q rl s c =>
  h σ R H as Q rl s fun v' e' S' R' H' as' a1 a2 a3 a4 a5 => c v' e' S' R' H' as' a1 a2 a3 a4 (q _ _ a5)

/-! ### operations on values -/
theorem rr_int0 {f : Int → Int → Int} {i j : Int} (q : k (.d (.int (f i j))) S) : RR w (rI0 fun i j => .int (f i j)) (.d (.int i)) (.d (.int j)) S k := fun R H as u v Q rl hu hv c => by
  cases hu; cases hv
  exact ⟨i, j, rfl, rfl, c _ _ S R H as rl (Sub.refl _) (Pre.refl _) (ok_d (Den.int _)) q⟩
theorem rr_bl0 {f : Int → Int → Bool} {i j : Int} (q : k (.d (.bl (f i j))) S) : RR w (rI0 fun i j => .bl (f i j)) (.d (.int i)) (.d (.int j)) S k := fun R H as u v Q rl hu hv c => by
  cases hu; cases hv
  exact ⟨i, j, rfl, rfl, c _ _ S R H as rl (Sub.refl _) (Pre.refl _) (ok_d (Den.bl _)) q⟩
theorem rr_int {C : Int → Int → Prop} {f : Int → Int → Int} {i j : Int} (hc : C i j) (q : k (.d (.int (f i j))) S) : RR w (rI C fun i j => .int (f i j)) (.d (.int i)) (.d (.int j)) S k := fun R H as u v Q rl hu hv c => by
  cases hu; cases hv
  exact ⟨i, j, rfl, rfl, hc, c _ _ S R H as rl (Sub.refl _) (Pre.refl _) (ok_d (Den.int _)) q⟩
theorem r1_int {f : Int → Int} {i : Int} (q : k (.d (.int (f i))) S) : R1 w (rU fun i => .int (f i)) (.d (.int i)) S k := fun R H as u Q rl hu c => by
  cases hu
  exact ⟨i, rfl, c _ _ S R H as rl (Sub.refl _) (Pre.refl _) (ok_d (Den.int _)) q⟩
/-- == of plain things -/
def flatD : D → Option V
  | .non => some .non
  | .bl b => some (.bl b)
  | .int i => some (.int i)
  | .str x => some (.str x)
  | _ => none
theorem flat_den {K : PySem.W.Frag} {R : Hp} {v u : V} {d : D} (h : flatD d = some u) (r : Den K R v d) : v = u := by
  cases r <;> simp [flatD] at h <;> exact h
theorem rr_eq {x y : D} {u v : V} (hx : flatD x = some u) (hy : flatD y = some v) (hs : scal u v = true) (q : k (.d (.bl (decide (u = v)))) S) : RR w rEq (.d x) (.d y) S k := fun R H as u' v' Q rl hu hv c => by
  cases flat_den hx hu; cases flat_den hy hv
  exact ⟨hs, c _ _ S R H as rl (Sub.refl _) (Pre.refl _) (ok_d (Den.bl _)) q⟩
theorem rr_ne {x y : D} {u v : V} (hx : flatD x = some u) (hy : flatD y = some v) (hs : scal u v = true) (q : k (.d (.bl (!decide (u = v)))) S) : RR w rNe (.d x) (.d y) S k := fun R H as u' v' Q rl hu hv c => by
  cases flat_den hx hu; cases flat_den hy hv
  exact ⟨hs, c _ _ S R H as rl (Sub.refl _) (Pre.refl _) (ok_d (Den.bl _)) q⟩
def isN : D → Bool | .non => true | _ => false
theorem den_non {K : PySem.W.Frag} {R : Hp} {v : V} {d : D} (r : Den K R v d) : decide (v = .non) = isN d := by
  cases r <;> simp [isN]
abbrev rIsNon : R2 := fun x y H Q => y = .non ∧ Q (.bl (decide (x = .non))) H
abbrev rNotNon : R2 := fun x y H Q => y = .non ∧ Q (.bl (!decide (x = .non))) H
theorem rr_isN {x : D} (q : k (.d (.bl (isN x))) S) : RR w rIsNon (.d x) (.d .non) S k := fun R H as u' v' Q rl hu hv c => by
  cases hv
  refine ⟨rfl, ?_⟩
  rw [den_non hu]
  exact c _ _ S R H as rl (Sub.refl _) (Pre.refl _) (ok_d (Den.bl _)) q
theorem rr_notN {x : D} (q : k (.d (.bl (!isN x))) S) : RR w rNotNon (.d x) (.d .non) S k := fun R H as u' v' Q rl hu hv c => by
  cases hv
  refine ⟨rfl, ?_⟩
  rw [den_non hu]
  exact c _ _ S R H as rl (Sub.refl _) (Pre.refl _) (ok_d (Den.bl _)) q
/-! indexing -/
theorem atI_map {α β : Type} {xs : List α} {ys : List β} (hl : xs.length = ys.length) {i : Int} {j : Nat} (h : ixN ys.length i = some j) {v : α} (hv : xs[j]? = some v) : atI xs i = some v := by
  unfold atI
  rw [hl, h]
  exact hv
theorem atI_ix {ds : List D} {i : Int} {d : D} (h : atI ds i = some d) : ∃ j, ixN ds.length i = some j ∧ ds[j]? = some d := by
  unfold atI at h
  cases q : ixN ds.length i with
  | none => rw [q] at h; cases h
  | some j => rw [q] at h; exact ⟨j, rfl, h⟩
theorem rr_ixL {ds : List D} {i : Int} {d : D} (h : atI ds i = some d) (q : k (.d d) S) : RR w (rIxL w.K) (.d (.lst ds)) (.d (.int i)) S k := fun R H as u' v' Q rl hu hv c => by
  cases hv
  obtain ⟨j, h1, h2⟩ := atI_ix h
  cases hu with
  | lst ha hd =>
    obtain ⟨v, e1, e2⟩ := hd.get h2
    exact ⟨_, _, i, v, rfl, rfl, SqL.of (rl.sub _ _ ha), atI_map hd.len h1 e1, c _ _ S R H as rl (Sub.refl _) (Pre.refl _) (ok_d e2) q⟩
theorem rr_ixS {ns : List Int} {i n : Int} (h : atI ns i = some n) (q : k (.d (.int n)) S) : RR w (rIxL w.K) (.d (.scr ns)) (.d (.int i)) S k := fun R H as u' v' Q rl hu hv c => by
  cases hv
  cases hu with
  | scr ha =>
    refine ⟨_, _, i, .int n, rfl, rfl, sub_seq rl.sub ha, ?_, c _ _ S R H as rl (Sub.refl _) (Pre.refl _) (ok_d (Den.int n)) q⟩
    unfold atI at h ⊢
    rw [List.length_map]
    cases q : ixN ns.length i with
    | none => rw [q] at h; cases h
    | some j => rw [q] at h; show (ns.map V.int)[j]? = _; rw [List.getElem?_map, show ns[j]? = some n from h]; rfl
theorem rr_ixT {ds : List D} {i : Int} {d : D} (h : atI ds i = some d) (q : k (.d d) S) : RR w (rIxT w.K) (.d (.tup ds)) (.d (.int i)) S k := fun R H as u' v' Q rl hu hv c => by
  cases hv
  obtain ⟨j, h1, h2⟩ := atI_ix h
  cases hu with
  | tup ha hd =>
    obtain ⟨v, e1, e2⟩ := hd.get h2
    exact ⟨_, _, i, v, rfl, rfl, SqT.of (rl.sub _ _ ha), atI_map hd.len h1 e1, c _ _ S R H as rl (Sub.refl _) (Pre.refl _) (ok_d e2) q⟩
/-- an item of a list of the store -/
theorem rr_ixO {ds : List D} {n : Nat} {i : Int} {d : D} (hn : S[n]? = some (.lst ds)) (h : atI ds i = some d) (q : k (.d d) S) : RR w (rIxL w.K) (.own n) (.d (.int i)) S k := fun R H as u' v' Q rl hu hv c => by
  cases hv
  obtain ⟨a, ha, rfl⟩ := hu
  obtain ⟨⟨z, vs, e, hd⟩, _⟩ := rl.reg n _ a hn ha (by intro z; cases z)
  obtain ⟨j, h1, h2⟩ := atI_ix h
  obtain ⟨v, e1, e2⟩ := hd.get h2
  exact ⟨_, _, i, v, rfl, rfl, SqL.of e, atI_map hd.len h1 e1, c _ _ S R H as rl (Sub.refl _) (Pre.refl _) (ok_d e2) q⟩
/-! displays -/
def Ent.ds : List Ent → Option (List D)
  | [] => some []
  | .d x :: es => (Ent.ds es).map (x :: ·)
  | .own _ :: _ => none
  | .tup _ :: _ => none
theorem ents_ds {K : PySem.W.Frag} {R : Hp} {as : List Addr} : ∀ {vs : List V} {es : List Ent} {ds : List D}, EntsOk K R as vs es → Ent.ds es = some ds → Dens K R vs ds
  | [], [], _, _, e => by cases e; exact .nil
  | v :: vs, .d x :: es, ds, ⟨h, t⟩, e => by
    cases q : Ent.ds es with
    | none => simp [Ent.ds, q] at e
    | some r => simp [Ent.ds, q] at e; subst e; exact .cons h (ents_ds t q)
  | v :: vs, .own i :: es, ds, _, e => by simp [Ent.ds] at e
  | v :: vs, .tup _ :: es, ds, _, e => by simp [Ent.ds] at e
  | [], _ :: _, _, h, _ => h.elim
  | _ :: _, [], _, h, _ => h.elim
theorem le_lst {t : TA} (h : LA w t Γ S fun es S1 => ∃ ds, Ent.ds es = some ds ∧ ds.length ≤ sizeLine ∧ k (.d (.lst ds)) S1) : LE w (tLst t) Γ S k := fun σ R H as Q rl s c =>
  h σ R H as _ rl s fun vs es S1 R1 H1 as1 rl1 s1 p1 e1 ⟨ds, h1, h2, h3⟩ => by
    have hd := ents_ds e1 h1
    refine ⟨by rw [hd.len]; exact h2, fun p hp => ?_⟩
    obtain ⟨rl2, s2⟩ := rl1.alloc hp (.lst vs)
    exact c _ _ S1 _ _ as1 rl2 (s1.trans s2) p1 (ok_d (Den.lst upd_same (hd.mono s2))) h3
theorem le_tup {t : TA} (h : LA w t Γ S fun es S1 => ∃ ds, Ent.ds es = some ds ∧ ds.length ≤ sizeLine ∧ k (.d (.tup ds)) S1) : LE w (tTup t) Γ S k := fun σ R H as Q rl s c =>
  h σ R H as _ rl s fun vs es S1 R1 H1 as1 rl1 s1 p1 e1 ⟨ds, h1, h2, h3⟩ => by
    have hd := ents_ds e1 h1
    refine ⟨by rw [hd.len]; exact h2, fun p hp => ?_⟩
    obtain ⟨rl2, s2⟩ := rl1.alloc hp (.tup vs)
    exact c _ _ S1 _ _ as1 rl2 (s1.trans s2) p1 (ok_d (Den.tup upd_same (hd.mono s2))) h3
/-- a tuple of anything -/
theorem le_tupE {t : TA} (h : LA w t Γ S fun es S1 => es.length ≤ sizeLine ∧ k (.tup es) S1) : LE w (tTup t) Γ S k := fun σ R H as Q rl s c =>
  h σ R H as _ rl s fun vs es S1 R1 H1 as1 rl1 s1 p1 e1 ⟨h2, h3⟩ => by
    refine ⟨by rw [e1.len]; exact h2, fun p hp => ?_⟩
    obtain ⟨rl2, s2⟩ := rl1.alloc hp (.tup vs)
    exact c _ (.tup es) S1 _ _ as1 rl2 (s1.trans s2) p1 ⟨p, vs, rfl, upd_same, e1.mono s2 (Pre.refl _)⟩ h3
/-- a list of the store made -/
theorem le_lstO {t : TA} (h : LA w t Γ S fun es S1 => ∃ ds, Ent.ds es = some ds ∧ ds.length ≤ sizeLine ∧ k (.own S1.length) (S1 ++ [.lst ds])) : LE w (tLst t) Γ S k := fun σ R H as Q rl s c =>
  h σ R H as _ rl s fun vs es S1 R1 H1 as1 rl1 s1 p1 e1 ⟨ds, h1, h2, h3⟩ => by
    have hd := ents_ds e1 h1
    refine ⟨by rw [hd.len]; exact h2, fun p hp => ?_⟩
    have hf := (rl1.fresh hp).1
    have rl2 := rl1.allocO hp (.lst vs) (o := .lst ds) ⟨hf, vs, upd_same, hd⟩
    exact c _ _ _ _ _ _ rl2 s1 (p1.trans (Pre.app _ _)) (ok_own (by rw [← rl1.len]; exact List.getElem?_concat_length)) h3


/-! ### tests -/
variable {kb : Bool → List Own → Prop} {t u : TT}
theorem lt_test (h : LE w te Γ S fun e S1 => ∃ b, e = .d (.bl b) ∧ kb b S1) : LT w (tTest te) Γ S kb := fun σ R H as Q rl s c =>
  h σ R H as _ rl s fun v e S1 R1 H1 as1 rl1 s1 p1 e1 ⟨b, h1, h2⟩ => by
    subst h1; cases e1
    exact ⟨b, rfl, c b S1 R1 H1 as1 rl1 s1 p1 h2⟩
theorem lt_tb (h : LE w te Γ S fun e S1 => ∃ b, e = .d (.bl b) ∧ kb b S1) : LT w (tB te) Γ S kb := fun σ R H as Q rl s c =>
  h σ R H as _ rl s fun v e S1 R1 H1 as1 rl1 s1 p1 e1 ⟨b, h1, h2⟩ => by
    subst h1; cases e1
    exact ⟨b, rfl, c b S1 R1 H1 as1 rl1 s1 p1 h2⟩
theorem lt_and (h : LT w t Γ S fun b S1 => (b = true → LT w u Γ S1 kb) ∧ (b = false → kb false S1)) : LT w (tAnd t u) Γ S kb := fun σ R H as Q rl s c =>
  h σ R H as _ rl s fun b S1 R1 H1 as1 rl1 s1 p1 h1 => by
    cases b with
    | true => exact h1.1 rfl σ R1 H1 as1 Q rl1 (s.mono s1 p1) fun b S' R' H' as' a1 a2 a3 a5 => c b S' R' H' as' a1 (s1.trans a2) (p1.trans a3) a5
    | false => exact c false S1 R1 H1 as1 rl1 s1 p1 (h1.2 rfl)
theorem lt_or (h : LT w t Γ S fun b S1 => (b = true → kb true S1) ∧ (b = false → LT w u Γ S1 kb)) : LT w (tOr t u) Γ S kb := fun σ R H as Q rl s c =>
  h σ R H as _ rl s fun b S1 R1 H1 as1 rl1 s1 p1 h1 => by
    cases b with
    | false => exact h1.2 rfl σ R1 H1 as1 Q rl1 (s.mono s1 p1) fun b S' R' H' as' a1 a2 a3 a5 => c b S' R' H' as' a1 (s1.trans a2) (p1.trans a3) a5
    | true => exact c true S1 R1 H1 as1 rl1 s1 p1 (h1.1 rfl)
theorem lt_not (h : LT w t Γ S fun b S1 => kb (!b) S1) : LT w (tNot t) Γ S kb := fun σ R H as Q rl s c =>
  h σ R H as _ rl s fun b S1 R1 H1 as1 rl1 s1 p1 h1 => c _ S1 R1 H1 as1 rl1 s1 p1 h1
theorem le_andV (h : LE w ta Γ S fun e S1 => ∃ b, e = .d (.bl b) ∧ (b = true → LE w tb Γ S1 k) ∧ (b = false → k (.d (.bl false)) S1)) : LE w (tAndV ta tb) Γ S k := fun σ R H as Q rl s c =>
  h σ R H as _ rl s fun v e S1 R1 H1 as1 rl1 s1 p1 e1 ⟨b, h1, h2, h3⟩ => by
    subst h1; cases e1
    refine ⟨b, rfl, ?_⟩
    cases b with
    | true => exact h2 rfl σ R1 H1 as1 Q rl1 (s.mono s1 p1) fun v' e' S' R' H' as' a1 a2 a3 a4 a5 => c v' e' S' R' H' as' a1 (s1.trans a2) (p1.trans a3) a4 a5
    | false => exact c _ _ S1 R1 H1 as1 rl1 s1 p1 (ok_d (Den.bl _)) (h3 rfl)
theorem le_orV (h : LE w ta Γ S fun e S1 => ∃ b, e = .d (.bl b) ∧ (b = true → k (.d (.bl true)) S1) ∧ (b = false → LE w tb Γ S1 k)) : LE w (tOrV ta tb) Γ S k := fun σ R H as Q rl s c =>
  h σ R H as _ rl s fun v e S1 R1 H1 as1 rl1 s1 p1 e1 ⟨b, h1, h2, h3⟩ => by
    subst h1; cases e1
    refine ⟨b, rfl, ?_⟩
    cases b with
    | false => exact h3 rfl σ R1 H1 as1 Q rl1 (s.mono s1 p1) fun v' e' S' R' H' as' a1 a2 a3 a4 a5 => c v' e' S' R' H' as' a1 (s1.trans a2) (p1.trans a3) a4 a5
    | true => exact c _ _ S1 R1 H1 as1 rl1 s1 p1 (ok_d (Den.bl _)) (h2 rfl)
theorem le_notV (h : LE w ta Γ S fun e S1 => ∃ b, e = .d (.bl b) ∧ k (.d (.bl (!b))) S1) : LE w (tNotV ta) Γ S k := fun σ R H as Q rl s c =>
  h σ R H as _ rl s fun v e S1 R1 H1 as1 rl1 s1 p1 e1 ⟨b, h1, h2⟩ => by
    subst h1; cases e1
    exact ⟨b, rfl, c _ _ S1 R1 H1 as1 rl1 s1 p1 (ok_d (Den.bl _)) h2⟩
theorem le_chain {r r' : R2} {tc : TE} (h : LE w ta Γ S fun x S1 => LE w tb Γ S1 fun y S2 => RR w r x y S2 fun z S3 => ∃ b, z = .d (.bl b) ∧ (b = true → LE w tc Γ S3 fun z' S4 => RR w r' y z' S4 k) ∧ (b = false → k (.d (.bl false)) S3)) : LE w (tChain r r' ta tb tc) Γ S k := fun σ R H as Q rl s c => by
  refine h σ R H as _ rl s fun v e S1 R1 H1 as1 rl1 s1 p1 e1 h1 => ?_
  refine h1 σ R1 H1 as1 _ rl1 (s.mono s1 p1) fun v2 e2 S2 R2 H2 as2 rl2 s2 p2 e2' h2 => ?_
  refine h2 R2 H2 as2 v v2 _ rl2 (e1.mono s2 p2) e2' fun v3 e3 S3 R3 H3 as3 rl3 s3 p3 e3' q => ?_
  obtain ⟨b, q1, q2, q3⟩ := q
  subst q1; cases e3'
  refine ⟨b, rfl, ?_⟩
  have s13 := (s1.trans s2).trans s3
  have p13 := (p1.trans p2).trans p3
  cases b with
  | true =>
    rw [if_pos rfl]
    refine q2 rfl σ R3 H3 as3 _ rl3 (s.mono s13 p13) fun v4 e4 S4 R4 H4 as4 rl4 s4 p4 e4' h4 => ?_
    exact h4 R4 H4 as4 v2 v4 Q rl4 (e2'.mono (s3.trans s4) (p3.trans p4)) e4' fun v' e' S' R' H' as' a1 a2 a3 a4 a5 => c v' e' S' R' H' as' a1 ((s13.trans s4).trans a2) ((p13.trans p4).trans a3) a4 a5
  | false =>
    rw [if_neg Bool.false_ne_true]
    exact c _ _ S3 R3 H3 as3 rl3 s13 p13 (ok_d (Den.bl _)) (q3 rfl)

/-! ### statements -/
variable {t1 t2 : TS}
theorem ls_seq (h : LS w t1 Γ S { G with nx := fun Γ1 S1 => LS w t2 Γ1 S1 G }) : LS w (tSeq t1 t2) Γ S G := fun D σ R H as rl s e =>
  h { D with nx := t2 D } σ R H as rl s ⟨fun Γ1 S1 σ1 R1 H1 as1 u r1 s1 q => q D σ1 R1 H1 as1 r1 s1 (e.up u), e.rt, e.bk, e.ct⟩
theorem ls_next (q : G.nx Γ S) : LS w tNext Γ S G := fun D σ R H as rl s e => e.nx Γ S σ R H as (Sub.refl _) rl s q
theorem ls_brk (q : G.bk Γ S) : LS w tBreak Γ S G := fun D σ R H as rl s e => e.bk Γ S σ R H as (Sub.refl _) rl s q
theorem ls_cont (q : G.ct Γ S) : LS w tCont Γ S G := fun D σ R H as rl s e => e.ct Γ S σ R H as (Sub.refl _) rl s q
theorem ls_drop (h : LE w te Γ S fun _ S1 => G.nx Γ S1) : LS w (tDrop te) Γ S G := fun D σ R H as rl s e =>
  h σ R H as _ rl s fun v x S1 R1 H1 as1 rl1 s1 p1 e1 q => e.nx Γ S1 σ R1 H1 as1 s1 rl1 (s.mono s1 p1) q
theorem ls_ret (h : LE w te Γ S G.rt) : LS w (tRet te) Γ S G := fun D σ R H as rl s e =>
  h σ R H as _ rl s fun v x S1 R1 H1 as1 rl1 s1 p1 e1 q => e.rt v x S1 R1 H1 as1 s1 rl1 e1 q
theorem ls_retN (q : G.rt (.d .non) S) : LS w tRetN Γ S G := fun D σ R H as rl s e => e.rt .non (.d .non) S R H as (Sub.refl _) rl Den.non q
theorem ls_if {c : TT} (h : LT w c Γ S fun b S1 => (b = true → LS w t1 Γ S1 G) ∧ (b = false → LS w t2 Γ S1 G)) : LS w (tIfS c t1 t2) Γ S G := fun D σ R H as rl s e =>
  h σ R H as _ rl s fun b S1 R1 H1 as1 rl1 s1 p1 q => by
    cases b with
    | true => exact q.1 rfl D σ R1 H1 as1 rl1 (s.mono s1 p1) (e.up s1)
    | false => exact q.2 rfl D σ R1 H1 as1 rl1 (s.mono s1 p1) (e.up s1)
theorem ls_asg {g : TG} (h : LE w te Γ S fun e S1 => LG w g e Γ S1 G.nx) : LS w (tAsg te g) Γ S G := fun D σ R H as rl s e =>
  h σ R H as _ rl s fun v x S1 R1 H1 as1 rl1 s1 p1 e1 q => q v σ R1 H1 as1 _ rl1 (s.mono s1 p1) e1 fun Γ' S' σ' R' H' as' a1 a2 a3 a4 a5 => e.nx Γ' S' σ' R' H' as' (s1.trans a2) a1 a4 a5
theorem lg_name {i : Nat} {e : Ent} {k : Env → List Own → Prop} (q : k (Γ.set i (some e)) S) : LG w (gName i) e Γ S k := fun v σ R H as Q rl s h c =>
  c _ S _ R H as rl (Sub.refl _) (Pre.refl _) (s.set i h) q
theorem ls_set {i : Nat} (h : LE w te Γ S fun e S1 => G.nx (Γ.set i (some e)) S1) : LS w (tAsg te (gName i)) Γ S G :=
  ls_asg (le_mono h fun e S' q => lg_name q)
/-- several targets -/
def LGs (w : Wd) (g : TGs) (es : List Ent) (Γ : Env) (S : List Own) (k : Env → List Own → Prop) : Prop :=
  ∀ (vs : List V) (σ : St) (R H : Hp) (as : List Addr) (Q : St → Hp → Prop), Rel w R H as S → Sts w.K R as σ Γ → EntsOk w.K R as vs es →
    (∀ Γ' S' σ' R' H' as', Rel w R' H' as' S' → Sub R R' → Pre as as' → Sts w.K R' as' σ' Γ' → k Γ' S' → Q σ' H') → g vs σ H Q
theorem lgs_nil {k : Env → List Own → Prop} (q : k Γ S) : LGs w gNil [] Γ S k := fun vs σ R H as Q rl s h c => by
  cases vs with
  | nil => exact ⟨rfl, c Γ S σ R H as rl (Sub.refl _) (Pre.refl _) s q⟩
  | cons _ _ => exact h.elim
theorem lgs_cons {g : TG} {gs : TGs} {e : Ent} {es : List Ent} {k : Env → List Own → Prop} (h : LG w g e Γ S fun Γ1 S1 => LGs w gs es Γ1 S1 k) : LGs w (gCons g gs) (e :: es) Γ S k := fun vs σ R H as Q rl s he c => by
  cases vs with
  | nil => exact he.elim
  | cons v vs =>
    refine ⟨v, vs, rfl, h v σ R H as _ rl s he.1 fun Γ1 S1 σ1 R1 H1 as1 a1 a2 a3 a4 a5 => ?_⟩
    exact a5 vs σ1 R1 H1 as1 _ a1 a4 (he.2.mono a2 a3) fun Γ' S' σ' R' H' as' b1 b2 b3 b4 b5 => c Γ' S' σ' R' H' as' b1 (a2.trans b2) (a3.trans b3) b4 b5
theorem dens_ents {K : PySem.W.Frag} {R : Hp} {as : List Addr} : ∀ {vs : List V} {ds : List D}, Dens K R vs ds → EntsOk K R as vs (ds.map Ent.d)
  | _, _, .nil => trivial
  | _, _, .cons h r => ⟨h, dens_ents r⟩
theorem lg_tup {n : Nat} {gs : TGs} {ds : List D} {k : Env → List Own → Prop} (hl : ds.length = n) (h : LGs w gs (ds.map Ent.d) Γ S k) : LG w (gTup w.K n gs) (.d (.tup ds)) Γ S k := fun v σ R H as Q rl s he c => by
  cases he with
  | tup ha hd => exact ⟨_, _, rfl, SqT.of (rl.sub _ _ ha), by rw [hd.len]; exact hl, h _ σ R H as Q rl s (dens_ents hd) c⟩
theorem lg_tupE {n : Nat} {gs : TGs} {es : List Ent} {k : Env → List Own → Prop} (hl : es.length = n) (h : LGs w gs es Γ S k) : LG w (gTup w.K n gs) (.tup es) Γ S k := fun v σ R H as Q rl s he c => by
  obtain ⟨a, vs, rfl, h1, h2⟩ := he
  exact ⟨_, _, rfl, SqT.of (rl.sub _ _ h1), by rw [h2.len]; exact hl, h _ σ R H as Q rl s h2 c⟩
theorem ls_par {i j : Nat} {ta : TA} (h : LA w ta Γ S fun es S1 => ∃ x y, es = [x, y] ∧ G.nx ((Γ.set i (some x)).set j (some y)) S1) : LS w (tPar i j ta) Γ S G := fun D σ R H as rl s e =>
  h σ R H as _ rl s fun vs es S1 R1 H1 as1 rl1 s1 p1 e1 ⟨x, y, h1, h2⟩ => by
    subst h1
    match vs, e1 with
    | [a, b], ⟨q1, q2, _⟩ => exact ⟨a, b, rfl, e.nx _ S1 _ R1 H1 as1 s1 rl1 (((s.mono s1 p1).set i q1).set j q2) h2⟩
theorem ls_aug {i : Nat} {ti : TIp} {x : Ent} (hx : Γ[i]? = some (some x)) (h : LE w te Γ S fun y S1 => RR w ti x y S1 fun z S2 => G.nx (Γ.set i (some z)) S2) : LS w (tAug i te ti) Γ S G := fun D σ R H as rl s e => by
  obtain ⟨v, h1, h2⟩ := s.get i x hx
  refine ⟨v, h1, h σ R H as _ rl s fun v2 e2 S1 R1 H1 as1 rl1 s1 p1 e1 q => ?_⟩
  exact q R1 H1 as1 v v2 _ rl1 (h2.mono s1 p1) e1 fun v3 e3 S3 R3 H3 as3 rl3 s3 p3 e3' q3 => e.nx _ S3 _ R3 H3 as3 (s1.trans s3) rl3 ((s.mono (s1.trans s3) (p1.trans p3)).set i e3') q3
theorem ls_never (q : False) : LS w tNever Γ S G := q.elim
theorem ls_while {c : TT} (I : Nat → Env → List Own → Prop) (m0 : Nat) (h0 : I m0 Γ S)
    (hs : ∀ m Γ1 S1, I m Γ1 S1 → LT w c Γ1 S1 fun b S2 => (b = true → LS w t1 Γ1 S2 { G with nx := fun Γ' S' => ∃ m', m' < m ∧ I m' Γ' S', ct := fun Γ' S' => ∃ m', m' < m ∧ I m' Γ' S', bk := G.nx }) ∧ (b = false → G.nx Γ1 S2)) : LS w (tWhile c t1) Γ S G := fun D σ R H as rl s e => by
  refine ⟨fun m σ' H' => ∃ Γ' S' R' as', Sub R R' ∧ Rel w R' H' as' S' ∧ Sts w.K R' as' σ' Γ' ∧ I m Γ' S', ⟨m0, Γ, S, R, as, Sub.refl _, rl, s, h0⟩, ?_⟩
  rintro m σ1 H1 ⟨Γ1, S1, R1, as1, u1, rl1, st1, i1⟩
  refine hs m Γ1 S1 i1 σ1 R1 H1 as1 _ rl1 st1 fun b S2 R2 H2 as2 rl2 s2 p2 q => ?_
  cases b with
  | true =>
    refine ⟨fun σ' H' => ∃ m', m' < m ∧ ∃ Γ' S' R' as', Sub R R' ∧ Rel w R' H' as' S' ∧ Sts w.K R' as' σ' Γ' ∧ I m' Γ' S', fun σ' H' h => h, ?_⟩
    have up := u1.trans s2
    have e2 := e.up up
    exact q.1 rfl _ σ1 R2 H2 as2 rl2 (st1.mono s2 p2) ⟨fun Γ' S' σ' R' H' as' u a b ⟨m', hm, hi⟩ => ⟨m', hm, Γ', S', R', as', up.trans u, a, b, hi⟩, e2.rt, e2.nx, fun Γ' S' σ' R' H' as' u a b ⟨m', hm, hi⟩ => ⟨m', hm, Γ', S', R', as', up.trans u, a, b, hi⟩⟩
  | false => exact e.nx Γ1 S2 σ1 R2 H2 as2 (u1.trans s2) rl2 (st1.mono s2 p2) (q.2 rfl)

/-! ### for -/
/-- over lo, lo + 1, .. (n of them), by whatever makes the range -/
def LR (w : Wd) (wi : TI) (Γ : Env) (S : List Own) (k : Int → Nat → List Own → Prop) : Prop :=
  ∀ (σ : St) (R H : Hp) (as : List Addr) (Q : It → Hp → Prop), Rel w R H as S → Sts w.K R as σ Γ →
    (∀ lo n S' R' H' as', Rel w R' H' as' S' → Sub R R' → Pre as as' → k lo n S' → Q (Itr lo n) H') → wi σ H Q
theorem lr_1 {ta : TA} {k : Int → Nat → List Own → Prop} (h : LA w ta Γ S fun es S1 => ∃ j, es = [.d (.int j)] ∧ -(2 ^ 62) ≤ j ∧ j < 2 ^ 62 ∧ k 0 j.toNat S1) : LR w (iRng1 ta) Γ S k := fun σ R H as Q rl s c =>
  h σ R H as _ rl s fun vs es S1 R1 H1 as1 rl1 s1 p1 e1 ⟨j, h1, h2, h3, h4⟩ => by
    subst h1
    match vs, e1 with
    | [a], ⟨q1, _⟩ => cases q1; exact ⟨j, rfl, h2, h3, c 0 _ S1 R1 H1 as1 rl1 s1 p1 h4⟩
theorem lr_2 {ta : TA} {k : Int → Nat → List Own → Prop} (h : LA w ta Γ S fun es S1 => ∃ i j, es = [.d (.int i), .d (.int j)] ∧ (-(2 ^ 62) ≤ i ∧ i < 2 ^ 62 ∧ -(2 ^ 62) ≤ j ∧ j < 2 ^ 62) ∧ k i (j - i).toNat S1) : LR w (iRng2 ta) Γ S k := fun σ R H as Q rl s c =>
  h σ R H as _ rl s fun vs es S1 R1 H1 as1 rl1 s1 p1 e1 ⟨i, j, h1, h2, h4⟩ => by
    subst h1
    match vs, e1 with
    | [a, b], ⟨q1, q2, _⟩ => cases q1; cases q2; exact ⟨i, j, rfl, h2, c i _ S1 R1 H1 as1 rl1 s1 p1 h4⟩
theorem ls_forR {wi : TI} {g : TG} (h : LR w wi Γ S fun lo n S1 => ∃ I : Nat → Env → List Own → Prop, I 0 Γ S1 ∧
    (∀ i Γ1 S2, i < n → I i Γ1 S2 → LG w g (.d (.int (lo + i))) Γ1 S2 fun Γ2 S3 => LS w t1 Γ2 S3 { G with nx := I (i + 1), ct := I (i + 1), bk := G.nx }) ∧ (∀ Γ1 S2, I n Γ1 S2 → G.nx Γ1 S2)) : LS w (tFor wi g t1) Γ S G := fun D σ R H as rl s e => by
  refine h σ R H as _ rl s fun lo n S1 R1 H1 as1 rl1 s1 p1 ⟨I, i0, is, iE⟩ => ?_
  refine for_range (fun i σ' H' => ∃ Γ' S' R' as', Sub R R' ∧ Rel w R' H' as' S' ∧ Sts w.K R' as' σ' Γ' ∧ I i Γ' S') ⟨Γ, S1, R1, as1, s1, rl1, s.mono s1 p1, i0⟩ ?_ ?_
  · rintro i σ2 H2 hi ⟨Γ2, S2, R2, as2, u2, rl2, st2, i2⟩
    refine is i Γ2 S2 hi i2 _ σ2 R2 H2 as2 _ rl2 st2 (Den.int _) fun Γ3 S3 σ3 R3 H3 as3 rl3 s3 p3 st3 q => ?_
    have up := u2.trans s3
    have e2 := e.up up
    exact q _ σ3 R3 H3 as3 rl3 st3 ⟨fun Γ' S' σ' R' H' as' u a b hi => ⟨Γ', S', R', as', up.trans u, a, b, hi⟩, e2.rt, e2.nx, fun Γ' S' σ' R' H' as' u a b hi => ⟨Γ', S', R', as', up.trans u, a, b, hi⟩⟩
  · rintro σ2 H2 ⟨Γ2, S2, R2, as2, u2, rl2, st2, i2⟩
    exact e.nx Γ2 S2 σ2 R2 H2 as2 u2 rl2 st2 (iE Γ2 S2 i2)
theorem ls_forL {tl : TE} {g : TG} (h : LE w tl Γ S fun e S1 => ∃ ds, e = .d (.lst ds) ∧ ∃ I : Nat → Env → List Own → Prop, I 0 Γ S1 ∧
    (∀ i d Γ1 S2, ds[i]? = some d → I i Γ1 S2 → LG w g (.d d) Γ1 S2 fun Γ2 S3 => LS w t1 Γ2 S3 { G with nx := I (i + 1), ct := I (i + 1), bk := G.nx }) ∧ (∀ Γ1 S2, I ds.length Γ1 S2 → G.nx Γ1 S2)) : LS w (tFor (iList w.K tl) g t1) Γ S G := fun D σ R H as rl s e => by
  refine h σ R H as _ rl s fun v x S1 R1 H1 as1 rl1 s1 p1 e1 ⟨ds, h1, I, i0, is, iE⟩ => ?_
  subst h1
  cases e1 with
  | lst ha hd =>
    rename_i a vs
    refine ⟨a, rfl, ⟨vs, SqL.of (rl1.sub _ _ ha)⟩, ?_⟩
    refine for_list (xs := vs) (fun i σ' H' => ∃ Γ' S' R' as', Sub R1 R' ∧ Rel w R' H' as' S' ∧ Sts w.K R' as' σ' Γ' ∧ I i Γ' S') ⟨Γ, S1, R1, as1, Sub.refl _, rl1, s.mono s1 p1, i0⟩ ?_ ?_ ?_
    · rintro i σ2 H2 hi ⟨Γ2, S2, R2, as2, u2, rl2, st2, i2⟩
      exact SqL.of (rl2.sub _ _ (u2 _ _ ha))
    · rintro i x σ2 H2 hx ⟨Γ2, S2, R2, as2, u2, rl2, st2, i2⟩
      obtain ⟨d, hd1, hd2⟩ := hd.get2 hx
      refine is i d Γ2 S2 hd1 i2 _ σ2 R2 H2 as2 _ rl2 st2 (Den.mono u2 hd2) fun Γ3 S3 σ3 R3 H3 as3 rl3 s3 p3 st3 q => ?_
      have up := u2.trans s3
      have e2 := e.up (s1.trans up)
      exact q _ σ3 R3 H3 as3 rl3 st3 ⟨fun Γ' S' σ' R' H' as' u a b hi => ⟨Γ', S', R', as', up.trans u, a, b, hi⟩, e2.rt, e2.nx, fun Γ' S' σ' R' H' as' u a b hi => ⟨Γ', S', R', as', up.trans u, a, b, hi⟩⟩
    · rintro σ2 H2 ⟨Γ2, S2, R2, as2, u2, rl2, st2, i2⟩
      exact e.nx Γ2 S2 σ2 R2 H2 as2 (s1.trans u2) rl2 st2 (by rw [hd.len] at i2; exact iE Γ2 S2 i2)
theorem ls_forT {tl : TE} {g : TG} (h : LE w tl Γ S fun e S1 => ∃ ds, e = .d (.tup ds) ∧ ∃ I : Nat → Env → List Own → Prop, I 0 Γ S1 ∧
    (∀ i d Γ1 S2, ds[i]? = some d → I i Γ1 S2 → LG w g (.d d) Γ1 S2 fun Γ2 S3 => LS w t1 Γ2 S3 { G with nx := I (i + 1), ct := I (i + 1), bk := G.nx }) ∧ (∀ Γ1 S2, I ds.length Γ1 S2 → G.nx Γ1 S2)) : LS w (tFor (iTup w.K tl) g t1) Γ S G := fun D σ R H as rl s e => by
  refine h σ R H as _ rl s fun v x S1 R1 H1 as1 rl1 s1 p1 e1 ⟨ds, h1, I, i0, is, iE⟩ => ?_
  subst h1
  cases e1 with
  | tup ha hd =>
    rename_i a vs
    refine ⟨a, rfl, ⟨vs, SqT.of (rl1.sub _ _ ha)⟩, ?_⟩
    refine for_tup (xs := vs) (fun i σ' H' => ∃ Γ' S' R' as', Sub R1 R' ∧ Rel w R' H' as' S' ∧ Sts w.K R' as' σ' Γ' ∧ I i Γ' S') ⟨Γ, S1, R1, as1, Sub.refl _, rl1, s.mono s1 p1, i0⟩ ?_ ?_ ?_
    · rintro i σ2 H2 hi ⟨Γ2, S2, R2, as2, u2, rl2, st2, i2⟩
      exact SqT.of (rl2.sub _ _ (u2 _ _ ha))
    · rintro i x σ2 H2 hx ⟨Γ2, S2, R2, as2, u2, rl2, st2, i2⟩
      obtain ⟨d, hd1, hd2⟩ := hd.get2 hx
      refine is i d Γ2 S2 hd1 i2 _ σ2 R2 H2 as2 _ rl2 st2 (Den.mono u2 hd2) fun Γ3 S3 σ3 R3 H3 as3 rl3 s3 p3 st3 q => ?_
      have up := u2.trans s3
      have e2 := e.up (s1.trans up)
      exact q _ σ3 R3 H3 as3 rl3 st3 ⟨fun Γ' S' σ' R' H' as' u a b hi => ⟨Γ', S', R', as', up.trans u, a, b, hi⟩, e2.rt, e2.nx, fun Γ' S' σ' R' H' as' u a b hi => ⟨Γ', S', R', as', up.trans u, a, b, hi⟩⟩
    · rintro σ2 H2 ⟨Γ2, S2, R2, as2, u2, rl2, st2, i2⟩
      exact e.nx Γ2 S2 σ2 R2 H2 as2 (s1.trans u2) rl2 st2 (by rw [hd.len] at i2; exact iE Γ2 S2 i2)
end
end Gm
namespace Gm
open PySem L2

/-! ### calls -/
def wb (S : List Own) : List Nat → List Own → List Own
  | [], _ => S
  | _ :: _, [] => S
  | i :: is, b :: bs => wb (S.set i b) is bs
theorem wb_len : ∀ (is : List Nat) (bs : List Own) (S : List Own), (wb S is bs).length = S.length
  | [], _, _ => by simp [wb]
  | _ :: _, [], _ => by simp [wb]
  | i :: is, b :: bs, S => by unfold wb; rw [wb_len is bs, List.length_set]
theorem wb_out : ∀ (is : List Nat) (bs : List Own) (S : List Own) (i : Nat), i ∉ is → (wb S is bs)[i]? = S[i]?
  | [], _, _, _, _ => by simp [wb]
  | _ :: _, [], _, _, _ => by simp [wb]
  | j :: is, b :: bs, S, i, h => by
    unfold wb
    rw [wb_out is bs _ i (fun q => h (List.mem_cons_of_mem _ q)), List.getElem?_set_ne (fun q => h (by rw [q]; exact List.mem_cons_self ..))]
theorem wb_in : ∀ (is : List Nat) (bs : List Own) (S : List Own) (j i : Nat) (b : Own), is.Nodup → is[j]? = some i → bs[j]? = some b → i < S.length → (wb S is bs)[i]? = some b
  | [], _, _, _, _, _, _, h, _, _ => by simp at h
  | _ :: _, [], _, _, _, _, _, _, h, _ => by simp at h
  | x :: is, y :: bs, S, 0, i, b, hn, h1, h2, hl => by
    simp at h1 h2
    subst h1 h2
    unfold wb
    rw [wb_out is bs _ x (List.nodup_cons.mp hn).1, List.getElem?_set_self hl]
  | x :: is, y :: bs, S, j + 1, i, b, hn, h1, h2, hl => by
    unfold wb
    exact wb_in is bs _ j i b (List.nodup_cons.mp hn).2 (by simpa using h1) (by simpa using h2) (by rw [List.length_set]; exact hl)

def picks (as : List Addr) (is : List Nat) : List Addr := is.map fun i => (as[i]?).getD 0
def Ent.ren (is : List Nat) : Ent → Ent
  | .d x => .d x
  | .own j => .own ((is[j]?).getD 0)
  | .tup es => .tup es
def Ent.wf (n : Nat) : Ent → Bool
  | .d _ => true
  | .own j => decide (j < n)
  | .tup _ => false
mutual
def Ent.back (is : List Nat) (n : Nat) : Ent → Ent
  | .d x => .d x
  | .own j => if j < is.length then .own ((is[j]?).getD 0) else .own (n + (j - is.length))
  | .tup es => .tup (Ent.backs is n es)
def Ent.backs (is : List Nat) (n : Nat) : List Ent → List Ent
  | [] => []
  | e :: es => Ent.back is n e :: Ent.backs is n es
end
structure Pick (is : List Nat) (S os : List Own) : Prop where
  nd : is.Nodup
  len : is.length = os.length
  at_ : ∀ (j i : Nat), is[j]? = some i → ∃ o, os[j]? = some o ∧ S[i]? = some o ∧ o ≠ .gone

section
variable {w : Wd} {R H : Hp} {as : List Addr} {S os : List Own} {is : List Nat}
theorem picks_at (r : Rel w R H as S) (p : Pick is S os) {j : Nat} {a : Addr} (h : (picks as is)[j]? = some a) : ∃ (i : Nat) (o : Own), is[j]? = some i ∧ as[i]? = some a ∧ os[j]? = some o ∧ S[i]? = some o ∧ o ≠ .gone := by
  unfold picks at h
  rw [List.getElem?_map] at h
  cases q : is[j]? with
  | none => rw [q] at h; cases h
  | some i =>
    rw [q] at h
    obtain ⟨o, h1, h2, h3⟩ := p.at_ j i q
    obtain ⟨b, hb⟩ := r.own h2
    have e : (as[i]?).getD 0 = a := Option.some.inj h
    rw [hb] at e
    have e' : b = a := e
    subst e'
    exact ⟨i, o, rfl, hb, h1, h2, h3⟩
theorem picks_mem (r : Rel w R H as S) (p : Pick is S os) {a : Addr} (h : a ∈ picks as is) : ∃ (j i : Nat) (o : Own), is[j]? = some i ∧ as[i]? = some a ∧ os[j]? = some o ∧ S[i]? = some o ∧ o ≠ Own.gone := by
  obtain ⟨j, hj⟩ := List.getElem?_of_mem h
  obtain ⟨i, o, q⟩ := picks_at r p hj
  exact ⟨j, i, o, q⟩
theorem picks_len : (picks as is).length = is.length := by unfold picks; rw [List.length_map]
theorem picks_of (r : Rel w R H as S) (p : Pick is S os) {j i : Nat} {a : Addr} (h : is[j]? = some i) (ha : as[i]? = some a) : (picks as is)[j]? = some a := by
  unfold picks
  rw [List.getElem?_map, h]
  show some ((as[i]?).getD 0) = some a
  rw [ha]; rfl
theorem Rel.enter (r : Rel w R H as S) (p : Pick is S os) : Rel ⟨w.K, R, H, picks as is⟩ R H (picks as is) os where
  r0 := Sub.refl _
  sub := r.sub
  keep := fun b o e _ => e
  there := fun b e => e
  pre := fun i a e => e
  orig := fun b o e => .inl e
  len := by rw [picks_len]; exact p.len
  reg := fun j o a h1 h2 h3 => by
    obtain ⟨i, o', e1, e2, e3, e4, e5⟩ := picks_at r p h2
    rw [h1] at e3; cases e3
    exact ⟨(r.reg i o a e4 e2 h3).1, .inr (List.mem_of_getElem? h2)⟩
  dist := fun j1 j2 a o u h1 h2 n1 n2 a1 a2 => by
    obtain ⟨i1, o1, b1, b2, b3, b4, b5⟩ := picks_at r p a1
    obtain ⟨i2, o2, c1, c2, c3, c4, c5⟩ := picks_at r p a2
    have e : i1 = i2 := r.dist i1 i2 a o1 o2 b4 c4 b5 c5 b2 c2
    subst e
    exact nd_ix p.nd b1 c1
theorem Rel.leave {R' H' : Hp} {as' : List Addr} {bs nw : List Own} (r : Rel w R H as S) (p : Pick is S os) (hl : bs.length = is.length) (hb : ∀ o ∈ bs, o ≠ .gone)
    (r' : Rel ⟨w.K, R, H, picks as is⟩ R' H' as' (bs ++ nw)) : Rel w R' H' (as ++ as'.drop is.length) (wb S is bs ++ nw) ∧ Sub R R' ∧ Pre as (as ++ as'.drop is.length) := by
  have p0 : Pre as (as ++ as'.drop is.length) := Pre.app _ _
  have lens : (wb S is bs).length = S.length := wb_len is bs S
  have len' : as'.length = is.length + nw.length := by rw [r'.len, List.length_append, hl]
  -- the addresses by place
  have lo : ∀ {i : Nat} {a : Addr}, i < S.length → (as ++ as'.drop is.length)[i]? = some a → as[i]? = some a := fun hi h => by
    rw [List.getElem?_append_left (by rw [r.len]; exact hi)] at h; exact h
  have hi_ : ∀ {i : Nat} {a : Addr}, ¬ i < S.length → (as ++ as'.drop is.length)[i]? = some a → as'[is.length + (i - S.length)]? = some a := fun {i a} hi h => by
    rw [List.getElem?_append_right (by rw [r.len]; omega), List.getElem?_drop, r.len] at h; exact h
  have slo : ∀ {i : Nat} {o : Own}, i < S.length → (wb S is bs ++ nw)[i]? = some o → (wb S is bs)[i]? = some o := fun hi h => by
    rw [List.getElem?_append_left (by rw [lens]; exact hi)] at h; exact h
  have shi : ∀ {i : Nat} {o : Own}, ¬ i < S.length → (wb S is bs ++ nw)[i]? = some o → (bs ++ nw)[is.length + (i - S.length)]? = some o := fun {i o} hi h => by
    rw [List.getElem?_append_right (by rw [lens]; omega), lens] at h
    rw [List.getElem?_append_right (by rw [hl]; omega), hl, show is.length + (i - S.length) - is.length = i - S.length by omega]; exact h
  -- an old place that is live behind was live before
  have live : ∀ {i : Nat} {o : Own}, (wb S is bs)[i]? = some o → o ≠ .gone → ∃ u, S[i]? = some u ∧ u ≠ .gone := fun {i o} h n => by
    by_cases q : i ∈ is
    · obtain ⟨j, hj⟩ := List.getElem?_of_mem q
      obtain ⟨u, h1, h2, h3⟩ := p.at_ j i hj
      exact ⟨u, h2, h3⟩
    · rw [wb_out is bs S i q] at h; exact ⟨o, h, n⟩
  -- a new place stands apart from all that was there
  have apart : ∀ {i : Nat} {o : Own} {a : Addr}, ¬ i < S.length → (wb S is bs ++ nw)[i]? = some o → o ≠ .gone → (as ++ as'.drop is.length)[i]? = some a → H a = none := fun {i o a} hi h n ha => by
    have e1 := shi hi h
    have e2 := hi_ hi ha
    obtain ⟨g1, g2⟩ := r'.reg _ o a e1 e2 n
    rcases g2 with g2 | g2
    · exact g2
    · obtain ⟨j, i', u, c1, c2, c3, c4, c5⟩ := picks_mem r p g2
      have hj : j < is.length := (List.getElem?_eq_some_iff.mp c1).1
      have hbj : ∃ b, bs[j]? = some b := ⟨_, List.getElem?_eq_getElem (by rw [hl]; exact hj)⟩
      obtain ⟨b, hb1⟩ := hbj
      have e3 : as'[j]? = some a := r'.pre j a (picks_of r p c1 c2)
      have e4 : (bs ++ nw)[j]? = some b := by rw [List.getElem?_append_left (by rw [hl]; exact hj)]; exact hb1
      have := r'.dist j _ a b o e4 e1 (hb b (List.mem_of_getElem? hb1)) n e3 e2
      omega
  refine ⟨⟨r.r0.trans r'.r0, r'.sub, fun b o e n => ?_, fun b e => r.there b (r'.there b e), fun i a e => p0 i a (r.pre i a e), fun b o e => ?_, ?_, fun i o a h1 h2 h3 => ?_, fun i j a o u h1 h2 n1 n2 a1 a2 => ?_⟩, r'.r0, p0⟩
  · refine r'.keep b o (r.keep b o e n) fun hm => ?_
    obtain ⟨j, i, u, c1, c2, c3, c4, c5⟩ := picks_mem r p hm
    rcases (r.reg i u b c4 c2 c5).2 with g | g
    · rw [e] at g; cases g
    · exact n g
  · rcases r'.orig b o e with q | q | q
    · exact r.orig b o q
    · exact .inr (.inl (r.there b q))
    · obtain ⟨j, i, u, c1, c2, c3, c4, c5⟩ := picks_mem r p q
      exact .inr (r.reg i u _ c4 c2 c5).2
  · rw [List.length_append, List.length_drop, List.length_append, lens, r.len, len']; omega
  · by_cases hi : i < S.length
    · have e1 := slo hi h1
      have e2 := lo hi h2
      by_cases q : i ∈ is
      · obtain ⟨j, hj⟩ := List.getElem?_of_mem q
        obtain ⟨u, c1, c2, c3⟩ := p.at_ j i hj
        have hjl : j < is.length := (List.getElem?_eq_some_iff.mp hj).1
        obtain ⟨b, hb1⟩ : ∃ b, bs[j]? = some b := ⟨_, List.getElem?_eq_getElem (by rw [hl]; exact hjl)⟩
        rw [wb_in is bs S j i b p.nd hj hb1 hi] at e1
        cases e1
        have e3 : as'[j]? = some a := r'.pre j a (picks_of r p hj e2)
        have e4 : (bs ++ nw)[j]? = some o := by rw [List.getElem?_append_left (by rw [hl]; exact hjl)]; exact hb1
        exact ⟨(r'.reg j o a e4 e3 h3).1, (r.reg i u a c2 e2 c3).2⟩
      · rw [wb_out is bs S i q] at e1
        obtain ⟨g1, g2⟩ := r.reg i o a e1 e2 h3
        obtain ⟨z1, z, z2⟩ := g1.there h3
        have nm : a ∉ picks as is := fun hm => by
          obtain ⟨j, i', u, c1, c2, c3, c4, c5⟩ := picks_mem r p hm
          have := r.dist i i' a o u e1 c4 h3 c5 e2 c2
          subst this
          exact q (List.mem_of_getElem? c1)
        refine ⟨g1.upd_ r'.r0 (fun _ hr => ?_) fun _ => ?_, g2⟩
        · cases qq : R' a with
          | none => rfl
          | some v =>
            rcases r'.orig a v qq with c | c | c
            · have c' : R a = some v := c
              rw [hr] at c'; cases c'
            · have c' : H a = none := c
              rw [z2] at c'; cases c'
            · exact absurd c nm
        · rw [z2]; exact r'.keep a z z2 nm
    · have e1 := shi hi h1
      have e2 := hi_ hi h2
      exact ⟨(r'.reg _ o a e1 e2 h3).1, .inl (r.there a (apart hi h1 h3 h2))⟩
  · have old : ∀ {k : Nat} {q : Own}, k < S.length → (wb S is bs ++ nw)[k]? = some q → q ≠ .gone → (as ++ as'.drop is.length)[k]? = some a → ∃ z, H a = some z := fun {k q} hk e1 e2 e3 => by
      obtain ⟨u', v1, v2⟩ := live (slo hk e1) e2
      obtain ⟨z1, z, z2⟩ := (r.reg k u' a v1 (lo hk e3) v2).1.there v2
      exact ⟨z, z2⟩
    by_cases hi : i < S.length <;> by_cases hj : j < S.length
    · obtain ⟨u1, v1, v2⟩ := live (slo hi h1) n1
      obtain ⟨u2, v3, v4⟩ := live (slo hj h2) n2
      exact r.dist i j a u1 u2 v1 v3 v2 v4 (lo hi a1) (lo hj a2)
    · obtain ⟨z, z2⟩ := old hi h1 n1 a1
      rw [apart hj h2 n2 a2] at z2; cases z2
    · obtain ⟨z, z2⟩ := old hj h2 n2 a2
      rw [apart hi h1 n1 a1] at z2; cases z2
    · have := r'.dist _ _ a o u (shi hi h1) (shi hj h2) n1 n2 (hi_ hi a1) (hi_ hj a2)
      omega
theorem ents_enter (r : Rel w R H as S) (p : Pick is S os) : ∀ {vs : List V} {es : List Ent}, EntsOk w.K R as vs (es.map (Ent.ren is)) → es.all (Ent.wf is.length) = true → EntsOk w.K R (picks as is) vs es
  | [], [], _, _ => trivial
  | v :: vs, .d x :: es, ⟨h, t⟩, q => ⟨h, ents_enter r p t (by simpa [Ent.wf] using q)⟩
  | v :: vs, .own j :: es, ⟨h, t⟩, q => by
    have q' : j < is.length ∧ es.all (Ent.wf is.length) = true := by simpa [Ent.wf] using q
    refine ⟨?_, ents_enter r p t q'.2⟩
    obtain ⟨a, h1, h2⟩ := h
    rw [List.getElem?_eq_getElem q'.1] at h1
    exact ⟨a, picks_of r p (List.getElem?_eq_getElem q'.1) h1, h2⟩
  | v :: vs, .tup _ :: es, _, q => by simp [Ent.wf] at q
  | [], _ :: _, h, _ => h.elim
  | _ :: _, [], h, _ => h.elim
theorem own_leave {R' H' : Hp} {as' : List Addr} {bs nw : List Own} (r : Rel w R H as S) (p : Pick is S os) (r' : Rel ⟨w.K, R, H, picks as is⟩ R' H' as' (bs ++ nw)) {v : V} {j : Nat} (h : EntOk w.K R' as' v (.own j)) :
    EntOk w.K R' (as ++ as'.drop is.length) v (Ent.back is S.length (.own j)) := by
  obtain ⟨a, h1, h2⟩ := h
  by_cases hj : j < is.length
  · obtain ⟨o, c1, c2, c3⟩ := p.at_ j _ (List.getElem?_eq_getElem hj)
    obtain ⟨b, hb⟩ := r.own c2
    have e3 := r'.pre j b (picks_of r p (List.getElem?_eq_getElem hj) hb)
    rw [h1] at e3; cases e3
    have e : Ent.back is S.length (.own j) = .own (is[j]) := by
      show (if j < is.length then Ent.own ((is[j]?).getD 0) else _) = _
      rw [if_pos hj, List.getElem?_eq_getElem hj]; rfl
    rw [e]
    exact ⟨a, Pre.app _ _ _ _ hb, h2⟩
  · have e : Ent.back is S.length (.own j) = .own (S.length + (j - is.length)) := by
      show (if j < is.length then Ent.own ((is[j]?).getD 0) else _) = _
      rw [if_neg hj]
    rw [e]
    refine ⟨a, ?_, h2⟩
    rw [← r.len, List.getElem?_append_right (by omega), List.getElem?_drop, show is.length + (as.length + (j - is.length) - as.length) = j by omega]
    exact h1
mutual
theorem ent_leave {R' H' : Hp} {as' : List Addr} {bs nw : List Own} (r : Rel w R H as S) (p : Pick is S os) (r' : Rel ⟨w.K, R, H, picks as is⟩ R' H' as' (bs ++ nw)) : ∀ {v : V} {e : Ent}, EntOk w.K R' as' v e →
    EntOk w.K R' (as ++ as'.drop is.length) v (Ent.back is S.length e)
  | _, .d _, h => h
  | _, .own _, h => own_leave r p r' h
  | _, .tup _, ⟨a, vs, h1, h2, h3⟩ => ⟨a, vs, h1, h2, ents_leave r p r' h3⟩
theorem ents_leave {R' H' : Hp} {as' : List Addr} {bs nw : List Own} (r : Rel w R H as S) (p : Pick is S os) (r' : Rel ⟨w.K, R, H, picks as is⟩ R' H' as' (bs ++ nw)) : ∀ {vs : List V} {es : List Ent}, EntsOk w.K R' as' vs es →
    EntsOk w.K R' (as ++ as'.drop is.length) vs (Ent.backs is S.length es)
  | [], [], _ => trivial
  | _ :: _, _ :: _, ⟨h, t⟩ => ⟨ent_leave r p r' h, ents_leave r p r' t⟩
  | [], _ :: _, h => h.elim
  | _ :: _, [], h => h.elim
end
end

/-- what a def is worth, over data: arguments, the borrowed store, what is wanted behind, what of an error -/
abbrev DS := List Ent → List Own → KE → KX → Prop
def ExOk (w : Wd) (E : XK) (x : KX) : Prop := ∀ (C d : Addr) (v : V) (u : D) (S : List Own) (R H : Hp) (as : List Addr), Rel w R H as S → R d = some (.xd [("value", v)]) → Den w.K R v u → x C u S → E (.ref C) (some d) H
def spD (K : PySem.W.Frag) (f : DS) : Sp := fun vs H Q E => ∃ (R : Hp) (as : List Addr) (S : List Own) (es : List Ent) (post : KE) (exn : KX), EntsOk K R as vs es ∧ Rel ⟨K, R, H, as⟩ R H as S ∧ f es S post exn ∧
  (∀ v e S' R' H' as', Rel ⟨K, R, H, as⟩ R' H' as' S' → EntOk K R' as' v e → post e S' → Q v H') ∧ ExOk ⟨K, R, H, as⟩ E exn
section
variable {w : Wd} {Γ : Env} {S : List Own} {k : KE} {f : DS} {E : XK}
/-- the promise is met, by values -/
def RS (w : Wd) (f : DS) (E : XK) (es : List Ent) (S : List Own) (k : KE) : Prop :=
  ∀ (R H : Hp) (as : List Addr) (vs : List V) (Q : VK), Rel w R H as S → EntsOk w.K R as vs es →
    (∀ v e S' R' H' as', Rel w R' H' as' S' → Sub R R' → Pre as as' → EntOk w.K R' as' v e → k e S' → Q v H') → spD w.K f vs H Q E
theorem rs_call {x : KX} (hE : ExOk w E x) (is : List Nat) {os : List Own} {es es' : List Ent} (p : Pick is S os) (he : es = es'.map (Ent.ren is)) (hw : es'.all (Ent.wf is.length) = true)
    (h : f es' os (fun e S' => ∃ bs nw, S' = bs ++ nw ∧ bs.length = is.length ∧ (∀ o ∈ bs, o ≠ .gone) ∧ k (Ent.back is S.length e) (wb S is bs ++ nw))
      (fun C u S' => ∃ bs nw, S' = bs ++ nw ∧ bs.length = is.length ∧ (∀ o ∈ bs, o ≠ .gone) ∧ x C u (wb S is bs ++ nw))) : RS w f E es S k := fun R H as vs Q rl ev c => by
  subst he
  refine ⟨R, picks as is, os, es', _, _, ents_enter rl p ev hw, rl.enter p, h, ?_, ?_⟩
  · rintro v e S' R' H' as' r' ok ⟨bs, nw, rfl, hl, hb, hk⟩
    obtain ⟨a1, a2, a3⟩ := rl.leave p hl hb r'
    exact c v _ _ R' H' _ a1 a2 a3 (ent_leave rl p r' ok) hk
  · rintro C d v u S' R' H' as' r' hd hv ⟨bs, nw, rfl, hl, hb, hk⟩
    obtain ⟨a1, a2, a3⟩ := rl.leave p hl hb r'
    exact hE C d v u _ R' H' _ a1 hd hv hk
theorem ex0 {E : XK} : ExOk w E (fun _ _ _ => False) := fun _ _ _ _ _ _ _ _ _ _ _ h => h.elim
theorem Pick.nil : Pick [] S [] := ⟨List.nodup_nil, rfl, fun j i h => by simp at h⟩
theorem Pick.one {i : Nat} {o : Own} (h : S[i]? = some o) (n : o ≠ .gone) : Pick [i] S [o] := ⟨List.nodup_cons.mpr ⟨List.not_mem_nil, List.nodup_nil⟩, rfl, fun j i' q => by
  match j, q with
  | 0, q => cases q; exact ⟨o, rfl, h, n⟩
  | j + 1, q => simp at q⟩
theorem Pick.two {i j : Nat} {o u : Own} (hij : i ≠ j) (h : S[i]? = some o) (n : o ≠ .gone) (h' : S[j]? = some u) (n' : u ≠ .gone) : Pick [i, j] S [o, u] :=
  ⟨List.nodup_cons.mpr ⟨by simp [hij], List.nodup_cons.mpr ⟨List.not_mem_nil, List.nodup_nil⟩⟩, rfl, fun k i' q => by
    match k, q with
    | 0, q => cases q; exact ⟨o, rfl, h, n⟩
    | 1, q => cases q; exact ⟨u, rfl, h', n'⟩
    | k + 2, q => simp at q⟩
/-- nothing is borrowed -/
theorem rs_call0 {x : KX} (hE : ExOk w E x) {es : List Ent} (hw : es.all (Ent.wf 0) = true) (h : f es [] (fun e S' => k (Ent.back [] S.length e) (S ++ S')) (fun C u S' => x C u (S ++ S'))) (mono : ∀ {es S} {p p' : KE} {x x' : KX}, (∀ e S, p e S → p' e S) → (∀ C u S, x C u S → x' C u S) → f es S p x → f es S p' x') : RS w f E es S k := by
  refine rs_call hE [] (Pick.nil) (es' := es) ?_ hw (mono (fun e S' q => ⟨[], S', rfl, rfl, by simp, q⟩) (fun C u S' q => ⟨[], S', rfl, rfl, by simp, q⟩) h)
  clear h mono hE
  induction es with
  | nil => rfl
  | cons e es ih =>
    have q : Ent.wf 0 e = true ∧ es.all (Ent.wf 0) = true := by simpa using hw
    cases e with
    | d x => show _ = Ent.d x :: _; rw [← ih q.2]
    | own j => simp [Ent.wf] at q
    | tup es => simp [Ent.wf] at q
theorem le_call {t : TA} (h : LA w t Γ S fun es S1 => RS w f E es S1 k) : LE w (tCall (spD w.K f) [] E t) Γ S k := fun σ R H as Q rl s c =>
  h σ R H as _ rl s fun vs es S1 R1 H1 as1 rl1 s1 p1 e1 h1 => by
    rw [List.append_nil]
    exact h1 R1 H1 as1 vs Q rl1 e1 fun v' e' S' R' H' as' a1 a2 a3 a4 a5 => c v' e' S' R' H' as' a1 (s1.trans a2) (p1.trans a3) a4 a5
end
end Gm
namespace Gm
open PySem L2

section
variable {w : Wd} {Γ : Env} {S : List Own} {k : KE} {ta tb te : TE} {G : GE} {f : DS} {E : XK}

/-! ### objects -/
def IsObj (x : Ent) (S : List Own) (C : Addr) (gs : List (Str × D)) : Prop := x = .d (.obj C gs) ∨ ∃ i, x = .own i ∧ S[i]? = some (.ins C gs)
theorem isObj_at {R H : Hp} {as : List Addr} {v : V} {x : Ent} {C : Addr} {gs : List (Str × D)} (o : IsObj x S C gs) (r : Rel w R H as S) (e : EntOk w.K R as v x) : ∃ a dx fs, v = .ref a ∧ H a = some (.ins C dx fs) ∧ DenF w.K R fs gs := by
  rcases o with rfl | ⟨i, rfl, hi⟩
  · cases e with
    | obj h1 h2 => exact ⟨_, _, _, rfl, r.sub _ _ h1, h2⟩
  · obtain ⟨a, ha, rfl⟩ := e
    obtain ⟨⟨z, dx, fs, h1, h2⟩, _⟩ := r.reg i _ a hi ha (by intro z; cases z)
    exact ⟨a, dx, fs, rfl, h1, h2⟩
theorem le_fld {fn : Str} (h : LE w ta Γ S fun x S1 => ∃ C gs d, IsObj x S1 C gs ∧ Cls w.K C ∧ NoAttr w.K C fn ∧ gs.lookup fn = some d ∧ k (.d d) S1) : LE w (tFld w.K ta fn) Γ S k := fun σ R H as Q rl s c =>
  h σ R H as _ rl s fun v e S1 R1 H1 as1 rl1 s1 p1 e1 ⟨C, gs, d, h1, h2, h3, h4, h5⟩ => by
    obtain ⟨a, dx, fs, q1, q2, q3⟩ := isObj_at h1 rl1 e1
    obtain ⟨v', q4, q5⟩ := q3.lookup h4
    exact ⟨a, C, dx, fs, v', q1, q2, h2, h3, q4, c _ _ S1 R1 H1 as1 rl1 s1 p1 (ok_d q5) h5⟩
/-- self.f = e, self in the store -/
theorem ls_fld {tv : TE} {fn : Str} (h : LE w tv Γ S fun y S1 => LE w ta Γ S1 fun x S2 => ∃ d i C gs, y = .d d ∧ x = .own i ∧ S2[i]? = some (.ins C gs) ∧ Cls w.K C ∧ NoAttr w.K C fn ∧ gs.length < 1000 ∧ G.nx Γ (S2.set i (.ins C (putG fn d gs)))) : LS w (sFld w.K ta tv fn) Γ S G := fun D σ R H as rl s e => by
  refine h σ R H as _ rl s fun v y S1 R1 H1 as1 rl1 s1 p1 e1 h1 => ?_
  refine h1 σ R1 H1 as1 _ rl1 (s.mono s1 p1) fun u x S2 R2 H2 as2 rl2 s2 p2 e2 q => ?_
  obtain ⟨d, i, C, gs, rfl, rfl, q1, q2, q3, q4, q5⟩ := q
  obtain ⟨a, ha, rfl⟩ := e2
  obtain ⟨⟨z, dx, fs, c1, c2⟩, _⟩ := rl2.reg i _ a q1 ha (by intro z; cases z)
  have dv : Den w.K R2 v d := (e1.mono s2 p2 : EntOk w.K R2 as2 v (.d d))
  refine ⟨a, C, dx, fs, rfl, c1, q2, q3, by rw [c2.len]; exact q4, ?_⟩
  have rl3 := rl2.write (o' := .ins C (putG fn d gs)) (u := .ins C dx (putF fn v fs)) q1 ha (by intro z; cases z) (by intro z; cases z) ⟨z, dx, _, upd_same, c2.put dv⟩
  exact e.nx Γ _ σ R2 _ as2 (s1.trans s2) rl3 ((s.mono (s1.trans s2) (p1.trans p2))) q5
theorem le_meth {C : Addr} {m : Str} {t : TA} (h : LE w ta Γ S fun x S1 => ∃ gs, IsObj x S1 C gs ∧ gs.lookup m = none ∧ LA w t Γ S1 fun es S2 => RS w f E (x :: es) S2 k) : LE w (tMeth C m (spD w.K f) [] E ta t) Γ S k := fun σ R H as Q rl s c => by
  refine h σ R H as _ rl s fun v x S1 R1 H1 as1 rl1 s1 p1 e1 ⟨gs, h1, h2, h3⟩ => ?_
  obtain ⟨a, dx, fs, rfl, q2, q3⟩ := isObj_at h1 rl1 e1
  refine ⟨a, dx, fs, rfl, q2, q3.none h2, ?_⟩
  refine h3 σ R1 H1 as1 _ rl1 (s.mono s1 p1) fun vs es S2 R2 H2 as2 rl2 s2 p2 e2 h4 => ?_
  rw [List.append_nil]
  exact h4 R2 H2 as2 _ Q rl2 ⟨e1.mono s2 p2, e2⟩ fun v' e' S' R' H' as' a1 a2 a3 a4 a5 => c v' e' S' R' H' as' a1 ((s1.trans s2).trans a2) ((p1.trans p2).trans a3) a4 a5
theorem le_prop {C : Addr} (h : LE w ta Γ S fun x S1 => ∃ gs, IsObj x S1 C gs ∧ RS w f E [x] S1 k) : LE w (tProp C (spD w.K f) [] E ta) Γ S k := fun σ R H as Q rl s c => by
  refine h σ R H as _ rl s fun v x S1 R1 H1 as1 rl1 s1 p1 e1 ⟨gs, h1, h3⟩ => ?_
  obtain ⟨a, dx, fs, rfl, q2, q3⟩ := isObj_at h1 rl1 e1
  refine ⟨a, dx, fs, rfl, q2, ?_⟩
  exact h3 R1 H1 as1 _ Q rl1 ⟨e1, trivial⟩ fun v' e' S' R' H' as' a1 a2 a3 a4 a5 => c v' e' S' R' H' as' a1 (s1.trans a2) (p1.trans a3) a4 a5
theorem EntsOk.dd {K : PySem.W.Frag} {R : Hp} {as bs : List Addr} : ∀ {vs : List V} {es : List Ent}, EntsOk K R as vs es → es.all (Ent.wf 0) = true → EntsOk K R bs vs es
  | [], [], _, _ => trivial
  | v :: vs, .d x :: es, ⟨h, t⟩, q => ⟨h, EntsOk.dd t (by simpa [Ent.wf] using q)⟩
  | v :: vs, .own j :: es, _, q => by simp [Ent.wf] at q
  | v :: vs, .tup _ :: es, _, q => by simp [Ent.wf] at q
  | [], _ :: _, h, _ => h.elim
  | _ :: _, [], h, _ => h.elim
/-- C(..): __init__ fills a new object; it is data from then on -/
theorem le_make {C : Addr} {t : TA} {x : KX} (hE : ExOk w E x) (h : LA w t Γ S fun es S1 => es.all (Ent.wf 0) = true ∧ f (.own 0 :: es) [.ins C []] (fun e S' => e = .d .non ∧ ∃ gs, S' = [.ins C gs] ∧ k (.d (.obj C gs)) S1) (fun Cx u S' => S' ≠ [] ∧ x Cx u S1)) :
    LE w (tMake C (spD w.K f) [] E t) Γ S k := fun σ R H as Q rl s c => by
  refine h σ R H as _ rl s fun vs es S1 R1 H1 as1 rl1 s1 p1 e1 h1 => ?_
  obtain ⟨hw, h1⟩ := h1
  intro xa dx hx hd hne
  rw [List.append_nil]
  obtain ⟨rl2, s2⟩ := rl1.alloc hd (.own xa)
  have hx2 : (upd H1 dx (.own xa)) xa = none := by rw [upd_ne (fun z => hne z.symm)]; exact hx
  -- the callee's world: the new object is borrowed
  have rlc : Rel ⟨w.K, upd R1 dx (.own xa), upd (upd H1 dx (.own xa)) xa (.ins C dx []), [xa]⟩ (upd R1 dx (.own xa)) (upd (upd H1 dx (.own xa)) xa (.ins C dx [])) [xa] [.ins C []] := by
    have hRx : (upd R1 dx (.own xa)) xa = none := (rl2.fresh hx2).1
    refine ⟨Sub.refl _, fun b o e => ?_, fun b o e _ => e, fun b e => e, fun i a e => e, fun b o e => .inl e, rfl, fun i o a q1 q2 q3 => ?_, fun i j a o u q1 q2 _ _ _ _ => ?_⟩
    · rw [upd_ne (ne_of_none e hRx)]; exact rl2.sub b o e
    · match i, q1, q2 with
      | 0, q1, q2 => cases q1; cases q2; exact ⟨⟨hRx, dx, [], upd_same, .nil⟩, .inr (List.mem_cons_self ..)⟩
      | i + 1, q1, _ => simp at q1
    · match i, j, q1, q2 with
      | 0, 0, _, _ => rfl
      | i + 1, _, q1, _ => simp at q1
      | 0, j + 1, _, q2 => simp at q2
  -- back in the caller's world
  have back : ∀ {R' H' : Hp} {as' : List Addr} {S' : List Own}, Rel ⟨w.K, upd R1 dx (.own xa), upd (upd H1 dx (.own xa)) xa (.ins C dx []), [xa]⟩ R' H' as' S' → S' ≠ [] → Rel w R' H' as1 S1 ∧ Sub R1 R' := by
    intro R' H' as' S' r' hS
    have rl3 : Rel w (upd R1 dx (.own xa)) (upd (upd H1 dx (.own xa)) xa (.ins C dx [])) (as1 ++ [xa]) (S1 ++ [.ins C []]) := rl2.allocO hx2 _ ⟨(rl2.fresh hx2).1, dx, [], upd_same, .nil⟩
    have sb : Sub R1 R' := s2.trans r'.r0
    have hxR : xa ∉ w.as0 ∨ True := .inr trivial
    have keepH : ∀ b u, H1 b = some u → H' b = some u := fun b u e => by
      have nb : b ≠ xa := ne_of_none e hx
      have nd : b ≠ dx := ne_of_none e hd
      refine r'.keep b u (by show upd _ _ _ b = _; rw [upd_ne nb, upd_ne nd]; exact e) (by show b ∉ [xa]; simp [nb])
    have noR : ∀ b u, H1 b = some u → R1 b = none → R' b = none := fun b u e hr => by
      have nb : b ≠ xa := ne_of_none e hx
      have nd : b ≠ dx := ne_of_none e hd
      cases qq : R' b with
      | none => rfl
      | some z =>
        rcases r'.orig b z qq with q | q | q
        · have q' : upd R1 dx (.own xa) b = some z := q
          rw [upd_ne nd, hr] at q'; cases q'
        · have q' : upd (upd H1 dx (.own xa)) xa (.ins C dx []) b = none := q
          rw [upd_ne nb, upd_ne nd, e] at q'; cases q'
        · have q' : b ∈ [xa] := q
          simp at q'
          exact absurd q' nb
    refine ⟨⟨rl1.r0.trans sb, r'.sub, fun b u e n => keepH b u (rl1.keep b u e n), fun b e => ?_, rl1.pre, fun b u e => ?_, rl1.len, fun i o a q1 q2 q3 => ?_, rl1.dist⟩, sb⟩
    · refine rl1.there b ?_
      cases qq : H1 b with
      | none => rfl
      | some z => rw [keepH b z qq] at e; cases e
    · by_cases hb : R1 b = some u
      · exact rl1.orig b u hb
      · cases qq : H1 b with
        | none => exact .inr (.inl (rl1.there b qq))
        | some z =>
          cases hr : R1 b with
          | none => rw [noR b z qq hr] at e; cases e
          | some y =>
            rw [sb b y hr] at e
            cases e
            exact absurd hr hb
    · obtain ⟨g1, g2⟩ := rl1.reg i o a q1 q2 q3
      obtain ⟨z1, z, z2⟩ := g1.there q3
      exact ⟨g1.upd_ sb (fun _ hr => noR a z z2 hr) fun _ => by rw [keepH a z z2, z2], g2⟩
  refine ⟨upd R1 dx (.own xa), [xa], [.ins C []], .own 0 :: es, _, _, ⟨⟨xa, rfl, rfl⟩, (e1.mono s2 (Pre.refl _)).dd hw⟩, rlc, h1, ?_, ?_⟩
  · rintro v e S' R' H' as' r' ok ⟨rfl, gs, rfl, hk⟩
    have hv : v = .non := by
      have ok' : Den w.K R' v .non := ok
      cases ok'; rfl
    subst hv
    refine ⟨rfl, ?_⟩
    obtain ⟨b1, b2⟩ := back r' (by simp)
    have ha0 : as'[0]? = some xa := r'.pre 0 xa rfl
    -- freeze
    have g := r'.reg 0 (.ins C gs) xa rfl ha0 (by intro z; cases z)
    obtain ⟨⟨z, dx', fs, c1, c2⟩, _⟩ := g
    have fz := r'.freeze (i := 0) (a := xa) (o := .ins C gs) (u := .ins C dx' fs) rfl ha0 (by intro z; cases z) c1
    obtain ⟨d1, d2⟩ := back fz.1 (by simp)
    exact c (.ref xa) (.d (.obj C gs)) S1 _ H' as1 d1 (s1.trans d2) p1 (ok_d (.obj upd_same (c2.mono fz.2))) hk
  · rintro Cx d v u S' R' H' as' r' hd' hv ⟨hS, hk⟩
    obtain ⟨b1, b2⟩ := back r' hS
    exact hE Cx d v u S1 R' H' as1 b1 hd' hv hk

/-! ### methods of built-in types -/
def IsLst (x : Ent) (S : List Own) (ds : List D) : Prop := x = .d (.lst ds) ∨ ∃ i, x = .own i ∧ S[i]? = some (.lst ds)
theorem isLst_at {R H : Hp} {as : List Addr} {v : V} {x : Ent} {ds : List D} (o : IsLst x S ds) (r : Rel w R H as S) (e : EntOk w.K R as v x) : ∃ a vs, v = .ref a ∧ H a = some (.lst vs) ∧ Dens w.K R vs ds := by
  rcases o with rfl | ⟨i, rfl, hi⟩
  · cases e with
    | lst h1 h2 => exact ⟨_, _, rfl, r.sub _ _ h1, h2⟩
  · obtain ⟨a, ha, rfl⟩ := e
    obtain ⟨⟨z, vs, h1, h2⟩, _⟩ := r.reg i _ a hi ha (by intro z; cases z)
    exact ⟨a, vs, rfl, h1, h2⟩
theorem le_bmL {r : V → List V → Hp → VK → Prop} {t : TA} (h : LE w ta Γ S fun x S1 => (∃ ds, IsLst x S1 ds) ∧ LA w t Γ S1 fun xs S2 => RM w r x xs S2 k) : LE w (tBM w.K "list" r ta t) Γ S k := fun σ R H as Q rl s c => by
  refine h σ R H as _ rl s fun v x S1 R1 H1 as1 rl1 s1 p1 e1 ⟨⟨ds, h1⟩, h3⟩ => ?_
  obtain ⟨a, vs, rfl, q2, q3⟩ := isLst_at h1 rl1 e1
  refine ⟨.inl ⟨rfl, vs, SqL.of q2⟩, ?_⟩
  refine h3 σ R1 H1 as1 _ rl1 (s.mono s1 p1) fun vs es S2 R2 H2 as2 rl2 s2 p2 e2 h4 => ?_
  exact h4 R2 H2 as2 _ _ Q rl2 (e1.mono s2 p2) e2 fun v' e' S' R' H' as' a1 a2 a3 a4 a5 => c v' e' S' R' H' as' a1 ((s1.trans s2).trans a2) ((p1.trans p2).trans a3) a4 a5
theorem le_bmL0 {r : V → List V → Hp → VK → Prop} (h : LE w ta Γ S fun x S1 => (∃ ds, IsLst x S1 ds) ∧ RM w r x [] S1 k) : LE w (tBM0 w.K "list" r ta) Γ S k := fun σ R H as Q rl s c => by
  refine h σ R H as _ rl s fun v x S1 R1 H1 as1 rl1 s1 p1 e1 ⟨⟨ds, h1⟩, h3⟩ => ?_
  obtain ⟨a, vs, rfl, q2, q3⟩ := isLst_at h1 rl1 e1
  refine ⟨.inl ⟨rfl, vs, SqL.of q2⟩, ?_⟩
  exact h3 R1 H1 as1 _ _ Q rl1 e1 trivial fun v' e' S' R' H' as' a1 a2 a3 a4 a5 => c v' e' S' R' H' as' a1 (s1.trans a2) (p1.trans a3) a4 a5
theorem rm_append {i : Nat} {ds : List D} {d : D} (hi : S[i]? = some (.lst ds)) (hl : ds.length < sizeLine) (q : k (.d .non) (S.set i (.lst (ds ++ [d])))) : RM w rAppend (.own i) [.d d] S k := fun R H as u us Q rl hu hus c => by
  obtain ⟨a, ha, rfl⟩ := hu
  obtain ⟨⟨z, vs, c1, c2⟩, _⟩ := rl.reg i _ a hi ha (by intro z; cases z)
  match us, hus with
  | [v], ⟨hv, _⟩ =>
    refine ⟨a, vs, v, rfl, rfl, c1, by rw [c2.len]; exact hl, ?_⟩
    have rl2 := rl.write (o' := .lst (ds ++ [d])) (u := .lst (vs ++ [v])) hi ha (by intro z; cases z) (by intro z; cases z) ⟨z, _, upd_same, c2.append (.cons hv .nil)⟩
    exact c .non (.d .non) _ R _ as rl2 (Sub.refl _) (Pre.refl _) (ok_d .non) q
theorem rm_extend {i : Nat} {ds es : List D} (hi : S[i]? = some (.lst ds)) (hl : ds.length + es.length ≤ sizeLine) (q : k (.d .non) (S.set i (.lst (ds ++ es)))) : RM w rExtend (.own i) [.d (.lst es)] S k := fun R H as u us Q rl hu hus c => by
  obtain ⟨a, ha, rfl⟩ := hu
  obtain ⟨⟨z, vs, c1, c2⟩, _⟩ := rl.reg i _ a hi ha (by intro z; cases z)
  match us, hus with
  | [v], ⟨hv, _⟩ =>
    cases hv with
    | lst h1 h2 =>
      rename_i b ws
      refine ⟨a, b, vs, ws, rfl, rfl, c1, rl.sub _ _ h1, by rw [c2.len, h2.len]; exact hl, ?_⟩
      have rl2 := rl.write (o' := .lst (ds ++ es)) (u := .lst (vs ++ ws)) hi ha (by intro z; cases z) (by intro z; cases z) ⟨z, _, upd_same, c2.append h2⟩
      exact c .non (.d .non) _ R _ as rl2 (Sub.refl _) (Pre.refl _) (ok_d .non) q
theorem lg_sub {to ti : TE} {e : D} {k : Env → List Own → Prop} (h : LE w to Γ S fun x S1 => LE w ti Γ S1 fun y S2 => ∃ i ds n j, x = .own i ∧ S2[i]? = some (.lst ds) ∧ y = .d (.int n) ∧ ixN ds.length n = some j ∧ k Γ (S2.set i (.lst (ds.set j e)))) : LG w (gSub to ti rSetL) (.d e) Γ S k := fun v σ R H as Q rl s he c => by
  refine h σ R H as _ rl s fun u x S1 R1 H1 as1 rl1 s1 p1 e1 h1 => ?_
  refine h1 σ R1 H1 as1 _ rl1 (s.mono s1 p1) fun u2 y S2 R2 H2 as2 rl2 s2 p2 e2 q => ?_
  obtain ⟨i, ds, n, j, rfl, q1, rfl, q2, q3⟩ := q
  obtain ⟨a, ha, rfl⟩ := e1.mono s2 p2
  obtain ⟨⟨z, vs, c1, c2⟩, _⟩ := rl2.reg i _ a q1 ha (by intro z; cases z)
  cases e2
  have hv : Den w.K R2 v e := (he.mono (s1.trans s2) (p1.trans p2) : EntOk w.K R2 as2 v (.d e))
  refine ⟨a, vs, n, j, rfl, rfl, c1, by rw [c2.len]; exact q2, ?_⟩
  have rl3 := rl2.write (o' := .lst (ds.set j e)) (u := .lst (vs.set j v)) q1 ha (by intro z; cases z) (by intro z; cases z) ⟨z, _, upd_same, c2.set hv j⟩
  exact c Γ _ σ R2 _ as2 rl3 (s1.trans s2) (p1.trans p2) (s.mono (s1.trans s2) (p1.trans p2)) q3

/-! ### slices, sums of lists and tuples -/
def LO (w : Wd) (t : TO) (Γ : Env) (S : List Own) (k : Option Int → List Own → Prop) : Prop :=
  ∀ (σ : St) (R H : Hp) (as : List Addr) (Q : Option Int → Hp → Prop), Rel w R H as S → Sts w.K R as σ Γ →
    (∀ o S' R' H' as', Rel w R' H' as' S' → Sub R R' → Pre as as' → k o S' → Q o H') → t σ H Q
theorem lo_none {k : Option Int → List Own → Prop} (q : k none S) : LO w tNoPart Γ S k := fun σ R H as Q rl s c => c none S R H as rl (Sub.refl _) (Pre.refl _) q
theorem lo_some {k : Option Int → List Own → Prop} (h : LE w te Γ S fun e S1 => ∃ i, e = .d (.int i) ∧ k (some i) S1) : LO w (tPart te) Γ S k := fun σ R H as Q rl s c =>
  h σ R H as _ rl s fun v e S1 R1 H1 as1 rl1 s1 p1 e1 ⟨i, h1, h2⟩ => by
    subst h1; cases e1
    exact ⟨i, rfl, c _ S1 R1 H1 as1 rl1 s1 p1 h2⟩
def cutD (xs : List D) (lo hi : Option Int) : List D := (xs.drop (HT.sIx xs.length 0 lo)).take (HT.sIx xs.length xs.length hi - HT.sIx xs.length 0 lo)
theorem cut_dens {K : PySem.W.Frag} {R : Hp} {vs : List V} {ds : List D} (h : Dens K R vs ds) (lo hi : Option Int) : Dens K R (cutV vs lo hi) (cutD ds lo hi) := by
  unfold cutV cutD
  rw [h.len]
  exact (h.drop _).take _
theorem le_slL {tl th : TO} (h : LE w te Γ S fun x S1 => LO w tl Γ S1 fun lo S2 => LO w th Γ S2 fun hi S3 => ∃ ds, IsLst x S3 ds ∧ k (.d (.lst (cutD ds lo hi))) S3) : LE w (tSl (rSlL w.K) te tl th) Γ S k := fun σ R H as Q rl s c => by
  refine h σ R H as _ rl s fun v x S1 R1 H1 as1 rl1 s1 p1 e1 h1 => ?_
  refine h1 σ R1 H1 as1 _ rl1 (s.mono s1 p1) fun lo S2 R2 H2 as2 rl2 s2 p2 h2 => ?_
  refine h2 σ R2 H2 as2 _ rl2 (s.mono (s1.trans s2) (p1.trans p2)) fun hi S3 R3 H3 as3 rl3 s3 p3 ⟨ds, h3, h4⟩ => ?_
  obtain ⟨a, vs, rfl, q2, q3⟩ := isLst_at h3 rl3 ((e1.mono s2 p2).mono s3 p3)
  refine ⟨a, vs, rfl, SqL.of q2, fun p hp => ?_⟩
  obtain ⟨rl4, s4⟩ := rl3.alloc hp (.lst (cutV vs lo hi))
  exact c _ _ S3 _ _ as3 rl4 (((s1.trans s2).trans s3).trans s4) ((p1.trans p2).trans p3) (ok_d (Den.lst upd_same ((cut_dens q3 lo hi).mono s4))) h4
/-- the same, into the store -/
theorem le_slLO {tl th : TO} (h : LE w te Γ S fun x S1 => LO w tl Γ S1 fun lo S2 => LO w th Γ S2 fun hi S3 => ∃ ds, IsLst x S3 ds ∧ k (.own S3.length) (S3 ++ [.lst (cutD ds lo hi)])) : LE w (tSl (rSlL w.K) te tl th) Γ S k := fun σ R H as Q rl s c => by
  refine h σ R H as _ rl s fun v x S1 R1 H1 as1 rl1 s1 p1 e1 h1 => ?_
  refine h1 σ R1 H1 as1 _ rl1 (s.mono s1 p1) fun lo S2 R2 H2 as2 rl2 s2 p2 h2 => ?_
  refine h2 σ R2 H2 as2 _ rl2 (s.mono (s1.trans s2) (p1.trans p2)) fun hi S3 R3 H3 as3 rl3 s3 p3 ⟨ds, h3, h4⟩ => ?_
  obtain ⟨a, vs, rfl, q2, q3⟩ := isLst_at h3 rl3 ((e1.mono s2 p2).mono s3 p3)
  refine ⟨a, vs, rfl, SqL.of q2, fun p hp => ?_⟩
  have rl4 := rl3.allocO hp (.lst (cutV vs lo hi)) (o := .lst (cutD ds lo hi)) ⟨(rl3.fresh hp).1, _, upd_same, cut_dens q3 lo hi⟩
  exact c _ _ _ _ _ _ rl4 ((s1.trans s2).trans s3) (((p1.trans p2).trans p3).trans (Pre.app _ _)) (ok_own (by rw [← rl3.len]; exact List.getElem?_concat_length)) h4
theorem le_slT {tl th : TO} (h : LE w te Γ S fun x S1 => LO w tl Γ S1 fun lo S2 => LO w th Γ S2 fun hi S3 => ∃ ds, x = .d (.tup ds) ∧ ¬ (HT.sIx ds.length 0 lo = 0 ∧ HT.sIx ds.length ds.length hi = ds.length) ∧ k (.d (.tup (cutD ds lo hi))) S3) : LE w (tSl (rSlT w.K) te tl th) Γ S k := fun σ R H as Q rl s c => by
  refine h σ R H as _ rl s fun v x S1 R1 H1 as1 rl1 s1 p1 e1 h1 => ?_
  refine h1 σ R1 H1 as1 _ rl1 (s.mono s1 p1) fun lo S2 R2 H2 as2 rl2 s2 p2 h2 => ?_
  refine h2 σ R2 H2 as2 _ rl2 (s.mono (s1.trans s2) (p1.trans p2)) fun hi S3 R3 H3 as3 rl3 s3 p3 ⟨ds, h3, hn, h4⟩ => ?_
  subst h3
  have e3 := (e1.mono s2 p2).mono s3 p3
  cases e3 with
  | tup ha hd =>
    rename_i a vs
    refine ⟨a, vs, rfl, SqT.of (rl3.sub _ _ ha), by rw [hd.len]; exact hn, fun p hp => ?_⟩
    obtain ⟨rl4, s4⟩ := rl3.alloc hp (.tup (cutV vs lo hi))
    exact c _ _ S3 _ _ as3 rl4 (((s1.trans s2).trans s3).trans s4) ((p1.trans p2).trans p3) (ok_d (Den.tup upd_same ((cut_dens hd lo hi).mono s4))) h4
theorem rr_cat {x y : Ent} {xs ys : List D} (hx : IsLst x S xs) (hy : IsLst y S ys) (hl : xs.length + ys.length ≤ sizeLine) (q : k (.d (.lst (xs ++ ys))) S) : RR w rCat x y S k := fun R H as u v Q rl hu hv c => by
  obtain ⟨a, vs, rfl, q2, q3⟩ := isLst_at hx rl hu
  obtain ⟨b, ws, rfl, q4, q5⟩ := isLst_at hy rl hv
  refine ⟨a, b, vs, ws, rfl, rfl, q2, q4, by rw [q3.len, q5.len]; exact hl, fun p hp => ?_⟩
  obtain ⟨rl2, s2⟩ := rl.alloc hp (.lst (vs ++ ws))
  exact c _ _ S _ _ as rl2 s2 (Pre.refl _) (ok_d (Den.lst upd_same ((q3.append q5).mono s2))) q
theorem rr_catT {xs ys : List D} (hn : xs ≠ []) (hl : xs.length + ys.length ≤ sizeLine) (q : k (.d (.tup (xs ++ ys))) S) : RR w (rCatT w.K) (.d (.tup xs)) (.d (.tup ys)) S k := fun R H as u v Q rl hu hv c => by
  cases hu with
  | tup h1 h2 =>
    cases hv with
    | tup h3 h4 =>
      rename_i a vs b ws
      refine ⟨a, b, vs, ws, rfl, rfl, SqT.of (rl.sub _ _ h1), SqT.of (rl.sub _ _ h3), fun z => hn ?_, by rw [h2.len, h4.len]; exact hl, fun z => ?_, fun z p hp => ?_⟩
      · subst z; cases h2; rfl
      · subst z; cases h4
        rw [List.append_nil] at q
        exact c _ _ S R H as rl (Sub.refl _) (Pre.refl _) (ok_d (Den.tup h1 h2)) q
      · obtain ⟨rl2, s2⟩ := rl.alloc hp (.tup (vs ++ ws))
        exact c _ _ S _ _ as rl2 s2 (Pre.refl _) (ok_d (Den.tup upd_same ((h2.append h4).mono s2))) q

/-! ### built-ins -/
def gLen (K : PySem.W.Frag) : List V → Hp → VK → Prop := fun xs H Q => ∃ p ys, xs = [.ref p] ∧ (SqL K H p ys ∨ SqT K H p ys) ∧ Q (.int ys.length) H
def gAbs : List V → Hp → VK → Prop := fun xs H Q => ∃ i, xs = [.int i] ∧ Q (.int (if i < 0 then -i else i)) H
def gMax2 : List V → Hp → VK → Prop := fun xs H Q => ∃ i j, xs = [.int i, .int j] ∧ Q (.int (if j > i then j else i)) H
def gMin2 : List V → Hp → VK → Prop := fun xs H Q => ∃ i j, xs = [.int i, .int j] ∧ Q (.int (if j < i then j else i)) H
def gInt1 : List V → Hp → VK → Prop := fun xs H Q => (∃ i, xs = [.int i] ∧ Q (.int i) H) ∨ ∃ k, xs = [.bl k] ∧ Q (.int (if k then 1 else 0)) H
def gList (K : PySem.W.Frag) : List V → Hp → VK → Prop := fun xs H Q => ∃ p ys, xs = [.ref p] ∧ (SqL K H p ys ∨ SqT K H p ys) ∧ ∀ l, H l = none → Q (.ref l) (upd H l (.lst ys))
section
variable {X : Cx}
theorem c_len : CallR X (.builtin "len") (gLen X.K) := call_len_seq
theorem c_abs : CallR X (.builtin "abs") gAbs := call_abs
theorem c_max2 (hc : X.calm = true) : CallR X (.builtin "max") gMax2 := call_max2 hc
theorem c_min2 (hc : X.calm = true) : CallR X (.builtin "min") gMin2 := call_min2 hc
theorem c_int1 : CallR X (.type "int") gInt1 := call_int1
theorem c_list : CallR X (.type "list") (gList X.K) := call_list_of
end
theorem one_ent {K : PySem.W.Frag} {R : Hp} {as : List Addr} {us : List V} {x : Ent} (h : EntsOk K R as us [x]) : ∃ v, us = [v] ∧ EntOk K R as v x := by
  match us, h with
  | [v], ⟨h, _⟩ => exact ⟨v, rfl, h⟩
theorem two_ent {K : PySem.W.Frag} {R : Hp} {as : List Addr} {us : List V} {x y : Ent} (h : EntsOk K R as us [x, y]) : ∃ v u, us = [v, u] ∧ EntOk K R as v x ∧ EntOk K R as u y := by
  match us, h with
  | [v, u], ⟨h, h', _⟩ => exact ⟨v, u, rfl, h, h'⟩
def lenOf : D → Option Nat
  | .scr ns => some ns.length
  | .lst xs => some xs.length
  | .tup xs => some xs.length
  | _ => none
theorem rc_len {x : D} {n : Nat} (h : lenOf x = some n) (q : k (.d (.int n)) S) : RC w (gLen w.K) [.d x] S k := fun R H as us Q rl hu c => by
  obtain ⟨v, rfl, hv⟩ := one_ent hu
  have hv' : Den w.K R v x := hv
  cases hv' with
  | non => cases h
  | bl _ => cases h
  | int _ => cases h
  | str _ => cases h
  | obj _ _ => cases h
  | cls _ => cases h
  | ty _ => cases h
  | exn _ _ => cases h
  | eob _ _ _ => cases h
  | scr h1 =>
    cases h
    exact ⟨_, _, rfl, .inl (sub_seq rl.sub h1), by rw [List.length_map]; exact c _ _ S R H as rl (Sub.refl _) (Pre.refl _) (ok_d (Den.int _)) q⟩
  | lst h1 h2 =>
    cases h
    exact ⟨_, _, rfl, .inl (SqL.of (rl.sub _ _ h1)), by rw [h2.len]; exact c _ _ S R H as rl (Sub.refl _) (Pre.refl _) (ok_d (Den.int _)) q⟩
  | tup h1 h2 =>
    cases h
    exact ⟨_, _, rfl, .inr (SqT.of (rl.sub _ _ h1)), by rw [h2.len]; exact c _ _ S R H as rl (Sub.refl _) (Pre.refl _) (ok_d (Den.int _)) q⟩
theorem rc_lenO {i : Nat} {ds : List D} (hi : S[i]? = some (.lst ds)) (q : k (.d (.int ds.length)) S) : RC w (gLen w.K) [.own i] S k := fun R H as us Q rl hu c => by
  obtain ⟨v, rfl, hv⟩ := one_ent hu
  obtain ⟨a, vs, rfl, q2, q3⟩ := isLst_at (.inr ⟨i, rfl, hi⟩) rl hv
  exact ⟨_, _, rfl, .inl (SqL.of q2), by rw [q3.len]; exact c _ _ S R H as rl (Sub.refl _) (Pre.refl _) (ok_d (Den.int _)) q⟩
theorem rc_abs {i : Int} (q : k (.d (.int (if i < 0 then -i else i))) S) : RC w gAbs [.d (.int i)] S k := fun R H as us Q rl hu c => by
  obtain ⟨v, rfl, hv⟩ := one_ent hu
  cases hv
  exact ⟨i, rfl, c _ _ S R H as rl (Sub.refl _) (Pre.refl _) (ok_d (Den.int _)) q⟩
theorem rc_max2 {i j : Int} (q : k (.d (.int (if j > i then j else i))) S) : RC w gMax2 [.d (.int i), .d (.int j)] S k := fun R H as us Q rl hu c => by
  obtain ⟨v, u, rfl, hv, hv2⟩ := two_ent hu
  cases hv; cases hv2
  exact ⟨i, j, rfl, c _ _ S R H as rl (Sub.refl _) (Pre.refl _) (ok_d (Den.int _)) q⟩
theorem rc_min2 {i j : Int} (q : k (.d (.int (if j < i then j else i))) S) : RC w gMin2 [.d (.int i), .d (.int j)] S k := fun R H as us Q rl hu c => by
  obtain ⟨v, u, rfl, hv, hv2⟩ := two_ent hu
  cases hv; cases hv2
  exact ⟨i, j, rfl, c _ _ S R H as rl (Sub.refl _) (Pre.refl _) (ok_d (Den.int _)) q⟩
theorem rc_int {i : Int} (q : k (.d (.int i)) S) : RC w gInt1 [.d (.int i)] S k := fun R H as us Q rl hu c => by
  obtain ⟨v, rfl, hv⟩ := one_ent hu
  cases hv
  exact .inl ⟨i, rfl, c _ _ S R H as rl (Sub.refl _) (Pre.refl _) (ok_d (Den.int _)) q⟩
theorem rc_intB {b : Bool} (q : k (.d (.int (if b then 1 else 0))) S) : RC w gInt1 [.d (.bl b)] S k := fun R H as us Q rl hu c => by
  obtain ⟨v, rfl, hv⟩ := one_ent hu
  cases hv
  exact .inr ⟨b, rfl, c _ _ S R H as rl (Sub.refl _) (Pre.refl _) (ok_d (Den.int _)) q⟩
def itemsOf : D → Option (List D)
  | .lst xs => some xs
  | .tup xs => some xs
  | _ => none
theorem rc_list {x : D} {ds : List D} (h : itemsOf x = some ds) (q : k (.d (.lst ds)) S) : RC w (gList w.K) [.d x] S k := fun R H as us Q rl hu c => by
  obtain ⟨v, rfl, hv⟩ := one_ent hu
  have hv' : Den w.K R v x := hv
  cases hv' with
  | non => cases h
  | bl _ => cases h
  | int _ => cases h
  | str _ => cases h
  | obj _ _ => cases h
  | cls _ => cases h
  | ty _ => cases h
  | exn _ _ => cases h
  | eob _ _ _ => cases h
  | scr h1 => cases h
  | lst h1 h2 =>
    cases h
    refine ⟨_, _, rfl, .inl (SqL.of (rl.sub _ _ h1)), fun p hp => ?_⟩
    obtain ⟨rl2, s2⟩ := rl.alloc hp (.lst _)
    exact c _ _ S _ _ as rl2 s2 (Pre.refl _) (ok_d (Den.lst upd_same (h2.mono s2))) q
  | tup h1 h2 =>
    cases h
    refine ⟨_, _, rfl, .inr (SqT.of (rl.sub _ _ h1)), fun p hp => ?_⟩
    obtain ⟨rl2, s2⟩ := rl.alloc hp (.lst _)
    exact c _ _ S _ _ as rl2 s2 (Pre.refl _) (ok_d (Den.lst upd_same (h2.mono s2))) q
/-- list(xs) of a list of the store -/
theorem rc_listO {i : Nat} {ds : List D} (hi : S[i]? = some (.lst ds)) (q : k (.d (.lst ds)) S) : RC w (gList w.K) [.own i] S k := fun R H as us Q rl hu c => by
  obtain ⟨v, rfl, hv⟩ := one_ent hu
  obtain ⟨a, vs, rfl, q2, q3⟩ := isLst_at (.inr ⟨i, rfl, hi⟩) rl hv
  refine ⟨_, _, rfl, .inl (SqL.of q2), fun p hp => ?_⟩
  obtain ⟨rl2, s2⟩ := rl.alloc hp (.lst vs)
  exact c _ _ S _ _ as rl2 s2 (Pre.refl _) (ok_d (Den.lst upd_same (q3.mono s2))) q
end
end Gm
namespace Gm
open PySem L2

section
variable {w : Wd} {Γ : Env} {S : List Own} {k : KE} {ta tb te : TE} {G : GE} {f : DS} {E : XK}
/-! ### comprehensions: the list under way stands last in the store -/
theorem take_app {α : Type} {xs : List α} {x : α} : (xs ++ [x]).length = xs.length + 1 := by simp
theorem Rel.drop1 {R H : Hp} {as : List Addr} {o : Own} (r : Rel w R H as (S ++ [o])) : Rel w R H as (S ++ [.gone]) := by
  have hl : ∀ (i : Nat) (u : Own), (S ++ [Own.gone])[i]? = some u → u ≠ .gone → (S ++ [o])[i]? = some u := fun i u h n => by
    by_cases hi : i < S.length
    · rw [List.getElem?_append_left hi] at h ⊢; exact h
    · have h' := (List.getElem?_eq_some_iff.mp h).1
      rw [take_app] at h'
      have e : i = S.length := by omega
      subst e
      rw [List.getElem?_concat_length] at h
      cases h; exact absurd rfl n
  exact ⟨r.r0, r.sub, r.keep, r.there, r.pre, r.orig, by rw [r.len, take_app, take_app], fun i u a h1 h2 h3 => r.reg i u a (hl i u h1 h3) h2 h3, fun i j a u v h1 h2 n1 n2 => r.dist i j a u v (hl i u h1 n1) (hl j v h2 n2) n1 n2⟩
/-- a place that holds nothing may be forgotten at the end -/
theorem Rel.pop {R H : Hp} {as : List Addr} (r : Rel w R H as (S ++ [.gone])) (hp : w.as0.length ≤ S.length) : Rel w R H (as.take S.length) S := by
  have lt : ∀ {i : Nat} {a : Addr}, (as.take S.length)[i]? = some a → as[i]? = some a ∧ i < S.length := fun {i a} h => by
    have hi := (List.getElem?_eq_some_iff.mp h).1
    rw [List.length_take] at hi
    rw [List.getElem?_take] at h
    split at h
    · exact ⟨h, by omega⟩
    · cases h
  have ls : ∀ {i : Nat} {o : Own}, S[i]? = some o → (S ++ [Own.gone])[i]? = some o := fun {i o} h => by
    rw [List.getElem?_append_left (List.getElem?_eq_some_iff.mp h).1]; exact h
  have hlen := r.len
  rw [take_app] at hlen
  refine ⟨r.r0, r.sub, r.keep, r.there, fun i a h => ?_, r.orig, by rw [List.length_take]; omega, fun i o a h1 h2 h3 => r.reg i o a (ls h1) (lt h2).1 h3, fun i j a o u h1 h2 n1 n2 a1 a2 => r.dist i j a o u (ls h1) (ls h2) n1 n2 (lt a1).1 (lt a2).1⟩
  have := (List.getElem?_eq_some_iff.mp h).1
  rw [List.getElem?_take, if_pos (by omega)]
  exact r.pre i a h

theorem lt_yes {kb : Bool → List Own → Prop} (q : kb true S) : LT w tYes Γ S kb := fun σ R H as Q rl s c => c true S R H as rl (Sub.refl _) (Pre.refl _) q
theorem Rel.as0_le {R H : Hp} {as : List Addr} (r : Rel w R H as S) : w.as0.length ≤ S.length := by
  cases h : w.as0.length with
  | zero => exact Nat.zero_le _
  | succ n =>
    have hn : n < w.as0.length := by omega
    have := (List.getElem?_eq_some_iff.mp (r.pre n _ (List.getElem?_eq_getElem hn))).1
    rw [← r.len]; omega
/-- what one turn asks -/
def LcT (w : Wd) (Γ : Env) (v : Nat) (tt : TT) (te : TE) (x : D) (acc : List D) (S2 : List Own) (N : List D → List Own → Prop) : Prop :=
  LT w tt (Γ.set v (some (.d x))) (S2 ++ [.lst acc]) fun b S3 =>
    (b = true → LE w te (Γ.set v (some (.d x))) S3 fun e S4 => ∃ d S5, e = .d d ∧ S4 = S5 ++ [.lst acc] ∧ S5.length = S2.length ∧ acc.length < sizeLine ∧ N (acc ++ [d]) S5) ∧
    (b = false → ∃ S5, S3 = S5 ++ [.lst acc] ∧ S5.length = S2.length ∧ N acc S5)
def LcP (w : Wd) (R1 : Hp) (as1 : List Addr) (n : Nat) (Dl : Addr) (I : List D → List Own → Prop) (H : Hp) : Prop :=
  ∃ S' R' as' acc, Rel w R' H as' (S' ++ [.lst acc]) ∧ Sub R1 R' ∧ Pre as1 as' ∧ as'[S'.length]? = some Dl ∧ S'.length = n ∧ I acc S'
theorem lc_turn {v : Nat} {tt : TT} {σ : St} {R1 R2 H2 : Hp} {as1 as2 : List Addr} {S2 : List Own} {acc : List D} {x : D} {u : V} {Dl : Addr} {N : List D → List Own → Prop} (st : Sts w.K R1 as1 σ Γ)
    (rl : Rel w R2 H2 as2 (S2 ++ [.lst acc])) (sb : Sub R1 R2) (pr : Pre as1 as2) (hD : as2[S2.length]? = some Dl) (hx : Den w.K R2 u x) (h : LcT w Γ v tt te x acc S2 N) :
    gName v u (wipe σ [v]) H2 fun σ2 H3 => wipe σ2 [v] = wipe σ [v] ∧ tt σ2 H3 fun b H4 => if b = true then te σ2 H4 fun y H5 => ∃ acc, H5 Dl = some (.lst acc) ∧ acc.length < sizeLine ∧ LcP w R1 as1 S2.length Dl N (upd H5 Dl (.lst (acc ++ [y]))) else LcP w R1 as1 S2.length Dl N H4 := by
  have e1 : (σ.set v none).set v (some u) = σ.set v (some u) := List.set_set ..
  refine ⟨?_, ?_⟩
  · show ((wipe σ [v]).set v (some u)).set v none = σ.set v none
    show (((σ.set v none).set v (some u))).set v none = σ.set v none
    rw [List.set_set, List.set_set]
  · have st2 : Sts w.K R2 as2 ((wipe σ [v]).set v (some u)) (Γ.set v (some (.d x))) := by
      show Sts w.K R2 as2 ((σ.set v none).set v (some u)) _
      rw [e1]
      exact (st.mono sb pr).set v (ok_d hx)
    refine h _ R2 H2 as2 _ rl st2 fun b S3 R3 H3 as3 rl3 s3 p3 q => ?_
    cases b with
    | true =>
      rw [if_pos rfl]
      refine q.1 rfl _ R3 H3 as3 _ rl3 (st2.mono s3 p3) fun y e S4 R4 H4 as4 rl4 s4 p4 e4 q4 => ?_
      obtain ⟨d, S5, rfl, rfl, hl, hz, hn⟩ := q4
      have hi : (S5 ++ [Own.lst acc])[S5.length]? = some (.lst acc) := List.getElem?_concat_length
      have ha : as4[S5.length]? = some Dl := by rw [hl]; exact p4 _ _ (p3 _ _ hD)
      obtain ⟨⟨z, vs, c1, c2⟩, _⟩ := rl4.reg _ _ _ hi ha (by intro z; cases z)
      refine ⟨vs, c1, by rw [c2.len]; exact hz, S5, R4, as4, acc ++ [d], ?_, (sb.trans s3).trans s4, (pr.trans p3).trans p4, ha, hl, hn⟩
      have rl5 := rl4.write (o' := .lst (acc ++ [d])) (u := .lst (vs ++ [y])) hi ha (by intro z; cases z) (by intro z; cases z) ⟨z, _, upd_same, c2.append (.cons e4 .nil)⟩
      have es : (S5 ++ [Own.lst acc]).set S5.length (.lst (acc ++ [d])) = S5 ++ [.lst (acc ++ [d])] := by
        rw [List.set_append_right _ _ (Nat.le_refl _), Nat.sub_self]; rfl
      rw [es] at rl5
      exact rl5
    | false =>
      rw [if_neg Bool.false_ne_true]
      obtain ⟨S5, rfl, hl, hn⟩ := q.2 rfl
      exact ⟨S5, R3, as3, acc, rl3, sb.trans s3, pr.trans p3, by rw [hl]; exact p3 _ _ hD, hl, hn⟩
theorem lc_end {R1 H : Hp} {as1 : List Addr} {n : Nat} {Dl : Addr} {I : List D → List Own → Prop} (hn : as1.length = n) (hw : w.as0.length ≤ n) (h : LcP w R1 as1 n Dl I H) : ∃ acc S' R' as', Rel w R' H as' S' ∧ Sub R1 R' ∧ Pre as1 as' ∧ Den w.K R' (.ref Dl) (.lst acc) ∧ I acc S' := by
  obtain ⟨S', R', as', acc, rl, sb, pr, hD, hl, hi⟩ := h
  have hg : (S' ++ [Own.lst acc])[S'.length]? = some (.lst acc) := List.getElem?_concat_length
  obtain ⟨⟨z, vs, c1, c2⟩, _⟩ := rl.reg _ _ _ hg hD (by intro z; cases z)
  obtain ⟨rl2, s2⟩ := rl.freeze hg hD (by intro z; cases z) c1
  have es : (S' ++ [Own.lst acc]).set S'.length .gone = S' ++ [.gone] := by
    rw [List.set_append_right _ _ (Nat.le_refl _), Nat.sub_self]; rfl
  rw [es] at rl2
  refine ⟨acc, S', _, _, rl2.pop (by rw [hl]; exact hw), sb.trans s2, fun i a hia => ?_, .lst upd_same (c2.mono s2), hi⟩
  have hil := (List.getElem?_eq_some_iff.mp hia).1
  rw [List.getElem?_take, if_pos (by omega)]
  exact pr i a hia
theorem lc_begin {R1 H1 : Hp} {as1 : List Addr} {S1 : List Own} {Dl : Addr} {I : List D → List Own → Prop} (rl : Rel w R1 H1 as1 S1) (hD : H1 Dl = none) (h : I [] S1) : LcP w R1 as1 S1.length Dl I (upd H1 Dl (.lst [])) :=
  ⟨S1, R1, as1 ++ [Dl], [], rl.allocO hD _ ⟨(rl.fresh hD).1, [], upd_same, .nil⟩, Sub.refl _, Pre.app _ _, by rw [← rl.len]; exact List.getElem?_concat_length, rfl, h⟩
theorem le_lcR {wi : TI} {v : Nat} {tt : TT} (h : LR w wi Γ S fun lo n S1 => ∃ I : Nat → List D → List Own → Prop, I 0 [] S1 ∧
    (∀ i acc S2, i < n → S2.length = S1.length → I i acc S2 → LcT w Γ v tt te (.int (lo + i)) acc S2 (I (i + 1))) ∧ (∀ acc S2, I n acc S2 → k (.d (.lst acc)) S2)) : LE w (tLc wi (gName v) tt te [v]) Γ S k := fun σ R H as Q rl s c => by
  refine h σ R H as _ rl s fun lo n S1 R1 H1 as1 rl1 s1 p1 ⟨I, i0, is, iE⟩ Dl hD => ?_
  refine lc_range (fun i H => LcP w R1 as1 S1.length Dl (I i) H) (lc_begin rl1 hD i0) (fun i H2 hi p => ?_) fun H2 p => ?_
  · obtain ⟨S2, R2, as2, acc, rl2, sb, pr, ha, hl, hi2⟩ := p
    have := lc_turn (Dl := Dl) (s.mono s1 p1) rl2 sb pr ha (Den.int (lo + i)) (is i acc S2 hi hl hi2)
    rw [hl] at this
    exact this
  · obtain ⟨acc, S', R', as', q1, q2, q3, q4, q5⟩ := lc_end rl1.len rl1.as0_le p
    exact c _ _ S' R' _ as' q1 (s1.trans q2) (p1.trans q3) (ok_d q4) (iE acc S' q5)
theorem le_lcL {tl : TE} {v : Nat} {tt : TT} (h : LE w tl Γ S fun e S1 => ∃ ds, e = .d (.lst ds) ∧ ∃ I : Nat → List D → List Own → Prop, I 0 [] S1 ∧
    (∀ i d acc S2, ds[i]? = some d → S2.length = S1.length → I i acc S2 → LcT w Γ v tt te d acc S2 (I (i + 1))) ∧ (∀ acc S2, I ds.length acc S2 → k (.d (.lst acc)) S2)) : LE w (tLc (iList w.K tl) (gName v) tt te [v]) Γ S k := fun σ R H as Q rl s c => by
  refine h σ R H as _ rl s fun vl el S1 R1 H1 as1 rl1 s1 p1 e1 ⟨ds, h1, I, i0, is, iE⟩ => ?_
  subst h1
  cases e1 with
  | lst ha hd =>
    rename_i a vs
    refine ⟨a, rfl, ⟨vs, SqL.of (rl1.sub _ _ ha)⟩, fun Dl hD => ?_⟩
    refine lc_list (xs := vs) (fun i H => LcP w R1 as1 S1.length Dl (I i) H) (lc_begin rl1 hD i0) (fun i H2 hi p => ?_) (fun i x H2 hx p => ?_) fun H2 p => ?_
    · obtain ⟨S2, R2, as2, acc, rl2, sb, pr, ha2, hl, hi2⟩ := p
      exact SqL.of (rl2.sub _ _ (sb _ _ ha))
    · obtain ⟨S2, R2, as2, acc, rl2, sb, pr, ha2, hl, hi2⟩ := p
      obtain ⟨d, hd1, hd2⟩ := hd.get2 hx
      have := lc_turn (Dl := Dl) (s.mono s1 p1) rl2 sb pr ha2 (hd2.mono sb) (is i d acc S2 hd1 hl hi2)
      rw [hl] at this
      exact this
    · rw [hd.len] at p
      obtain ⟨acc, S', R', as', q1, q2, q3, q4, q5⟩ := lc_end rl1.len rl1.as0_le p
      exact c _ _ S' R' _ as' q1 (s1.trans q2) (p1.trans q3) (ok_d q4) (iE acc S' q5)

/-! ### deep == -/
mutual
def toP : D → Option PyData
  | .non => some .none
  | .bl b => some (.bool b)
  | .int i => some (.int i)
  | .str s => some (.str s)
  | .scr _ => none
  | .lst xs => (toPs xs).map PyData.list
  | .tup xs => (toPs xs).map PyData.tuple
  | .obj _ _ => none
  | .cls _ => none
  | .exn _ _ _ => none
  | .eob _ _ => none
  | .ty _ => none
def toPs : List D → Option (List PyData)
  | [] => some []
  | x :: xs => (toP x).bind fun y => (toPs xs).map (y :: ·)
end
mutual
theorem dp_of {K : PySem.W.Frag} {R H : Hp} (sb : Sub R H) : ∀ {v : V} {d : D} {p : PyData}, Den K R v d → toP d = some p → Dp K H v p
  | _, _, _, .non, e => by simp [toP] at e; subst e; exact .non
  | _, _, _, .bl b, e => by simp [toP] at e; subst e; exact .bl b
  | _, _, _, .int i, e => by simp [toP] at e; subst e; exact .int i
  | _, _, _, .str x, e => by simp [toP] at e; subst e; exact .str x
  | _, _, _, .scr h, e => by simp [toP] at e
  | _, _, _, .lst h r, e => by
    simp [toP] at e
    obtain ⟨ps, h1, h2⟩ := e
    subst h2
    exact .lst (SqL.of (sb _ _ h)) (dps_of sb r h1)
  | _, _, _, .tup h r, e => by
    simp [toP] at e
    obtain ⟨ps, h1, h2⟩ := e
    subst h2
    exact .tup (SqT.of (sb _ _ h)) (dps_of sb r h1)
  | _, _, _, .obj h r, e => by simp [toP] at e
  | _, _, _, .exn h r, e => by simp [toP] at e
  | _, _, _, .eob h i r, e => by simp [toP] at e
theorem dps_of {K : PySem.W.Frag} {R H : Hp} (sb : Sub R H) : ∀ {vs : List V} {ds : List D} {ps : List PyData}, Dens K R vs ds → toPs ds = some ps → DpAll K H vs ps
  | _, _, _, .nil, e => by simp [toPs] at e; subst e; exact .nil
  | _, _, _, .cons (d := d) (ds := ds) h r, e => by
    simp [toPs, Option.bind_eq_some_iff] at e
    obtain ⟨y, h1, ys, h2, h3⟩ := e
    subst h3
    exact .cons (dp_of sb h h1) (dps_of sb r h2)
end
/-- a thing of the store, as data -/
def entP (S : List Own) : Ent → Option PyData
  | .d x => toP x
  | .tup _ => none
  | .own i => match S[i]? with
    | some (.lst xs) => (toPs xs).map PyData.list
    | _ => none
theorem entP_dp {R H : Hp} {as : List Addr} {v : V} {x : Ent} {p : PyData} (rl : Rel w R H as S) (h : EntOk w.K R as v x) (e : entP S x = some p) : Dp w.K H v p := by
  cases x with
  | d x => exact dp_of rl.sub h e
  | tup es => simp [entP] at e
  | own i =>
    obtain ⟨a, ha, rfl⟩ := h
    simp only [entP] at e
    cases q : S[i]? with
    | none => rw [q] at e; cases e
    | some o =>
      rw [q] at e
      cases o with
      | ins _ _ => cases e
      | gone => cases e
      | dct _ => cases e
      | lat _ _ => cases e
      | sn _ => cases e
      | lst xs =>
        obtain ⟨⟨z, vs, c1, c2⟩, _⟩ := rl.reg i _ a q ha (by intro z; cases z)
        have e' : (toPs xs).map PyData.list = some p := e
        rw [Option.map_eq_some_iff] at e'
        obtain ⟨ps, h1, h2⟩ := e'
        subst h2
        exact .lst (SqL.of c1) (dps_of rl.sub c2 h1)
theorem rr_eqD {x y : Ent} {d e : PyData} (hx : entP S x = some d) (hy : entP S y = some e) (sd : SeqAt.shaped d = true) (se : SeqAt.shaped e = true) (q : k (.d (.bl (PyData.eqv d e))) S) : RR w (rEqD w.K) x y S k := fun R H as u v Q rl hu hv c =>
  ⟨d, e, entP_dp rl hu hx, entP_dp rl hv hy, sd, se, c _ _ S R H as rl (Sub.refl _) (Pre.refl _) (ok_d (Den.bl _)) q⟩
theorem rr_neD {x y : Ent} {d e : PyData} (hx : entP S x = some d) (hy : entP S y = some e) (sd : SeqAt.shaped d = true) (se : SeqAt.shaped e = true) (q : k (.d (.bl (!PyData.eqv d e))) S) : RR w (rNeD w.K) x y S k := fun R H as u v Q rl hu hv c =>
  ⟨d, e, entP_dp rl hu hx, entP_dp rl hv hy, sd, se, c _ _ S R H as rl (Sub.refl _) (Pre.refl _) (ok_d (Den.bl _)) q⟩

/-! ### freezing -/
theorem le_frz (i : Nat) {xs : List D} {t : TE} (h : LE w t Γ S fun e S1 => ∃ xs, e = .own i ∧ S1[i]? = some (.lst xs) ∧ k (.d (.lst xs)) (S1.set i .gone)) : LE w t Γ S k := fun σ R H as Q rl s c => by
  refine h σ R H as Q rl s fun v e S1 R1 H1 as1 rl1 s1 p1 e1 ⟨xs, h1, h2, h3⟩ => ?_
  subst h1
  obtain ⟨a, ha, rfl⟩ := e1
  obtain ⟨⟨z, vs, c1, c2⟩, _⟩ := rl1.reg i _ a h2 ha (by intro z; cases z)
  obtain ⟨rl2, s2⟩ := rl1.freeze h2 ha (by intro z; cases z) c1
  exact c _ _ _ _ H1 as1 rl2 (s1.trans s2) p1 (ok_d (.lst upd_same (c2.mono s2))) h3
/-- the list of the store at i, named by slot j, becomes data -/
theorem ls_frz {t : TS} (i j : Nat) {xs : List D} (hS : S[i]? = some (.lst xs)) (hΓ : Γ[j]? = some (some (.own i))) (h : LS w t (Γ.set j (some (.d (.lst xs)))) (S.set i .gone) G) : LS w t Γ S G := fun D σ R H as rl s e => by
  obtain ⟨v, hv, a, ha, rfl⟩ := s.get j _ hΓ
  obtain ⟨⟨z, vs, c1, c2⟩, _⟩ := rl.reg i _ a hS ha (by intro z; cases z)
  obtain ⟨rl2, s2⟩ := rl.freeze hS ha (by intro z; cases z) c1
  have st := (s.mono s2 (Pre.refl _)).set j (ok_d (K := w.K) (R := upd R a (.lst vs)) (as := as) (.lst upd_same (c2.mono s2)))
  have hl := (List.getElem?_eq_some_iff.mp hv)
  have e2 : σ.set j (some (.ref a)) = σ := by
    obtain ⟨hj, e⟩ := hl
    rw [← e]; exact List.set_getElem_self hj
  rw [e2] at st
  exact h D σ _ H as rl2 st (e.up s2)
theorem Sts.pop {K : PySem.W.Frag} {R : Hp} {as : List Addr} {σ : St} {Γ' : Env} {n : Nat} (h : Sts K R as σ Γ) (hl : Γ'.length = Γ.length) (hg : ∀ (j : Nat) (e : Ent), Γ'[j]? = some (some e) → Γ[j]? = some (some e) ∧ e.wf n = true) : Sts K R (as.take n) σ Γ' := by
  refine ⟨h.len.trans hl.symm, fun i e q => ?_⟩
  obtain ⟨q1, q2⟩ := hg i e q
  obtain ⟨v, h1, h2⟩ := h.get i e q1
  refine ⟨v, h1, ?_⟩
  cases e with
  | d x => exact h2
  | tup es => exact absurd q2 (by simp [Ent.wf])
  | own k =>
    obtain ⟨a, h3, h4⟩ := h2
    have hk : k < n := of_decide_eq_true q2
    exact ⟨a, by rw [List.getElem?_take, if_pos hk]; exact h3, h4⟩
/-- the last thing of the store is forgotten; Γ' names no more of it -/
theorem ls_forget {t : TS} {o : Own} {Γ' : Env} (hw : w.as0.length ≤ S.length) (hl : Γ'.length = Γ.length) (hg : ∀ (j : Nat) (e : Ent), Γ'[j]? = some (some e) → Γ[j]? = some (some e) ∧ e.wf S.length = true) (h : LS w t Γ' S G) : LS w t Γ (S ++ [o]) G := fun D σ R H as rl s e =>
  h D σ R H _ (rl.drop1.pop hw) (s.pop hl hg) e
/-- the last list of the store becomes data, named by slot j -/
theorem ls_frzL {t : TS} {xs : List D} {Γ' : Env} (j : Nat) (hj : Γ[j]? = some (some (.own S.length))) (hw : w.as0.length ≤ S.length) (hl : Γ'.length = Γ.length)
    (hg : ∀ (i : Nat) (e : Ent), Γ'[i]? = some (some e) → (Γ.set j (some (.d (.lst xs))))[i]? = some (some e) ∧ e.wf S.length = true) (h : LS w t Γ' S G) : LS w t Γ (S ++ [.lst xs]) G := by
  refine ls_frz S.length j (xs := xs) List.getElem?_concat_length hj ?_
  rw [show (S ++ [Own.lst xs]).set S.length .gone = S ++ [.gone] by rw [List.set_append_right _ _ (Nat.le_refl _), Nat.sub_self]; rfl]
  exact ls_forget hw (by rw [List.length_set]; exact hl) hg h
end

/-! ### a def's body -/
def startG (N : List Str) (es : List Ent) : Env := es.map some ++ List.replicate (N.length - es.length) none
theorem sts_start {K : PySem.W.Frag} {R : Hp} {as : List Addr} {N : List Str} {vs : List V} {es : List Ent} (h : EntsOk K R as vs es) : Sts K R as (L2.start N vs) (startG N es) := by
  have hl := h.len
  refine ⟨by unfold L2.start startG; rw [List.length_append, List.length_append, List.length_map, List.length_map, List.length_replicate, List.length_replicate, hl], fun i e q => ?_⟩
  unfold startG at q
  by_cases hi : i < es.length
  · rw [List.getElem?_append_left (by rw [List.length_map]; exact hi), List.getElem?_map] at q
    have : ∀ {vs : List V} {es : List Ent} {i : Nat} {e : Ent}, EntsOk K R as vs es → es[i]? = some e → ∃ v, vs[i]? = some v ∧ EntOk K R as v e := by
      intro vs es
      induction es generalizing vs with
      | nil => intro i e _ q; simp at q
      | cons x es ih =>
        intro i e h q
        cases vs with
        | nil => exact h.elim
        | cons v vs =>
          cases i with
          | zero => simp at q; subst q; exact ⟨v, rfl, h.1⟩
          | succ i => obtain ⟨u, a, b⟩ := ih h.2 (by simpa using q); exact ⟨u, by simpa using a, b⟩
    rw [List.getElem?_eq_getElem hi] at q
    have q' : es[i]'hi = e := by simpa using q
    obtain ⟨v, h1, h2⟩ := this h (List.getElem?_eq_getElem hi)
    rw [q'] at h2
    refine ⟨v, ?_, h2⟩
    unfold L2.start
    rw [List.getElem?_append_left (by rw [List.length_map, hl]; exact hi), List.getElem?_map, h1]; rfl
  · rw [List.getElem?_append_right (by rw [List.length_map]; omega)] at q
    rw [List.getElem?_replicate] at q
    split at q <;> simp at q
section
variable {P : Program} {w0 : World} {K : PySem.W.Frag} {mg : Str → Option Value} {base : Heap}
/-- a def that lets no exception out -/
theorem fn0 {x qual : Str} {st : Stmt} {f : Addr} {fd : FuncData} {N ps : List Str} {k : Nat} {ds : DS} (F : Fun K x qual st f fd) (Sc : FnScope N ps (defScope st)) (len : ∀ es S p e, ds es S p e → es.length = ps.length)
    (hbody : ∀ (cdv : Value) (A : Around) (outer : List PySem.Env) (s : Shared) (H : Hp) (E : XK), Room k (A.deeper (PyProof.Rows.envOfC qual (defScope st) s.heap.objs.size f cdv)) →
      ∀ (w : Wd) (es : List Ent) (S : List Own) (p : KE) (e : KX), w.K = K → w.as0.length = S.length → ds es S p e → ∃ t, PSs (cxOf CX0 P w0 K mg base N qual (defScope st) f cdv A outer s H E).nox (defBody st) t ∧ LS w t (startG N es) S { nx := fun _ S' => p (.d .non) S', rt := p }) :
    FnOk P w0 K mg base CX0 (k + 1) f fd ps (spD K ds) := by
  refine F.ok Sc (fun vs H Q E ⟨R, as, S, es, p, e, h1, h2, h3, h4, h5⟩ => by rw [h1.len]; exact len es S p e h3) (fun cdv A outer s H vs Q E hr h => ?_)
  obtain ⟨R, as, S, es, p, e, h1, h2, h3, h4, h5⟩ := h
  obtain ⟨t, ht, hL⟩ := hbody cdv A outer s H E hr ⟨K, R, H, as⟩ es S p e rfl h2.len h3
  refine ⟨t, ht, ?_⟩
  refine hL _ _ R H as h2 (sts_start h1) ⟨fun Γ' S' σ' R' H' as' u a b c => ?_, fun v x S' R' H' as' u a b c => h4 v x S' R' H' as' a b c, fun _ _ _ _ _ _ _ _ _ c => c.elim, fun _ _ _ _ _ _ _ _ _ c => c.elim⟩
  exact h4 .non (.d .non) S' R' H' as' a Den.non c
/-- a def that may raise -/
theorem fnX {x qual : Str} {st : Stmt} {f : Addr} {fd : FuncData} {N ps : List Str} {k : Nat} {ds : DS} (F : Fun K x qual st f fd) (Sc : FnScope N ps (defScope st)) (len : ∀ es S p e, ds es S p e → es.length = ps.length)
    (hbody : ∀ (cdv : Value) (A : Around) (outer : List PySem.Env) (s : Shared) (H : Hp) (E : XK), Room k (A.deeper (PyProof.Rows.envOfC qual (defScope st) s.heap.objs.size f cdv)) →
      ∀ (w : Wd) (es : List Ent) (S : List Own) (p : KE) (e : KX), w.K = K → w.as0.length = S.length → ExOk w E e → ds es S p e → ∃ t, PSs (cxOf (L2.CX P w0) P w0 K mg base N qual (defScope st) f cdv A outer s H E) (defBody st) t ∧ LS w t (startG N es) S { nx := fun _ S' => p (.d .non) S', rt := p }) :
    FnOk P w0 K mg base (L2.CX P w0) (k + 1) f fd ps (spD K ds) := by
  refine F.okX Sc (fun vs H Q E ⟨R, as, S, es, p, e, h1, h2, h3, h4, h5⟩ => by rw [h1.len]; exact len es S p e h3) (fun cdv A outer s H vs Q E hr h => ?_)
  obtain ⟨R, as, S, es, p, e, h1, h2, h3, h4, h5⟩ := h
  obtain ⟨t, ht, hL⟩ := hbody cdv A outer s H E hr ⟨K, R, H, as⟩ es S p e rfl h2.len h5 h3
  refine ⟨t, ht, ?_⟩
  refine hL _ _ R H as h2 (sts_start h1) ⟨fun Γ' S' σ' R' H' as' u a b c => ?_, fun v x S' R' H' as' u a b c => h4 v x S' R' H' as' a b c, fun _ _ _ _ _ _ _ _ _ c => c.elim, fun _ _ _ _ _ _ _ _ _ c => c.elim⟩
  exact h4 .non (.d .non) S' R' H' as' a Den.non c
end
end Gm
/-! short words for a def's text, and the step tactic -/
namespace Gm
open PySem L2

section
variable {X : Cx}
theorem gn (i : Nat) {x : Str} {pos : Pos} (hN : X.N.Nodup) (hi : X.N[i]? = some x := by rfl) (hx : Loc X.env.scope x := by first | exact Or.inl rfl | exact Or.inr rfl) (hf : X.fn x = true ∨ X.env.scope.names.lookup x = some .local := by first | exact Or.inl rfl | exact Or.inr rfl) : PG X (.Name x pos) (gName i) := pg_name hN hi hx hf
theorem sset (i : Nat) {x : Str} {e : Expr} {te : TE} {pos p : Pos} (he : PE X e te) (hN : X.N.Nodup) (hi : X.N[i]? = some x := by rfl) (hx : Loc X.env.scope x := by first | exact Or.inl rfl | exact Or.inr rfl) (hf : X.fn x = true ∨ X.env.scope.names.lookup x = some .local := by first | exact Or.inl rfl | exact Or.inr rfl)
    (hs : swapsWithSole [.Name x p] e pos.line X.env = pure false := by rfl) (hw : swappedStores [.Name x p] e X.env = pure none := by rfl) : PS X (.Assign [.Name x p] e pos) (tAsg te (gName i)) := ps_asg he (pg_name hN hi hx hf) hs hw
variable {e e1 e2 : Expr} {p pos : Pos} {te te1 te2 : TE}
theorem b_len (hm : X.mg "len" = none) (he : PE X e te) (hg : Gl X "len" := by rfl) (hs : starEach [e] X.env = (false, eval e X.env) :: starEach [] X.env := by rfl) : PE X (.Call (.Name "len" p) [e] [] pos) (tCB (gLen X.K) (tCons te tNil)) :=
  pe_callB c_len hg hm PySem.boot_len (pa_cons he pa_nil hs) (he := hs)
theorem b_abs (hm : X.mg "abs" = none) (he : PE X e te) (hg : Gl X "abs" := by rfl) (hs : starEach [e] X.env = (false, eval e X.env) :: starEach [] X.env := by rfl) : PE X (.Call (.Name "abs" p) [e] [] pos) (tCB gAbs (tCons te tNil)) :=
  pe_callB c_abs hg hm (by decide +kernel) (pa_cons he pa_nil hs) (he := hs)
theorem b_int (hm : X.mg "int" = none) (he : PE X e te) (hg : Gl X "int" := by rfl) (hs : starEach [e] X.env = (false, eval e X.env) :: starEach [] X.env := by rfl) : PE X (.Call (.Name "int" p) [e] [] pos) (tCB gInt1 (tCons te tNil)) :=
  pe_callTy c_int1 hg hm (by decide +kernel) (pa_cons he pa_nil hs) (he := hs)
theorem b_list (hm : X.mg "list" = none) (he : PE X e te) (hg : Gl X "list" := by rfl) (hs : starEach [e] X.env = (false, eval e X.env) :: starEach [] X.env := by rfl) : PE X (.Call (.Name "list" p) [e] [] pos) (tCB (gList X.K) (tCons te tNil)) :=
  pe_callTy c_list hg hm (by decide +kernel) (pa_cons he pa_nil hs) (he := hs)
theorem b_max2 (hm : X.mg "max" = none) (h1 : PE X e1 te1) (h2 : PE X e2 te2) (hc : X.calm = true := by rfl) (hg : Gl X "max" := by rfl) (hs : starEach [e1, e2] X.env = (false, eval e1 X.env) :: starEach [e2] X.env := by rfl) (hs2 : starEach [e2] X.env = (false, eval e2 X.env) :: starEach [] X.env := by rfl) (hpl : (backTo pos (starEach [e2] X.env)).any (·.1) = false := by rfl) :
    PE X (.Call (.Name "max" p) [e1, e2] [] pos) (tCB gMax2 (tCons te1 (tCons te2 tNil))) :=
  pe_callB (c_max2 hc) hg hm (by decide +kernel) (pa_cons h1 (pa_cons h2 pa_nil hs2) hs) (he := hs) (hpl := hpl)
theorem b_min2 (hm : X.mg "min" = none) (h1 : PE X e1 te1) (h2 : PE X e2 te2) (hc : X.calm = true := by rfl) (hg : Gl X "min" := by rfl) (hs : starEach [e1, e2] X.env = (false, eval e1 X.env) :: starEach [e2] X.env := by rfl) (hs2 : starEach [e2] X.env = (false, eval e2 X.env) :: starEach [] X.env := by rfl) (hpl : (backTo pos (starEach [e2] X.env)).any (·.1) = false := by rfl) :
    PE X (.Call (.Name "min" p) [e1, e2] [] pos) (tCB gMin2 (tCons te1 (tCons te2 tNil))) :=
  pe_callB (c_min2 hc) hg hm (by decide +kernel) (pa_cons h1 (pa_cons h2 pa_nil hs2) hs) (he := hs) (hpl := hpl)
/-- powers of any size the model has -/
def CPowW (i j : Int) : Prop := 0 ≤ j ∧ (Builtin.Int.intBits i : Int) * j ≤ 2 ^ 27
theorem op_powW : OpR X (binaryOp .Pow) (rI CPowW fun i j => .int (i ^ j.toNat)) := opI fun _ _ _ _ _ _ _ hc q => PyProof.Rows.pow_int hc.1 hc.2 q
theorem powW {i j : Int} {b : Nat} (h0 : 0 ≤ j) (h : i.natAbs < 2 ^ b) (h1 : (b : Int) * j ≤ 2 ^ 27) : CPowW i j := by
  refine ⟨h0, ?_⟩
  have hb : Builtin.Int.intBits i ≤ b := by
    unfold Builtin.Int.intBits
    split
    · omega
    · rename_i hz
      by_cases h2 : b = 0
      · subst h2
        have : i.natAbs = 0 := by omega
        exact absurd (by simpa using (show i = 0 by omega)) hz
      · have := PySem.Flt.log2_lt_of (by omega) h
        omega
  exact Int.le_trans (Int.mul_le_mul_of_nonneg_right (Int.ofNat_le.mpr hb) h0) h1
end
/-- a def of the program, as its callers have it -/
structure Df (P : Program) (w0 : World) (K : PySem.W.Frag) (mg : Str → Option Value) (base : Heap) (CX : CXT) (k : Nat) (x : Str) (n : Nat) (ds : DS) : Prop where
  ex : ∃ (f : Addr) (fd : FuncData) (ps : List Str), ps.length = n ∧ FnOk P w0 K mg base CX k f fd ps (spD K ds) ∧ mg x = some (.ref f) ∧ PySem.W.keepIn K (.ref f) = true ∧ Binds K fd ps []
section
variable {X : Cx} {CX : CXT} {k n : Nat} {x : Str} {ds : DS} {E : XK} {p pos : Pos} {e : Expr} {es : List Expr} {t : TA}
theorem pe_df (d : Df X.prog X.w X.K X.mg X.base CX k x n ds) (hr : Room k X.A) (hx : Passes CX X E) (ha : PA X (e :: es) t) (hg : Gl X x := by rfl) (hdb : (x == ("__debug__" : Str)) = false := by decide)
    (he : starEach (e :: es) X.env = (false, eval e X.env) :: starEach es X.env := by rfl) (hpl : (backTo pos (starEach es X.env)).any (·.1) = false := by rfl) : PE X (.Call (.Name x p) (e :: es) [] pos) (tCall (spD X.K ds) [] E t) := by
  obtain ⟨f, fd, ps, _, F, hm, hk, hb⟩ := d.ex
  exact pe_call F hr hg hm hk hb .nil hx ha (hdb := hdb) (he := he) (hpl := hpl)
end
theorem sz {n : Nat} (h : Nat.ble n 100000 = true) : n ≤ sizeLine := Nat.le_trans (Nat.le_of_ble_eq_true h) (by decide)
end Gm
/-! methods, makings, properties, keywords -/
namespace Gm
open PySem L2

/-- a class of the program -/
structure Cd (K : PySem.W.Frag) (mg : Str → Option Value) (x : Str) (C : Addr) : Prop where
  cls : Cls K C
  mg : mg x = some (.ref C)
structure Mt (P : Program) (w0 : World) (K : PySem.W.Frag) (mg : Str → Option Value) (base : Heap) (CX : CXT) (k : Nat) (C : Addr) (m : Str) (ds : DS) : Prop where
  ex : ∃ (f : Addr) (fd : FuncData) (ps : List Str), FnOk P w0 K mg base CX k f fd ps (spD K ds) ∧ Meth K C m f ∧ Binds K fd ps [] ∧ Cls K C
structure Ct (P : Program) (w0 : World) (K : PySem.W.Frag) (mg : Str → Option Value) (base : Heap) (CX : CXT) (k : Nat) (x : Str) (C : Addr) (ds : DS) : Prop where
  ex : ∃ (f : Addr) (fd : FuncData) (ps : List Str), FnOk P w0 K mg base CX k f fd ps (spD K ds) ∧ Mk K C f ∧ mg x = some (.ref C) ∧ Binds K fd ps []
structure Pr (P : Program) (w0 : World) (K : PySem.W.Frag) (mg : Str → Option Value) (base : Heap) (CX : CXT) (k : Nat) (C : Addr) (f : Str) (ds : DS) : Prop where
  ex : ∃ (p g : Addr) (fd : FuncData) (ps : List Str), FnOk P w0 K mg base CX k g fd ps (spD K ds) ∧ PropOf K C f p g ∧ Binds K fd ps [] ∧ Cls K C

/-! keywords -/
def permA {α : Type} (z : α) (pm : List Nat) (xs : List α) : List α := pm.map fun i => (xs[i]?).getD z
def gKw {α : Type} (z : α) (n m : Nat) (pm : List Nat) (us ws : List α) : List α := if us.length = n ∧ ws.length = m then us ++ permA z pm ws else []
structure KB (K : PySem.W.Frag) (fd : FuncData) (ps ks : List Str) (n : Nat) (pm : List Nat) : Prop where
  pos : 0 < ps.length
  to : ∀ (s : Shared) (us ws : List Value), us.length = n → ws.length = ks.length → BindsTo s fd ⟨us, ks.zip ws⟩ (ps.zip (us ++ permA .none pm ws))
theorem vals_getD {xs : List V} {us : List Value} (r : Vals xs us) (i : Nat) : RelV ((xs[i]?).getD .non) ((us[i]?).getD .none) := by
  cases h : xs[i]? with
  | none => rw [r.none_of h]; rfl
  | some x => obtain ⟨u, h1, h2⟩ := r.get h; rw [h1]; exact h2
theorem vals_perm {xs : List V} {us : List Value} (r : Vals xs us) : ∀ pm : List Nat, Vals (permA .non pm xs) (permA .none pm us)
  | [] => .nil
  | i :: pm => .cons (vals_getD r i) (vals_perm r pm)
theorem KB.kb {K : PySem.W.Frag} {fd : FuncData} {ps ks : List Str} {n : Nat} {pm : List Nat} (b : KB K fd ps ks n pm) : KBinds K fd ps ks (gKw .none n ks.length pm) (gKw .non n ks.length pm) where
  to := fun s us ws _ hl => by
    unfold gKw at hl ⊢
    by_cases h : us.length = n ∧ ws.length = ks.length
    · rw [if_pos h]; exact b.to s us ws h.1 h.2
    · rw [if_neg h] at hl
      have hp := b.pos
      have hl' : 0 = ps.length := hl
      omega
  rel := fun {vs us zs ws} r1 r2 => by
    unfold gKw
    rw [r1.length, r2.length]
    by_cases h : us.length = n ∧ ws.length = ks.length
    · rw [if_pos h, if_pos h]; exact r1.append (vals_perm r2 pm)
    · rw [if_neg h, if_neg h]; exact .nil
section
variable {X : Cx} {CX : CXT} {k : Nat} {C : Addr} {x m : Str} {ds : DS} {E : XK} {p pos apos : Pos} {o e : Expr} {es : List Expr} {kws : List Keyword} {ta : TE} {t tk : TA} {pl : Sem Bool}
theorem pe_md (d : Mt X.prog X.w X.K X.mg X.base CX k C m ds) (hr : Room k X.A) (hx : Passes CX X E) (he : PE X o ta) (ha : PA X (e :: es) t)
    (hst : starEach (e :: es) X.env = (false, eval e X.env) :: starEach es X.env := by rfl) (hpl : (backTo pos (starEach es X.env)).any (·.1) = false := by rfl)
    (ht : eval (.Call (.Attribute o m apos) (e :: es) [] pos) X.env = (do
      let ov ← eval o X.env
      standAt apos.atName
      let (f, first) ← holding [ov] (getMethod ov m pl)
      callWith pos f first (backTo pos (starEach (e :: es) X.env)) (backToKw pos (keywordEach [] X.env))) := by rfl) : PE X (.Call (.Attribute o m apos) (e :: es) [] pos) (tMeth C m (spD X.K ds) [] E ta t) := by
  obtain ⟨f, fd, ps, F, hm, hb, c⟩ := d.ex
  exact pe_meth he c hm F hr hb .nil hx ha (hst := hst) (hpl := hpl) (ht := ht)
theorem pe_md0 (d : Mt X.prog X.w X.K X.mg X.base CX k C m ds) (hr : Room k X.A) (hx : Passes CX X E) (he : PE X o ta)
    (ht : eval (.Call (.Attribute o m apos) [] [] pos) X.env = (do
      let ov ← eval o X.env
      standAt apos.atName
      let (f, first) ← holding [ov] (getMethod ov m pl)
      callWith pos f first (backTo pos (starEach [] X.env)) (backToKw pos (keywordEach [] X.env))) := by rfl) : PE X (.Call (.Attribute o m apos) [] [] pos) (tMeth C m (spD X.K ds) [] E ta tNil) := by
  obtain ⟨f, fd, ps, F, hm, hb, c⟩ := d.ex
  exact pe_meth0 he c hm F hr hb .nil hx (ht := ht)
theorem pe_mk (d : Ct X.prog X.w X.K X.mg X.base CX k x C ds) (hr : Room (k + 1) X.A) (hx : Passes CX X E) (ha : PA X (e :: es) t) (hg : Gl X x := by rfl) (hdb : (x == ("__debug__" : Str)) = false := by decide)
    (he : starEach (e :: es) X.env = (false, eval e X.env) :: starEach es X.env := by rfl) (hpl : (backTo pos (starEach es X.env)).any (·.1) = false := by rfl) : PE X (.Call (.Name x p) (e :: es) [] pos) (tMake C (spD X.K ds) [] E t) := by
  obtain ⟨f, fd, ps, F, M, hm, hb⟩ := d.ex
  exact pe_make M F hr hg hm hb .nil hx ha (hdb := hdb) (he := he) (hpl := hpl)
theorem pe_pr (d : Pr X.prog X.w X.K X.mg X.base CX k C m ds) (hr : Room (k + 1) X.A) (hx : Passes CX X.nox E) (he : PE X o ta) (hab : attributeBase o m X.env (eval o X.env) = eval o X.env := by rfl) : PE X (.Attribute o m pos) (tProp C (spD X.K ds) [] E ta) := by
  obtain ⟨p, g, fd, ps, F, hp, hb, c⟩ := d.ex
  exact pe_prop he c hp F hr hb .nil hx hab
/-- o.m(k = v, ..), keywords alone -/
def tMethK (C : Addr) (m : Str) (sp : Sp) (n : Nat) (pm : List Nat) (E : XK) (ta : TE) (tk : TA) : TE := fun σ H Q => ta σ H fun x H1 => ∃ a dx fs, x = .ref a ∧ H1 a = some (.ins C dx fs) ∧ fs.lookup m = none ∧
  tk σ H1 fun zs H2 => sp (gKw .non 1 n pm [x] zs) H2 Q E
structure MtK (P : Program) (w0 : World) (K : PySem.W.Frag) (mg : Str → Option Value) (base : Heap) (CX : CXT) (k : Nat) (C : Addr) (m : Str) (ks : List Str) (pm : List Nat) (ds : DS) : Prop where
  ex : ∃ (f : Addr) (fd : FuncData) (ps : List Str), FnOk P w0 K mg base CX k f fd ps (spD K ds) ∧ Meth K C m f ∧ KB K fd ps ks 1 pm ∧ Cls K C
theorem pe_mdK {ks : List Str} {pm : List Nat} {n : Nat} (d : MtK X.prog X.w X.K X.mg X.base CX k C m ks pm ds) (hr : Room k X.A) (hx : Passes CX X E) (he : PE X o ta) (hkw : PK X kws tk) (hn : ks.length = n := by rfl)
    (hall : (backToKw pos (keywordEach kws X.env)).all (·.1.isSome) = true := by rfl) (hks : (backToKw pos (keywordEach kws X.env)).filterMap (·.1) = ks := by rfl)
    (hpl : ((backTo pos (starEach [] X.env)).any (·.1) || (backToKw pos (keywordEach kws X.env)).any (·.1.isNone)) = false := by rfl)
    (ht : eval (.Call (.Attribute o m apos) [] kws pos) X.env = (do
      let ov ← eval o X.env
      standAt apos.atName
      let (f, first) ← holding [ov] (getMethod ov m pl)
      callWith pos f first (backTo pos (starEach [] X.env)) (backToKw pos (keywordEach kws X.env))) := by rfl) : PE X (.Call (.Attribute o m apos) [] kws pos) (tMethK C m (spD X.K ds) n pm E ta tk) := by
  obtain ⟨f, fd, ps, F, hm, hb, c⟩ := d.ex
  refine ⟨fun pins s σ H Q I h => ?_⟩
  refine PySem.W.methodCall_KW (pl := pl) (thn (he.run pins s σ H _ I h) fun u s1 ⟨x, H1, I1, rx, a, dx, fs, ex, ea, l, q⟩ => ?_) ht
  subst ex
  obtain rfl : u = Value.ref a := rx
  refine getmeth_ok I1 ea c hm l ?_
  refine PySem.W.callWith_KW0 (first := [.ref a]) (h₀ := X.base) I.ok.mod.kin hm.kp hall (thn (hkw.run pos pins s1 σ H1 _ I1 q) fun ws s2 ⟨zs, H2, I2, rz, q2⟩ => ⟨I2.kIn, ?_⟩) hpl
  rw [hks, List.append_nil]
  rw [← hn] at q2
  exact run_fnk (us := [.ref a]) (vs := [.ref a]) F hr hb.kb hx I2 (.cons rfl .nil) rz q2
/-- f(k = v, ..), keywords alone -/
def tCallK0 (sp : Sp) (n : Nat) (pm : List Nat) (E : XK) (tk : TA) : TE := fun σ H Q => tk σ H fun zs H2 => sp (gKw .non 0 n pm [] zs) H2 Q E
structure DfK (P : Program) (w0 : World) (K : PySem.W.Frag) (mg : Str → Option Value) (base : Heap) (CX : CXT) (k : Nat) (x : Str) (ks : List Str) (pm : List Nat) (ds : DS) : Prop where
  ex : ∃ (f : Addr) (fd : FuncData) (ps : List Str), FnOk P w0 K mg base CX k f fd ps (spD K ds) ∧ mg x = some (.ref f) ∧ PySem.W.keepIn K (.ref f) = true ∧ KB K fd ps ks 0 pm
theorem pe_dfK {ks : List Str} {pm : List Nat} {n : Nat} (d : DfK X.prog X.w X.K X.mg X.base CX k x ks pm ds) (hr : Room k X.A) (hx : Passes CX X E) (hkw : PK X kws tk) (hn : ks.length = n := by rfl) (hg : Gl X x := by rfl)
    (hall : (backToKw pos (keywordEach kws X.env)).all (·.1.isSome) = true := by rfl) (hks : (backToKw pos (keywordEach kws X.env)).filterMap (·.1) = ks := by rfl)
    (hdb : (x == ("__debug__" : Str)) = false := by decide)
    (hpl : ((backTo pos (starEach [] X.env)).any (·.1) || (backToKw pos (keywordEach kws X.env)).any (·.1.isNone)) = false := by rfl) : PE X (.Call (.Name x p) [] kws pos) (tCallK0 (spD X.K ds) n pm E tk) := by
  obtain ⟨f, fd, ps, F, hm, hk, hb⟩ := d.ex
  refine ⟨fun pins s σ H Q I h => ?_⟩
  refine wpAny_Call_Name_kw (ld_glob I hg hm ?_ hdb)
  refine PySem.W.callWith_KW0 (first := []) (h₀ := X.base) I.ok.mod.kin hk hall (thn (hkw.run pos pins s σ H _ I h) fun ws s2 ⟨zs, H2, I2, rz, q2⟩ => ⟨I2.kIn, ?_⟩) hpl
  rw [hks]
  rw [← hn] at q2
  exact run_fnk (us := []) (vs := []) F hr hb.kb hx I2 .nil rz q2
end
section
variable {w : Wd} {Γ : Env} {S : List Own} {k : KE} {ta : TE} {f : DS} {E : XK}
theorem ents_getD {K : PySem.W.Frag} {R : Hp} {as : List Addr} : ∀ {vs : List V} {es : List Ent} (i : Nat), EntsOk K R as vs es → EntOk K R as ((vs[i]?).getD .non) ((es[i]?).getD (.d .non))
  | [], [], i, _ => by simp only [List.getElem?_nil, Option.getD_none]; exact Den.non
  | v :: vs, e :: es, 0, ⟨h, _⟩ => h
  | v :: vs, e :: es, i + 1, ⟨_, t⟩ => by simpa using ents_getD i t
  | [], _ :: _, _, h => h.elim
  | _ :: _, [], _, h => h.elim
theorem ents_perm {K : PySem.W.Frag} {R : Hp} {as : List Addr} {vs : List V} {es : List Ent} (h : EntsOk K R as vs es) : ∀ pm : List Nat, EntsOk K R as (permA .non pm vs) (permA (.d .non) pm es)
  | [] => trivial
  | i :: pm => ⟨ents_getD i h, ents_perm h pm⟩
theorem le_methK {C : Addr} {m : Str} {n : Nat} {pm : List Nat} {tk : TA} (h : LE w ta Γ S fun x S1 => ∃ gs, IsObj x S1 C gs ∧ gs.lookup m = none ∧ LA w tk Γ S1 fun es S2 => es.length = n ∧ RS w f E (x :: permA (.d .non) pm es) S2 k) : LE w (tMethK C m (spD w.K f) n pm E ta tk) Γ S k := fun σ R H as Q rl s c => by
  refine h σ R H as _ rl s fun v x S1 R1 H1 as1 rl1 s1 p1 e1 ⟨gs, h1, h2, h3⟩ => ?_
  obtain ⟨a, dx, fs, rfl, q2, q3⟩ := isObj_at h1 rl1 e1
  refine ⟨a, dx, fs, rfl, q2, q3.none h2, ?_⟩
  refine h3 σ R1 H1 as1 _ rl1 (s.mono s1 p1) fun vs es S2 R2 H2 as2 rl2 s2 p2 e2 ⟨hn, h4⟩ => ?_
  have e : gKw V.non 1 n pm [.ref a] vs = .ref a :: permA .non pm vs := by unfold gKw; rw [if_pos ⟨rfl, by rw [e2.len]; exact hn⟩]; rfl
  rw [e]
  exact h4 R2 H2 as2 _ Q rl2 ⟨e1.mono s2 p2, ents_perm e2 pm⟩ fun v' e' S' R' H' as' a1 a2 a3 a4 a5 => c v' e' S' R' H' as' a1 ((s1.trans s2).trans a2) ((p1.trans p2).trans a3) a4 a5
theorem le_callK {n : Nat} {pm : List Nat} {tk : TA} (h : LA w tk Γ S fun es S2 => es.length = n ∧ RS w f E (permA (.d .non) pm es) S2 k) : LE w (tCallK0 (spD w.K f) n pm E tk) Γ S k := fun σ R H as Q rl s c => by
  refine h σ R H as _ rl s fun vs es S2 R2 H2 as2 rl2 s2 p2 e2 ⟨hn, h4⟩ => ?_
  have e : gKw V.non 0 n pm [] vs = permA .non pm vs := by unfold gKw; rw [if_pos ⟨rfl, by rw [e2.len]; exact hn⟩]; rfl
  rw [e]
  exact h4 R2 H2 as2 _ Q rl2 (ents_perm e2 pm) fun v' e' S' R' H' as' a1 a2 a3 a4 a5 => c v' e' S' R' H' as' a1 (s2.trans a2) (p2.trans a3) a4 a5
end

section
variable {w : Wd} {Γ : Env} {S rest : List Own} {k : KE} {f : DS} {E : XK} {o : Own}
theorem ren_wf1 : ∀ {es : List Ent}, es.all (Ent.wf 1) = true → es = es.map (Ent.ren [0])
  | [], _ => rfl
  | .d x :: es, h => by
    have h' : es.all (Ent.wf 1) = true := by simpa [Ent.wf] using h
    show Ent.d x :: es = Ent.d x :: es.map _
    rw [← ren_wf1 h']
  | .own j :: es, h => by
    have h' : j < 1 ∧ es.all (Ent.wf 1) = true := by simpa [Ent.wf] using h
    have e : j = 0 := by omega
    subst e
    show Ent.own 0 :: es = Ent.own 0 :: es.map _
    rw [← ren_wf1 h'.2]
  | .tup _ :: es, h => by simp [Ent.wf] at h
theorem ren_wf0 : ∀ {es : List Ent}, es.all (Ent.wf 0) = true → es = es.map (Ent.ren [])
  | [], _ => rfl
  | .d x :: es, h => by
    have h' : es.all (Ent.wf 0) = true := by simpa [Ent.wf] using h
    show Ent.d x :: es = Ent.d x :: es.map _
    rw [← ren_wf0 h']
  | .own j :: es, h => by simp [Ent.wf] at h
  | .tup _ :: es, h => by simp [Ent.wf] at h
/-- a def that is handed the first thing of the store, and gives data -/
theorem rs_p {es : List Ent} (hn : o ≠ .gone) (hw : es.all (Ent.wf 1) = true) (h : f es [o] (fun e S' => ∃ o' d, S' = [o'] ∧ o' ≠ .gone ∧ e = .d d ∧ k (.d d) (o' :: rest)) (fun _ _ _ => False))
    (mono : ∀ {es S} {p p' : KE} {x x' : KX}, (∀ e S, p e S → p' e S) → (∀ C u S, x C u S → x' C u S) → f es S p x → f es S p' x') : RS w f E es (o :: rest) k := by
  refine rs_call (ex0 (w := w) (E := E)) [0] (Pick.one (o := o) rfl hn) (ren_wf1 hw) hw (mono (fun e S' q => ?_) (fun C u S' q => q.elim) h)
  obtain ⟨o', d, rfl, h1, rfl, h2⟩ := q
  refine ⟨[o'], [], rfl, rfl, by simpa using h1, ?_⟩
  show k (.d d) ((o' :: rest) ++ [])
  rw [List.append_nil]; exact h2
/-- the same, it gives a list of the store -/
theorem rs_pO {es : List Ent} (hn : o ≠ .gone) (hw : es.all (Ent.wf 1) = true) (h : f es [o] (fun e S' => ∃ o' ds, S' = [o', .lst ds] ∧ o' ≠ .gone ∧ e = .own 1 ∧ k (.own (rest.length + 1)) (o' :: rest ++ [.lst ds])) (fun _ _ _ => False))
    (mono : ∀ {es S} {p p' : KE} {x x' : KX}, (∀ e S, p e S → p' e S) → (∀ C u S, x C u S → x' C u S) → f es S p x → f es S p' x') : RS w f E es (o :: rest) k := by
  refine rs_call (ex0 (w := w) (E := E)) [0] (Pick.one (o := o) rfl hn) (ren_wf1 hw) hw (mono (fun e S' q => ?_) (fun C u S' q => q.elim) h)
  obtain ⟨o', d, rfl, h1, rfl, h2⟩ := q
  exact ⟨[o'], [.lst d], rfl, rfl, by simpa using h1, h2⟩
/-- nothing is borrowed, it gives data -/
theorem rs_0 {es : List Ent} (hw : es.all (Ent.wf 0) = true) (h : f es [] (fun e S' => ∃ d, S' = [] ∧ e = .d d ∧ k (.d d) S) (fun _ _ _ => False))
    (mono : ∀ {es S} {p p' : KE} {x x' : KX}, (∀ e S, p e S → p' e S) → (∀ C u S, x C u S → x' C u S) → f es S p x → f es S p' x') : RS w f E es S k := by
  refine rs_call (ex0 (w := w) (E := E)) [] Pick.nil (ren_wf0 hw) hw (mono (fun e S' q => ?_) (fun C u S' q => q.elim) h)
  obtain ⟨d, rfl, rfl, h2⟩ := q
  refine ⟨[], [], rfl, rfl, by simp, ?_⟩
  show k (.d d) (wb S [] [] ++ [])
  rw [List.append_nil]
  simpa [wb] using h2
end

/-- a promise by a precondition and what comes behind -/
def ds {α : Type} (pre : α → List Ent → List Own → Prop) (post : α → Ent → List Own → Prop) : DS := fun es S p _ => ∃ a, pre a es S ∧ ∀ e S', post a e S' → p e S'
theorem ds_mono {α : Type} {pre : α → List Ent → List Own → Prop} {post : α → Ent → List Own → Prop} {es : List Ent} {S : List Own} {p p' : KE} {x x' : KX} (h : ∀ e S, p e S → p' e S) (_ : ∀ C u S, x C u S → x' C u S) (q : ds pre post es S p x) : ds pre post es S p' x' := by
  obtain ⟨a, h1, h2⟩ := q
  exact ⟨a, h1, fun e S' z => h e S' (h2 e S' z)⟩
section
variable {w : Wd} {S rest : List Own} {k : KE} {E : XK} {o : Own} {α : Type} {pre : α → List Ent → List Own → Prop} {post : α → Ent → List Own → Prop}
theorem rp {es : List Ent} (a : α) (hpre : pre a es [o]) (h : ∀ e S', post a e S' → ∃ o' d, S' = [o'] ∧ o' ≠ .gone ∧ e = .d d ∧ k (.d d) (o' :: rest)) (hn : o ≠ .gone) (hw : es.all (Ent.wf 1) = true := by rfl) : RS w (ds pre post) E es (o :: rest) k :=
  rs_p hn hw ⟨a, hpre, h⟩ fun a b c => ds_mono a b c
theorem rpO {es : List Ent} (a : α) (hpre : pre a es [o]) (h : ∀ e S', post a e S' → ∃ o' xs, S' = [o', .lst xs] ∧ o' ≠ .gone ∧ e = .own 1 ∧ k (.own (rest.length + 1)) (o' :: rest ++ [.lst xs])) (hn : o ≠ .gone) (hw : es.all (Ent.wf 1) = true := by rfl) : RS w (ds pre post) E es (o :: rest) k :=
  rs_pO hn hw ⟨a, hpre, h⟩ fun a b c => ds_mono a b c
theorem r0 {es : List Ent} (a : α) (hpre : pre a es []) (h : ∀ e S', post a e S' → ∃ d, S' = [] ∧ e = .d d ∧ k (.d d) S) (hw : es.all (Ent.wf 0) = true := by rfl) : RS w (ds pre post) E es S k :=
  rs_0 hw ⟨a, hpre, h⟩ fun a b c => ds_mono a b c
/-- nothing is borrowed, it gives a new thing of the store -/
theorem r0O {es : List Ent} (a : α) (hpre : pre a es []) (h : ∀ e S', post a e S' → ∃ o', S' = [o'] ∧ e = .own 0 ∧ k (.own S.length) (S ++ [o'])) (hw : es.all (Ent.wf 0) = true := by rfl) : RS w (ds pre post) E es S k := by
  refine rs_call (ex0 (w := w) (E := E)) [] Pick.nil (ren_wf0 hw) hw ⟨a, hpre, fun e S' q => ?_⟩
  obtain ⟨o', rfl, rfl, h2⟩ := h e S' q
  exact ⟨[], [o'], rfl, rfl, by simp, h2⟩
theorem mk0 {Γ : Env} {C : Addr} {t : TA} (h : LA w t Γ S fun es S1 => es.all (Ent.wf 0) = true ∧ ∃ a, pre a (.own 0 :: es) [.ins C []] ∧ ∀ e S', post a e S' → e = .d .non ∧ ∃ gs, S' = [.ins C gs] ∧ k (.d (.obj C gs)) S1) : LE w (tMake C (spD w.K (ds pre post)) [] E t) Γ S k := by
  refine le_make (ex0 (w := w) (E := E)) fun σ R H as Q rl s c => h σ R H as Q rl s fun vs es S' R' H' as' a1 a2 a3 a4 ⟨q1, a, q2, q3⟩ => c vs es S' R' H' as' a1 a2 a3 a4 ⟨q1, a, q2, q3⟩
end

/-- Γ' is Γ with some names forgotten, and names no place from n on -/
inductive EnvLe (n : Nat) : Env → Env → Prop
  | nil : EnvLe n [] []
  | none {x : Option Ent} {Γ' Γ : Env} : EnvLe n Γ' Γ → EnvLe n (none :: Γ') (x :: Γ)
  | same {e : Ent} {Γ' Γ : Env} : e.wf n = true → EnvLe n Γ' Γ → EnvLe n (some e :: Γ') (some e :: Γ)
theorem EnvLe.len {n : Nat} : ∀ {Γ' Γ : Env}, EnvLe n Γ' Γ → Γ'.length = Γ.length
  | _, _, .nil => rfl
  | _, _, .none h => congrArg (· + 1) h.len
  | _, _, .same _ h => congrArg (· + 1) h.len
theorem EnvLe.at_ {n : Nat} : ∀ {Γ' Γ : Env}, EnvLe n Γ' Γ → ∀ (j : Nat) (e : Ent), Γ'[j]? = some (some e) → Γ[j]? = some (some e) ∧ e.wf n = true
  | _, _, .nil, _, _, h => by simp at h
  | _, _, .none h, 0, e, q => by simp at q
  | _, _, .none h, j + 1, e, q => by simpa using h.at_ j e (by simpa using q)
  | _, _, .same w h, 0, e, q => by simp at q; subst q; exact ⟨rfl, w⟩
  | _, _, .same w h, j + 1, e, q => by simpa using h.at_ j e (by simpa using q)
section
variable {w : Wd} {S : List Own} {G : GE} {Γ Γ' : Env} {t : TS}
theorem forget {o : Own} (h : LS w t Γ' S G) (hE : EnvLe S.length Γ' Γ) (hw : w.as0.length ≤ S.length) : LS w t Γ (S ++ [o]) G := ls_forget hw hE.len hE.at_ h
theorem frzL {xs : List D} (j : Nat) (hj : Γ[j]? = some (some (.own S.length))) (h : LS w t Γ' S G) (hE : EnvLe S.length Γ' (Γ.set j (some (.d (.lst xs))))) (hw : w.as0.length ≤ S.length) : LS w t Γ (S ++ [.lst xs]) G :=
  ls_frzL j hj hw (by rw [hE.len, List.length_set]) hE.at_ h
end
/-- an item at an unknown place -/
theorem ix_any {ds : List D} {i : Int} (P : D → Prop) (h0 : 0 ≤ i) (h1 : i < ds.length) (h : ∀ x ∈ ds, P x) : ∃ x, atI ds i = some x ∧ P x := by
  have hl : i.toNat < ds.length := by omega
  refine ⟨ds[i.toNat], ?_, h _ (List.getElem_mem hl)⟩
  unfold atI ixN
  rw [if_pos h0, if_pos h1]
  exact List.getElem?_eq_getElem hl

section
variable {w : Wd} {S : List Own} {Γ : Env} {k : Env → List Own → Prop}
theorem lg_tup2 {i j : Nat} {x y : D} (q : k ((Γ.set i (some (.d x))).set j (some (.d y))) S) : LG w (gTup w.K 2 (gCons (gName i) (gCons (gName j) gNil))) (.d (.tup [x, y])) Γ S k :=
  lg_tup rfl (lgs_cons (lg_name (lgs_cons (lg_name (lgs_nil q)))))
theorem lg_tup3 {i j l : Nat} {x y z : D} (q : k (((Γ.set i (some (.d x))).set j (some (.d y))).set l (some (.d z))) S) : LG w (gTup w.K 3 (gCons (gName i) (gCons (gName j) (gCons (gName l) gNil)))) (.d (.tup [x, y, z])) Γ S k :=
  lg_tup rfl (lgs_cons (lg_name (lgs_cons (lg_name (lgs_cons (lg_name (lgs_nil q)))))))
theorem lg_tup4 {i j l m : Nat} {x y z u : D} (q : k ((((Γ.set i (some (.d x))).set j (some (.d y))).set l (some (.d z))).set m (some (.d u))) S) : LG w (gTup w.K 4 (gCons (gName i) (gCons (gName j) (gCons (gName l) (gCons (gName m) gNil))))) (.d (.tup [x, y, z, u])) Γ S k :=
  lg_tup rfl (lgs_cons (lg_name (lgs_cons (lg_name (lgs_cons (lg_name (lgs_cons (lg_name (lgs_nil q)))))))))
theorem lg_tup5 {i j l m n : Nat} {x y z u v : D} (q : k (((((Γ.set i (some (.d x))).set j (some (.d y))).set l (some (.d z))).set m (some (.d u))).set n (some (.d v))) S) : LG w (gTup w.K 5 (gCons (gName i) (gCons (gName j) (gCons (gName l) (gCons (gName m) (gCons (gName n) gNil)))))) (.d (.tup [x, y, z, u, v])) Γ S k :=
  lg_tup rfl (lgs_cons (lg_name (lgs_cons (lg_name (lgs_cons (lg_name (lgs_cons (lg_name (lgs_cons (lg_name (lgs_nil q)))))))))))
theorem notself {v : V} (h : (!decide (v = v)) = true) : False := by simp at h
end

section
variable {w : Wd} {S : List Own} {G : GE} {Γ Γ' Γa Γb : Env} {t : TS}
theorem ls_weak {n : Nat} (hE : EnvLe n Γ' Γ) (h : LS w t Γ' S G) : LS w t Γ S G := fun D σ R H as rl s e =>
  h D σ R H as rl (s.weak hE.len fun i x q => (hE.at_ i x q).1) e
/-- a loop's turn begins anew: the thing of the turn before is forgotten -/
theorem ls_either {i : Nat} {e : Ent} (hI : (S = [] ∧ Γ = Γa) ∨ ∃ o, S = [o] ∧ Γ = Γb) (h : LS w t Γ' [] G) (ha : EnvLe 0 Γ' (Γa.set i (some e))) (hb : EnvLe 0 Γ' (Γb.set i (some e))) (hw : w.as0.length ≤ 0) : LS w t (Γ.set i (some e)) S G := by
  rcases hI with ⟨rfl, rfl⟩ | ⟨o, rfl, rfl⟩
  · exact ls_weak ha h
  · exact forget (S := []) h hb hw
end

section
variable {w : Wd} {S : List Own} {G : GE} {Γ Γ' Γa Γb : Env} {t : TS}
theorem ls_either0 (hI : (S = [] ∧ Γ = Γa) ∨ ∃ o, S = [o] ∧ Γ = Γb) (h : LS w t Γ' [] G) (ha : EnvLe 0 Γ' Γa) (hb : EnvLe 0 Γ' Γb) (hw : w.as0.length ≤ 0) : LS w t Γ S G := by
  rcases hI with ⟨rfl, rfl⟩ | ⟨o, rfl, rfl⟩
  · exact ls_weak ha h
  · exact forget (S := []) h hb hw
end

/-! ### the end -/
theorem Fun_kb {K : PySem.W.Frag} {x qual : Str} {st : Stmt} {f : Addr} {fd : FuncData} {ps ks : List Str} {n : Nat} {pm : List Nat} (F : Fun K x qual st f fd) (hp : 0 < ps.length)
    (h : ∀ (kV doc pm' : Value) (an : Option Addr) (cdv ct : Value) (us ws : List Value), us.length = n → ws.length = ks.length → bindArgs (PySem.W.fnOf x qual (defArgs st) (defBody st) (defScope st) .none kV doc pm' an cdv ct) ⟨us, ks.zip ws⟩ = pure (ps.zip (us ++ permA .none pm ws))) : KB K fd ps ks n pm := by
  obtain ⟨oc, od, kV, doc, pm', an, cdv, ct, osl, rfl, lk, hcd⟩ := F.ex
  exact ⟨hp, fun s us ws h1 h2 => .of_eq (h kV doc pm' an cdv ct us ws h1 h2)⟩
theorem rel0 {K : PySem.W.Frag} {H : Hp} : Rel ⟨K, H, H, []⟩ H H [] [] := by
  refine ⟨Sub.refl _, Sub.refl _, fun b o e _ => e, fun b e => e, fun i a e => e, fun b o e => .inl e, rfl, fun i o a h => by simp at h, fun i j a o u h => by simp at h⟩
theorem law_sp {K : PySem.W.Frag} {H : Hp} {a : Addr} {ns : List Int} {f : DS} (hS : SqL K H a (ns.map V.int)) (h : f [.d (.scr ns)] [] (fun e _ => e = .d (.bl true)) (fun _ _ _ => False)) :
    spD K f [.ref a] H (fun v _ => v = .bl true) fun _ _ _ => False := by
  refine ⟨H, [], [], [.d (.scr ns)], _, _, ⟨Den.scr hS, trivial⟩, rel0, h, fun v e S' R' H' as' _ ok he => ?_, ex0⟩
  subst he
  cases ok; rfl
end Gm
/-! len, ==, + by a class's own methods; lcm, gcd; isinstance -/
namespace Gm
open PySem L2

section
variable {X : Cx} {CX : CXT} {k : Nat} {C f : Addr} {fd : FuncData} {ps : List Str} {sp : Sp} {E : XK}
def gLenO (C : Addr) (sp : Sp) (E : XK) : List V → Hp → VK → Prop := fun xs H Q => ∃ a dx fs, xs = [.ref a] ∧ H a = some (.ins C dx fs) ∧ sp [.ref a] H (fun v H' => ∃ n : Int, v = .int n ∧ 0 ≤ n ∧ n < 2 ^ 63 ∧ Q (.int n) H') E
theorem c_lenO (F : FnOk X.prog X.w X.K X.mg X.base CX k f fd ps sp) (hr : Room (k + 1) X.A) (hs : PySem.W.findIn X.K (.ref C) "__len__" = some (some (.ref f))) (hf : PySem.W.isFn X.K (.ref f) = true) (hb : Binds X.K fd ps []) (hx : Passes CX X E) : CallR X (.builtin "len") (gLenO C sp E) := by
  intro pins s σ H xs us Q I r h
  obtain ⟨a, dx, fs, rfl, ha, h⟩ := h
  obtain ⟨u, rfl, ru⟩ := vals1 r
  cases (show u = Value.ref a from ru)
  obtain ⟨mA, J, _⟩ := ins_get I.hok ha
  obtain ⟨od, J, _⟩ := J.look
  obtain ⟨m, hF⟩ := I.fr
  refine PySem.W.len_K hF I.ok.mod.kin J hs hf ?_
  have hl : ([Value.ref a] ++ []).length = ps.length := by rw [← F.len _ _ _ _ h]; rfl
  refine wpAny_call (codeAny_mono (F.run X.A.in1 X.stack s H ⟨[.ref a], []⟩ [.ref a] [.ref a] _ E hr.in1 I.env0.in1 (by simpa using hb s [.ref a] I.kIn hl) (.cons rfl .nil) h) fun r s' hq => ?_)
  cases r with
  | error e => exact hx pins σ H s e s' I hq
  | ok fl =>
    cases fl with
    | ret w =>
      obtain ⟨z, H', I', rz, n, ez, h0, h1, q⟩ := I.after hq
      subst ez
      obtain ⟨t, rfl⟩ := rz
      exact ⟨⟨h0, h1⟩, .int n, H', I'.tok _, ⟨_, rfl⟩, q⟩
    | next => exact False.elim hq
    | brk => exact False.elim hq
    | cont => exact False.elim hq
/-- x == y, x an instance of the class at C with the text's own ==, y of the type t -/
def rEqO (K : PySem.W.Frag) (C : Addr) (sp : Sp) (E : XK) : R2 := fun x y H Q => ∃ a dx fs t, x = .ref a ∧ H a = some (.ins C dx fs) ∧ TyX K H y t ∧ PySem.W.notFirst K C t = true ∧ sp [x, y] H (fun v H' => ∃ b, v = .bl b ∧ Q (.bl b) H') E
theorem op_eqO (F : FnOk X.prog X.w X.K X.mg X.base CX k f fd ps sp) (hr : Room k X.A) (hs : PySem.W.findIn X.K (.ref C) "__eq__" = some (some (.ref f))) (hf : PySem.W.isFn X.K (.ref f) = true) (hb : Binds X.K fd ps []) (hx : Passes CX X E) : OpR X (compareOp .Eq) (rEqO X.K C sp E) := by
  intro pins s σ H x y v u Q I rx ry h
  obtain ⟨a, dx, fs, t, rfl, ha, ty, hn, h⟩ := h
  cases (show v = Value.ref a from rx)
  obtain ⟨mA, J, _⟩ := ins_get I.hok ha
  obtain ⟨od, J, _⟩ := J.look
  obtain ⟨m, hF⟩ := I.fr
  obtain ⟨Pk, Z, pk, _⟩ := kit_of I ry ty
  show wpAny (model X.prog X.w) X.A (richCompare .Eq (.ref a) u) (EP X pins σ Q) X.xe s
  refine PySem.W.cmp_K (op := .Eq) (tb := t) hr.units0 hF I.ok.mod.kin J (Z.ty _ _ I.kIn pk) hn hs hf ?_
  have hl : ([Value.ref a, u] ++ []).length = ps.length := by rw [← F.len _ _ _ _ h]; rfl
  refine wpAny_call (codeAny_mono (F.run X.A X.stack s H ⟨[.ref a, u], []⟩ [.ref a, u] [.ref a, y] _ E hr I.env0 (by simpa using hb s [.ref a, u] I.kIn hl) (.cons rfl (.cons ry .nil)) h) fun r s' hq => ?_)
  cases r with
  | error e => exact hx pins σ H s e s' I hq
  | ok fl =>
    cases fl with
    | ret w =>
      obtain ⟨z, H', I', rz, b, ez, q⟩ := I.after hq
      subst ez
      cases rz
      exact ⟨.bl b, H', I', rfl, q⟩
    | next => exact False.elim hq
    | brk => exact False.elim hq
    | cont => exact False.elim hq
/-- x + y of two instances of the class at C, by its own + -/
def rAddO (C : Addr) (sp : Sp) (E : XK) : R2 := fun x y H Q => ∃ a b dx dy fs gs, x = .ref a ∧ y = .ref b ∧ H a = some (.ins C dx fs) ∧ H b = some (.ins C dy gs) ∧ sp [x, y] H (fun v H' => (∃ p, v = .ref p) ∧ Q v H') E
theorem op_addO (F : FnOk X.prog X.w X.K X.mg X.base CX k f fd ps sp) (hr : Room k X.A) (hc : PySem.W.selfFirst X.K C = true) (hs : PySem.W.findIn X.K (.ref C) "__add__" = some (some (.ref f))) (hf : PySem.W.isFn X.K (.ref f) = true) (hb : Binds X.K fd ps []) (hx : Passes CX X E) : OpR X (binaryOp .Add) (rAddO C sp E) := by
  intro pins s σ H x y v u Q I rx ry h
  obtain ⟨a, b, dx, dy, fs, gs, rfl, rfl, ha, hb', h⟩ := h
  cases (show v = Value.ref a from rx)
  cases (show u = Value.ref b from ry)
  obtain ⟨mA, J, _⟩ := ins_get I.hok ha
  obtain ⟨mB, J', _⟩ := ins_get I.hok hb'
  obtain ⟨od, J, _⟩ := J.look
  obtain ⟨od', J', _⟩ := J'.look
  obtain ⟨m, hF⟩ := I.fr
  refine PySem.W.binop_K (op := .Add) hF I.ok.mod.kin J J'.type hc hs hf ?_
  have hl : ([Value.ref a, .ref b] ++ []).length = ps.length := by rw [← F.len _ _ _ _ h]; rfl
  refine wpAny_call (codeAny_mono (F.run X.A X.stack s H ⟨[.ref a, .ref b], []⟩ [.ref a, .ref b] [.ref a, .ref b] _ E hr I.env0 (by simpa using hb s [.ref a, .ref b] I.kIn hl) (.cons rfl (.cons rfl .nil)) h) fun r s' hq => ?_)
  cases r with
  | error e => exact hx pins σ H s e s' I hq
  | ok fl =>
    cases fl with
    | ret w =>
      obtain ⟨z, H', I', rz, ⟨p, ez⟩, q⟩ := I.after hq
      subst ez
      cases (show w = Value.ref p from rz)
      exact ⟨.ref p, H', I', rfl, q⟩
    | next => exact False.elim hq
    | brk => exact False.elim hq
    | cont => exact False.elim hq
def gGcd : List V → Hp → VK → Prop := fun vs H Q => ∃ a b : Int, vs = [.int a, .int b] ∧ Q (.int ((Nat.gcd a.natAbs b.natAbs : Nat) : Int)) H
def gLcm : List V → Hp → VK → Prop := fun vs H Q => ∃ a b : Int, vs = [.int a, .int b] ∧ a.natAbs < 2 ^ 64 ∧ b.natAbs < 2 ^ 64 ∧ Q (.int ((Nat.lcm a.natAbs b.natAbs : Nat) : Int)) H
theorem c_gcd : CallR X (.builtin "math.gcd") gGcd := cr_gcd
theorem c_lcm : CallR X (.builtin "math.lcm") gLcm := by
  intro pins s σ H vs us Q I r h
  obtain ⟨a, b, rfl, ha, hb, q⟩ := h
  obtain ⟨u, w', rfl, ⟨t, rfl⟩, ⟨t', rfl⟩⟩ := vals2 r
  exact PySem.W.mc_lcm ha hb fun _ => ⟨.int _, H, I.tok _, ⟨_, rfl⟩, q⟩
variable {e e1 e2 : Expr} {p pos : Pos} {te te1 te2 : TE}
theorem b_gcd (hm : X.mg "gcd" = some (.builtin "math.gcd")) (h1 : PE X e1 te1) (h2 : PE X e2 te2) (hg : Gl X "gcd" := by rfl) (hs : starEach [e1, e2] X.env = (false, eval e1 X.env) :: starEach [e2] X.env := by rfl) (hs2 : starEach [e2] X.env = (false, eval e2 X.env) :: starEach [] X.env := by rfl) (hpl : (backTo pos (starEach [e2] X.env)).any (·.1) = false := by rfl) :
    PE X (.Call (.Name "gcd" p) [e1, e2] [] pos) (tCB gGcd (tCons te1 (tCons te2 tNil))) := pe_callBfun c_gcd hg hm (pa_cons h1 (pa_cons h2 pa_nil hs2) hs) (he := hs) (hpl := hpl)
theorem b_lcm (hm : X.mg "lcm" = some (.builtin "math.lcm")) (h1 : PE X e1 te1) (h2 : PE X e2 te2) (hg : Gl X "lcm" := by rfl) (hs : starEach [e1, e2] X.env = (false, eval e1 X.env) :: starEach [e2] X.env := by rfl) (hs2 : starEach [e2] X.env = (false, eval e2 X.env) :: starEach [] X.env := by rfl) (hpl : (backTo pos (starEach [e2] X.env)).any (·.1) = false := by rfl) :
    PE X (.Call (.Name "lcm" p) [e1, e2] [] pos) (tCB gLcm (tCons te1 (tCons te2 tNil))) := pe_callBfun c_lcm hg hm (pa_cons h1 (pa_cons h2 pa_nil hs2) hs) (he := hs) (hpl := hpl)
end
/-- special methods, as one has them -/
structure Sm (P : Program) (w0 : World) (K : PySem.W.Frag) (mg : Str → Option Value) (base : Heap) (CX : CXT) (k : Nat) (C : Addr) (m : Str) (ds : DS) : Prop where
  ex : ∃ (f : Addr) (fd : FuncData) (ps : List Str), FnOk P w0 K mg base CX k f fd ps (spD K ds) ∧ PySem.W.findIn K (.ref C) m = some (some (.ref f)) ∧ PySem.W.isFn K (.ref f) = true ∧ Binds K fd ps []
section
variable {X : Cx} {CX : CXT} {k : Nat} {C : Addr} {ds : DS} {E : XK} {e e1 e2 : Expr} {p pos : Pos} {te : TE}
theorem o_len (d : Sm X.prog X.w X.K X.mg X.base CX k C "__len__" ds) (hr : Room (k + 1) X.A) (hx : Passes CX X E) (hm : X.mg "len" = none) (he : PE X e te) (hg : Gl X "len" := by rfl) (hs : starEach [e] X.env = (false, eval e X.env) :: starEach [] X.env := by rfl) : PE X (.Call (.Name "len" p) [e] [] pos) (tCB (gLenO C (spD X.K ds) E) (tCons te tNil)) := by
  obtain ⟨f, fd, ps, F, h1, h2, h3⟩ := d.ex
  exact pe_callB (c_lenO F hr h1 h2 h3 hx) hg hm PySem.boot_len (pa_cons he pa_nil hs) (he := hs)
theorem o_eq (d : Sm X.prog X.w X.K X.mg X.base CX k C "__eq__" ds) (hr : Room k X.A) (hx : Passes CX X E) : OpR X (compareOp .Eq) (rEqO X.K C (spD X.K ds) E) := by
  obtain ⟨f, fd, ps, F, h1, h2, h3⟩ := d.ex
  exact op_eqO F hr h1 h2 h3 hx
theorem o_add (d : Sm X.prog X.w X.K X.mg X.base CX k C "__add__" ds) (hc : PySem.W.selfFirst X.K C = true) (hr : Room k X.A) (hx : Passes CX X E) : OpR X (binaryOp .Add) (rAddO C (spD X.K ds) E) := by
  obtain ⟨f, fd, ps, F, h1, h2, h3⟩ := d.ex
  exact op_addO F hr hc h1 h2 h3 hx
end
/-! over data -/
/-- the type of a thing, as isinstance and == look at it -/
structure InsTy (K : PySem.W.Frag) (C : Addr) : Prop where
  cl : Cls K C
  ha : PySem.W.findIn K (.ref C) "__class__" = some (some (.builtin "object.__class__"))
  hn : PySem.W.specialIn K (.builtin "object.__class__") "__get__" = some (some (.builtin "getset_descriptor.__get__"))
  htk : PySem.W.takesIn K (.builtin "object.__class__") = some true
  hm : PySem.W.mroIn K C (.type "object") = some true
def tyE (S : List Own) : Ent → Option Value
  | .d .non => some (.type "NoneType")
  | .d (.bl _) => some (.type "bool")
  | .d (.int _) => some (.type "int")
  | .d (.str _) => some (.type "str")
  | .d (.lst _) => some (.type "list")
  | .d (.tup _) => some (.type "tuple")
  | .d (.obj C _) => some (.ref C)
  | .d (.scr _) => none
  | .d (.cls _) => none
  | .d (.exn _ _ _) => none
  | .d (.eob _ _) => none
  | .d (.ty _) => none
  | .tup _ => some (.type "tuple")
  | .own i => match S[i]? with
    | some (.lst _) => some (.type "list")
    | some (.ins C _) => some (.ref C)
    | _ => none
theorem ty_of {w : Wd} {R H : Hp} {as : List Addr} {S : List Own} {v : V} {x : Ent} {t : Value} (rl : Rel w R H as S) (h : EntOk w.K R as v x) (e : tyE S x = some t) (hi : ∀ C, t = .ref C → InsTy w.K C) : TyX w.K H v t := by
  have ins : ∀ {a C dx : Addr} {fs : List (Str × V)}, H a = some (.ins C dx fs) → t = .ref C → TyX w.K H (.ref a) t := fun q z => by
    subst z
    have i := hi _ rfl
    exact .base (.ins q i.cl i.ha i.hn i.htk i.hm)
  cases x with
  | d x =>
    cases x with
    | non => cases h; cases e; exact .base .non
    | bl b => cases h; cases e; exact .base (.bl _)
    | int b => cases h; cases e; exact .base (.int _)
    | str b => cases h; cases e; exact .base (.str _)
    | scr b => cases e
    | cls b => cases e
    | exn _ _ _ => cases e
    | eob _ _ => cases e
    | ty b => cases e
    | lst b => cases e; cases h with | lst h1 h2 => exact .base (.lst (rl.sub _ _ h1))
    | tup b => cases e; cases h with | tup h1 h2 => exact .base (.tup (rl.sub _ _ h1))
    | obj C b => cases e; cases h with | obj h1 h2 => exact ins (rl.sub _ _ h1) rfl
  | tup es => obtain ⟨a, vs, rfl, h1, h2⟩ := h; cases e; exact .base (.tup (rl.sub _ _ h1))
  | own i =>
    obtain ⟨a, ha, rfl⟩ := h
    simp only [tyE] at e
    cases q : S[i]? with
    | none => rw [q] at e; cases e
    | some o =>
      rw [q] at e
      cases o with
      | gone => cases e
      | dct _ => cases e
      | lat _ _ => cases e
      | sn _ => cases e
      | lst xs =>
        obtain ⟨⟨z, vs, c1, c2⟩, _⟩ := rl.reg i _ a q ha (by intro z; cases z)
        cases e; exact .base (.lst c1)
      | ins C gs =>
        obtain ⟨⟨z, dx, fs, c1, c2⟩, _⟩ := rl.reg i _ a q ha (by intro z; cases z)
        cases e; exact ins c1 rfl
section
variable {w : Wd} {Γ : Env} {S : List Own} {k : KE} {f : DS} {E : XK} {C : Addr}
theorem rc_lenOwn {x : Ent} {gs : List (Str × D)} (hx : IsObj x S C gs) (h : RS w f E [x] S fun e S1 => ∃ n : Int, e = .d (.int n) ∧ 0 ≤ n ∧ n < 2 ^ 63 ∧ k (.d (.int n)) S1) : RC w (gLenO C (spD w.K f) E) [x] S k := fun R H as us Q rl hu c => by
  obtain ⟨v, rfl, hv⟩ := one_ent hu
  obtain ⟨a, dx, fs, rfl, q2, q3⟩ := isObj_at hx rl hv
  refine ⟨a, dx, fs, rfl, q2, h R H as _ _ rl ⟨hv, trivial⟩ fun v' e' S' R' H' as' a1 a2 a3 a4 ⟨n, e1, e2, e3, e4⟩ => ?_⟩
  subst e1
  cases a4
  exact ⟨n, rfl, e2, e3, c _ _ S' R' H' as' a1 a2 a3 (ok_d (Den.int n)) e4⟩
theorem rr_eqO {x y : Ent} {t : Value} {gs : List (Str × D)} (hx : IsObj x S C gs) (ht : tyE S y = some t) (hi : ∀ C, t = .ref C → InsTy w.K C) (hn : PySem.W.notFirst w.K C t = true)
    (h : RS w f E [x, y] S fun e S1 => ∃ b, e = .d (.bl b) ∧ k (.d (.bl b)) S1) : RR w (rEqO w.K C (spD w.K f) E) x y S k := fun R H as u v Q rl hu hv c => by
  obtain ⟨a, dx, fs, rfl, q2, q3⟩ := isObj_at hx rl hu
  refine ⟨a, dx, fs, t, rfl, q2, ty_of rl hv ht hi, hn, h R H as _ _ rl ⟨hu, hv, trivial⟩ fun v' e' S' R' H' as' a1 a2 a3 a4 ⟨b, e1, e4⟩ => ?_⟩
  subst e1
  cases a4
  exact ⟨b, rfl, c _ _ S' R' H' as' a1 a2 a3 (ok_d (Den.bl b)) e4⟩
theorem rr_addO {x y : Ent} {gs hs : List (Str × D)} (hx : IsObj x S C gs) (hy : IsObj y S C hs) (h : RS w f E [x, y] S fun e S1 => (∃ C' g', e = .d (.obj C' g')) ∧ k e S1) : RR w (rAddO C (spD w.K f) E) x y S k := fun R H as u v Q rl hu hv c => by
  obtain ⟨a, dx, fs, rfl, q2, q3⟩ := isObj_at hx rl hu
  obtain ⟨b, dy, gs', rfl, q4, q5⟩ := isObj_at hy rl hv
  refine ⟨a, b, dx, dy, fs, gs', rfl, rfl, q2, q4, h R H as _ _ rl ⟨hu, hv, trivial⟩ fun v' e' S' R' H' as' a1 a2 a3 a4 ⟨⟨C', g', e1⟩, e4⟩ => ?_⟩
  subst e1
  refine ⟨?_, c _ _ S' R' H' as' a1 a2 a3 a4 e4⟩
  have a4' : Den w.K R' v' (.obj C' g') := a4
  cases a4'
  exact ⟨_, rfl⟩
theorem rc_gcd {i j : Int} (q : k (.d (.int ((Nat.gcd i.natAbs j.natAbs : Nat) : Int))) S) : RC w gGcd [.d (.int i), .d (.int j)] S k := fun R H as us Q rl hu c => by
  obtain ⟨v, u, rfl, hv, hv2⟩ := two_ent hu
  cases hv; cases hv2
  exact ⟨i, j, rfl, c _ _ S R H as rl (Sub.refl _) (Pre.refl _) (ok_d (Den.int _)) q⟩
theorem rc_lcm {i j : Int} (hi : i.natAbs < 2 ^ 64) (hj : j.natAbs < 2 ^ 64) (q : k (.d (.int ((Nat.lcm i.natAbs j.natAbs : Nat) : Int))) S) : RC w gLcm [.d (.int i), .d (.int j)] S k := fun R H as us Q rl hu c => by
  obtain ⟨v, u, rfl, hv, hv2⟩ := two_ent hu
  cases hv; cases hv2
  exact ⟨i, j, rfl, hi, hj, c _ _ S R H as rl (Sub.refl _) (Pre.refl _) (ok_d (Den.int _)) q⟩
end
/-! isinstance -/
section
variable {X : Cx} {e1 e2 : Expr} {p pos : Pos} {te1 te2 : TE}
theorem b_isi (hm : X.mg "isinstance" = none) (h1 : PE X e1 te1) (h2 : PE X e2 te2) (hg : Gl X "isinstance" := by rfl) (hs : starEach [e1, e2] X.env = (false, eval e1 X.env) :: starEach [e2] X.env := by rfl) (hs2 : starEach [e2] X.env = (false, eval e2 X.env) :: starEach [] X.env := by rfl) (hpl : (backTo pos (starEach [e2] X.env)).any (·.1) = false := by rfl) :
    PE X (.Call (.Name "isinstance" p) [e1, e2] [] pos) (tCB (rIsi X.K) (tCons te1 (tCons te2 tNil))) := pe_callB call_isi hg hm (by decide +kernel) (pa_cons h1 (pa_cons h2 pa_nil hs2) hs) (he := hs) (hpl := hpl)
theorem b_isiT (hm : X.mg "isinstance" = none) (h1 : PE X e1 te1) (h2 : PE X e2 te2) (hg : Gl X "isinstance" := by rfl) (hs : starEach [e1, e2] X.env = (false, eval e1 X.env) :: starEach [e2] X.env := by rfl) (hs2 : starEach [e2] X.env = (false, eval e2 X.env) :: starEach [] X.env := by rfl) (hpl : (backTo pos (starEach [e2] X.env)).any (·.1) = false := by rfl) :
    PE X (.Call (.Name "isinstance" p) [e1, e2] [] pos) (tCB (rIsiT X.K) (tCons te1 (tCons te2 tNil))) := pe_callB call_isiT hg hm (by decide +kernel) (pa_cons h1 (pa_cons h2 pa_nil hs2) hs) (he := hs) (hpl := hpl)
end
section
variable {w : Wd} {S : List Own} {k : KE}
theorem rc_isi {x : Ent} {C : Addr} {t : Value} {b : Bool} (ht : tyE S x = some t) (hi : ∀ C, t = .ref C → InsTy w.K C) (hk : PySem.W.kitOne w.K t (.ref C) = some b) (q : k (.d (.bl b)) S) : RC w (rIsi w.K) [x, .d (.cls C)] S k := fun R H as us Q rl hu c => by
  obtain ⟨v, u, rfl, hv, hv2⟩ := two_ent hu
  cases hv2
  exact ⟨v, _, t, .ref C, b, rfl, .own C, ty_of rl hv ht hi, hk, c _ _ S R H as rl (Sub.refl _) (Pre.refl _) (ok_d (Den.bl b)) q⟩
end

/-! C(k = v, ..), keywords alone -/
def tPermA (n : Nat) (pm : List Nat) (tk : TA) : TA := fun σ H Q => tk σ H fun zs H2 => zs.length = n ∧ Q (permA .non pm zs) H2
structure CtK (P : Program) (w0 : World) (K : PySem.W.Frag) (mg : Str → Option Value) (base : Heap) (CX : CXT) (k : Nat) (x : Str) (C : Addr) (ks : List Str) (pm : List Nat) (ds : DS) : Prop where
  ex : ∃ (f : Addr) (fd : FuncData) (ps : List Str), FnOk P w0 K mg base CX k f fd ps (spD K ds) ∧ Mk K C f ∧ mg x = some (.ref C) ∧ KB K fd ps ks 1 pm
section
variable {X : Cx} {CX : CXT} {k n : Nat} {C : Addr} {ks : List Str} {pm : List Nat} {ds : DS} {E : XK} {x : Str} {p pos : Pos} {kws : List Keyword} {tk : TA}
theorem pe_mkK (d : CtK X.prog X.w X.K X.mg X.base CX k x C ks pm ds) (hr : Room (k + 1) X.A) (hx : Passes CX X E) (hkw : PK X kws tk) (hn : ks.length = n := by rfl) (hg : Gl X x := by rfl)
    (hall : (backToKw pos (keywordEach kws X.env)).all (·.1.isSome) = true := by rfl) (hks : (backToKw pos (keywordEach kws X.env)).filterMap (·.1) = ks := by rfl)
    (hdb : (x == ("__debug__" : Str)) = false := by decide)
    (hpl : ((backTo pos (starEach [] X.env)).any (·.1) || (backToKw pos (keywordEach kws X.env)).any (·.1.isNone)) = false := by rfl) : PE X (.Call (.Name x p) [] kws pos) (tMake C (spD X.K ds) [] E (tPermA n pm tk)) := by
  obtain ⟨f, fd, ps, F, M, hm, hb⟩ := d.ex
  refine ⟨fun pins s σ H Q I h => ?_⟩
  refine wpAny_Call_Name_kw (ld_glob I hg hm ?_ hdb)
  refine PySem.W.callWith_KW0 (first := []) (h₀ := X.base) I.ok.mod.kin M.kp hall (thn (hkw.run pos pins s σ H _ I h) fun ws s2 ⟨zs, H2, I2, rz, l2, q2⟩ => ⟨I2.kIn, ?_⟩) hpl
  rw [hks]
  have hbn : KBn X.K fd ps (0 + 1) ks (fun us ws => us ++ permA .none pm ws) (fun vs zs => vs ++ permA .non pm zs) := ⟨fun s us ws _ l1 l2 => hb.to s us ws l1 l2, fun r1 r2 => r1.append (vals_perm r2 pm)⟩
  exact run_makeN (vs := []) (us := []) M F hr hbn hx I2 .nil rz rfl (by rw [hn]; exact l2) (by simpa using q2)
end
theorem la_perm {w : Wd} {Γ : Env} {S : List Own} {n : Nat} {pm : List Nat} {tk : TA} {k : List Ent → List Own → Prop} (h : LA w tk Γ S fun es S1 => es.length = n ∧ k (permA (.d .non) pm es) S1) : LA w (tPermA n pm tk) Γ S k := fun σ R H as Q rl s c =>
  h σ R H as _ rl s fun vs es S1 R1 H1 as1 rl1 s1 p1 e1 ⟨h1, h2⟩ => ⟨by rw [e1.len]; exact h1, c _ _ S1 R1 H1 as1 rl1 s1 p1 (ents_perm e1 pm) h2⟩

section
variable {w : Wd} {S : List Own} {k : KE}
theorem rc_listN {x : D} {ds : List D} (h : itemsOf x = some ds) (q : k (.own S.length) (S ++ [.lst ds])) : RC w (gList w.K) [.d x] S k := fun R H as us Q rl hu c => by
  obtain ⟨v, rfl, hv⟩ := one_ent hu
  have hv' : Den w.K R v x := hv
  have fin : ∀ {a : Addr} {vs : List V}, v = .ref a → (SqL w.K H a vs ∨ SqT w.K H a vs) → Dens w.K R vs ds → gList w.K [v] H Q := fun {a vs} e1 e2 e3 => by
    subst e1
    refine ⟨a, vs, rfl, e2, fun p hp => ?_⟩
    have rl2 := rl.allocO hp (.lst vs) (o := .lst ds) ⟨(rl.fresh hp).1, vs, upd_same, e3⟩
    exact c _ _ _ _ _ _ rl2 (Sub.refl _) (Pre.app _ _) (ok_own (by rw [← rl.len]; exact List.getElem?_concat_length)) q
  cases hv' with
  | non => cases h
  | bl _ => cases h
  | int _ => cases h
  | str _ => cases h
  | obj _ _ => cases h
  | cls _ => cases h
  | ty _ => cases h
  | exn _ _ => cases h
  | eob _ _ _ => cases h
  | scr h1 => cases h
  | lst h1 h2 => cases h; exact fin rfl (.inl (SqL.of (rl.sub _ _ h1))) h2
  | tup h1 h2 => cases h; exact fin rfl (.inr (SqT.of (rl.sub _ _ h1))) h2
theorem rc_listNO {i : Nat} {ds : List D} (hi : S[i]? = some (.lst ds)) (q : k (.own S.length) (S ++ [.lst ds])) : RC w (gList w.K) [.own i] S k := fun R H as us Q rl hu c => by
  obtain ⟨v, rfl, hv⟩ := one_ent hu
  obtain ⟨a, vs, rfl, q2, q3⟩ := isLst_at (.inr ⟨i, rfl, hi⟩) rl hv
  refine ⟨_, _, rfl, .inl (SqL.of q2), fun p hp => ?_⟩
  have rl2 := rl.allocO hp (.lst vs) (o := .lst ds) ⟨(rl.fresh hp).1, vs, upd_same, q3⟩
  exact c _ _ _ _ _ _ rl2 (Sub.refl _) (Pre.app _ _) (ok_own (by rw [← rl.len]; exact List.getElem?_concat_length)) q
end
/-! == of lists of ints -/
theorem lay_ints : ∀ s : List Int, PyData.canLayAll0 (s.map PyData.int) = true
  | [] => rfl
  | x :: s => by show (true && PyData.canLayAll0 (s.map PyData.int)) = true; rw [lay_ints s]; rfl
theorem depth_ints : ∀ s : List Int, PyData.depthAll (s.map PyData.int) = 0
  | [] => rfl
  | x :: s => by show max 0 (PyData.depthAll (s.map PyData.int)) = 0; rw [depth_ints s]; rfl
theorem shaped_ints (s : List Int) : SeqAt.shaped (.list (s.map PyData.int)) = true := by
  unfold SeqAt.shaped
  rw [Bool.and_eq_true]
  refine ⟨lay_ints s, decide_eq_true ?_⟩
  show PyData.depthAll (s.map PyData.int) + 1 ≤ 64
  rw [depth_ints]; decide
theorem eqv_ints : ∀ (s t : List Int), PyData.eqvAll (s.map PyData.int) (t.map PyData.int) = decide (s = t)
  | [], [] => rfl
  | [], _ :: _ => rfl
  | _ :: _, [] => rfl
  | x :: s, y :: t => by
    show (x == y && PyData.eqvAll (s.map PyData.int) (t.map PyData.int)) = _
    rw [eqv_ints s t]
    by_cases h1 : x = y
    · subst h1
      by_cases h2 : s = t
      · subst h2; simp
      · simp [h2]
    · simp [h1]
theorem eqv_lz (s t : List Int) : PyData.eqv (.list (s.map PyData.int)) (.list (t.map PyData.int)) = decide (s = t) := eqv_ints s t
theorem toPs_ints : ∀ s : List Int, toPs (s.map D.int) = some (s.map PyData.int)
  | [] => by simp [toPs]
  | x :: s => by
    simp only [List.map_cons, toPs, toP]
    rw [toPs_ints s]; rfl
theorem toP_lz (s : List Int) : toP (.lst (s.map D.int)) = some (.list (s.map PyData.int)) := by
  simp only [toP]
  rw [toPs_ints]; rfl

theorem g_cls {X : Cx} {x : Str} {C : Addr} {pos : Pos} (hm : X.mg x = some (.ref C)) (hg : Gl X x := by rfl) (hd : (x == ("__debug__" : Str)) = false := by decide) : PE X (.Name x pos) (tC (.ref C)) := pe_glob hg hm rfl hd
end Gm
/-! stepped lines, in plain numbers -/
namespace Ln
/-- the value at n of the line told by s and r -/
def at_ (s : List Int) (r n : Int) : Int := s.getD (n % s.length).toNat 0 + n / s.length * r
/-- d is a period of what s and r tell (within s) -/
def Per (s : List Int) (r : Int) (d : Nat) : Prop := r * d % s.length = 0 ∧ ∀ i, d ≤ i → i < s.length → s.getD i 0 = s.getD (i - d) 0 + r * d / s.length
/-- what a line may be told by -/
structure Ok (s : List Int) (r : Int) : Prop where
  pos : 0 < s.length
  up : ∀ i, 0 < i → i < s.length → s.getD (i - 1) 0 ≤ s.getD i 0
  last : s.getD (s.length - 1) 0 ≤ s.getD 0 0 + r
theorem Ok.le {s : List Int} {r : Int} (o : Ok s r) {i : Nat} : ∀ {j : Nat}, i ≤ j → j < s.length → s.getD i 0 ≤ s.getD j 0
  | 0, h, _ => by
    have e : i = 0 := by omega
    subst e; exact Int.le_refl _
  | j + 1, h, hj => by
    by_cases e : i = j + 1
    · subst e; exact Int.le_refl _
    · have h1 := Ok.le o (i := i) (j := j) (by omega) (by omega)
      have h2 := o.up (j + 1) (by omega) hj
      rw [Nat.add_sub_cancel] at h2
      omega
theorem Ok.rise {s : List Int} {r : Int} (o : Ok s r) : 0 ≤ r := by
  have := o.le (i := 0) (j := s.length - 1) (by omega) (by have := o.pos; omega)
  have := o.last
  omega
/-- s by rest and turn -/
theorem per_at {s : List Int} {r : Int} {d : Nat} (hd : 0 < d) (h : Per s r d) : ∀ (n i : Nat), i ≤ n → i < s.length → s.getD i 0 = s.getD (i % d) 0 + ((i / d : Nat) : Int) * (r * d / s.length)
  | n, i, hn, hi => by
    by_cases hlt : i < d
    · rw [Nat.mod_eq_of_lt hlt, Nat.div_eq_of_lt hlt]; simp
    · match n, hn with
      | 0, hn => omega
      | n + 1, hn =>
        have ih := per_at hd h n (i - d) (by omega) (by omega)
        have e1 := h.2 i (by omega) hi
        have e2 : i % d = (i - d) % d := by rw [Nat.mod_eq_sub_mod (by omega)]
        have e3 : i / d = (i - d) / d + 1 := by rw [Nat.div_eq i d, if_pos ⟨hd, by omega⟩]
        rw [e1, ih, e2, e3]
        rw [show (((i - d) / d + 1 : Nat) : Int) = (((i - d) / d : Nat) : Int) + 1 by omega, Int.add_mul]
        omega
theorem per_part {s : List Int} {r : Int} {d k : Nat} (hd : 0 < d) (hs : s.length = d * k) (h : r * d % s.length = 0) : r = k * (r * d / s.length) := by
  have h1 : r * d = s.length * (r * d / s.length) := by
    have := Int.mul_ediv_add_emod (r * d) s.length
    omega
  generalize hp : r * d / (s.length : Int) = p at h1 ⊢
  rw [hs] at h1
  have h2 : (d : Int) * r = d * (k * p) := by
    rw [Int.mul_comm, h1, show ((d * k : Nat) : Int) = (d : Int) * k by simp, Int.mul_assoc]
  exact Int.eq_of_mul_eq_mul_left (by omega) h2
theorem getD_take {s : List Int} {d i : Nat} (h : i < d) : (s.take d).getD i 0 = s.getD i 0 := by
  rw [List.getD_eq_getElem?_getD, List.getD_eq_getElem?_getD, List.getElem?_take, if_pos h]
/-- a period tells the same line -/
theorem at_per {s : List Int} {r : Int} {d : Nat} (hd : 0 < d) (hdv : s.length % d = 0) (hs : 0 < s.length) (h : Per s r d) (n : Int) : at_ (s.take d) (r * d / s.length) n = at_ s r n := by
  obtain ⟨k, hk⟩ : ∃ k, s.length = d * k := ⟨s.length / d, by have := Nat.div_add_mod s.length d; omega⟩
  have hk0 : 0 < k := by
    rcases Nat.eq_zero_or_pos k with e | e
    · subst e; omega
    · exact e
  have hle : d ≤ s.length := by rw [hk]; exact Nat.le_mul_of_pos_right _ hk0
  have hlen : (s.take d).length = d := by rw [List.length_take]; omega
  have hr := per_part hd hk h.1
  unfold at_
  rw [hlen]
  generalize hp : r * d / (s.length : Int) = p at hr ⊢
  have hN : ((s.length : Nat) : Int) = (d : Int) * k := by rw [hk]; simp
  generalize hq : n / (s.length : Int) = q
  obtain ⟨i, hi⟩ : ∃ i : Nat, n % (s.length : Int) = i := ⟨(n % (s.length : Int)).toNat, by have := Int.emod_nonneg n (show (s.length : Int) ≠ 0 by omega); omega⟩
  have hil : i < s.length := by have := Int.emod_lt_of_pos n (show (0 : Int) < s.length by omega); omega
  have hn : n = (s.length : Int) * q + i := by have := Int.mul_ediv_add_emod n s.length; rw [hq, hi] at this; omega
  have hdz : (d : Int) ≠ 0 := by omega
  have e1 : n % (d : Int) = ((i % d : Nat) : Int) := by
    rw [hn, hN, Int.mul_assoc, Int.add_comm, Int.add_mul_emod_self_left]; simp
  have e2 : n / (d : Int) = (k : Int) * q + ((i / d : Nat) : Int) := by
    rw [hn, hN, Int.mul_assoc, Int.add_comm, Int.add_mul_ediv_left _ _ hdz]
    simp; omega
  rw [e1, e2, hi]
  have e3 := per_at hd h i i (Nat.le_refl _) hil
  rw [hp] at e3
  have e4 : (((i % d : Nat) : Int)).toNat = i % d := by omega
  have e5 : ((i : Int)).toNat = i := by omega
  rw [e4, e5, getD_take (Nat.mod_lt _ hd), e3]
  have e6 : ((k : Int) * q + ((i / d : Nat) : Int)) * p = q * r + ((i / d : Nat) : Int) * p := by
    rw [Int.add_mul]
    congr 1
    rw [Int.mul_comm (k : Int) q, Int.mul_assoc, ← hr]
  rw [e6]; omega
theorem ok_take {s : List Int} {r : Int} {d : Nat} (o : Ok s r) (hd : 0 < d) (hdv : s.length % d = 0) (h : Per s r d) : Ok (s.take d) (r * d / s.length) := by
  obtain ⟨k, hk⟩ : ∃ k, s.length = d * k := ⟨s.length / d, by have := Nat.div_add_mod s.length d; omega⟩
  have hs := o.pos
  have hk0 : 0 < k := by
    rcases Nat.eq_zero_or_pos k with e | e
    · subst e; omega
    · exact e
  have hle : d ≤ s.length := by rw [hk]; exact Nat.le_mul_of_pos_right _ hk0
  have hlen : (s.take d).length = d := by rw [List.length_take]; omega
  refine ⟨by omega, fun i h0 hi => ?_, ?_⟩
  · rw [hlen] at hi
    rw [getD_take hi, getD_take (by omega)]
    exact o.up i h0 (by omega)
  · rw [hlen, getD_take (by omega), getD_take hd]
    by_cases hdl : d < s.length
    · have h1 := h.2 d (Nat.le_refl _) hdl
      rw [Nat.sub_self] at h1
      have h2 := o.up d hd hdl
      omega
    · have e : d = s.length := by omega
      subst e
      have hz : (s.length : Int) ≠ 0 := by omega
      rw [Int.mul_ediv_cancel _ hz]
      exact o.last
/-- the least place -/
theorem least {s : List Int} {r v : Int} (o : Ok s r) (hr : 0 < r) (j : Nat) (hj : j < s.length) (hlo : ∀ i, i < j → s.getD i 0 < v - (-((s.getD (s.length - 1) 0 - v) / r)) * r)
    (hhi : v - (-((s.getD (s.length - 1) 0 - v) / r)) * r ≤ s.getD j 0) :
    v ≤ at_ s r (-((s.getD (s.length - 1) 0 - v) / r) * s.length + j) ∧ at_ s r (-((s.getD (s.length - 1) 0 - v) / r) * s.length + j - 1) < v := by
  have hs := o.pos
  generalize hl : s.getD (s.length - 1) 0 = l at *
  generalize ht : -((l - v) / r) = t at *
  have hN : (s.length : Int) ≠ 0 := by omega
  have val : ∀ (q : Int) (i : Nat), i < s.length → at_ s r (q * s.length + i) = s.getD i 0 + q * r := fun q i hi => by
    unfold at_
    have e1 : (q * s.length + i) % (s.length : Int) = i := by
      rw [Int.add_comm, Int.add_mul_emod_self_right]
      exact Int.emod_eq_of_lt (by omega) (by omega)
    have e2 : (q * s.length + i) / (s.length : Int) = q := by
      rw [Int.add_comm, Int.add_mul_ediv_right _ _ hN, Int.ediv_eq_zero_of_lt (by omega) (by omega)]; omega
    rw [e1, e2]
    simp
  refine ⟨by rw [val t j hj]; omega, ?_⟩
  match j, hj, hlo, hhi with
  | j + 1, hj, hlo, _ =>
    have e : t * s.length + ((j + 1 : Nat) : Int) - 1 = t * s.length + (j : Nat) := by omega
    rw [e, val t j (by omega)]
    have := hlo j (by omega)
    omega
  | 0, hj, _, _ =>
    have e : t * s.length + ((0 : Nat) : Int) - 1 = (t - 1) * s.length + ((s.length - 1 : Nat) : Int) := by
      rw [Int.sub_mul]; omega
    rw [e, val (t - 1) (s.length - 1) (by omega), hl]
    -- l + (t - 1) * r < v
    have h1 := Int.mul_ediv_add_emod (l - v) r
    have h2 := Int.emod_nonneg (l - v) (show r ≠ 0 by omega)
    have h3 := Int.emod_lt_of_pos (l - v) hr
    have e2 : (l - v) / r = -t := by omega
    rw [e2] at h1
    have e3 : r * -t = -(t * r) := by rw [Int.mul_neg, Int.mul_comm]
    rw [e3] at h1
    rw [Int.sub_mul]; omega
end Ln
/-! the least form is of the function -/
namespace Ln
def IsPer (f : Int → Int) (d : Nat) : Prop := ∃ Q, ∀ n, f (n + d) = f n + Q
theorem IsPer.mul {f : Int → Int} {d : Nat} {Q : Int} (h : ∀ n, f (n + d) = f n + Q) : ∀ (k : Nat) (n : Int), f (n + (k : Int) * d) = f n + k * Q
  | 0, n => by simp
  | k + 1, n => by
    have e : n + ((k + 1 : Nat) : Int) * d = (n + (k : Int) * d) + d := by
      rw [show ((k + 1 : Nat) : Int) = (k : Int) + 1 by omega, Int.add_mul]; omega
    rw [e, h, IsPer.mul h k n, show ((k + 1 : Nat) : Int) = (k : Int) + 1 by omega, Int.add_mul]; omega
theorem IsPer.mod {f : Int → Int} {a b : Nat} (ha : IsPer f a) (hb : IsPer f b) : IsPer f (a % b) := by
  obtain ⟨Qa, ha⟩ := ha
  obtain ⟨Qb, hb⟩ := hb
  refine ⟨Qa - (a / b : Nat) * Qb, fun n => ?_⟩
  have h1 := IsPer.mul hb (a / b) (n - ((a / b : Nat) : Int) * b)
  have h2 := ha (n - ((a / b : Nat) : Int) * b)
  have e : n - ((a / b : Nat) : Int) * b + a = n + ((a % b : Nat) : Int) := by
    have := Nat.div_add_mod a b
    have e2 : ((a / b : Nat) : Int) * b = ((b * (a / b) : Nat) : Int) := by rw [Int.mul_comm]; simp
    omega
  rw [e] at h2
  rw [show n - ((a / b : Nat) : Int) * b + ((a / b : Nat) : Int) * b = n by omega] at h1
  omega
theorem IsPer.gcd {f : Int → Int} : ∀ (a b : Nat), IsPer f a → IsPer f b → IsPer f (Nat.gcd a b) := by
  intro a b
  induction a, b using Nat.gcd.induction with
  | H0 b => intro _ hb; rw [Nat.gcd_zero_left]; exact hb
  | H1 a b ha ih => intro h1 h2; rw [Nat.gcd_rec]; exact ih (h2.mod h1) h1
theorem at_add {s : List Int} {r : Int} (hs : 0 < s.length) (n : Int) : at_ s r (n + s.length) = at_ s r n + r := by
  unfold at_
  have hz : (s.length : Int) ≠ 0 := by omega
  rw [Int.add_emod_right, Int.add_ediv_of_dvd_right (Int.dvd_refl _), Int.ediv_self hz, Int.add_mul]
  omega
theorem at_nat {s : List Int} {r : Int} {i : Nat} (hi : i < s.length) : at_ s r i = s.getD i 0 := by
  unfold at_
  rw [Int.emod_eq_of_lt (by omega) (by omega), Int.ediv_eq_zero_of_lt (by omega) (by omega)]
  simp
theorem isPer_len {s : List Int} {r : Int} (hs : 0 < s.length) : IsPer (at_ s r) s.length := ⟨r, at_add hs⟩
theorem isPer_of {s : List Int} {r : Int} {d : Nat} (hd : 0 < d) (hdv : s.length % d = 0) (hs : 0 < s.length) (h : Per s r d) : IsPer (at_ s r) d := by
  refine ⟨r * d / s.length, fun n => ?_⟩
  have hle : d ≤ s.length := Nat.le_of_dvd hs (Nat.dvd_of_mod_eq_zero hdv)
  have hlen : (s.take d).length = d := by rw [List.length_take]; omega
  have := at_add (s := s.take d) (r := r * d / s.length) (by omega) n
  rw [hlen, at_per hd hdv hs h, at_per hd hdv hs h] at this
  exact this
theorem per_of {s : List Int} {r : Int} {d : Nat} (hd : 0 < d) (hdv : s.length % d = 0) (hs : 0 < s.length) (h : IsPer (at_ s r) d) : Per s r d := by
  obtain ⟨Q, hQ⟩ := h
  obtain ⟨k, hk⟩ : ∃ k, s.length = d * k := ⟨s.length / d, by have := Nat.div_add_mod s.length d; omega⟩
  have h1 := IsPer.mul hQ k 0
  have h2 := at_add (r := r) hs 0
  have e : (0 : Int) + (k : Int) * d = 0 + s.length := by rw [hk]; simp [Int.mul_comm]
  rw [e, h2] at h1
  have hr : r = k * Q := by omega
  have hz : (s.length : Int) ≠ 0 := by omega
  have e2 : r * d = Q * s.length := by
    rw [hr, hk, Int.mul_comm (k : Int) Q, Int.mul_assoc]
    congr 1
    simp [Int.mul_comm]
  refine ⟨by rw [e2]; exact Int.mul_emod_left _ _, fun i h3 h4 => ?_⟩
  rw [e2, Int.mul_ediv_cancel _ hz]
  have h5 := hQ ((i - d : Nat) : Int)
  have e3 : ((i - d : Nat) : Int) + d = (i : Nat) := by omega
  rw [e3, at_nat h4, at_nat (show i - d < s.length by omega)] at h5
  exact h5
/-- the least period within s -/
structure Lp (s : List Int) (r : Int) (p : Nat) : Prop where
  pos : 0 < p
  le : p ≤ s.length
  dv : s.length % p = 0
  per : Per s r p
  least : ∀ q, 0 < q → q < p → s.length % q = 0 → ¬ Per s r q
theorem Lp.le_of {s : List Int} {r : Int} {p d : Nat} (h : Lp s r p) (hd : 0 < d) (q : IsPer (at_ s r) d) : p ≤ d := by
  have hs : 0 < s.length := Nat.lt_of_lt_of_le h.pos h.le
  have g0 : 0 < Nat.gcd d s.length := Nat.gcd_pos_of_pos_left _ hd
  have g1 : s.length % Nat.gcd d s.length = 0 := Nat.mod_eq_zero_of_dvd (Nat.gcd_dvd_right _ _)
  have g2 := per_of g0 g1 hs (IsPer.gcd d s.length q (isPer_len hs))
  have g3 : Nat.gcd d s.length ≤ d := Nat.le_of_dvd hd (Nat.gcd_dvd_left _ _)
  by_cases hlt : Nat.gcd d s.length < p
  · exact absurd g2 (h.least _ g0 hlt g1)
  · omega
theorem Lp.uniq {s s' : List Int} {r r' : Int} {p p' : Nat} (h : Lp s r p) (h' : Lp s' r' p') (e : ∀ n, at_ s r n = at_ s' r' n) : p = p' ∧ s.take p = s'.take p' ∧ r * p / s.length = r' * p' / s'.length := by
  have hs : 0 < s.length := Nat.lt_of_lt_of_le h.pos h.le
  have hs' : 0 < s'.length := Nat.lt_of_lt_of_le h'.pos h'.le
  have ef : at_ s r = at_ s' r' := funext e
  have i1 := isPer_of h.pos h.dv hs h.per
  have i2 := isPer_of h'.pos h'.dv hs' h'.per
  have l1 := h.le_of h'.pos (by rw [ef]; exact i2)
  have l2 := h'.le_of h.pos (by rw [← ef]; exact i1)
  have ep : p = p' := by omega
  subst ep
  have len1 : (s.take p).length = p := by rw [List.length_take]; have := h.le; omega
  have len2 : (s'.take p).length = p := by rw [List.length_take]; have := h'.le; omega
  have f1 : ∀ n, at_ (s.take p) (r * p / s.length) n = at_ s r n := at_per h.pos h.dv hs h.per
  have f2 : ∀ n, at_ (s'.take p) (r' * p / s'.length) n = at_ s' r' n := at_per h'.pos h'.dv hs' h'.per
  have es : s.take p = s'.take p := by
    refine List.ext_getElem (by rw [len1, len2]) fun i h1 h2 => ?_
    have q1 := f1 i
    have q2 := f2 i
    rw [at_nat h1] at q1
    rw [at_nat h2] at q2
    rw [List.getD_eq_getElem?_getD, List.getElem?_eq_getElem h1] at q1
    rw [List.getD_eq_getElem?_getD, List.getElem?_eq_getElem h2] at q2
    have q3 := e i
    simp at q1 q2 ⊢
    omega
  refine ⟨rfl, es, ?_⟩
  have q1 := at_add (s := s.take p) (r := r * p / s.length) (by rw [len1]; exact h.pos) 0
  have q2 := at_add (s := s'.take p) (r := r' * p / s'.length) (by rw [len2]; exact h.pos) 0
  rw [f1, f1] at q1
  rw [f2, f2] at q2
  rw [len1] at q1
  rw [len2] at q2
  have q3 := e 0
  have q4 := e (0 + (p : Int))
  omega

/-- s, k times over -/
def rep (s : List Int) (r : Int) : Nat → List Int
  | 0 => []
  | k + 1 => rep s r k ++ s.map fun x => x + k * r
theorem rep_len (s : List Int) (r : Int) : ∀ k, (rep s r k).length = k * s.length
  | 0 => by simp [rep]
  | k + 1 => by unfold rep; rw [List.length_append, List.length_map, rep_len s r k, Nat.succ_mul]
theorem getD_map {s : List Int} {f : Int → Int} {i : Nat} (h : i < s.length) : (s.map f).getD i 0 = f (s.getD i 0) := by
  rw [List.getD_eq_getElem?_getD, List.getD_eq_getElem?_getD, List.getElem?_map, List.getElem?_eq_getElem h]; rfl
theorem rep_get {s : List Int} {r : Int} (hs : 0 < s.length) : ∀ (k i : Nat), i < k * s.length → (rep s r k).getD i 0 = s.getD (i % s.length) 0 + ((i / s.length : Nat) : Int) * r
  | 0, i, h => by simp at h
  | k + 1, i, h => by
    rw [Nat.succ_mul] at h
    unfold rep
    by_cases hi : i < k * s.length
    · rw [List.getD_eq_getElem?_getD, List.getElem?_append_left (by rw [rep_len]; exact hi), ← List.getD_eq_getElem?_getD]
      exact rep_get hs k i hi
    · rw [List.getD_eq_getElem?_getD, List.getElem?_append_right (by rw [rep_len]; omega), ← List.getD_eq_getElem?_getD, rep_len, getD_map (by omega)]
      have e : i = s.length * k + (i - k * s.length) := by rw [Nat.mul_comm]; omega
      have e1 : i % s.length = i - k * s.length := by
        rw [e, Nat.mul_add_mod, Nat.mod_eq_of_lt (by rw [Nat.mul_comm] at hi ⊢; omega)]
        rw [Nat.mul_comm]; omega
      have e2 : i / s.length = k := by
        rw [e, Nat.mul_add_div hs, Nat.div_eq_of_lt (by rw [Nat.mul_comm] at hi ⊢; omega)]; rfl
      rw [e1, e2]
theorem rep_ok {s : List Int} {r : Int} {k : Nat} (o : Ok s r) (hk : 0 < k) : Ok (rep s r k) (r * k) := by
  have hs := o.pos
  have hl : (rep s r k).length = k * s.length := rep_len s r k
  have hpos : 0 < k * s.length := Nat.mul_pos hk hs
  refine ⟨by rw [hl]; exact hpos, fun i h0 hi => ?_, ?_⟩
  · rw [hl] at hi
    rw [rep_get hs k i hi, rep_get hs k (i - 1) (by omega)]
    by_cases hm : i % s.length = 0
    · obtain ⟨q, hq⟩ : ∃ q, i = s.length * q := ⟨i / s.length, by have := Nat.div_add_mod i s.length; omega⟩
      have hq0 : 0 < q := by
        rcases Nat.eq_zero_or_pos q with e | e
        · subst e; omega
        · exact e
      have e : i - 1 = s.length * (q - 1) + (s.length - 1) := by
        have : s.length * q = s.length * (q - 1) + s.length := by
          rw [← Nat.mul_succ]; congr 1; omega
        omega
      have e1 : (i - 1) % s.length = s.length - 1 := by rw [e, Nat.mul_add_mod, Nat.mod_eq_of_lt (by omega)]
      have e2 : (i - 1) / s.length = q - 1 := by rw [e, Nat.mul_add_div hs, Nat.div_eq_of_lt (by omega)]; rfl
      have e3 : i / s.length = q := by rw [hq, Nat.mul_div_cancel_left _ hs]
      rw [e1, e2, e3, hm]
      have h1 := o.last
      have e4 : ((q : Nat) : Int) = ((q - 1 : Nat) : Int) + 1 := by omega
      rw [e4, Int.add_mul]
      omega
    · have hdm := Nat.div_add_mod i s.length
      have hlt := Nat.mod_lt i hs
      have e : i - 1 = s.length * (i / s.length) + (i % s.length - 1) := by omega
      have e1 : (i - 1) % s.length = i % s.length - 1 := by rw [e, Nat.mul_add_mod, Nat.mod_eq_of_lt (by omega)]
      have e2 : (i - 1) / s.length = i / s.length := by rw [e, Nat.mul_add_div hs, Nat.div_eq_of_lt (Nat.lt_of_le_of_lt (Nat.sub_le _ _) hlt)]; rfl
      rw [e1, e2]
      have h1 := o.up (i % s.length) (by omega) hlt
      omega
  · rw [hl, rep_get hs k (k * s.length - 1) (by omega), rep_get hs k 0 hpos]
    have e : k * s.length - 1 = s.length * (k - 1) + (s.length - 1) := by
      have : k * s.length = s.length * (k - 1) + s.length := by
        rw [← Nat.mul_succ, Nat.mul_comm]; congr 1; omega
      omega
    have e1 : (k * s.length - 1) % s.length = s.length - 1 := by rw [e, Nat.mul_add_mod, Nat.mod_eq_of_lt (by omega)]
    have e2 : (k * s.length - 1) / s.length = k - 1 := by rw [e, Nat.mul_add_div hs, Nat.div_eq_of_lt (by omega)]; rfl
    rw [e1, e2, Nat.zero_mod, Nat.zero_div]
    have h1 := o.last
    have e4 : r * (k : Int) = ((k - 1 : Nat) : Int) * r + r := by
      have e5 : ((k : Nat) : Int) = ((k - 1 : Nat) : Int) + 1 := by omega
      rw [e5, Int.mul_add, Int.mul_comm r ((k - 1 : Nat) : Int)]; omega
    rw [e4]
    have e6 : ((0 : Nat) : Int) * r = 0 := by simp
    rw [e6]
    omega
theorem rep_take {s : List Int} {r : Int} : ∀ {k : Nat}, 0 < k → (rep s r k).take s.length = s
  | 1, _ => by
    unfold rep rep
    simp
  | k + 2, _ => by
    unfold rep
    rw [List.take_append_of_le_length (by rw [rep_len, Nat.succ_mul]; omega)]
    exact rep_take (k := k + 1) (by omega)
theorem rep_per {s : List Int} {r : Int} {k : Nat} (hs : 0 < s.length) (hk : 0 < k) : Per (rep s r k) (r * k) s.length ∧ r * k * s.length / (rep s r k).length = r := by
  have hl : ((rep s r k).length : Int) = k * s.length := by rw [rep_len]; simp
  have hz : (k : Int) * s.length ≠ 0 := by
    have := Nat.mul_pos hk hs
    have e : (k : Int) * s.length = ((k * s.length : Nat) : Int) := by simp
    omega
  have e : r * k * s.length = r * (k * s.length) := Int.mul_assoc ..
  have e0 : r * k * s.length / (rep s r k).length = r := by rw [hl, e, Int.mul_ediv_cancel _ hz]
  refine ⟨⟨by rw [hl, e]; exact Int.mul_emod_left _ _, fun i h1 h2 => ?_⟩, e0⟩
  rw [e0]
  rw [rep_len] at h2
  rw [rep_get hs k i h2, rep_get hs k (i - s.length) (by omega)]
  have e1 : i % s.length = (i - s.length) % s.length := by rw [Nat.mod_eq_sub_mod h1]
  have e2 : i / s.length = (i - s.length) / s.length + 1 := by rw [Nat.div_eq i s.length, if_pos ⟨hs, h1⟩]
  rw [e1, e2, show (((i - s.length) / s.length + 1 : Nat) : Int) = (((i - s.length) / s.length : Nat) : Int) + 1 by omega, Int.add_mul]
  omega
theorem rep_at {s : List Int} {r : Int} {k : Nat} (hs : 0 < s.length) (hk : 0 < k) (n : Int) : at_ (rep s r k) (r * k) n = at_ s r n := by
  obtain ⟨h1, h2⟩ := rep_per (r := r) hs hk
  have h3 := at_per (s := rep s r k) (r := r * k) hs (by rw [rep_len]; exact Nat.mul_mod_left _ _) (by rw [rep_len]; exact Nat.mul_pos hk hs) h1 n
  rw [rep_take hk, h2] at h3
  exact h3.symm
/-- all values times m -/
theorem scale_ok {s : List Int} {r m : Int} (o : Ok s r) (hm : 0 ≤ m) : Ok (s.map fun x => m * x) (m * r) := by
  refine ⟨by rw [List.length_map]; exact o.pos, fun i h0 hi => ?_, ?_⟩
  · rw [List.length_map] at hi
    rw [getD_map hi, getD_map (by omega)]
    exact Int.mul_le_mul_of_nonneg_left (o.up i h0 hi) hm
  · have := o.pos
    rw [List.length_map, getD_map (by omega), getD_map this, ← Int.mul_add]
    exact Int.mul_le_mul_of_nonneg_left o.last hm
end Ln
/-! sums of lines, lines after lines -/
namespace Ln
theorem at_qi {s : List Int} {r n q i : Int} (h0 : 0 ≤ i) (h1 : i < s.length) (h : n = s.length * q + i) : at_ s r n = s.getD i.toNat 0 + q * r := by
  have := (Int.ediv_emod_unique (a := n) (b := s.length) (r := i) (q := q) (by omega)).mpr ⟨by omega, h0, h1⟩
  unfold at_
  rw [this.1, this.2]
theorem at_mono1 {s : List Int} {r : Int} (o : Ok s r) (n : Int) : at_ s r n ≤ at_ s r (n + 1) := by
  have hs := o.pos
  have h1 := Int.mul_ediv_add_emod n s.length
  have h2 := Int.emod_nonneg n (show (s.length : Int) ≠ 0 by omega)
  have h3 := Int.emod_lt_of_pos n (show (0 : Int) < s.length by omega)
  rw [at_qi (q := n / s.length) (i := n % s.length) h2 h3 h1.symm]
  by_cases hi : n % s.length + 1 < s.length
  · rw [at_qi (q := n / s.length) (i := n % s.length + 1) (by omega) hi (by omega)]
    have := o.up (n % s.length + 1).toNat (by omega) (by omega)
    have e : (n % s.length + 1).toNat - 1 = (n % s.length).toNat := by omega
    rw [e] at this
    omega
  · rw [at_qi (q := n / s.length + 1) (i := 0) (by omega) (by omega) (by rw [Int.mul_add]; omega)]
    have := o.last
    have e : (n % (s.length : Int)).toNat = s.length - 1 := by omega
    rw [e, Int.add_mul]
    have e0 : (0 : Int).toNat = 0 := rfl
    rw [e0]
    omega
theorem at_mono {s : List Int} {r : Int} (o : Ok s r) (n : Int) : ∀ k : Nat, at_ s r n ≤ at_ s r (n + k)
  | 0 => by rw [show n + ((0 : Nat) : Int) = n by omega]; exact Int.le_refl _
  | k + 1 => by
    have h1 := at_mono o n k
    have h2 := at_mono1 o (n + k)
    rw [show n + ((k + 1 : Nat) : Int) = n + k + 1 by omega]
    omega
theorem at_le {s : List Int} {r : Int} (o : Ok s r) {n m : Int} (h : n ≤ m) : at_ s r n ≤ at_ s r m := by
  have := at_mono o n (m - n).toNat
  rw [show n + ((m - n).toNat : Int) = m by omega] at this
  exact this
theorem getD_range {f : Nat → Int} {L i : Nat} (h : i < L) : ((List.range L).map f).getD i 0 = f i := by
  rw [List.getD_eq_getElem?_getD, List.getElem?_map, List.getElem?_range h]; rfl
theorem per_all {f : Int → Int} {L : Nat} {Q : Int} (h : ∀ n, f (n + L) = f n + Q) (q n : Int) : f (n + q * L) = f n + q * Q := by
  by_cases hq : 0 ≤ q
  · have := IsPer.mul h q.toNat n
    rw [show ((q.toNat : Nat) : Int) = q by omega] at this
    exact this
  · have := IsPer.mul h (-q).toNat (n + q * L)
    rw [show (((-q).toNat : Nat) : Int) = -q by omega, show n + q * (L : Int) + -q * (L : Int) = n by rw [Int.neg_mul]; omega, Int.neg_mul] at this
    omega
theorem of_fun {f : Int → Int} {L : Nat} {Q : Int} (hL : 0 < L) (per : ∀ n, f (n + L) = f n + Q) (mono : ∀ n, f n ≤ f (n + 1)) :
    Ok ((List.range L).map fun i : Nat => f i) Q ∧ ∀ n, at_ ((List.range L).map fun i : Nat => f i) Q n = f n := by
  have hl : ((List.range L).map fun i : Nat => f i).length = L := by rw [List.length_map, List.length_range]
  refine ⟨⟨by rw [hl]; exact hL, fun i h0 hi => ?_, ?_⟩, fun n => ?_⟩
  · rw [hl] at hi
    rw [getD_range hi, getD_range (by omega)]
    have := mono ((i - 1 : Nat) : Int)
    rw [show ((i - 1 : Nat) : Int) + 1 = (i : Nat) by omega] at this
    exact this
  · rw [hl, getD_range (by omega), getD_range hL]
    have h1 := mono ((L - 1 : Nat) : Int)
    have h2 := per 0
    rw [show ((L - 1 : Nat) : Int) + 1 = 0 + (L : Nat) by omega, h2] at h1
    exact h1
  · have h1 := Int.mul_ediv_add_emod n L
    have h2 := Int.emod_nonneg n (show (L : Int) ≠ 0 by omega)
    have h3 := Int.emod_lt_of_pos n (show (0 : Int) < L by omega)
    rw [at_qi (q := n / L) (i := n % L) h2 (by rw [hl]; exact h3) (by rw [hl]; exact h1.symm), getD_range (by omega)]
    have h4 := per_all per (n / L) (n % L)
    rw [show n % (L : Int) + n / (L : Int) * L = n by rw [Int.mul_comm]; omega] at h4
    rw [h4, show ((n % (L : Int)).toNat : Int) = n % L by omega]
def sumL (s1 s2 : List Int) : Nat := Nat.lcm s1.length s2.length
def sumS (s1 : List Int) (r1 : Int) (s2 : List Int) (r2 : Int) : List Int := (List.range (sumL s1 s2)).map fun i : Nat => at_ s1 r1 i + at_ s2 r2 i
def sumQ (s1 : List Int) (r1 : Int) (s2 : List Int) (r2 : Int) : Int := at_ s1 r1 (sumL s1 s2) + at_ s2 r2 (sumL s1 s2) - (at_ s1 r1 0 + at_ s2 r2 0)
def aftL (s1 s2 : List Int) (r2 : Int) : Nat := s1.length / Nat.gcd s1.length r2.natAbs * s2.length
def aftS (s1 : List Int) (r1 : Int) (s2 : List Int) (r2 : Int) : List Int := (List.range (aftL s1 s2 r2)).map fun i : Nat => at_ s1 r1 (at_ s2 r2 i)
def aftQ (s1 : List Int) (r1 : Int) (s2 : List Int) (r2 : Int) : Int := at_ s1 r1 (at_ s2 r2 (aftL s1 s2 r2)) - at_ s1 r1 (at_ s2 r2 0)
theorem at_mul {s : List Int} {r : Int} (hs : 0 < s.length) (q n : Int) : at_ s r (n + q * s.length) = at_ s r n + q * r := per_all (at_add hs) q n
theorem at_dvd {s : List Int} {r : Int} (hs : 0 < s.length) {L : Nat} (h : s.length ∣ L) (n : Int) : at_ s r (n + L) = at_ s r n + (at_ s r L - at_ s r 0) := by
  obtain ⟨k, rfl⟩ := h
  have e : ((s.length * k : Nat) : Int) = (k : Int) * s.length := by rw [Int.mul_comm]; simp
  have h1 := at_mul (r := r) hs k n
  have h2 := at_mul (r := r) hs k 0
  rw [e, h1]
  rw [show (0 : Int) + (k : Int) * s.length = (k : Int) * s.length by omega] at h2
  rw [h2]
  omega
theorem sumL_pos {s1 s2 : List Int} (h1 : 0 < s1.length) (h2 : 0 < s2.length) : 0 < sumL s1 s2 := Nat.lcm_pos h1 h2
theorem sumL_le {s1 s2 : List Int} (h1 : 0 < s1.length) (h2 : 0 < s2.length) : sumL s1 s2 ≤ s1.length * s2.length := Nat.le_of_dvd (Nat.mul_pos h1 h2) (Nat.lcm_dvd_mul _ _)
theorem sum_is {s1 : List Int} {r1 : Int} {s2 : List Int} {r2 : Int} (o1 : Ok s1 r1) (o2 : Ok s2 r2) : Ok (sumS s1 r1 s2 r2) (sumQ s1 r1 s2 r2) ∧ ∀ n, at_ (sumS s1 r1 s2 r2) (sumQ s1 r1 s2 r2) n = at_ s1 r1 n + at_ s2 r2 n := by
  refine of_fun (f := fun n => at_ s1 r1 n + at_ s2 r2 n) (sumL_pos o1.pos o2.pos) (fun n => ?_) fun n => ?_
  · have h1 := at_dvd (r := r1) o1.pos (Nat.dvd_lcm_left s1.length s2.length) n
    have h2 := at_dvd (r := r2) o2.pos (Nat.dvd_lcm_right s1.length s2.length) n
    show at_ s1 r1 (n + sumL s1 s2) + at_ s2 r2 (n + sumL s1 s2) = _
    unfold sumQ
    unfold sumL at *
    omega
  · have h1 := at_mono1 o1 n
    have h2 := at_mono1 o2 n
    show _ + _ ≤ _ + _
    omega
theorem gcd_pos {a : Nat} (h : 0 < a) (b : Nat) : 0 < Nat.gcd a b := Nat.gcd_pos_of_pos_left _ h
theorem turns_pos {a : Nat} (h : 0 < a) (b : Nat) : 0 < a / Nat.gcd a b := Nat.div_pos (Nat.le_of_dvd h (Nat.gcd_dvd_left _ _)) (gcd_pos h b)
theorem aftL_pos {s1 s2 : List Int} {r2 : Int} (h1 : 0 < s1.length) (h2 : 0 < s2.length) : 0 < aftL s1 s2 r2 := Nat.mul_pos (turns_pos h1 _) h2
theorem aftL_le {s1 s2 : List Int} {r2 : Int} : aftL s1 s2 r2 ≤ s1.length * s2.length := Nat.mul_le_mul_right _ (Nat.div_le_self _ _)
/-- after a round of the inner line, the outer one has whole rounds -/
theorem aft_turns {s1 : List Int} {r2 : Int} (h1 : 0 < s1.length) : ∃ k : Int, ((s1.length / Nat.gcd s1.length r2.natAbs : Nat) : Int) * r2 = k * s1.length := by
  have hg := gcd_pos h1 r2.natAbs
  obtain ⟨a, ha⟩ := Nat.gcd_dvd_left s1.length r2.natAbs
  obtain ⟨b, hb⟩ : ((Nat.gcd s1.length r2.natAbs : Nat) : Int) ∣ r2 := Int.dvd_natAbs.mp (Int.natCast_dvd_natCast.mpr (Nat.gcd_dvd_right _ _))
  refine ⟨b, ?_⟩
  generalize Nat.gcd s1.length r2.natAbs = g at *
  have e : s1.length / g = a := by rw [ha, Nat.mul_div_cancel_left _ hg]
  rw [e, hb, ha]
  simp only [Int.natCast_mul]
  rw [Int.mul_comm (g : Int) b, Int.mul_comm (a : Int), Int.mul_assoc]
theorem aft_is {s1 : List Int} {r1 : Int} {s2 : List Int} {r2 : Int} (o1 : Ok s1 r1) (o2 : Ok s2 r2) : Ok (aftS s1 r1 s2 r2) (aftQ s1 r1 s2 r2) ∧ ∀ n, at_ (aftS s1 r1 s2 r2) (aftQ s1 r1 s2 r2) n = at_ s1 r1 (at_ s2 r2 n) := by
  obtain ⟨k, hk⟩ := aft_turns (r2 := r2) o1.pos
  have key : ∀ n, at_ s1 r1 (at_ s2 r2 (n + aftL s1 s2 r2)) = at_ s1 r1 (at_ s2 r2 n) + k * r1 := fun n => by
    have e : ((aftL s1 s2 r2 : Nat) : Int) = ((s1.length / Nat.gcd s1.length r2.natAbs : Nat) : Int) * s2.length := by unfold aftL; simp
    rw [e, at_mul o2.pos, hk, at_mul o1.pos]
  have hq : aftQ s1 r1 s2 r2 = k * r1 := by
    have := key 0
    unfold aftQ
    rw [show (0 : Int) + ((aftL s1 s2 r2 : Nat) : Int) = ((aftL s1 s2 r2 : Nat) : Int) by omega] at this
    omega
  rw [hq]
  refine of_fun (f := fun n => at_ s1 r1 (at_ s2 r2 n)) (aftL_pos o1.pos o2.pos) key fun n => ?_
  exact at_le o1 (at_mono1 o2 n)
/-! bounds -/
structure Bd (s : List Int) (r : Int) (l m : Nat) : Prop where
  len : s.length ≤ l
  r : r.natAbs < 2 ^ m
  el : ∀ i, (s.getD i 0).natAbs < 2 ^ m
theorem div_le_abs {a r : Int} (hr : 0 < r) : (a / r).natAbs ≤ a.natAbs := by
  by_cases h : 0 ≤ a
  · have h1 := Int.ediv_nonneg h (show 0 ≤ r by omega)
    have h2 := Int.ediv_le_self r h
    omega
  · have h1 : a ≤ a / r := by
      refine Int.le_ediv_of_mul_le hr ?_
      have h3 := Int.mul_nonneg (show 0 ≤ -a by omega) (show 0 ≤ r - 1 by omega)
      rw [Int.neg_mul, Int.mul_sub] at h3
      omega
    have h2 : a / r < 0 := Int.ediv_neg_of_neg_of_pos (by omega) hr
    omega
theorem Bd.at_ {s : List Int} {r : Int} {l m : Nat} (b : Bd s r l m) (hs : 0 < s.length) {n : Int} {j : Nat} (hn : n.natAbs < 2 ^ j) : (at_ s r n).natAbs < 2 ^ (m + j + 1) := by
  have h1 := b.el (n % s.length).toNat
  have h2 : (n / (s.length : Int) * r).natAbs < 2 ^ j * 2 ^ m := by
    rw [Int.natAbs_mul]
    exact Nat.mul_lt_mul'' (Nat.lt_of_le_of_lt (div_le_abs (by omega)) hn) b.r
  have h3 := Int.natAbs_add_le (s.getD (n % s.length).toNat 0) (n / (s.length : Int) * r)
  have e1 : (2 : Nat) ^ (m + j + 1) = 2 ^ m * 2 ^ j + 2 ^ m * 2 ^ j := by rw [Nat.pow_succ, Nat.pow_add]; omega
  have e2 : 2 ^ m ≤ 2 ^ m * 2 ^ j := Nat.le_mul_of_pos_right _ (Nat.pow_pos (by decide))
  have e3 : 2 ^ j * 2 ^ m = 2 ^ m * 2 ^ j := Nat.mul_comm _ _
  unfold Ln.at_
  omega
theorem Bd.mono {s : List Int} {r : Int} {l m l' m' : Nat} (b : Bd s r l m) (hl : l ≤ l') (hm : m ≤ m') : Bd s r l' m' := by
  have := Nat.pow_le_pow_right (show 2 > 0 by decide) hm
  exact ⟨Nat.le_trans b.len hl, Nat.lt_of_lt_of_le b.r this, fun i => Nat.lt_of_lt_of_le (b.el i) this⟩
theorem el_range {f : Nat → Int} {L : Nat} {m : Nat} (h : ∀ i, i < L → (f i).natAbs < 2 ^ m) (i : Nat) : (((List.range L).map f).getD i 0).natAbs < 2 ^ m := by
  by_cases hi : i < L
  · rw [getD_range hi]; exact h i hi
  · rw [List.getD_eq_getElem?_getD, List.getElem?_eq_none (by rw [List.length_map, List.length_range]; omega)]
    exact Nat.pow_pos (by decide)
theorem sum_bd {s1 : List Int} {r1 : Int} {s2 : List Int} {r2 : Int} {l1 l2 m : Nat} (o1 : Ok s1 r1) (o2 : Ok s2 r2) (b1 : Bd s1 r1 l1 m) (b2 : Bd s2 r2 l2 m) (hl : l1 * l2 < 2 ^ 10) :
    Bd (sumS s1 r1 s2 r2) (sumQ s1 r1 s2 r2) (l1 * l2) (m + 13) := by
  have hL : sumL s1 s2 ≤ l1 * l2 := Nat.le_trans (sumL_le o1.pos o2.pos) (Nat.mul_le_mul b1.len b2.len)
  have A : ∀ i : Nat, i ≤ sumL s1 s2 → (at_ s1 r1 i + at_ s2 r2 i).natAbs < 2 ^ (m + 12) := fun i hi => by
    have h1 := b1.at_ o1.pos (n := (i : Int)) (j := 10) (by omega)
    have h2 := b2.at_ o2.pos (n := (i : Int)) (j := 10) (by omega)
    have e : (2 : Nat) ^ (m + 12) = 2 ^ (m + 10 + 1) + 2 ^ (m + 10 + 1) := by rw [show m + 12 = m + 10 + 1 + 1 by omega, Nat.pow_succ 2 (m + 10 + 1)]; omega
    rw [e]
    generalize (2 : Nat) ^ (m + 10 + 1) = z at *
    omega
  have e13 : (2 : Nat) ^ (m + 13) = 2 ^ (m + 12) + 2 ^ (m + 12) := by rw [show m + 13 = m + 12 + 1 by omega, Nat.pow_succ]; omega
  refine ⟨by unfold sumS; rw [List.length_map, List.length_range]; exact hL, ?_, el_range fun i hi => ?_⟩
  · have h1 := A (sumL s1 s2) (Nat.le_refl _)
    have h2 := A 0 (Nat.zero_le _)
    rw [show ((0 : Nat) : Int) = 0 from rfl] at h2
    unfold sumQ
    omega
  · have := A i (Nat.le_of_lt hi)
    omega
theorem aft_bd {s1 : List Int} {r1 : Int} {s2 : List Int} {r2 : Int} {l1 l2 m1 m2 : Nat} (o1 : Ok s1 r1) (o2 : Ok s2 r2) (b1 : Bd s1 r1 l1 m1) (b2 : Bd s2 r2 l2 m2) (hl : l1 * l2 < 2 ^ 10) :
    Bd (aftS s1 r1 s2 r2) (aftQ s1 r1 s2 r2) (l1 * l2) (m1 + m2 + 13) := by
  have hL : aftL s1 s2 r2 ≤ l1 * l2 := Nat.le_trans aftL_le (Nat.mul_le_mul b1.len b2.len)
  have A : ∀ i : Nat, i ≤ aftL s1 s2 r2 → (at_ s1 r1 (at_ s2 r2 i)).natAbs < 2 ^ (m1 + m2 + 12) := fun i hi => by
    have h2 := b2.at_ o2.pos (n := (i : Int)) (j := 10) (by omega)
    have h1 := b1.at_ o1.pos h2
    rw [show m1 + (m2 + 10 + 1) + 1 = m1 + m2 + 12 by omega] at h1
    exact h1
  have e13 : (2 : Nat) ^ (m1 + m2 + 13) = 2 ^ (m1 + m2 + 12) + 2 ^ (m1 + m2 + 12) := by rw [show m1 + m2 + 13 = m1 + m2 + 12 + 1 by omega, Nat.pow_succ]; omega
  refine ⟨by unfold aftS; rw [List.length_map, List.length_range]; exact hL, ?_, el_range fun i hi => ?_⟩
  · have h1 := A (aftL s1 s2 r2) (Nat.le_refl _)
    have h2 := A 0 (Nat.zero_le _)
    rw [show ((0 : Nat) : Int) = 0 from rfl] at h2
    unfold aftQ
    omega
  · have := A i (Nat.le_of_lt hi)
    omega
/-! lines in least form -/
theorem Lp.mul {s : List Int} {r : Int} {p : Nat} (h : Lp s r p) : ∃ k : Nat, 0 < k ∧ s.length = p * k ∧ r = k * (r * p / s.length) := by
  obtain ⟨k, hk⟩ : ∃ k, s.length = p * k := ⟨s.length / p, by have := Nat.div_add_mod s.length p; have := h.dv; omega⟩
  refine ⟨k, ?_, hk, per_part h.pos hk h.per.1⟩
  rcases Nat.eq_zero_or_pos k with e | e
  · subst e; have := h.pos; have := h.le; omega
  · exact e
theorem Lp.take {s : List Int} {r : Int} {p : Nat} (h : Lp s r p) : (s.take p).length = p ∧ Lp (s.take p) (r * p / s.length) p := by
  have hs : 0 < s.length := Nat.lt_of_lt_of_le h.pos h.le
  have hl : (s.take p).length = p := by rw [List.length_take]; have := h.le; omega
  have ef : at_ (s.take p) (r * p / s.length) = at_ s r := funext (at_per h.pos h.dv hs h.per)
  refine ⟨hl, h.pos, by omega, by rw [hl]; exact Nat.mod_self _, ⟨by rw [hl]; exact Int.mul_emod_left _ _, fun i h1 h2 => by omega⟩, fun q q0 q1 q2 q3 => ?_⟩
  rw [hl] at q2
  have i1 := isPer_of (s := s.take p) q0 (by rw [hl]; exact q2) (by rw [hl]; exact h.pos) q3
  rw [ef] at i1
  have d1 : q ∣ s.length := Nat.dvd_trans (Nat.dvd_of_mod_eq_zero q2) (Nat.dvd_of_mod_eq_zero h.dv)
  exact h.least q q0 q1 (Nat.mod_eq_zero_of_dvd d1) (per_of q0 (Nat.mod_eq_zero_of_dvd d1) hs i1)
theorem Lp.bd {s : List Int} {r : Int} {p l m : Nat} (h : Lp s r p) (b : Bd s r l m) : Bd (s.take p) (r * p / s.length) l m := by
  refine ⟨by rw [List.length_take]; have := b.len; omega, ?_, fun i => ?_⟩
  · obtain ⟨k, hk, _, h⟩ := h.mul
    have h2 := b.r
    generalize r * p / (s.length : Int) = q at h
    have h3 : r.natAbs = k * q.natAbs := by rw [h, Int.natAbs_mul]; simp
    have := Nat.le_mul_of_pos_left q.natAbs hk
    omega
  · rw [List.getD_eq_getElem?_getD, List.getElem?_take]
    split
    · have := b.el i; rw [List.getD_eq_getElem?_getD] at this; exact this
    · exact Nat.pow_pos (by decide)
/-- s, r tell f by its least period -/
structure Fm (f : Int → Int) (l m : Nat) (s : List Int) (r : Int) : Prop where
  ok : Ok s r
  lp : Lp s r s.length
  at_ : ∀ n, at_ s r n = f n
  bd : Bd s r l m
theorem fm_of {s : List Int} {r : Int} {p l m : Nat} {f : Int → Int} (o : Ok s r) (b : Bd s r l m) (lp : Lp s r p) (h : ∀ n, Ln.at_ s r n = f n) : Fm f l m (s.take p) (r * p / s.length) where
  ok := ok_take o lp.pos lp.dv lp.per
  lp := by rw [lp.take.1]; exact lp.take.2
  at_ n := by rw [at_per lp.pos lp.dv o.pos lp.per n]; exact h n
  bd := lp.bd b
theorem fm_uniq {f g : Int → Int} {l m l' m' : Nat} {s s' : List Int} {r r' : Int} (h : Fm f l m s r) (h' : Fm g l' m' s' r') (e : ∀ n, f n = g n) : s = s' ∧ r = r' := by
  obtain ⟨e1, e2, e3⟩ := h.lp.uniq h'.lp fun n => by rw [h.at_, h'.at_]; exact e n
  rw [List.take_length, List.take_length] at e2
  have z : (s.length : Int) ≠ 0 := by have := h.ok.pos; omega
  have z' : (s'.length : Int) ≠ 0 := by have := h'.ok.pos; omega
  rw [Int.mul_ediv_cancel _ z, Int.mul_ediv_cancel _ z'] at e3
  exact ⟨e2, e3⟩
theorem take_self {s : List Int} {r : Int} (hs : 0 < s.length) : s.take s.length = s ∧ r * s.length / s.length = r :=
  ⟨List.take_length, Int.mul_ediv_cancel _ (by omega)⟩
end Ln
/-! where two lines meet, where they part -/
namespace Ln
/-- the least n from b on with P -/
def LeastAt (P : Int → Prop) (b : Int) : Option Int → Prop
  | some n => b ≤ n ∧ P n ∧ ∀ m, b ≤ m → m < n → ¬ P m
  | none => ∀ m, b ≤ m → ¬ P m
theorem LeastAt.uniq {P : Int → Prop} {b : Int} : ∀ {o u : Option Int}, LeastAt P b o → LeastAt P b u → o = u
  | none, none, _, _ => rfl
  | none, some n, h, ⟨a, q, _⟩ => absurd q (h n a)
  | some n, none, ⟨a, q, _⟩, h => absurd q (h n a)
  | some n, some m, ⟨a, q, r⟩, ⟨a', q', r'⟩ => by
    rcases Int.lt_trichotomy n m with h | h | h
    · exact absurd q (r' n a h)
    · rw [h]
    · exact absurd q' (r m a' h)
theorem split_at {L : Nat} (hL : 0 < L) (b n : Int) : ∃ (j : Nat) (k : Int), j < L ∧ n = b + j + k * L ∧ (b ≤ n → 0 ≤ k) := by
  have h1 := Int.mul_ediv_add_emod (n - b) L
  have h2 := Int.emod_nonneg (n - b) (show (L : Int) ≠ 0 by omega)
  have h3 := Int.emod_lt_of_pos (n - b) (show (0 : Int) < L by omega)
  refine ⟨((n - b) % L).toNat, (n - b) / L, by omega, ?_, fun hb => Int.ediv_nonneg (by omega) (by omega)⟩
  rw [Int.toNat_of_nonneg h2, Int.mul_comm ((n - b) / L)]
  omega
section
variable {h : Int → Int} {L : Nat} {G b : Int}
def cand (h : Int → Int) (L : Nat) (G p : Int) : Option Int := if h p * G < 0 ∧ (h p).fmod G = 0 then some (p - (h p).fdiv G * L) else none
theorem cand_sound (hL : 0 < L) (per : ∀ n, h (n + L) = h n + G) {p n : Int} (e : cand h L G p = some n) : h n = 0 ∧ p + L ≤ n := by
  unfold cand at e
  split at e
  · rename_i c
    obtain ⟨c1, c2⟩ := c
    cases e
    have h1 := Int.mul_fdiv_add_fmod (h p) G
    rw [c2, Int.add_zero] at h1
    generalize (h p).fdiv G = q at h1 ⊢
    have hq : q < 0 := by
      rw [← h1] at c1
      by_cases hq : q < 0
      · exact hq
      · exfalso
        have h2 : 0 ≤ G * G := by
          rcases Int.le_total 0 G with g | g
          · exact Int.mul_nonneg g g
          · exact Int.mul_nonneg_of_nonpos_of_nonpos g g
        have h3 := Int.mul_nonneg h2 (show 0 ≤ q by omega)
        rw [show G * q * G = G * G * q by rw [Int.mul_assoc, Int.mul_comm q G, ← Int.mul_assoc]] at c1
        omega
    constructor
    · have := per_all per (-q) p
      rw [Int.neg_mul] at this
      rw [show p - q * (L : Int) = p + -(q * (L : Int)) by omega, this, ← h1, Int.mul_comm G q, Int.neg_mul]
      omega
    · have := Int.mul_le_mul_of_nonneg_right (show q ≤ -1 by omega) (show (0 : Int) ≤ L by omega)
      omega
  · cases e
theorem cand_complete (hL : 0 < L) (per : ∀ n, h (n + L) = h n + G) {p k : Int} (hk : 0 < k) (h0 : h p ≠ 0) (e : h (p + k * L) = 0) : cand h L G p = some (p + k * L) := by
  have h1 := per_all per k p
  rw [e] at h1
  have hp : h p = -k * G := by rw [Int.neg_mul]; omega
  have hG : G ≠ 0 := fun z => h0 (by rw [hp, z, Int.mul_zero])
  unfold cand
  have hd : (h p).fdiv G = -k := by rw [hp]; exact Int.mul_fdiv_cancel _ hG
  rw [if_pos, hd, Int.neg_mul]
  · congr 1; omega
  · refine ⟨?_, by rw [hp]; exact Int.mul_fmod_left _ _⟩
    rw [hp, Int.mul_assoc, Int.neg_mul]
    have h2 : 0 < G * G := by
      rcases Int.lt_or_gt_of_ne hG with g | g
      · exact Int.mul_pos_of_neg_of_neg g g
      · exact Int.mul_pos g g
    have := Int.mul_pos hk h2
    omega
structure BestI (h : Int → Int) (L : Nat) (G b : Int) (i : Nat) (o : Option Int) : Prop where
  no : ∀ j : Nat, j < i → h (b + j) ≠ 0
  of : ∀ n, o = some n → ∃ j : Nat, j < i ∧ cand h L G (b + j) = some n
  le : ∀ j : Nat, j < i → ∀ n, cand h L G (b + j) = some n → ∃ m, o = some m ∧ m ≤ n
theorem best_hit {i : Nat} {o : Option Int} (B : BestI h L G b i o) (e : h (b + i) = 0) : LeastAt (fun n => h n = 0) b (some (b + i)) := by
  refine ⟨by omega, e, fun m h1 h2 q => B.no (m - b).toNat (by omega) ?_⟩
  rw [Int.toNat_of_nonneg (by omega), show b + (m - b) = m by omega]; exact q
theorem best_end {o : Option Int} (hL : 0 < L) (per : ∀ n, h (n + L) = h n + G) (B : BestI h L G b L o) : LeastAt (fun n => h n = 0) b o := by
  have key : ∀ m, b ≤ m → h m = 0 → ∃ n, o = some n ∧ n ≤ m := fun m hm e => by
    obtain ⟨j, k, hj, rfl, hk⟩ := split_at hL b m
    have hk0 := hk hm
    have h0 := B.no j hj
    have hkp : 0 < k := by
      rcases Int.lt_or_eq_of_le hk0 with z | z
      · exact z
      · subst z; rw [Int.zero_mul, Int.add_zero] at e; exact absurd e h0
    exact B.le j hj _ (cand_complete hL per hkp h0 e)
  cases o with
  | none => exact fun m hm e => by obtain ⟨n, q, _⟩ := key m hm e; cases q
  | some n =>
    obtain ⟨j, hj, hc⟩ := B.of n rfl
    obtain ⟨c1, c2⟩ := cand_sound hL per hc
    refine ⟨by omega, c1, fun m hm hlt e => ?_⟩
    obtain ⟨n', q, hle⟩ := key m hm e
    cases q; omega
theorem best_start : BestI h L G b 0 none := ⟨fun j hj => absurd hj (by omega), fun n e => (nomatch e), fun j hj => absurd hj (by omega)⟩
theorem best_none {i : Nat} {o : Option Int} (B : BestI h L G b i o) (h0 : h (b + i) ≠ 0) (e : cand h L G (b + i) = none) : BestI h L G b (i + 1) o where
  no := fun j hj => by
    by_cases z : j = i
    · subst z; exact h0
    · exact B.no j (by omega)
  of := fun n q => by obtain ⟨j, hj, c⟩ := B.of n q; exact ⟨j, by omega, c⟩
  le := fun j hj n c => by
    by_cases z : j = i
    · subst z; rw [e] at c; cases c
    · exact B.le j (by omega) n c
theorem best_new {i : Nat} {o : Option Int} {n : Int} (B : BestI h L G b i o) (h0 : h (b + i) ≠ 0) (e : cand h L G (b + i) = some n) (lt : ∀ m, o = some m → n < m) : BestI h L G b (i + 1) (some n) where
  no := fun j hj => by
    by_cases z : j = i
    · subst z; exact h0
    · exact B.no j (by omega)
  of := fun n' q => by cases q; exact ⟨i, by omega, e⟩
  le := fun j hj n' c => by
    by_cases z : j = i
    · subst z; rw [e] at c; cases c; exact ⟨n, rfl, Int.le_refl _⟩
    · obtain ⟨m, q, hm⟩ := B.le j (by omega) n' c
      have := lt m q
      exact ⟨n, rfl, by omega⟩
theorem best_old {i : Nat} {n m : Int} (B : BestI h L G b i (some m)) (h0 : h (b + i) ≠ 0) (e : cand h L G (b + i) = some n) (le : m ≤ n) : BestI h L G b (i + 1) (some m) where
  no := fun j hj => by
    by_cases z : j = i
    · subst z; exact h0
    · exact B.no j (by omega)
  of := fun n q => by obtain ⟨j, hj, c⟩ := B.of n q; exact ⟨j, by omega, c⟩
  le := fun j hj n' c => by
    by_cases z : j = i
    · subst z; rw [e] at c; cases c; exact ⟨m, rfl, le⟩
    · exact B.le j (by omega) n' c
/-! the law's own lists -/
structure SameI (h : Int → Int) (L : Nat) (b : Int) (i : Nat) (xs : List Int) : Prop where
  of : ∀ x ∈ xs, b ≤ x ∧ h x = 0
  has : ∀ (j : Nat) (k : Int), j < i → 0 ≤ k → h (b + j + k * L) = 0 → ∃ x ∈ xs, x ≤ b + j + k * L
theorem same_start : SameI h L b 0 [] := ⟨fun x hx => (List.not_mem_nil hx).elim, fun j k hj => absurd hj (by omega)⟩
theorem same_nil (hL : 0 < L) (S : SameI h L b L []) : LeastAt (fun n => h n = 0) b none := fun m hm e => by
  obtain ⟨j, k, hj, rfl, hk⟩ := split_at hL b m
  obtain ⟨x, hx, _⟩ := S.has j k hj (hk hm) e
  cases hx
theorem same_min {xs : List Int} {m : Int} (hL : 0 < L) (S : SameI h L b L xs) (hm : m ∈ xs) (hle : ∀ y ∈ xs, m ≤ y) : LeastAt (fun n => h n = 0) b (some m) := by
  refine ⟨(S.of m hm).1, (S.of m hm).2, fun n hn hlt e => ?_⟩
  obtain ⟨j, k, hj, rfl, hk⟩ := split_at hL b n
  obtain ⟨x, hx, hxn⟩ := S.has j k hj (hk hn) e
  have := hle x hx
  omega
theorem same_zero {i : Nat} {xs : List Int} (S : SameI h L b i xs) (e : h (b + i) = 0) : SameI h L b (i + 1) (xs ++ [b + i]) where
  of := fun x hx => by
    rcases List.mem_append.mp hx with hx | hx
    · exact S.of x hx
    · simp only [List.mem_cons, List.not_mem_nil, or_false] at hx
      subst hx; exact ⟨by omega, e⟩
  has := fun j k hj hk q => by
    by_cases z : j = i
    · subst z
      have := Int.mul_nonneg hk (show (0 : Int) ≤ L by omega)
      exact ⟨b + j, by simp, by omega⟩
    · obtain ⟨x, hx, hx2⟩ := S.has j k (by omega) hk q
      exact ⟨x, List.mem_append_left _ hx, hx2⟩
theorem neg_div {g q : Int} (hG : G ≠ 0) (h1 : g.fmod G = 0) (e : (0 - g).fdiv G = q) : g + q * G = 0 := by
  have h2 := Int.mul_fdiv_add_fmod g G
  rw [h1, Int.add_zero] at h2
  have h3 : 0 - g = -(g.fdiv G) * G := by rw [Int.neg_mul, Int.mul_comm]; omega
  rw [h3, Int.mul_fdiv_cancel _ hG] at e
  subst e
  rw [Int.neg_mul, Int.mul_comm]; omega
theorem div_neg {g k : Int} (hG : G ≠ 0) (e : g + k * G = 0) : g.fmod G = 0 ∧ (0 - g).fdiv G = k := by
  have h1 : g = -k * G := by rw [Int.neg_mul]; omega
  have h2 : 0 - g = k * G := by omega
  exact ⟨by rw [h1]; exact Int.mul_fmod_left _ _, by rw [h2]; exact Int.mul_fdiv_cancel _ hG⟩
theorem same_later {i : Nat} {xs : List Int} {q : Int} (per : ∀ n, h (n + L) = h n + G) (S : SameI h L b i xs) (h0 : h (b + i) ≠ 0) (hG : G ≠ 0) (h1 : (h (b + i)).fmod G = 0) (e : (0 - h (b + i)).fdiv G = q) (hq : 0 < q) : SameI h L b (i + 1) (xs ++ [b + i + L * q]) where
  of := fun x hx => by
    rcases List.mem_append.mp hx with hx | hx
    · exact S.of x hx
    · simp only [List.mem_cons, List.not_mem_nil, or_false] at hx
      subst hx
      have := Int.mul_nonneg (show (0 : Int) ≤ L by omega) (show 0 ≤ q by omega)
      refine ⟨by omega, ?_⟩
      rw [Int.mul_comm, per_all per]
      exact neg_div hG h1 e
  has := fun j k hj hk z => by
    by_cases zj : j = i
    · subst zj
      rw [per_all per] at z
      obtain ⟨_, e2⟩ := div_neg hG z
      rw [e] at e2
      subst e2
      exact ⟨b + j + L * q, by simp, by rw [Int.mul_comm]; exact Int.le_refl _⟩
    · obtain ⟨x, hx, hx2⟩ := S.has j k (by omega) hk z
      exact ⟨x, List.mem_append_left _ hx, hx2⟩
theorem same_skip {i : Nat} {xs : List Int} (per : ∀ n, h (n + L) = h n + G) (S : SameI h L b i xs) (h0 : h (b + i) ≠ 0) (hn : ¬(G ≠ 0 ∧ (h (b + i)).fmod G = 0 ∧ 0 < (0 - h (b + i)).fdiv G)) : SameI h L b (i + 1) xs where
  of := S.of
  has := fun j k hj hk z => by
    by_cases zj : j = i
    · subst zj
      rw [per_all per] at z
      exfalso
      have hG : G ≠ 0 := fun e => by rw [e, Int.mul_zero, Int.add_zero] at z; exact h0 z
      obtain ⟨e1, e2⟩ := div_neg hG z
      refine hn ⟨hG, e1, ?_⟩
      rw [e2]
      rcases Int.lt_or_eq_of_le hk with y | y
      · exact y
      · subst y; rw [Int.zero_mul, Int.add_zero] at z; exact absurd z h0
    · exact S.has j k (by omega) hk z
structure UnI (h : Int → Int) (b : Int) (i : Nat) (xs : List Int) : Prop where
  of : ∀ x ∈ xs, b ≤ x ∧ x < b + i ∧ h x ≠ 0
  has : ∀ j : Nat, j < i → h (b + j) ≠ 0 → b + j ∈ xs
theorem un_start : UnI h b 0 [] := ⟨fun x hx => (List.not_mem_nil hx).elim, fun j hj => by omega⟩
theorem un_yes {i : Nat} {xs : List Int} (S : UnI h b i xs) (e : h (b + i) ≠ 0) : UnI h b (i + 1) (xs ++ [b + i]) where
  of := fun x hx => by
    rcases List.mem_append.mp hx with hx | hx
    · obtain ⟨a, c, d⟩ := S.of x hx; exact ⟨a, by omega, d⟩
    · simp only [List.mem_cons, List.not_mem_nil, or_false] at hx
      subst hx; exact ⟨by omega, by omega, e⟩
  has := fun j hj q => by
    by_cases z : j = i
    · subst z; simp
    · exact List.mem_append_left _ (S.has j (by omega) q)
theorem un_no {i : Nat} {xs : List Int} (S : UnI h b i xs) (e : h (b + i) = 0) : UnI h b (i + 1) xs where
  of := fun x hx => by obtain ⟨a, c, d⟩ := S.of x hx; exact ⟨a, by omega, d⟩
  has := fun j hj q => by
    by_cases z : j = i
    · subst z; exact absurd e q
    · exact S.has j (by omega) q
theorem all_zero (hL : 0 < L) (per : ∀ n, h (n + L) = h n + G) (z : ∀ j : Nat, j ≤ L → h (b + j) = 0) (n : Int) : h n = 0 := by
  have hG : G = 0 := by
    have h1 := per b
    have h2 := z 0 (by omega)
    have h3 := z L (Nat.le_refl _)
    rw [Int.natCast_zero, Int.add_zero] at h2
    omega
  obtain ⟨j, k, hj, rfl, _⟩ := split_at hL b n
  rw [per_all per, hG, Int.mul_zero, Int.add_zero]
  exact z j (by omega)
theorem un_nil {N : Nat} (hL : 0 < L) (per : ∀ n, h (n + L) = h n + G) (hN : L < N) (S : UnI h b N []) : LeastAt (fun n => h n ≠ 0) b none := fun m _ e => by
  refine e (all_zero (b := b) hL per (fun j hj => ?_) m)
  by_cases q : h (b + j) = 0
  · exact q
  · exact (List.not_mem_nil (S.has j (by omega) q)).elim
theorem un_min {N : Nat} {xs : List Int} {m : Int} (S : UnI h b N xs) (hm : m ∈ xs) (hle : ∀ y ∈ xs, m ≤ y) : LeastAt (fun n => h n ≠ 0) b (some m) := by
  obtain ⟨a, c, d⟩ := S.of m hm
  refine ⟨a, d, fun n hn hlt e => ?_⟩
  have h1 := S.has (n - b).toNat (by omega)
  rw [Int.toNat_of_nonneg (by omega), show b + (n - b) = n by omega] at h1
  have := hle n (h1 e)
  omega
theorem part_soon (hL : 0 < L) (per : ∀ n, h (n + L) = h n + G) (e : ∃ n, h n ≠ 0) (b : Int) : ∃ j : Nat, j ≤ L ∧ h (b + j) ≠ 0 := by
  obtain ⟨n, hn⟩ := e
  by_cases q : ∀ j : Nat, j ≤ L → h (b + j) = 0
  · exact absurd (all_zero hL per q n) hn
  · obtain ⟨j, hj⟩ := Classical.not_forall.mp q
    obtain ⟨h1, h2⟩ := Classical.not_imp.mp hj
    exact ⟨j, h1, h2⟩
end
end Ln
/-! bounds of sums and compositions, for longer lists -/
namespace Ln
theorem sum_bd2 {s1 : List Int} {r1 : Int} {s2 : List Int} {r2 : Int} {l1 l2 m : Nat} (o1 : Ok s1 r1) (o2 : Ok s2 r2) (b1 : Bd s1 r1 l1 m) (b2 : Bd s2 r2 l2 m) (hl : l1 * l2 < 2 ^ 13) :
    Bd (sumS s1 r1 s2 r2) (sumQ s1 r1 s2 r2) (l1 * l2) (m + 16) := by
  have hL : sumL s1 s2 ≤ l1 * l2 := Nat.le_trans (sumL_le o1.pos o2.pos) (Nat.mul_le_mul b1.len b2.len)
  have A : ∀ i : Nat, i ≤ sumL s1 s2 → (at_ s1 r1 i + at_ s2 r2 i).natAbs < 2 ^ (m + 15) := fun i hi => by
    have h1 := b1.at_ o1.pos (n := (i : Int)) (j := 13) (by omega)
    have h2 := b2.at_ o2.pos (n := (i : Int)) (j := 13) (by omega)
    have e : (2 : Nat) ^ (m + 15) = 2 ^ (m + 13 + 1) + 2 ^ (m + 13 + 1) := by rw [show m + 15 = m + 13 + 1 + 1 by omega, Nat.pow_succ 2 (m + 13 + 1)]; omega
    rw [e]
    generalize (2 : Nat) ^ (m + 13 + 1) = z at *
    omega
  have e16 : (2 : Nat) ^ (m + 16) = 2 ^ (m + 15) + 2 ^ (m + 15) := by rw [show m + 16 = m + 15 + 1 by omega, Nat.pow_succ]; omega
  refine ⟨by unfold sumS; rw [List.length_map, List.length_range]; exact hL, ?_, el_range fun i hi => ?_⟩
  · have h1 := A (sumL s1 s2) (Nat.le_refl _)
    have h2 := A 0 (Nat.zero_le _)
    rw [show ((0 : Nat) : Int) = 0 from rfl] at h2
    unfold sumQ
    omega
  · have := A i (Nat.le_of_lt hi)
    omega
theorem aft_bd2 {s1 : List Int} {r1 : Int} {s2 : List Int} {r2 : Int} {l1 l2 m1 m2 : Nat} (o1 : Ok s1 r1) (o2 : Ok s2 r2) (b1 : Bd s1 r1 l1 m1) (b2 : Bd s2 r2 l2 m2) (hl : l1 * l2 < 2 ^ 13) :
    Bd (aftS s1 r1 s2 r2) (aftQ s1 r1 s2 r2) (l1 * l2) (m1 + m2 + 16) := by
  have hL : aftL s1 s2 r2 ≤ l1 * l2 := Nat.le_trans aftL_le (Nat.mul_le_mul b1.len b2.len)
  have A : ∀ i : Nat, i ≤ aftL s1 s2 r2 → (at_ s1 r1 (at_ s2 r2 i)).natAbs < 2 ^ (m1 + m2 + 15) := fun i hi => by
    have h2 := b2.at_ o2.pos (n := (i : Int)) (j := 13) (by omega)
    have h1 := b1.at_ o1.pos h2
    rw [show m1 + (m2 + 13 + 1) + 1 = m1 + m2 + 15 by omega] at h1
    exact h1
  have e16 : (2 : Nat) ^ (m1 + m2 + 16) = 2 ^ (m1 + m2 + 15) + 2 ^ (m1 + m2 + 15) := by rw [show m1 + m2 + 16 = m1 + m2 + 15 + 1 by omega, Nat.pow_succ]; omega
  refine ⟨by unfold aftS; rw [List.length_map, List.length_range]; exact hL, ?_, el_range fun i hi => ?_⟩
  · have h1 := A (aftL s1 s2 r2) (Nat.le_refl _)
    have h2 := A 0 (Nat.zero_le _)
    rw [show ((0 : Nat) : Int) = 0 from rfl] at h2
    unfold aftQ
    omega
  · have := A i (Nat.le_of_lt hi)
    omega
end Ln
/-! forms of sizes: counting residues -/
namespace Nf
/-- how many of b, b + 1, .. (n of them) G has -/
def cnt (G : Int → Bool) (b : Int) : Nat → Nat
  | 0 => 0
  | n + 1 => cnt G b n + (if G (b + n) = true then 1 else 0)
theorem cnt_add (G : Int → Bool) (b : Int) (m : Nat) : ∀ n : Nat, cnt G b (m + n) = cnt G b m + cnt G (b + m) n
  | 0 => rfl
  | n + 1 => by
    show cnt G b (m + n) + (if G (b + ((m + n : Nat) : Int)) = true then 1 else 0) = cnt G b m + (cnt G (b + m) n + _)
    rw [cnt_add G b m n, show b + ((m + n : Nat) : Int) = b + m + n by omega]
    omega
theorem cnt_congr {F G : Int → Bool} {b : Int} : ∀ {n : Nat}, (∀ i : Nat, i < n → F (b + i) = G (b + i)) → cnt F b n = cnt G b n
  | 0, _ => rfl
  | n + 1, h => by
    show cnt F b n + _ = cnt G b n + _
    rw [cnt_congr fun i hi => h i (by omega), h n (by omega)]
theorem cnt_le {F G : Int → Bool} {b : Int} : ∀ {n : Nat}, (∀ i : Nat, i < n → G (b + i) = true → F (b + i) = true) → cnt G b n ≤ cnt F b n
  | 0, _ => Nat.le_refl _
  | n + 1, h => by
    have ih := cnt_le (n := n) fun i hi => h i (by omega)
    have h1 := h n (by omega)
    show cnt G b n + _ ≤ cnt F b n + _
    by_cases e : G (b + n) = true
    · rw [if_pos e, if_pos (h1 e)]; omega
    · rw [if_neg e]; split <;> omega
theorem cnt_eq {F G : Int → Bool} {b : Int} : ∀ {n : Nat}, (∀ i : Nat, i < n → G (b + i) = true → F (b + i) = true) → cnt G b n = cnt F b n → ∀ i : Nat, i < n → G (b + i) = F (b + i)
  | 0, _, _, i, hi => absurd hi (by omega)
  | n + 1, h, e, i, hi => by
    have le := cnt_le (n := n) fun i hi => h i (by omega)
    have h1 := h n (by omega)
    have e : cnt G b n + (if G (b + n) = true then 1 else 0) = cnt F b n + (if F (b + n) = true then 1 else 0) := e
    by_cases hG : G (b + n) = true
    · rw [if_pos hG, if_pos (h1 hG)] at e
      by_cases hin : i = n
      · subst hin; rw [hG, h1 hG]
      · exact cnt_eq (n := n) (fun i hi => h i (by omega)) (by omega) i (by omega)
    · rw [if_neg hG] at e
      by_cases hF : F (b + n) = true
      · rw [if_pos hF] at e; omega
      · rw [if_neg hF] at e
        by_cases hin : i = n
        · subst hin
          rw [Bool.not_eq_true] at hG hF
          rw [hG, hF]
        · exact cnt_eq (n := n) (fun i hi => h i (by omega)) (by omega) i (by omega)
theorem cnt_one (G : Int → Bool) (b : Int) : cnt G b 1 = if G b = true then 1 else 0 := by
  show 0 + _ = _
  rw [show b + ((0 : Nat) : Int) = b by omega, Nat.zero_add]
theorem cnt_succ (G : Int → Bool) (b : Int) (p : Nat) (h : G (b + p) = G b) : cnt G (b + 1) p = cnt G b p := by
  have h1 := cnt_add G b p 1
  have h2 := cnt_add G b 1 p
  rw [cnt_one, h] at h1
  rw [cnt_one, Nat.add_comm 1 p, show b + ((1 : Nat) : Int) = b + 1 by omega] at h2
  omega
theorem cnt_up (G : Int → Bool) (p : Nat) (h : ∀ n, G (n + p) = G n) (b : Int) : ∀ k : Nat, cnt G (b + k) p = cnt G b p
  | 0 => by rw [show b + ((0 : Nat) : Int) = b by omega]
  | k + 1 => by
    rw [show b + ((k + 1 : Nat) : Int) = b + k + 1 by omega, cnt_succ G (b + k) p (h _), cnt_up G p h b k]
theorem cnt_any (G : Int → Bool) (p : Nat) (h : ∀ n, G (n + p) = G n) (b c : Int) : cnt G b p = cnt G c p := by
  rcases Int.le_total b c with q | q
  · have := cnt_up G p h b (c - b).toNat
    rw [show b + ((c - b).toNat : Int) = c by omega] at this
    exact this.symm
  · have := cnt_up G p h c (b - c).toNat
    rw [show c + ((b - c).toNat : Int) = b by omega] at this
    exact this
theorem cnt_mul (G : Int → Bool) (p : Nat) (h : ∀ n, G (n + p) = G n) (b : Int) : ∀ k : Nat, cnt G b (k * p) = k * cnt G b p
  | 0 => by rw [Nat.zero_mul, Nat.zero_mul]; rfl
  | k + 1 => by
    rw [Nat.succ_mul, cnt_add, cnt_mul G p h b k, cnt_any G p h (b + (k * p : Nat)) b, Nat.succ_mul]
/-- the ascending list of those -/
def lst (G : Int → Bool) (b : Int) : Nat → List Int
  | 0 => []
  | n + 1 => lst G b n ++ (if G (b + n) = true then [b + n] else [])
theorem lst_len (G : Int → Bool) (b : Int) : ∀ n, (lst G b n).length = cnt G b n
  | 0 => rfl
  | n + 1 => by
    show (lst G b n ++ _).length = cnt G b n + _
    rw [List.length_append, lst_len G b n]
    split <;> rfl
theorem lst_mem {G : Int → Bool} {b : Int} : ∀ {n : Nat} {x : Int}, x ∈ lst G b n ↔ b ≤ x ∧ x < b + n ∧ G x = true
  | 0, x => by
    constructor
    · intro h; cases h
    · intro h; omega
  | n + 1, x => by
    show x ∈ lst G b n ++ _ ↔ _
    rw [List.mem_append, lst_mem]
    constructor
    · rintro (⟨h1, h2, h3⟩ | h)
      · exact ⟨h1, by omega, h3⟩
      · split at h
        · rename_i e
          rw [List.mem_singleton] at h
          subst h
          exact ⟨by omega, by omega, e⟩
        · cases h
    · rintro ⟨h1, h2, h3⟩
      by_cases e : x = b + n
      · subst e
        right
        rw [if_pos h3]
        exact List.mem_singleton.mpr rfl
      · exact .inl ⟨h1, by omega, h3⟩
theorem lst_up (G : Int → Bool) (b : Int) : ∀ n, (lst G b n).Pairwise (· < ·)
  | 0 => List.Pairwise.nil
  | n + 1 => by
    show (lst G b n ++ _).Pairwise _
    rw [List.pairwise_append]
    refine ⟨lst_up G b n, ?_, fun x hx y hy => ?_⟩
    · split
      · exact List.pairwise_singleton _ _
      · exact List.Pairwise.nil
    · have := (lst_mem.mp hx).2.1
      split at hy
      · rw [List.mem_singleton.mp hy]; exact this
      · cases hy
/-- two ascending lists with the same members -/
theorem up_uniq : ∀ {xs ys : List Int}, xs.Pairwise (· < ·) → ys.Pairwise (· < ·) → (∀ x, x ∈ xs ↔ x ∈ ys) → xs = ys
  | [], [], _, _, _ => rfl
  | [], y :: ys, _, _, h => by have := (h y).mpr List.mem_cons_self; cases this
  | x :: xs, [], _, _, h => by have := (h x).mp List.mem_cons_self; cases this
  | x :: xs, y :: ys, h1, h2, h => by
    obtain ⟨a1, a2⟩ := List.pairwise_cons.mp h1
    obtain ⟨b1, b2⟩ := List.pairwise_cons.mp h2
    have e : x = y := by
      rcases List.mem_cons.mp ((h x).mp List.mem_cons_self) with q | q
      · exact q
      · rcases List.mem_cons.mp ((h y).mpr List.mem_cons_self) with r | r
        · exact r.symm
        · have := a1 y r
          have := b1 x q
          omega
    subst e
    have : xs = ys := up_uniq a2 b2 fun z => by
      constructor
      · intro hz
        rcases List.mem_cons.mp ((h z).mp (List.mem_cons_of_mem _ hz)) with q | q
        · subst q; have := a1 _ hz; omega
        · exact q
      · intro hz
        rcases List.mem_cons.mp ((h z).mpr (List.mem_cons_of_mem _ hz)) with q | q
        · subst q; have := b1 _ hz; omega
        · exact q
    rw [this]
/-- the residues of numbers -/
structure Res (xs : List Int) (p : Nat) (out : List Int) : Prop where
  up : out.Pairwise (· < ·)
  mem : ∀ y, y ∈ out ↔ ∃ x, x ∈ xs ∧ x % (p : Int) = y
theorem Res.uniq {xs : List Int} {p : Nat} {o o' : List Int} (h : Res xs p o) (h' : Res xs p o') : o = o' := up_uniq h.up h'.up fun y => (h.mem y).trans (h'.mem y).symm
theorem Res.range {xs : List Int} {p : Nat} {o : List Int} (h : Res xs p o) (hp : 0 < p) {y : Int} (hy : y ∈ o) : 0 ≤ y ∧ y < p := by
  obtain ⟨x, _, rfl⟩ := (h.mem y).mp hy
  exact ⟨Int.emod_nonneg _ (by omega), Int.emod_lt_of_pos _ (by omega)⟩
/-- how many have a residue of these, in one round -/
theorem cnt_res {p : Nat} {o : List Int} (hu : o.Pairwise (· < ·)) (hr : ∀ y ∈ o, 0 ≤ y ∧ y < (p : Int)) : cnt (fun n => decide (n % (p : Int) ∈ o)) 0 p = o.length := by
  rw [← lst_len]
  have e : lst (fun n => decide (n % (p : Int) ∈ o)) 0 p = o := by
    refine up_uniq (lst_up _ _ _) hu fun y => ?_
    rw [lst_mem]
    constructor
    · rintro ⟨h1, h2, h3⟩
      have h3 := of_decide_eq_true h3
      rwa [Int.emod_eq_of_lt h1 (by omega)] at h3
    · intro hy
      have := hr y hy
      refine ⟨this.1, by omega, decide_eq_true ?_⟩
      rw [Int.emod_eq_of_lt this.1 this.2]; exact hy
  rw [e]
section
variable {G : Int → Bool} {b : Int} {L : Nat}
/-- G goes on by rounds of q from b on -/
def Per (G : Int → Bool) (b : Int) (q : Nat) : Prop := ∀ n, b ≤ n → G (n + q) = G n
theorem Per.mul {q : Nat} (h : Per G b q) : ∀ (k : Nat) (n : Int), b ≤ n → G (n + k * q) = G n
  | 0, n, hn => by rw [show n + ((0 : Nat) : Int) * q = n by simp]
  | k + 1, n, hn => by
    have e : n + ((k + 1 : Nat) : Int) * q = n + k * q + q := by rw [Int.natCast_add, Int.natCast_one, Int.add_mul, Int.one_mul, Int.add_assoc]
    have : 0 ≤ (k : Int) * q := Int.mul_nonneg (by omega) (by omega)
    rw [e, h _ (by omega), Per.mul h k n hn]
theorem Per.same {q : Nat} (h : Per G b q) (hq : 0 < q) {m n : Int} (hm : b ≤ m) (hn : b ≤ n) (e : m % (q : Int) = n % (q : Int)) : G m = G n := by
  have key : ∀ {u v : Int}, b ≤ u → u ≤ v → u % (q : Int) = v % (q : Int) → G v = G u := fun {u v} hu huv e => by
    have h1 := Int.mul_ediv_add_emod u q
    have h2 := Int.mul_ediv_add_emod v q
    have h3 : u / (q : Int) ≤ v / (q : Int) := Int.ediv_le_ediv (by omega) huv
    have := h.mul (v / (q : Int) - u / (q : Int)).toNat u hu
    rw [show u + ((v / (q : Int) - u / (q : Int)).toNat : Int) * q = v by
      rw [Int.toNat_of_nonneg (by omega), Int.sub_mul, Int.mul_comm (v / (q : Int)), Int.mul_comm (u / (q : Int))]; omega] at this
    exact this
  rcases Int.le_total m n with z | z
  · exact (key hm z e).symm
  · exact key hn z e.symm
theorem Per.gcd {q r : Nat} (h : Per G b q) (h' : Per G b r) : Per G b (Nat.gcd q r) := by
  induction q, r using Nat.gcd.induction with
  | H0 n => rw [Nat.gcd_zero_left]; exact h'
  | H1 m n hm ih =>
    rw [Nat.gcd_rec]
    refine ih (fun x hx => ?_) h
    have e1 := h.mul (n / m) (x + (n % m : Nat)) (by omega)
    have e2 : x + ((n % m : Nat) : Int) + ((n / m : Nat) : Int) * m = x + n := by
      have := Nat.div_add_mod n m
      rw [Nat.mul_comm] at this
      have e3 : (((n / m) * m + n % m : Nat) : Int) = (n : Int) := congrArg Int.ofNat this
      rw [Int.natCast_add, Int.natCast_mul] at e3
      omega
    rw [e2] at e1
    rw [← e1, h' x hx]
/-- all with a residue of the found ones -/
theorem Per.full {q : Nat} (h : Per G b q) (hq : 0 < q) (hd : q ∣ L) (hL : 0 < L) {o : List Int} (ho : Res (lst G b L) q o) : ∀ n, b ≤ n → (G n = decide (n % (q : Int) ∈ o)) := fun n hn => by
  rw [Bool.eq_iff_iff, decide_eq_true_iff, ho.mem]
  constructor
  · intro hG
    -- the one in the first round
    have h1 := Int.emod_nonneg (n - b) (show (q : Int) ≠ 0 by omega)
    have h2 := Int.emod_lt_of_pos (n - b) (show 0 < (q : Int) by omega)
    have hle := Nat.le_of_dvd hL hd
    have e : (b + (n - b) % (q : Int)) % (q : Int) = n % (q : Int) := by
      rw [Int.add_emod_emod]; congr 1; omega
    refine ⟨b + (n - b) % q, lst_mem.mpr ⟨by omega, by omega, ?_⟩, e⟩
    rw [h.same hq (by omega) hn e]
    exact hG
  · rintro ⟨x, hx, e⟩
    have := lst_mem.mp hx
    rw [h.same hq hn this.1 e.symm]
    exact this.2.2
theorem Per.count {q : Nat} (h : Per G b q) (hq : 0 < q) (hd : q ∣ L) (hL : 0 < L) {o : List Int} (ho : Res (lst G b L) q o) : o.length * (L / q) = (lst G b L).length := by
  have hF : ∀ n : Int, decide ((n + (q : Int)) % (q : Int) ∈ o) = decide (n % (q : Int) ∈ o) := fun n => by rw [Int.add_emod_right]
  have c1 := cnt_res ho.up fun y hy => ho.range hq hy
  have c2 := cnt_mul (fun n => decide (n % (q : Int) ∈ o)) q hF b (L / q)
  rw [cnt_any _ q hF b 0, c1, Nat.div_mul_cancel hd] at c2
  rw [lst_len, cnt_congr (F := G) (G := fun n => decide (n % (q : Int) ∈ o)) fun i hi => h.full hq hd hL ho (b + i) (by omega), c2, Nat.mul_comm]
theorem per_of_count {q : Nat} (hL : Per G b L) (hq : 0 < q) (hd : q ∣ L) (hL0 : 0 < L) {o : List Int} (ho : Res (lst G b L) q o) (hc : o.length * (L / q) = (lst G b L).length) : ∀ n, b ≤ n → (G n = decide (n % (q : Int) ∈ o)) := by
  have hF : ∀ n : Int, decide ((n + (q : Int)) % (q : Int) ∈ o) = decide (n % (q : Int) ∈ o) := fun n => by rw [Int.add_emod_right]
  have c1 := cnt_res ho.up fun y hy => ho.range hq hy
  have c2 := cnt_mul (fun n => decide (n % (q : Int) ∈ o)) q hF b (L / q)
  rw [cnt_any _ q hF b 0, c1, Nat.div_mul_cancel hd] at c2
  rw [lst_len, Nat.mul_comm] at hc
  have key := cnt_eq (F := fun n => decide (n % (q : Int) ∈ o)) (G := G) (b := b) (n := L) (fun i hi hG => decide_eq_true ((ho.mem _).mpr ⟨b + i, lst_mem.mpr ⟨by omega, by omega, hG⟩, rfl⟩)) (by omega)
  intro n hn
  have h1 := Int.emod_nonneg (n - b) (show (L : Int) ≠ 0 by omega)
  have h2 := Int.emod_lt_of_pos (n - b) (show 0 < (L : Int) by omega)
  have e : (b + (n - b) % (L : Int)) % (L : Int) = n % (L : Int) := by
    rw [Int.add_emod_emod]; congr 1; omega
  have k := key ((n - b) % (L : Int)).toNat (by omega)
  rw [show b + (((n - b) % (L : Int)).toNat : Int) = b + (n - b) % (L : Int) by omega, hL.same hL0 (by omega) hn e] at k
  rw [k]
  have e2 : (b + (n - b) % (L : Int)) % (q : Int) = n % (q : Int) := by
    have hdi : (q : Int) ∣ (L : Int) := Int.natCast_dvd_natCast.mpr hd
    rw [← Int.emod_emod_of_dvd (b + (n - b) % (L : Int)) hdi, e, Int.emod_emod_of_dvd n hdi]
  show decide _ = decide _
  rw [e2]
/-- numbers that go on, as they are told: the least one, the least period, the residues -/
structure Cls (p : Int → Prop) (l : Int) (q : Nat) (o : List Int) : Prop where
  at_ : p l
  least : ∀ n, p n → l ≤ n
  pos : 0 < q
  up : o.Pairwise (· < ·)
  range : ∀ y ∈ o, 0 ≤ y ∧ y < (q : Int)
  mem : ∀ n, l ≤ n → (p n ↔ n % (q : Int) ∈ o)
  min : ∀ r : Nat, 0 < r → (∀ n, l ≤ n → (p (n + r) ↔ p n)) → q ≤ r
theorem Cls.uniq {p : Int → Prop} {l l' : Int} {q q' : Nat} {o o' : List Int} (h : Cls p l q o) (h' : Cls p l' q' o') : l = l' ∧ q = q' ∧ o = o' := by
  have e1 : l = l' := by
    have := h.least _ h'.at_
    have := h'.least _ h.at_
    omega
  subst e1
  have per : ∀ {q : Nat} {o : List Int}, Cls p l q o → ∀ n, l ≤ n → (p (n + q) ↔ p n) := fun {q o} c n hn => by
    rw [c.mem _ (by omega), c.mem n hn, Int.add_emod_right]
  have e2 : q = q' := by
    have := h.min q' h'.pos (per h')
    have := h'.min q h.pos (per h)
    omega
  subst e2
  refine ⟨rfl, rfl, up_uniq h.up h'.up fun y => ?_⟩
  have go : ∀ {o o' : List Int}, Cls p l q o → Cls p l q o' → y ∈ o → y ∈ o' := fun {o o'} c c' hy => by
    have hr := c.range y hy
    have hp := c.pos
    have h1 := Int.emod_nonneg (y - l) (show (q : Int) ≠ 0 by omega)
    have e : (l + (y - l) % (q : Int)) % (q : Int) = y := by
      rw [Int.add_emod_emod, show l + (y - l) = y by omega, Int.emod_eq_of_lt hr.1 hr.2]
    have := (c.mem (l + (y - l) % (q : Int)) (by omega)).mpr (by rw [e]; exact hy)
    have := (c'.mem (l + (y - l) % (q : Int)) (by omega)).mp this
    rwa [e] at this
  exact ⟨go h h', go h' h⟩
theorem Cls.not_list {p : Int → Prop} {l : Int} {q : Nat} {o xs : List Int} (h : Cls p l q o) (hx : ∀ n, n ∈ xs ↔ p n) : False := by
  -- a number of the list behind all others
  have per : ∀ k : Nat, p (l + k * q) := fun k => by
    have : 0 ≤ (k : Int) * q := Int.mul_nonneg (by omega) (by omega)
    rw [h.mem _ (by omega), Int.add_mul_emod_self_right]
    exact (h.mem l (by omega)).mp h.at_
  have big : ∀ xs : List Int, ∃ M : Nat, ∀ x ∈ xs, x < M := fun xs => by
    induction xs with
    | nil => exact ⟨0, fun x hx => by cases hx⟩
    | cons y ys ih =>
      obtain ⟨M, hM⟩ := ih
      refine ⟨M + y.natAbs + 1, fun x hx => ?_⟩
      rcases List.mem_cons.mp hx with e | e
      · subst e; omega
      · have := hM x e; omega
  obtain ⟨M, hM⟩ := big xs
  have h1 := hM _ ((hx _).mpr (per (M + l.natAbs)))
  have h2 : ((M + l.natAbs : Nat) : Int) * 1 ≤ ((M + l.natAbs : Nat) : Int) * q := Int.mul_le_mul_of_nonneg_left (by have := h.pos; omega) (by omega)
  omega
/-- from one round: the least period whose residues are all there -/
theorem cls_of {p : Int → Prop} (hp : ∀ n, p n ↔ b ≤ n ∧ G n = true) (hL : Per G b L) (hL0 : 0 < L) {l : Int} {xs : List Int} (hl : lst G b L = l :: xs) {q : Nat} (hq : 0 < q) (hd : q ∣ L) {o : List Int} (ho : Res (lst G b L) q o) (hc : o.length * (L / q) = (lst G b L).length)
    (hmin : ∀ r : Nat, 0 < r → r < q → r ∣ L → ∀ o', Res (lst G b L) r o' → o'.length * (L / r) ≠ (lst G b L).length) (hres : ∀ r : Nat, ∃ o', Res (lst G b L) r o') : Cls p l q o := by
  have ml := lst_mem.mp (show l ∈ lst G b L by rw [hl]; exact List.mem_cons_self)
  have full := per_of_count hL hq hd hL0 ho hc
  refine ⟨(hp l).mpr ⟨ml.1, ml.2.2⟩, fun n hn => ?_, hq, ho.up, fun y hy => ho.range hq hy, fun n hn => ?_, fun r hr hper => ?_⟩
  · obtain ⟨h1, h2⟩ := (hp n).mp hn
    rcases Int.lt_or_le n (b + L) with z | z
    · have hm : n ∈ l :: xs := by rw [← hl]; exact lst_mem.mpr ⟨h1, z, h2⟩
      rcases List.mem_cons.mp hm with e | e
      · omega
      · have hu := lst_up G b L
        rw [hl] at hu
        have := (List.pairwise_cons.mp hu).1 n e
        omega
    · omega
  · rw [hp, full n (by omega), decide_eq_true_iff]
    exact ⟨fun z => z.2, fun z => ⟨by omega, z⟩⟩
  · have pr : Per G b r := fun n hn => by
      have h1 := hL.mul (l - b).toNat n hn
      have h2 := hL.mul (l - b).toNat (n + r) (by omega)
      have h3 : (l - b) * 1 ≤ (l - b) * L := Int.mul_le_mul_of_nonneg_left (by omega) (by omega)
      rw [Int.toNat_of_nonneg (by omega)] at h1 h2
      generalize (l - b) * (L : Int) = z at h1 h2 h3
      have h4 := hper (n + z) (by omega)
      rw [hp, hp] at h4
      rw [← h1, ← h2, Bool.eq_iff_iff, show n + (r : Int) + z = n + z + r by omega]
      exact ⟨fun y => (h4.mp ⟨by omega, y⟩).2, fun y => (h4.mpr ⟨by omega, y⟩).2⟩
    have pg := Per.gcd pr hL
    have g0 : 0 < Nat.gcd r L := Nat.gcd_pos_of_pos_right _ hL0
    have gd : Nat.gcd r L ∣ L := Nat.gcd_dvd_right _ _
    have gle : Nat.gcd r L ≤ r := Nat.gcd_le_left _ hr
    rcases Nat.lt_or_ge (Nat.gcd r L) q with z | z
    · obtain ⟨o', ho'⟩ := hres (Nat.gcd r L)
      exact absurd (pg.count g0 gd hL0 ho') (hmin _ g0 z gd o' ho')
    · omega
end
/-- there always are residues -/
theorem ins_up (v : Int) : ∀ o : List Int, o.Pairwise (· < ·) → ∃ o' : List Int, o'.Pairwise (· < ·) ∧ ∀ y, y ∈ o' ↔ y = v ∨ y ∈ o
  | [], _ => ⟨[v], List.pairwise_singleton _ _, fun y => by simp⟩
  | a :: o, h => by
    obtain ⟨a1, a2⟩ := List.pairwise_cons.mp h
    rcases Int.lt_trichotomy v a with z | z | z
    · refine ⟨v :: a :: o, List.pairwise_cons.mpr ⟨fun y hy => ?_, h⟩, fun y => List.mem_cons⟩
      rcases List.mem_cons.mp hy with e | e
      · omega
      · have := a1 y e; omega
    · subst z
      exact ⟨v :: o, h, fun y => by simp⟩
    · obtain ⟨o', p1, p2⟩ := ins_up v o a2
      refine ⟨a :: o', List.pairwise_cons.mpr ⟨fun y hy => ?_, p1⟩, fun y => ?_⟩
      · rcases (p2 y).mp hy with e | e
        · omega
        · exact a1 y e
      · rw [List.mem_cons, p2, List.mem_cons]
        constructor
        · rintro (e | e | e)
          · exact .inr (.inl e)
          · exact .inl e
          · exact .inr (.inr e)
        · rintro (e | e | e)
          · exact .inr (.inl e)
          · exact .inl e
          · exact .inr (.inr e)
theorem res_ex (xs : List Int) (r : Nat) : ∃ o, Res xs r o := by
  induction xs with
  | nil => exact ⟨[], List.Pairwise.nil, fun y => ⟨fun h => (by cases h), fun ⟨x, h, _⟩ => (by cases h)⟩⟩
  | cons x xs ih =>
    obtain ⟨o, h1, h2⟩ := ih
    obtain ⟨o', p1, p2⟩ := ins_up (x % (r : Int)) o h1
    refine ⟨o', p1, fun y => ?_⟩
    rw [p2, h2]
    constructor
    · rintro (e | ⟨z, hz, e⟩)
      · exact ⟨x, List.mem_cons_self, e.symm⟩
      · exact ⟨z, List.mem_cons_of_mem _ hz, e⟩
    · rintro ⟨z, hz, e⟩
      rcases List.mem_cons.mp hz with q | q
      · subst q; exact .inl e.symm
      · exact .inr ⟨z, q, e⟩
end Nf
/-! counting sizes -/
namespace Nf
theorem cnt_mono (G : Int → Bool) (b : Int) {m n : Nat} (h : m ≤ n) : cnt G b m ≤ cnt G b n := by
  have := cnt_add G b m (n - m)
  rw [show m + (n - m) = n by omega] at this
  omega
theorem cnt_congr2 {F G : Int → Bool} {b c : Int} : ∀ {n : Nat}, (∀ i : Nat, i < n → F (b + i) = G (c + i)) → cnt F b n = cnt G c n
  | 0, _ => rfl
  | n + 1, h => by
    show cnt F b n + _ = cnt G c n + _
    rw [cnt_congr2 fun i hi => h i (by omega), h n (by omega)]
theorem cnt_none {G : Int → Bool} {b : Int} : ∀ {n : Nat}, (∀ i : Nat, i < n → G (b + i) = false) → cnt G b n = 0
  | 0, _ => rfl
  | n + 1, h => by
    show cnt G b n + _ = 0
    rw [cnt_none fun i hi => h i (by omega), h n (by omega)]; rfl
theorem none_cnt {G : Int → Bool} {b : Int} : ∀ {n : Nat}, cnt G b n = 0 → ∀ i : Nat, i < n → G (b + i) = false
  | 0, _, i, hi => absurd hi (by omega)
  | n + 1, h, i, hi => by
    have h : cnt G b n + (if G (b + n) = true then 1 else 0) = 0 := h
    by_cases e : i = n
    · subst e
      cases q : G (b + i) with
      | false => rfl
      | true => rw [q] at h; simp at h
    · exact none_cnt (n := n) (by omega) i (by omega)
/-- so many of an ascending list lie below a bound -/
theorem filter_le {xs : List Int} (hu : xs.Pairwise (· < ·)) (h0 : ∀ x ∈ xs, 0 ≤ x) {G : Int → Bool} (hG : ∀ n, G n = true ↔ n ∈ xs) (m : Nat) : (xs.filter fun x => decide (x < (m : Int))).length = cnt G 0 m := by
  rw [← lst_len]
  congr 1
  refine up_uniq (hu.filter _) (lst_up _ _ _) fun x => ?_
  rw [List.mem_filter, lst_mem, decide_eq_true_iff, hG]
  constructor
  · rintro ⟨h1, h2⟩
    exact ⟨h0 x h1, by omega, h1⟩
  · rintro ⟨h1, h2, h3⟩
    exact ⟨h3, by omega⟩
/-- the one with a number has so many below -/
theorem nth_below {xs : List Int} (hu : xs.Pairwise (· < ·)) (h0 : ∀ x ∈ xs, 0 ≤ x) {G : Int → Bool} (hG : ∀ n, G n = true ↔ n ∈ xs) {j : Nat} {x : Int} (hj : xs[j]? = some x) : cnt G 0 x.toNat = j := by
  have hjl := (List.getElem?_eq_some_iff.mp hj).1
  have hx0 := h0 x (List.mem_of_getElem? hj)
  rw [← filter_le hu h0 hG]
  have e : (xs.filter fun y => decide (y < (x.toNat : Int))) = xs.take j := by
    have hs : xs.take j ++ xs.drop j = xs := List.take_append_drop j xs
    have hd : xs.drop j = x :: xs.drop (j + 1) := by
      rw [List.drop_eq_getElem_cons hjl]
      rw [List.getElem?_eq_getElem hjl] at hj
      cases hj; rfl
    rw [hd] at hs
    have hu2 := hu
    rw [← hs, List.pairwise_append] at hu2
    obtain ⟨_, u2, u3⟩ := hu2
    obtain ⟨u4, _⟩ := List.pairwise_cons.mp u2
    rw [← hs, List.filter_append]
    have a : (xs.take j).filter (fun y => decide (y < (x.toNat : Int))) = xs.take j := List.filter_eq_self.mpr fun y hy => by
      have := u3 y hy x List.mem_cons_self
      exact decide_eq_true (by omega)
    have b : (x :: xs.drop (j + 1)).filter (fun y => decide (y < (x.toNat : Int))) = [] := List.filter_eq_nil_iff.mpr fun y hy => by
      rw [decide_eq_true_iff]
      rcases List.mem_cons.mp hy with e | e
      · subst e; omega
      · have := u4 y e
        omega
    rw [a, b, List.append_nil, hs]
  rw [e, List.length_take]; omega
/-- numbers that have one of these residues -/
def rG (q : Nat) (o : List Int) (n : Int) : Bool := decide (n % (q : Int) ∈ o)
section
variable {q : Nat} {o : List Int}
theorem rG_per (n : Int) : rG q o (n + (q : Int)) = rG q o n := by unfold rG; rw [Int.add_emod_right]
theorem rG_small {r : Int} (hr : ∀ y ∈ o, 0 ≤ y ∧ y < (q : Int)) {n : Nat} (hn : n ≤ q) {i : Nat} (hi : i < n) : rG q o ((0 : Int) + i) = decide ((i : Int) ∈ o) := by
  unfold rG
  rw [Int.zero_add, Int.emod_eq_of_lt (by omega) (by omega)]
/-- so many from 0 on below m -/
theorem rG_cnt (hq : 0 < q) (hu : o.Pairwise (· < ·)) (hr : ∀ y ∈ o, 0 ≤ y ∧ y < (q : Int)) (m : Nat) : cnt (rG q o) 0 m = m / q * o.length + (o.filter fun x => decide (x < ((m % q : Nat) : Int))).length := by
  have e := Nat.div_add_mod m q
  have c1 : cnt (rG q o) 0 q = o.length := cnt_res hu hr
  have c2 := cnt_mul (rG q o) q rG_per 0 (m / q)
  have c3 := cnt_add (rG q o) 0 (m / q * q) (m % q)
  rw [show m / q * q + m % q = m by rw [Nat.mul_comm]; exact e, c2, c1] at c3
  rw [c3]
  congr 1
  -- one more part of a round
  have hm : m % q < q := Nat.mod_lt _ hq
  rw [filter_le hu (fun x hx => (hr x hx).1) (G := fun n => decide (n ∈ o)) (fun n => decide_eq_true_iff)]
  refine cnt_congr2 fun i hi => ?_
  have e1 : ((0 : Int) + ((m / q * q : Nat) : Int) + i) % (q : Int) = i := by
    rw [Int.zero_add, Int.natCast_mul, Int.add_comm, Int.add_mul_emod_self_right, Int.emod_eq_of_lt (by omega) (by omega)]
  show decide (_ ∈ o) = decide (_ ∈ o)
  rw [e1, Int.zero_add]
end
/-- as the program counts them -/
theorem rG_cnt1 {q : Nat} {o : List Int} (hq : 0 < q) (hu : o.Pairwise (· < ·)) (hr : ∀ y ∈ o, 0 ≤ y ∧ y < (q : Int)) (m : Nat) : cnt (rG q o) 0 (m + 1) = m / q * o.length + (o.filter fun x => decide (x ≤ (m : Int) % (q : Int))).length := by
  have e : (fun x : Int => decide (x ≤ (m : Int) % (q : Int))) = fun x => decide (x < ((m % q + 1 : Nat) : Int)) := funext fun x => by
    rw [← Int.natCast_emod]
    congr 1
    exact propext ⟨fun h => by omega, fun h => by omega⟩
  have h0 : ∀ x ∈ o, 0 ≤ x := fun x hx => (hr x hx).1
  have hG : ∀ n, decide (n ∈ o) = true ↔ n ∈ o := fun n => decide_eq_true_iff
  rw [e, filter_le hu h0 (G := fun n => decide (n ∈ o)) hG]
  show cnt (rG q o) 0 m + (if rG q o (0 + m) = true then 1 else 0) = m / q * o.length + (cnt (fun n => decide (n ∈ o)) 0 (m % q) + (if decide ((0 : Int) + ((m % q : Nat) : Int) ∈ o) = true then 1 else 0))
  rw [rG_cnt hq hu hr, filter_le hu h0 (G := fun n => decide (n ∈ o)) hG]
  have e2 : rG q o (0 + (m : Int)) = decide ((0 : Int) + ((m % q : Nat) : Int) ∈ o) := by
    unfold rG
    rw [Int.zero_add, Int.zero_add, Int.natCast_emod]
  rw [e2]
  omega
section
variable {p : Int → Prop} {l : Int} {q : Nat} {o : List Int}
/-- from the least one on as the residues tell -/
theorem Cls.cnt (h : Cls p l q o) {G : Int → Bool} (hG : ∀ n, G n = true ↔ p n) (hl : 0 ≤ l) {m : Nat} (hm : l ≤ m) : cnt G 0 m + cnt (rG q o) 0 l.toNat = cnt (rG q o) 0 m := by
  have a := cnt_add G 0 l.toNat (m - l.toNat)
  have b := cnt_add (rG q o) 0 l.toNat (m - l.toNat)
  rw [show l.toNat + (m - l.toNat) = m by omega] at a b
  have z : Nf.cnt G 0 l.toNat = 0 := cnt_none fun i hi => by
    cases e : G (0 + i) with
    | false => rfl
    | true => have := h.least _ ((hG _).mp e); omega
  have c : Nf.cnt G (0 + (l.toNat : Int)) (m - l.toNat) = Nf.cnt (rG q o) (0 + (l.toNat : Int)) (m - l.toNat) := cnt_congr fun i hi => by
    rw [Bool.eq_iff_iff, hG, h.mem _ (by omega)]
    unfold rG
    rw [decide_eq_true_iff]
  omega
theorem Cls.below (h : Cls p l q o) {G : Int → Bool} (hG : ∀ n, G n = true ↔ p n) {m : Nat} (hm : (m : Int) ≤ l) : Nf.cnt G 0 m = 0 := cnt_none fun i hi => by
  cases e : G (0 + i) with
  | false => rfl
  | true => have := h.least _ ((hG _).mp e); omega
/-- the one with a number -/
theorem Cls.nth (h : Cls p l q o) {G : Int → Bool} (hG : ∀ n, G n = true ↔ p n) (hl : 0 ≤ l) {k w : Nat} (hw : w = k + Nf.cnt (rG q o) 0 l.toNat) {r : Int} (hr : o[w % o.length]? = some r) (hj : 0 < o.length) :
    p ((w / o.length * q : Nat) + r) ∧ 0 ≤ ((w / o.length * q : Nat) : Int) + r ∧ Nf.cnt G 0 (((w / o.length * q : Nat) : Int) + r).toNat = k := by
  have hrm := List.mem_of_getElem? hr
  obtain ⟨r0, r1⟩ := h.range r hrm
  have hx : 0 ≤ ((w / o.length * q : Nat) : Int) + r := by omega
  generalize hxe : ((w / o.length * q : Nat) : Int) + r = x at *
  have emod : x % (q : Int) = r := by
    rw [← hxe, Int.natCast_mul, Int.add_comm, Int.add_mul_emod_self_right, Int.emod_eq_of_lt r0 r1]
  have hR : rG q o x = true := by
    unfold rG
    rw [emod]; exact decide_eq_true hrm
  -- so many residues below x
  have cx : Nf.cnt (rG q o) 0 x.toNat = w := by
    have e1 : x.toNat = w / o.length * q + r.toNat := by omega
    rw [e1, cnt_add, cnt_mul (rG q o) q rG_per 0, cnt_res (p := q) h.up h.range |> (show Nf.cnt (rG q o) 0 q = o.length from ·)]
    have e2 : Nf.cnt (rG q o) (0 + ((w / o.length * q : Nat) : Int)) r.toNat = w % o.length := by
      rw [← nth_below h.up (fun y hy => (h.range y hy).1) (G := fun n => decide (n ∈ o)) (fun n => decide_eq_true_iff) hr]
      refine cnt_congr2 fun i hi => ?_
      have e1 : ((0 : Int) + ((w / o.length * q : Nat) : Int) + i) % (q : Int) = i := by
        rw [Int.zero_add, Int.natCast_mul, Int.add_comm, Int.add_mul_emod_self_right, Int.emod_eq_of_lt (by omega) (by omega)]
      show decide (_ ∈ o) = decide (_ ∈ o)
      rw [e1, Int.zero_add]
    rw [e2, Nat.mul_comm]
    exact Nat.div_add_mod w o.length
  have hle : l ≤ x := by
    rcases Int.lt_or_le x l with z | z
    · exfalso
      have m1 := cnt_mono (rG q o) 0 (m := x.toNat + 1) (n := l.toNat) (by omega)
      have m2 : Nf.cnt (rG q o) 0 (x.toNat + 1) = Nf.cnt (rG q o) 0 x.toNat + 1 := by
        show Nf.cnt (rG q o) 0 x.toNat + _ = _
        rw [show (0 : Int) + (x.toNat : Int) = x by omega, if_pos hR]
      omega
    · exact z
  refine ⟨(h.mem x hle).mpr (by rw [emod]; exact hrm), hx, ?_⟩
  have := h.cnt hG hl (m := x.toNat) (by omega)
  omega
end
end Nf
/-! list(range(..)), comprehensions of numbers -/
namespace Gm
open PySem L2
section
variable {w : Wd} {Γ : Env} {S : List Own} {k : KE} {ta tb te : TE}
def rgD (i j : Int) : List D := (List.range (j - i).toNat).map fun n : Nat => D.int (i + n)
theorem rgD_den {K : PySem.W.Frag} {R : Hp} (i : Int) : ∀ ns : List Nat, Dens K R (ns.map fun n : Nat => V.int (i + n)) (ns.map fun n : Nat => D.int (i + n))
  | [] => .nil
  | n :: ns => .cons (.int _) (rgD_den i ns)
theorem le_listRg2 (h : LE w ta Γ S fun x S1 => LE w tb Γ S1 fun y S2 => ∃ i j, x = .d (.int i) ∧ y = .d (.int j) ∧ RgOk i j ∧ k (.d (.lst (rgD i j))) S2) : LE w (tLstRg (tRg2 ta tb)) Γ S k := fun σ R H as Q rl s c => by
  refine h σ R H as _ rl s fun u x S1 R1 H1 as1 rl1 s1 p1 e1 h1 => h1 σ R1 H1 as1 _ rl1 (s.mono s1 p1) fun v y S2 R2 H2 as2 rl2 s2 p2 e2 ⟨i, j, hx, hy, ho, hk⟩ => ?_
  subst hx hy
  cases e1
  cases e2
  refine ⟨i, j, rfl, rfl, ho, fun q hq => ?_⟩
  obtain ⟨rl3, s3⟩ := rl2.alloc hq (.lst (rgV i j))
  exact c _ _ S2 _ _ as2 rl3 (s1.trans (s2.trans s3)) (p1.trans p2) (ok_d (Den.lst upd_same (rgD_den i _))) hk
theorem le_listRg1 (h : LE w ta Γ S fun x S1 => ∃ j, x = .d (.int j) ∧ RgOk 0 j ∧ k (.d (.lst (rgD 0 j))) S1) : LE w (tLstRg (tRg1 ta)) Γ S k := fun σ R H as Q rl s c => by
  refine h σ R H as _ rl s fun u x S1 R1 H1 as1 rl1 s1 p1 e1 ⟨j, hx, ho, hk⟩ => ?_
  subst hx
  cases e1
  refine ⟨j, rfl, ho, fun q hq => ?_⟩
  obtain ⟨rl3, s3⟩ := rl1.alloc hq (.lst (rgV 0 j))
  exact c _ _ S1 _ _ as1 rl3 (s1.trans s3) p1 (ok_d (Den.lst upd_same (rgD_den 0 _))) hk
theorem lt_mono {t : TT} {kb kb' : Bool → List Own → Prop} (h : LT w t Γ S kb) (q : ∀ b S', kb b S' → kb' b S') : LT w t Γ S kb' := fun σ R H as Q rl s c =>
  h σ R H as Q rl s fun b S' R' H' as' a1 a2 a3 a4 => c b S' R' H' as' a1 a2 a3 (q b S' a4)
/-- one turn of a comprehension that keeps all, of data -/
def LcD (w : Wd) (Γ : Env) (v : Nat) (tt : TT) (te : TE) (x : D) (S : List Own) (y : D) : Prop :=
  LT w tt (Γ.set v (some (.d x))) S fun b S3 => b = true ∧ LE w te (Γ.set v (some (.d x))) S3 fun e S4 => e = .d y ∧ S4 = S
theorem lcd_turn {v : Nat} {tt : TT} {x y : D} {acc : List D} {N : List D → List Own → Prop} (h : LcD w Γ v tt te x (S ++ [.lst acc]) y) (ha : acc.length < sizeLine) (hn : N (acc ++ [y]) S) : LcT w Γ v tt te x acc S N :=
  lt_mono h fun b S3 ⟨h1, h2⟩ => ⟨fun _ => le_mono h2 fun e S4 ⟨h3, h4⟩ => ⟨y, S, h3, h4, rfl, ha, hn⟩, fun hb => by rw [h1] at hb; cases hb⟩
theorem lcd_yes {v : Nat} {x y : D} (h : LE w te (Γ.set v (some (.d x))) S fun e S4 => e = .d y ∧ S4 = S) : LcD w Γ v tYes te x S y := fun σ R H as Q rl s c =>
  c true S R H as rl (Sub.refl _) (Pre.refl _) ⟨rfl, h⟩
theorem le_lcRD {wi : TI} {v : Nat} {tt : TT} {F : Nat → D} (h : LR w wi Γ S fun lo n S1 => n ≤ sizeLine ∧ (∀ i acc, i < n → LcD w Γ v tt te (.int (lo + i)) (S1 ++ [.lst acc]) (F i)) ∧ k (.d (.lst ((List.range n).map F))) S1) : LE w (tLc wi (gName v) tt te [v]) Γ S k := by
  refine le_lcR (fun σ R H as Q rl s c => h σ R H as Q rl s fun lo n S1 R1 H1 as1 a1 a2 a3 ⟨h1, h2, h3⟩ => c lo n S1 R1 H1 as1 a1 a2 a3 ?_)
  refine ⟨fun i acc S2 => S2 = S1 ∧ acc = (List.range i).map F, ⟨rfl, rfl⟩, ?_, ?_⟩
  · rintro i acc _ hi _ ⟨rfl, rfl⟩
    refine lcd_turn (h2 i _ hi) (by rw [List.length_map, List.length_range]; omega) ⟨rfl, ?_⟩
    rw [List.range_succ, List.map_append]; rfl
  · rintro acc _ ⟨rfl, rfl⟩
    exact h3
theorem le_lcLD {tl : TE} {v : Nat} {tt : TT} {F : D → D} (h : LE w tl Γ S fun e S1 => ∃ ds, e = .d (.lst ds) ∧ ds.length ≤ sizeLine ∧ (∀ d acc, d ∈ ds → LcD w Γ v tt te d (S1 ++ [.lst acc]) (F d)) ∧ k (.d (.lst (ds.map F))) S1) : LE w (tLc (iList w.K tl) (gName v) tt te [v]) Γ S k := by
  refine le_lcL (le_mono h fun e S1 ⟨ds, h1, h2, h3, h4⟩ => ⟨ds, h1, fun i acc S2 => S2 = S1 ∧ acc = (ds.take i).map F, ⟨rfl, rfl⟩, ?_, ?_⟩)
  · rintro i d acc _ hd _ ⟨rfl, rfl⟩
    obtain ⟨hi, he⟩ := List.getElem?_eq_some_iff.mp hd
    refine lcd_turn (h3 d _ (List.mem_of_getElem? hd)) (by rw [List.length_map, List.length_take]; omega) ⟨rfl, ?_⟩
    rw [List.take_succ_eq_append_getElem hi, List.map_append, he]; rfl
  · rintro acc _ ⟨rfl, rfl⟩
    rw [List.take_length]
    exact h4
/-- of numbers -/
theorem le_lcRI {wi : TI} {v : Nat} {tt : TT} (F : Nat → Int) (h : LR w wi Γ S fun lo n S1 => n ≤ sizeLine ∧ (∀ i acc, i < n → LcD w Γ v tt te (.int (lo + i)) (S1 ++ [.lst acc]) (.int (F i))) ∧ k (.d (.lst (((List.range n).map F).map D.int))) S1) : LE w (tLc wi (gName v) tt te [v]) Γ S k := by
  refine le_lcRD (F := fun i => .int (F i)) (fun σ R H as Q rl s c => h σ R H as Q rl s fun lo n S1 R1 H1 as1 a1 a2 a3 ⟨h1, h2, h3⟩ => c lo n S1 R1 H1 as1 a1 a2 a3 ⟨h1, h2, ?_⟩)
  rw [List.map_map] at h3
  exact h3
theorem le_lcLI {tl : TE} {v : Nat} {tt : TT} (f : Int → Int) (h : LE w tl Γ S fun e S1 => ∃ xs : List Int, e = .d (.lst (xs.map D.int)) ∧ xs.length ≤ sizeLine ∧ (∀ x acc, x ∈ xs → LcD w Γ v tt te (.int x) (S1 ++ [.lst acc]) (.int (f x))) ∧ k (.d (.lst ((xs.map f).map D.int))) S1) : LE w (tLc (iList w.K tl) (gName v) tt te [v]) Γ S k := by
  refine le_lcLD (F := fun d => match d with | .int x => .int (f x) | _ => .non) (le_mono h fun e S1 ⟨xs, h1, h2, h3, h4⟩ => ⟨xs.map D.int, h1, by rw [List.length_map]; exact h2, fun d acc hd => ?_, ?_⟩)
  · obtain ⟨x, hx, rfl⟩ := List.mem_map.mp hd
    exact h3 x acc hx
  · rw [List.map_map] at h4 ⊢
    exact h4
theorem rgD_ints (i j : Int) : rgD i j = ((List.range (j - i).toNat).map fun n : Nat => i + (n : Int)).map D.int := by unfold rgD; rw [List.map_map]; rfl
end
/-! walks whose turns are alike -/
section
variable {w : Wd} {Γ : Env} {S : List Own} {G : GE} {t1 : TS}
theorem ls_forP {tl : TE} {g : TG} (Pd : D → Prop) (I : Env → List Own → Prop) (h : LE w tl Γ S fun e S1 => ∃ ds, e = .d (.lst ds) ∧ (∀ d ∈ ds, Pd d) ∧ I Γ S1)
    (hs : ∀ d Γ1 S2, Pd d → I Γ1 S2 → LG w g (.d d) Γ1 S2 fun Γ2 S3 => LS w t1 Γ2 S3 { G with nx := I, ct := I, bk := G.nx }) (hE : ∀ Γ1 S2, I Γ1 S2 → G.nx Γ1 S2) : LS w (tFor (iList w.K tl) g t1) Γ S G :=
  ls_forL (le_mono h fun e S1 ⟨ds, h1, h2, h3⟩ => ⟨ds, h1, fun _ => I, h3, fun i d Γ1 S2 hd hI => hs d Γ1 S2 (h2 d (List.mem_of_getElem? hd)) hI, hE⟩)
theorem ls_forTP {tl : TE} {g : TG} (Pd : D → Prop) (I : Env → List Own → Prop) (h : LE w tl Γ S fun e S1 => ∃ ds, e = .d (.tup ds) ∧ (∀ d ∈ ds, Pd d) ∧ I Γ S1)
    (hs : ∀ d Γ1 S2, Pd d → I Γ1 S2 → LG w g (.d d) Γ1 S2 fun Γ2 S3 => LS w t1 Γ2 S3 { G with nx := I, ct := I, bk := G.nx }) (hE : ∀ Γ1 S2, I Γ1 S2 → G.nx Γ1 S2) : LS w (tFor (iTup w.K tl) g t1) Γ S G :=
  ls_forT (le_mono h fun e S1 ⟨ds, h1, h2, h3⟩ => ⟨ds, h1, fun _ => I, h3, fun i d Γ1 S2 hd hI => hs d Γ1 S2 (h2 d (List.mem_of_getElem? hd)) hI, hE⟩)
end
/-! the rules of calls inside a comprehension's block -/
section
variable {X : Cx} {P : Program} {w0 : World} {K : PySem.W.Frag} {mg : Str → Option Value} {base : Heap} {CX : CXT} {k n : Nat} {C : Addr} {x m : Str} {ds : DS} {E : XK} {p pos apos : Pos} {o e : Expr} {es : List Expr} {kws : List Keyword} {ta te : TE} {t tk : TA} {pl : Sem Bool}
theorem pe_mdB (d : Mt P w0 K mg base CX k C m ds) (hr : Room k X.A) (hx : Passes CX X E) (he : PE X o ta) (ha : PA X (e :: es) t)
    (hst : starEach (e :: es) X.env = (false, eval e X.env) :: starEach es X.env := by rfl) (hpl : (backTo pos (starEach es X.env)).any (·.1) = false := by rfl)
    (ht : eval (.Call (.Attribute o m apos) (e :: es) [] pos) X.env = (do
      let ov ← eval o X.env
      standAt apos.atName
      let (f, first) ← holding [ov] (getMethod ov m pl)
      callWith pos f first (backTo pos (starEach (e :: es) X.env)) (backToKw pos (keywordEach [] X.env))) := by rfl) (hP : X.prog = P := by rfl) (hW : X.w = w0 := by rfl) (hK : X.K = K := by rfl) (hM : X.mg = mg := by rfl) (hB : X.base = base := by rfl) : PE X (.Call (.Attribute o m apos) (e :: es) [] pos) (tMeth C m (spD K ds) [] E ta t) := by
  subst hP hW hK hM hB
  exact pe_md d hr hx he ha hst hpl ht
theorem pe_md0B (d : Mt P w0 K mg base CX k C m ds) (hr : Room k X.A) (hx : Passes CX X E) (he : PE X o ta)
    (ht : eval (.Call (.Attribute o m apos) [] [] pos) X.env = (do
      let ov ← eval o X.env
      standAt apos.atName
      let (f, first) ← holding [ov] (getMethod ov m pl)
      callWith pos f first (backTo pos (starEach [] X.env)) (backToKw pos (keywordEach [] X.env))) := by rfl) (hP : X.prog = P := by rfl) (hW : X.w = w0 := by rfl) (hK : X.K = K := by rfl) (hM : X.mg = mg := by rfl) (hB : X.base = base := by rfl) : PE X (.Call (.Attribute o m apos) [] [] pos) (tMeth C m (spD K ds) [] E ta tNil) := by
  subst hP hW hK hM hB
  exact pe_md0 d hr hx he ht
theorem pe_mkB (d : Ct P w0 K mg base CX k x C ds) (hr : Room (k + 1) X.A) (hx : Passes CX X E) (ha : PA X (e :: es) t) (hg : Gl X x := by rfl) (hdb : (x == ("__debug__" : Str)) = false := by decide)
    (he : starEach (e :: es) X.env = (false, eval e X.env) :: starEach es X.env := by rfl) (hpl : (backTo pos (starEach es X.env)).any (·.1) = false := by rfl) (hP : X.prog = P := by rfl) (hW : X.w = w0 := by rfl) (hK : X.K = K := by rfl) (hM : X.mg = mg := by rfl) (hB : X.base = base := by rfl) : PE X (.Call (.Name x p) (e :: es) [] pos) (tMake C (spD K ds) [] E t) := by
  subst hP hW hK hM hB
  exact pe_mk d hr hx ha hg hdb he hpl
theorem pe_prB (d : Pr P w0 K mg base CX k C m ds) (hr : Room (k + 1) X.A) (hx : Passes CX X.nox E) (he : PE X o ta) (hab : attributeBase o m X.env (eval o X.env) = eval o X.env := by rfl) (hP : X.prog = P := by rfl) (hW : X.w = w0 := by rfl) (hK : X.K = K := by rfl) (hM : X.mg = mg := by rfl) (hB : X.base = base := by rfl) : PE X (.Attribute o m pos) (tProp C (spD K ds) [] E ta) := by
  subst hP hW hK hM hB
  exact pe_pr d hr hx he hab
theorem pe_dfB (d : Df P w0 K mg base CX k x n ds) (hr : Room k X.A) (hx : Passes CX X E) (ha : PA X (e :: es) t) (hg : Gl X x := by rfl) (hdb : (x == ("__debug__" : Str)) = false := by decide)
    (he : starEach (e :: es) X.env = (false, eval e X.env) :: starEach es X.env := by rfl) (hpl : (backTo pos (starEach es X.env)).any (·.1) = false := by rfl) (hP : X.prog = P := by rfl) (hW : X.w = w0 := by rfl) (hK : X.K = K := by rfl) (hM : X.mg = mg := by rfl) (hB : X.base = base := by rfl) : PE X (.Call (.Name x p) (e :: es) [] pos) (tCall (spD K ds) [] E t) := by
  subst hP hW hK hM hB
  exact pe_df d hr hx ha hg hdb he hpl
theorem o_lenB (d : Sm P w0 K mg base CX k C "__len__" ds) (hr : Room (k + 1) X.A) (hx : Passes CX X E) (hm : X.mg "len" = none) (he : PE X e te) (hg : Gl X "len" := by rfl) (hs : starEach [e] X.env = (false, eval e X.env) :: starEach [] X.env := by rfl) (hP : X.prog = P := by rfl) (hW : X.w = w0 := by rfl) (hK : X.K = K := by rfl) (hM : X.mg = mg := by rfl) (hB : X.base = base := by rfl) : PE X (.Call (.Name "len" p) [e] [] pos) (tCB (gLenO C (spD K ds) E) (tCons te tNil)) := by
  subst hP hW hK hM hB
  exact o_len d hr hx hm he hg hs
theorem o_eqB (d : Sm P w0 K mg base CX k C "__eq__" ds) (hr : Room k X.A) (hx : Passes CX X E) (hP : X.prog = P := by rfl) (hW : X.w = w0 := by rfl) (hK : X.K = K := by rfl) (hM : X.mg = mg := by rfl) (hB : X.base = base := by rfl) : OpR X (compareOp .Eq) (rEqO K C (spD K ds) E) := by
  subst hP hW hK hM hB
  exact o_eq d hr hx
theorem o_addB (d : Sm P w0 K mg base CX k C "__add__" ds) (hc : PySem.W.selfFirst K C = true) (hr : Room k X.A) (hx : Passes CX X E) (hP : X.prog = P := by rfl) (hW : X.w = w0 := by rfl) (hK : X.K = K := by rfl) (hM : X.mg = mg := by rfl) (hB : X.base = base := by rfl) : OpR X (binaryOp .Add) (rAddO C (spD K ds) E) := by
  subst hP hW hK hM hB
  exact o_add d hc hr hx
theorem ix_listB (K : PySem.W.Frag) (hK : X.K = K := by rfl) : IxR X (rIxL K) := by subst hK; exact ix_list
theorem ix_tupB (K : PySem.W.Frag) (hK : X.K = K := by rfl) : IxR X (rIxT K) := by subst hK; exact ix_tup
theorem b_lenB (K : PySem.W.Frag) (hm : X.mg "len" = none) (he : PE X e te) (hg : Gl X "len" := by rfl) (hs : starEach [e] X.env = (false, eval e X.env) :: starEach [] X.env := by rfl) (hK : X.K = K := by rfl) : PE X (.Call (.Name "len" p) [e] [] pos) (tCB (gLen K) (tCons te tNil)) := by
  subst hK; exact b_len hm he hg hs
end
/-! lists, of data or of the store -/
section
variable {w : Wd} {Γ : Env} {S : List Own} {k : KE} {x : Ent} {ds : List D} {E : XK}
theorem rc_lenG (hx : IsLst x S ds) (q : k (.d (.int ds.length)) S) : RC w (gLen w.K) [x] S k := by
  rcases hx with rfl | ⟨i, rfl, hi⟩
  · exact rc_len (n := ds.length) rfl q
  · exact rc_lenO hi q
theorem rr_ixG {i : Int} {d : D} (hx : IsLst x S ds) (h : atI ds i = some d) (q : k (.d d) S) : RR w (rIxL w.K) x (.d (.int i)) S k := by
  rcases hx with rfl | ⟨j, rfl, hi⟩
  · exact rr_ixL h q
  · exact rr_ixO hi h q
theorem rc_lenZ {s : List Int} (hx : IsLst x S (s.map D.int)) (q : k (.d (.int s.length)) S) : RC w (gLen w.K) [x] S k := rc_lenG hx (by rw [List.length_map]; exact q)
/-- list(xs), as data -/
theorem rc_listOD {i : Nat} (hi : S[i]? = some (.lst ds)) (q : k (.d (.lst ds)) S) : RC w (gList w.K) [.own i] S k := fun R H as us Q rl hu c => by
  refine rc_listNO (k := fun e S' => e = .own S.length ∧ S' = S ++ [.lst ds]) hi ⟨rfl, rfl⟩ R H as us Q rl hu ?_
  rintro v e S' R' H' as' rl' s' p' ok ⟨rfl, rfl⟩
  obtain ⟨a, ha, rfl⟩ := ok
  have hg : (S ++ [Own.lst ds])[S.length]? = some (.lst ds) := List.getElem?_concat_length
  obtain ⟨⟨z, vs, c1, c2⟩, _⟩ := rl'.reg _ _ _ hg ha (by intro z; cases z)
  obtain ⟨rl2, s2⟩ := rl'.freeze hg ha (by intro z; cases z) c1
  have es : (S ++ [Own.lst ds]).set S.length .gone = S ++ [.gone] := by
    rw [List.set_append_right _ _ (Nat.le_refl _), Nat.sub_self]; rfl
  rw [es] at rl2
  refine c (.ref a) (.d (.lst ds)) S _ _ _ (rl2.pop rl.as0_le) (s'.trans s2) (fun i b hb => ?_) (.lst upd_same (c2.mono s2)) q
  have hil := (List.getElem?_eq_some_iff.mp hb).1
  rw [rl.len] at hil
  rw [List.getElem?_take, if_pos (by omega)]
  exact p' i b hb
/-- a def that is handed a list, of data or of the store, and only reads it -/
theorem rs_lst {α : Type} {pre : α → List Ent → List Own → Prop} {post : α → Ent → List Own → Prop} {es : List Ent} (hx : IsLst x S ds) (a : Ent → List Own → α) (hpre : ∀ x' S0, IsLst x' S0 ds → pre (a x' S0) (x' :: es) S0)
    (h : ∀ x' S0 e S', post (a x' S0) e S' → ∃ d, S' = S0 ∧ e = .d d ∧ k (.d d) S) (hw : es.all (Ent.wf 0) = true := by rfl) : RS w (Gm.ds pre post) E (x :: es) S k := by
  rcases hx with rfl | ⟨i, rfl, hi⟩
  · exact r0 (a (.d (.lst ds)) []) (hpre _ _ (.inl rfl)) (fun e S' q => by obtain ⟨d, q1, q2, q3⟩ := h _ _ e S' q; exact ⟨d, q1, q2, q3⟩) (by simpa [Ent.wf] using hw)
  · have hw1 : ∀ es : List Ent, es.all (Ent.wf 0) = true → es = es.map (Ent.ren [i]) ∧ es.all (Ent.wf 1) = true := by
      intro es
      induction es with
      | nil => intro _; exact ⟨rfl, rfl⟩
      | cons e es ih =>
        intro q
        have q' : Ent.wf 0 e = true ∧ es.all (Ent.wf 0) = true := by simpa using q
        cases e with
        | d y => exact ⟨by show _ = Ent.d y :: _; rw [← (ih q'.2).1], by simpa [Ent.wf] using (ih q'.2).2⟩
        | own j => simp [Ent.wf] at q'
        | tup es => simp [Ent.wf] at q'
    refine rs_call (ex0 (w := w) (E := E)) [i] (Pick.one hi (by intro z; cases z)) (es' := .own 0 :: es) (by show _ = Ent.own i :: _; rw [← (hw1 es hw).1]) (by simpa [Ent.wf] using (hw1 es hw).2) ⟨a (.own 0) [.lst ds], hpre _ _ (.inr ⟨0, rfl, rfl⟩), fun e S' q => ?_⟩
    obtain ⟨d, rfl, rfl, q3⟩ := h _ _ e S' q
    refine ⟨[.lst ds], [], rfl, rfl, by simp, ?_⟩
    show k (.d d) (S.set i (.lst ds) ++ [])
    rw [List.append_nil]
    have e : S.set i (.lst ds) = S := by
      obtain ⟨hl, he⟩ := List.getElem?_eq_some_iff.mp hi
      rw [← he, List.set_getElem_self]
    rw [e]; exact q3
/-- a new thing of the store, then its __init__ -/
theorem le_makeR {C : Addr} {t : TA} {f : DS} (h : LA w t Γ S fun es S1 => RS w f E (.own S1.length :: es) (S1 ++ [.ins C []]) fun e S' => e = .d .non ∧ ∃ gs, S' = S1 ++ [.ins C gs] ∧ k (.d (.obj C gs)) S1) : LE w (tMake C (spD w.K f) [] E t) Γ S k := fun σ R H as Q rl s c => by
  refine h σ R H as _ rl s fun vs es S1 R1 H1 as1 rl1 s1 p1 e1 h1 => ?_
  intro xa dx hx hd hne
  rw [List.append_nil]
  obtain ⟨rl2, s2⟩ := rl1.alloc hd (.own xa)
  have hx2 : (upd H1 dx (.own xa)) xa = none := by rw [upd_ne (fun z => hne z.symm)]; exact hx
  have rl3 : Rel w (upd R1 dx (.own xa)) (upd (upd H1 dx (.own xa)) xa (.ins C dx [])) (as1 ++ [xa]) (S1 ++ [.ins C []]) := rl2.allocO hx2 _ ⟨(rl2.fresh hx2).1, dx, [], upd_same, .nil⟩
  have hxa : (as1 ++ [xa])[S1.length]? = some xa := by rw [← rl1.len]; exact List.getElem?_concat_length
  refine h1 _ _ (as1 ++ [xa]) (.ref xa :: vs) _ rl3 ⟨⟨xa, hxa, rfl⟩, e1.mono s2 (Pre.app _ _)⟩ ?_
  rintro v e S' R' H' as' rl4 s4 p4 ok ⟨rfl, gs, rfl, hk⟩
  have hv : v = .non := by
    have ok' : Den w.K R' v .non := ok
    cases ok'; rfl
  subst hv
  refine ⟨rfl, ?_⟩
  have ha0 := p4 _ _ hxa
  have hg : (S1 ++ [Own.ins C gs])[S1.length]? = some (.ins C gs) := List.getElem?_concat_length
  obtain ⟨⟨z, dx', fs, c1, c2⟩, _⟩ := rl4.reg _ _ _ hg ha0 (by intro z; cases z)
  obtain ⟨rl5, s5⟩ := rl4.freeze hg ha0 (by intro z; cases z) c1
  have es5 : (S1 ++ [Own.ins C gs]).set S1.length .gone = S1 ++ [.gone] := by
    rw [List.set_append_right _ _ (Nat.le_refl _), Nat.sub_self]; rfl
  rw [es5] at rl5
  have hle := rl1.as0_le
  refine c (.ref xa) (.d (.obj C gs)) S1 _ _ _ (rl5.pop hle) (((s1.trans s2).trans s4).trans s5) (fun i b hb => ?_) (.obj upd_same (c2.mono s5)) hk
  have hb1 := p1 i b hb
  have hil := (List.getElem?_eq_some_iff.mp hb1).1
  rw [rl1.len] at hil
  rw [List.getElem?_take, if_pos (by omega)]
  exact p4 i b (Pre.app _ _ i b hb1)
end
section
variable {w : Wd} {Γ : Env} {S : List Own} {k : KE} {x : Ent} {ds : List D} {E : XK}
theorem dens_rep {K : PySem.W.Frag} {R : Hp} {vs : List V} {ds : List D} (h : Dens K R vs ds) : ∀ n : Nat, Dens K R (List.replicate n vs).flatten (List.replicate n ds).flatten
  | 0 => .nil
  | n + 1 => by rw [List.replicate_succ, List.replicate_succ, List.flatten_cons, List.flatten_cons]; exact h.append (dens_rep h n)
theorem rr_rep {n : Int} (hx : IsLst x S ds) (h0 : 0 ≤ n) (h1 : n < 2 ^ 62) (hl : ds.length * n.toNat ≤ sizeLine) (q : k (.d (.lst (List.replicate n.toNat ds).flatten)) S) : RR w rRep x (.d (.int n)) S k := fun R H as u v Q rl hu hv c => by
  obtain ⟨a, vs, rfl, q2, q3⟩ := isLst_at hx rl hu
  cases hv
  refine ⟨a, n, vs, rfl, rfl, q2, by omega, by omega, by rw [q3.len]; exact hl, fun p hp => ?_⟩
  obtain ⟨rl2, s2⟩ := rl.alloc hp (.lst (List.replicate n.toNat vs).flatten)
  exact c _ _ S _ _ as rl2 s2 (Pre.refl _) (ok_d (Den.lst upd_same ((dens_rep q3 _).mono s2))) q
/-- handed the first thing of the store, it gives a tuple of a new list and data -/
theorem rpT {α : Type} {pre : α → List Ent → List Own → Prop} {post : α → Ent → List Own → Prop} {o : Own} {rest : List Own} {es : List Ent} (a : α) (hpre : pre a es [o])
    (h : ∀ e S', post a e S' → ∃ o' xs d, S' = [o', .lst xs] ∧ o' ≠ .gone ∧ e = .tup [.own 1, .d d] ∧ k (.tup [.own (rest.length + 1), .d d]) (o' :: rest ++ [.lst xs])) (hn : o ≠ .gone) (hw : es.all (Ent.wf 1) = true := by rfl) : RS w (Gm.ds pre post) E es (o :: rest) k := by
  refine rs_call (ex0 (w := w) (E := E)) [0] (Pick.one (o := o) rfl hn) (ren_wf1 hw) hw ⟨a, hpre, fun e S' q => ?_⟩
  obtain ⟨o', xs, d, rfl, h1, rfl, h2⟩ := h e S' q
  exact ⟨[o'], [.lst xs], rfl, rfl, by simpa using h1, h2⟩
theorem lg_tupE2 {i j : Nat} {x y : Ent} {k : Env → List Own → Prop} (q : k ((Γ.set i (some x)).set j (some y)) S) : LG w (gTup w.K 2 (gCons (gName i) (gCons (gName j) gNil))) (.tup [x, y]) Γ S k :=
  lg_tupE rfl (lgs_cons (lg_name (lgs_cons (lg_name (lgs_nil q)))))
theorem wb_two {i : Nat} {o u u' : Own} (hi : S[i]? = some o) : wb (S ++ [u]) [S.length, i] [u', o] = S ++ [u'] := by
  obtain ⟨hl, he⟩ := List.getElem?_eq_some_iff.mp hi
  show ((S ++ [u]).set S.length u').set i o = _
  have e1 : (S ++ [u]).set S.length u' = S ++ [u'] := by
    rw [List.set_append_right _ _ (Nat.le_refl _), Nat.sub_self]; rfl
  rw [e1, List.set_append_left _ _ hl, ← he, List.set_getElem_self]
end
section
variable {w : Wd} {Γ : Env} {S : List Own} {k : KE} {G : GE} {t1 t2 : TS}
theorem ls_cut (M : Env → List Own → Prop) (h : LS w t1 Γ S { G with nx := M }) (q : ∀ Γ1 S1, M Γ1 S1 → LS w t2 Γ1 S1 G) : LS w (tSeq t1 t2) Γ S G := fun D σ R H as rl s e =>
  h _ σ R H as rl s ⟨fun Γ1 S1 σ1 R1 H1 as1 u a b c => q Γ1 S1 c D σ1 R1 H1 as1 a b (e.up u), e.rt, e.bk, e.ct⟩
theorem own_P {i : Nat} {s : List Int} (h : S[i]? = some (.lst (s.map D.int))) : entP S (.own i) = some (.list (s.map PyData.int)) := by
  show (match S[i]? with
    | some (.lst xs) => (toPs xs).map PyData.list
    | _ => none) = _
  rw [h]
  show (toPs (s.map D.int)).map PyData.list = _
  rw [toPs_ints]; rfl
theorem cut_from {s : List Int} {p : Nat} (h : p ≤ s.length) : cutD (s.map D.int) (some (p : Int)) none = (s.drop p).map D.int := by
  unfold cutD
  rw [HT.sIx_none, HT.sIx_nat, List.length_map, Nat.min_eq_left h, ← List.map_drop, List.take_of_length_le (by rw [List.length_map, List.length_drop]; omega)]
end
end Gm
/-! errors: raised, passed on, caught, asked -/
namespace Gm
open PySem L2

/-! ### raising -/
/-- an error's __init__: self.value = value -/
def spXi (K : PySem.W.Frag) : Sp := fun vs H Q _ => ∃ (a C : Addr) (z : V), vs = [.ref a, z] ∧ OexC K C ∧ PySem.W.findIn K (.ref C) "value" = some none ∧ H a = some (exo a C none) ∧
  ∀ dx, H dx = none → dx ≠ a → Q .non (upd (upd H dx (exd dx [(("value" : Str), z)])) a (exo a C (some dx)))
section
variable {P : Program} {w0 : World} {K : PySem.W.Frag} {mg : Str → Option Value} {base : Heap}
structure Xt (P : Program) (w0 : World) (K : PySem.W.Frag) (mg : Str → Option Value) (base : Heap) (k : Nat) (x : Str) (C : Addr) : Prop where
  cls : OexC K C
  val : PySem.W.findIn K (.ref C) "value" = some none
  gl : mg x = some (.ref C)
  ex : ∃ (f : Addr) (fd : FuncData), PySem.W.findIn K (.ref C) "__init__" = some (some (.ref f)) ∧ PySem.W.typeIn K (.ref f) = some (.type "function") ∧ FnOk P w0 K mg base CX0 k f fd ["self", "value"] (spXi K) ∧ Binds K fd ["self", "value"] []
end
def tErr (K : PySem.W.Frag) (C : Addr) (ta : TA) (W : WX) : TS := fun _ σ H => tMkO C (spXi K) [] ta σ H fun c d H' => W c d σ H'
theorem ps_err {X : Cx} {W : WX} {x : Str} {C : Addr} {k : Nat} {e : Expr} {es : List Expr} {ta : TA} {p pos pos' : Pos} (d : Xt X.prog X.w X.K X.mg X.base k x C) (hr : Room (k + 1) X.A) (hx : Passes CX0 X (fun _ _ _ => False)) (tk : Takes X W) (ha : PA X (e :: es) ta)
    (hc : X.calm = true := by rfl) (hg : Gl X x := by rfl) (hdb : (x == ("__debug__" : Str)) = false := by decide) (he : starEach (e :: es) X.env = (false, eval e X.env) :: starEach es X.env := by rfl) (hpl : (backTo pos (starEach es X.env)).any (·.1) = false := by rfl) :
    PS X (.Raise (some (.Call (.Name x p) (e :: es) [] pos)) none pos') (tErr X.K C ta W) := by
  obtain ⟨f, fd, h1, h2, F, hb⟩ := d.ex
  exact ps_raise hc tk (pmk_oex d.cls h1 h2 F hr hb .nil hx hg d.gl ha hdb he hpl)
theorem ls_err {w : Wd} {Γ : Env} {S : List Own} {G : GE} {E : XK} {x : KX} {P : Program} {w0 : World} {mg : Str → Option Value} {base : Heap} {k : Nat} {nm : Str} {C : Addr} {ta : TA} (d : Xt P w0 w.K mg base k nm C) (hE : ExOk w E x)
    (h : LA w ta Γ S fun es S1 => ∃ u, es = [.d u] ∧ x C u S1) : LS w (tErr w.K C ta (fun c d _ H => E c d H)) Γ S G := fun D σ R H as rl s e => by
  refine h σ R H as _ rl s fun vs es S1 R1 H1 as1 rl1 s1 p1 e1 ⟨u, q1, q2⟩ => ?_
  subst q1
  match vs, e1 with
  | [z], ⟨hz, _⟩ =>
  have hz' : Den w.K R1 z u := hz
  refine ⟨Nat.le_of_ble_eq_true rfl, fun a ha => ⟨a, C, z, rfl, d.cls, d.val, upd_same, fun dx hdx hne => ⟨rfl, dx, [(("value" : Str), z)], upd_same, ?_, ?_, ?_⟩⟩⟩
  · rw [upd_ne hne, upd_same]
  · rw [upd_ne hne] at hdx; exact hdx
  · have hdx1 : H1 dx = none := by rw [upd_ne hne] at hdx; exact hdx
    have eH : upd (del (upd (upd (upd H1 a (exo a C none)) dx (exd dx [(("value" : Str), z)])) a (exo a C (some dx))) a) dx (.xd [(("value" : Str), z)]) = upd H1 dx (.xd [(("value" : Str), z)]) := by
      funext b
      by_cases hb : b = dx
      · rw [hb, upd_same, upd_same]
      · rw [upd_ne hb, upd_ne hb]
        by_cases hba : b = a
        · rw [hba, del_same, ha]
        · rw [del_ne hba, upd_ne hba, upd_ne hb, upd_ne hba]
    rw [eH]
    obtain ⟨rl2, s2⟩ := rl1.alloc hdx1 (.xd [(("value" : Str), z)])
    exact hE C dx z u S1 _ _ as1 rl2 upd_same (hz'.mono s2) q2

theorem g_VE {X : Cx} {pos : Pos} (hm : X.mg "ValueError" = none) (hg : Gl X "ValueError" := by rfl) : PE X (.Name "ValueError" pos) (tC (.ty "ValueError")) := pe_bltn hg hm PyProof.Rows.Boot.«ValueError» rfl
/-! ### passing on -/
section
variable {P : Program} {w0 : World} {K : PySem.W.Frag} {mg : Str → Option Value} {base : Heap} {N : List Str} {qual : Str} {scope : Scope} {f : Addr} {cdv : Value} {A : Around} {outer : List PySem.Env} {s : Shared} {H : Hp} {E : XK}
theorem takesX : Takes (cxOf (L2.CX P w0) P w0 K mg base N qual scope f cdv A outer s H E) (fun c d _ H => E c d H) := takes_of rfl rfl rfl rfl
theorem passX : Passes (L2.CX P w0) (cxOf (L2.CX P w0) P w0 K mg base N qual scope f cdv A outer s H E) E := passes_call takesX fun _ _ _ _ h => h
end
/-- what a try's body lets out, whatever the names hold -/
def EW (n : Nat) (W : WX) : XK := fun c d H => ∀ σ : St, σ.length = n → W c d σ H
theorem passT {X : Cx} {W : WX} {n : Nat} (tk : Takes X W) (hn : X.N.length = n) : Passes (L2.CX X.prog X.w) X (EW n W) := fun pins σ H s e s' I c =>
  tk e s' (XE.of_call I (fun c d H' h => h σ (I.len.trans hn)) c)
theorem exok_weak {w : Wd} {E : XK} {x x' : KX} (h : ExOk w E x) (q : ∀ C u S, x' C u S → x C u S) : ExOk w E x' := fun C d v u S R H as a b c e => h C d v u S R H as a b c (q C u S e)
/-- a promise with an error -/
def dsX {α : Type} (pre : α → List Ent → List Own → Prop) (post : α → Ent → List Own → Prop) (ex : α → Addr → D → List Own → Prop) : DS := fun es S p x => ∃ a, pre a es S ∧ (∀ e S', post a e S' → p e S') ∧ ∀ C u S', ex a C u S' → x C u S'
section
variable {w : Wd} {S : List Own} {k : KE} {E : XK} {x : KX} {α : Type} {pre : α → List Ent → List Own → Prop} {post : α → Ent → List Own → Prop} {ex : α → Addr → D → List Own → Prop} {es : List Ent}
/-- data alone are handed over and come back -/
theorem r0X (hE : ExOk w E x) (a : α) (hpre : pre a es []) (h : ∀ e S', post a e S' → ∃ d, S' = [] ∧ e = .d d ∧ k (.d d) S) (hx : ∀ C u S', ex a C u S' → S' = [] ∧ x C u S) (hw : es.all (Ent.wf 0) = true := by rfl) : RS w (dsX pre post ex) E es S k := by
  refine rs_call hE [] Pick.nil (ren_wf0 hw) hw ⟨a, hpre, fun e S' q => ?_, fun C u S' q => ?_⟩
  · obtain ⟨d, rfl, rfl, h2⟩ := h e S' q
    refine ⟨[], [], rfl, rfl, by simp, ?_⟩
    show k (.d d) (wb S [] [] ++ [])
    rw [List.append_nil]
    simpa [wb] using h2
  · obtain ⟨rfl, h2⟩ := hx C u S' q
    refine ⟨[], [], rfl, rfl, by simp, ?_⟩
    show x C u (wb S [] [] ++ [])
    rw [List.append_nil]
    simpa [wb] using h2
/-- a new object whose __init__ may raise -/
theorem mk0X {Γ : Env} {C : Addr} {t : TA} (hE : ExOk w E x) (h : LA w t Γ S fun es S1 => es.all (Ent.wf 0) = true ∧ ∃ a, pre a (.own 0 :: es) [.ins C []] ∧ (∀ e S', post a e S' → e = .d .non ∧ ∃ gs, S' = [.ins C gs] ∧ k (.d (.obj C gs)) S1) ∧ ∀ C' u S', ex a C' u S' → S' ≠ [] ∧ x C' u S1) : LE w (tMake C (spD w.K (dsX pre post ex)) [] E t) Γ S k :=
  le_make hE fun σ R H as Q rl s c => h σ R H as Q rl s fun vs es S' R' H' as' a1 a2 a3 a4 ⟨q1, a, q2, q3, q4⟩ => c vs es S' R' H' as' a1 a2 a3 a4 ⟨q1, a, q2, q3, q4⟩
end

/-! ### catching -/
theorem Rel.root {w : Wd} {R H : Hp} {as : List Addr} {S : List Own} (rl : Rel w R H as S) : Rel { w with R0 := R } R H as S :=
  ⟨Sub.refl _, rl.sub, rl.keep, rl.there, rl.pre, fun b o e => .inl e, rl.len, rl.reg, rl.dist⟩
theorem Rel.unroot {w : Wd} {R H R' H' : Hp} {as as' : List Addr} {S S' : List Own} (rl : Rel w R H as S) (r : Rel { w with R0 := R } R' H' as' S') : Rel w R' H' as' S' ∧ Sub R R' := by
  refine ⟨⟨rl.r0.trans r.r0, r.sub, r.keep, r.there, r.pre, fun b o e => ?_, r.len, r.reg, r.dist⟩, r.r0⟩
  rcases r.orig b o e with q | q
  · exact rl.orig b o q
  · exact .inr q
def tTry (K : PySem.W.Frag) (c : Value) (i : Nat) (tb : WX → TS) (ts : Addr → Value → Option Addr → TS) : TS := fun D σ H => tb (wAs K c i ts (fun _ _ _ _ => False) D) D σ H
theorem ps_try {X : Cx} {x n : Str} {c : Value} {i : Nat} {body suite : List Stmt} {b₀ : Stmt} {np pos pos' : Pos} {tb : WX → TS} {ts : Addr → Value → Option Addr → TS} (hN : X.N.Nodup) (hc : Names X x c)
    (hb : ∀ (W : WX) (pn : List (Addr × Obj)) (xe : Value → Shared → Prop), Takes (X.tr pn xe) W → PSs (X.tr pn xe) body (tb W))
    (hsu : ∀ (a : Addr) (oe : Obj) (cls : Value) (d : Option Addr) (pn : List (Addr × Obj)), Zc cls d oe → (∃ vs, oe.data = .fields vs) → PSs (X.suite a ((a, oe) :: pn)) (b₀ :: suite) (ts a cls d))
    (hs : X.stack = X.env :: X.outer := by rfl) (hf : X.env.frame = some X.env.locals := by rfl) (hi : X.N[i]? = some n := by rfl) (hln : X.env.kindOf n = some .local := by rfl) :
    PS X (.Try body [.ExceptHandler (some (.Name x np)) (some n) (b₀ :: suite) pos'] [] [] pos) (tTry X.K c i tb ts) :=
  ps_try_as hs hf hN hi hln hc (takes0 (X := X)) (fun W pn xe tk _ => hb W pn xe tk) hsu
theorem ls_try {w : Wd} {Γ : Env} {S : List Own} {G : GE} {c : Value} {i n : Nat} {tb : WX → TS} {ts : Addr → Value → Option Addr → TS} (x : KX)
    (hb : ∀ (r : Hp) (W : WX), ExOk { w with R0 := r } (EW n W) x → LS { w with R0 := r } (tb W) Γ S G)
    (hs : ∀ C u S1, x C u S1 → PySem.W.exmOne w.K (.ref C) c = some true ∧ ∀ a dd, LS w (ts a (.ref C) (some dd)) ((List.replicate n none).set i (some (.d (.exn a dd u)))) S1
      { nx := fun Γ S => G.nx (Γ.set i none) S, rt := G.rt, bk := fun Γ S => G.bk (Γ.set i none) S, ct := fun Γ S => G.ct (Γ.set i none) S }) (hn : Γ.length = n) : LS w (tTry w.K c i tb ts) Γ S G := fun D σ R H as rl s e => by
  refine hb R _ ?_ D σ R H as rl.root s ⟨fun Γ' S' σ' R' H' as' u a b q => e.nx Γ' S' σ' R' H' as' u (rl.unroot a).1 b q, fun v y S' R' H' as' u a b q => e.rt v y S' R' H' as' u (rl.unroot a).1 b q,
    fun Γ' S' σ' R' H' as' u a b q => e.bk Γ' S' σ' R' H' as' u (rl.unroot a).1 b q, fun Γ' S' σ' R' H' as' u a b q => e.ct Γ' S' σ' R' H' as' u (rl.unroot a).1 b q⟩
  intro C d v u S1 R1 H1 as1 rl1 hd hv hx σ1 hl
  obtain ⟨h1, h2⟩ := hs C u S1 hx
  obtain ⟨rl2, sb⟩ := rl.unroot rl1
  refine ⟨true, h1, fun _ a ha => ?_, fun z => Bool.noConfusion z⟩
  have st0 : Sts w.K R1 as1 σ1 (List.replicate n none) := ⟨by rw [List.length_replicate]; exact hl, fun j y q => by
    rw [List.getElem?_replicate] at q
    split at q <;> cases q⟩
  have st1 : Sts w.K R1 as1 (σ1.set i (some (.ref a))) ((List.replicate n none).set i (some (.d (.exn a d u)))) := st0.set i (Den.exn hd hv)
  have e2 := e.up sb
  refine h2 a d _ _ R1 H1 as1 rl2 st1 ⟨fun Γ' S' σ' R' H' as' u a b q => ?_, e2.rt, fun Γ' S' σ' R' H' as' u a b q => ?_, fun Γ' S' σ' R' H' as' u a b q => ?_⟩
  · exact e2.nx _ S' _ R' H' as' u a (b.wipe1 i) q
  · exact e2.bk _ S' _ R' H' as' u a (b.wipe1 i) q
  · exact e2.ct _ S' _ R' H' as' u a (b.wipe1 i) q

/-! ### asking a caught error -/
def rIsX (K : PySem.W.Frag) (a : Addr) (cls : Value) (d : Option Addr) : List V → Hp → VK → Prop := fun xs H Q => ∃ (C dd : Addr) (fs : List (Str × V)) (b : Bool), cls = .ref C ∧ d = some dd ∧ H dd = some (.xd fs) ∧ ExcC K C ∧
  ((∃ c cv, xs = [.ref a, c] ∧ ClsV c cv ∧ PySem.W.kitOne K (.ref C) cv = some b) ∨ ∃ tp cs us, xs = [.ref a, .ref tp] ∧ H tp = some (.tup cs) ∧ Paired ClsV cs us ∧ PySem.W.kitAny K (.ref C) us = some b) ∧ Q (.bl b) H
theorem inst_of {X : Cx} {a C dd : Addr} {oe : Obj} {pn pins : List (Addr × Obj)} {σ : St} {H : Hp} {s : Shared} {fs : List (Str × V)} (I : Inv (X.suite a ((a, oe) :: pn)) pins σ H s) (hz : Zc (.ref C) (some dd) oe) (hf : ∃ vs, oe.data = .fields vs) (hd : H dd = some (.xd fs)) :
    ∃ (od : Obj) (mA : Str → Option Value), PySem.W.InstAt s.heap a oe C (some od) ∧ (∀ nm, PySem.W.lookIn nm od = some (mA nm)) ∧ ∀ f, RelO (fs.lookup f) (mA f) := by
  obtain ⟨g, _⟩ := I.pin (a, oe) (List.mem_append_left _ List.mem_cons_self)
  obtain ⟨vs, hv⟩ := hf
  obtain ⟨mA, hns, hr⟩ := (show ObjOk X.prog X.w H s.heap dd (.xd fs) from I.hok dd _ hd)
  obtain ⟨od, ho, hl⟩ := lookIn_ns hns
  exact ⟨od, mA, ⟨g, hz.1, by unfold PySem.W.notCls; rw [hv] <;> rfl, by rw [hz.2]; exact ho⟩, hl, hr⟩
theorem call_isX {X : Cx} {a : Addr} {oe : Obj} {cls : Value} {d : Option Addr} {pn : List (Addr × Obj)} (hz : Zc cls d oe) (hf : ∃ vs, oe.data = .fields vs) : CallR (X.suite a ((a, oe) :: pn)) (.builtin "isinstance") (rIsX X.K a cls d) := by
  intro pins s σ H xs us Q I r h
  obtain ⟨C, dd, fs, b, rfl, rfl, hd, hC, hk, q⟩ := h
  obtain ⟨od, mA, J, _, _⟩ := inst_of I hz hf hd
  have hcl : (PySem.W.clsIn X.K C).isSome = true := by
    obtain ⟨cd, hc, _⟩ := PySem.W.any_some hC.hd
    rw [hc]; rfl
  have Z := PySem.W.kitx_exc (x := a) (ox := oe) (od := some od) hcl hC.hg hC.hk hC.hs hC.ha hC.hn hC.ht hC.hm
  rcases hk with ⟨c, cv, rfl, hc, e⟩ | ⟨tp, cs, ws, rfl, hT, hc, e⟩
  · obtain ⟨u1, u2, rfl, r1, r2⟩ := vals2 r
    cases (show u1 = Value.ref a from r1)
    have e2 := hc.eq r2
    subst e2
    exact PySem.W.kia_one Z I.kIn J e (fun z => nomatch z) fun tk => ⟨.bl b, H, I.kept (t' := tk) fun _ _ z => z, rfl, q⟩
  · obtain ⟨u1, u2, rfl, r1, r2⟩ := vals2 r
    cases (show u1 = Value.ref a from r1)
    cases (show u2 = Value.ref tp from r2)
    obtain ⟨_, its, rv, o, h1, h2, n, h3⟩ := (show ObjOk X.prog X.w H s.heap tp (.tup cs) from I.hok tp _ hT)
    have e3 := ClsV.all hc rv
    subst e3
    obtain ⟨oc, od, dt, sl⟩ := o
    simp only at h2 h3
    subst h2 h3
    exact PySem.W.kia_tup Z I.kIn J h1 e (fun z => nomatch z) fun tk => ⟨.bl b, H, I.kept (t' := tk) fun _ _ z => z, rfl, q⟩
theorem b_isX {X : Cx} {a : Addr} {oe : Obj} {cls : Value} {d : Option Addr} {pn : List (Addr × Obj)} {e1 e2 : Expr} {te1 te2 : TE} {p pos : Pos} (K : PySem.W.Frag) (hz : Zc cls d oe) (hf : ∃ vs, oe.data = .fields vs) (hm : X.mg "isinstance" = none) (h1 : PE (X.suite a ((a, oe) :: pn)) e1 te1) (h2 : PE (X.suite a ((a, oe) :: pn)) e2 te2)
    (hg : Gl X "isinstance" := by rfl) (hs : starEach [e1, e2] X.env = (false, eval e1 X.env) :: starEach [e2] X.env := by rfl) (hs2 : starEach [e2] X.env = (false, eval e2 X.env) :: starEach [] X.env := by rfl) (hpl : (backTo pos (starEach [e2] X.env)).any (·.1) = false := by rfl) (hK : X.K = K := by rfl) :
    PE (X.suite a ((a, oe) :: pn)) (.Call (.Name "isinstance" p) [e1, e2] [] pos) (tCB (rIsX K a cls d) (tCons te1 (tCons te2 tNil))) := by
  subst hK
  exact pe_callB (X := X.suite a ((a, oe) :: pn)) (call_isX hz hf) hg hm (by decide +kernel) (pa_cons h1 (pa_cons h2 pa_nil hs2) hs) (he := hs) (hpl := hpl)
def tXv (K : PySem.W.Frag) (a : Addr) (cls : Value) (d : Option Addr) (f : Str) (te : TE) : TE := fun σ H Q => te σ H fun x H1 => x = .ref a ∧ ∃ (C dd : Addr) (fs : List (Str × V)) (v : V), cls = .ref C ∧ XfC K C ∧ PySem.W.findIn K (.ref C) f = some none ∧ d = some dd ∧ H1 dd = some (.xd fs) ∧ fs.lookup f = some v ∧ Q v H1
theorem pe_xv {X : Cx} {a : Addr} {oe : Obj} {cls : Value} {d : Option Addr} {pn : List (Addr × Obj)} {e : Expr} {te : TE} {pos : Pos} {n : Str} (K : PySem.W.Frag) (hz : Zc cls d oe) (hf : ∃ vs, oe.data = .fields vs) (he : PE (X.suite a ((a, oe) :: pn)) e te)
    (hb : attributeBase e n X.env (eval e X.env) = eval e X.env := by rfl) (hK : X.K = K := by rfl) : PE (X.suite a ((a, oe) :: pn)) (.Attribute e n pos) (tXv K a cls d n te) := by
  subst hK
  refine ⟨fun pins s σ H Q I h => attr_of hb (thn (he.run pins s σ H _ I h) fun u s1 hh => ?_)⟩
  obtain ⟨x, H1, I1, rx, rfl, C, dd, fs, v, rfl, T, hno, rfl, ea, l, q⟩ := hh
  cases (show u = Value.ref a from rx)
  obtain ⟨od, mA, J, hl, hr⟩ := inst_of I1 hz hf ea
  obtain ⟨z, hu, ru⟩ := RelO.some_of (v := v) (o := mA n) (by rw [← l]; exact hr n)
  exact HandSPX.exc_get I1.kIn J T.ga T.gg T.exC (PySem.W.findObj_own T.hdC hno rfl (by rw [hl, hu])) (handed_of ru) ⟨v, H1, I1.tok _, ru, q⟩
section
variable {w : Wd} {Γ : Env} {S : List Own} {k : KE} {a dd C : Addr} {u : D} {te : TE}
theorem xd_at {R H : Hp} {as : List Addr} {v : V} (rl : Rel w R H as S) (h : EntOk w.K R as v (.d (.exn a dd u))) : v = .ref a ∧ ∃ z, H dd = some (.xd [(("value" : Str), z)]) ∧ Den w.K R z u := by
  have h' : Den w.K R v (.exn a dd u) := h
  cases h' with
  | exn h1 h2 => exact ⟨rfl, _, rl.sub _ _ h1, h2⟩
def clsD : D → Option Value
  | .cls C => some (.ref C)
  | .ty n => some (.type n)
  | _ => none
theorem clsD_v {K : PySem.W.Frag} {R : Hp} {v : V} {c : D} {cv : Value} (h : Den K R v c) (e : clsD c = some cv) : ClsV v cv := by
  cases h with
  | cls C => cases e; exact .own C
  | ty n => cases e; exact .ty n
  | _ => cases e
def clsDs : List D → Option (List Value)
  | [] => some []
  | c :: cs => (clsD c).bind fun v => (clsDs cs).map (v :: ·)
theorem clsDs_v {K : PySem.W.Frag} {R : Hp} : ∀ {vs : List V} {cs : List D} {cvs : List Value}, Dens K R vs cs → clsDs cs = some cvs → Paired ClsV vs cvs
  | _, _, _, .nil, e => by cases e; exact .nil
  | _, _, _, .cons (d := c) (ds := cs) h t, e => by
    simp only [clsDs, Option.bind_eq_some_iff, Option.map_eq_some_iff] at e
    obtain ⟨y, h1, ys, h2, h3⟩ := e
    subst h3
    exact .cons (clsD_v h h1) (clsDs_v t h2)
theorem rc_isX {c : D} {cv : Value} {b : Bool} (hC : ExcC w.K C) (hc : clsD c = some cv) (hk : PySem.W.kitOne w.K (.ref C) cv = some b) (q : k (.d (.bl b)) S) : RC w (rIsX w.K a (.ref C) (some dd)) [.d (.exn a dd u), .d c] S k := fun R H as us Q rl hu cn => by
  match us, hu with
  | [v, z], ⟨h1, h2, _⟩ =>
    obtain ⟨rfl, y, h3, _⟩ := xd_at rl h1
    exact ⟨C, dd, _, b, rfl, rfl, h3, hC, .inl ⟨z, cv, rfl, clsD_v h2 hc, hk⟩, cn _ _ S R H as rl (Sub.refl _) (Pre.refl _) (ok_d (Den.bl b)) q⟩
theorem rc_isXT {cs : List D} {cvs : List Value} {b : Bool} (hC : ExcC w.K C) (hc : clsDs cs = some cvs) (hk : PySem.W.kitAny w.K (.ref C) cvs = some b) (q : k (.d (.bl b)) S) : RC w (rIsX w.K a (.ref C) (some dd)) [.d (.exn a dd u), .d (.tup cs)] S k := fun R H as us Q rl hu cn => by
  match us, hu with
  | [v, z], ⟨h1, h2, _⟩ =>
    obtain ⟨rfl, y, h3, _⟩ := xd_at rl h1
    have h2' : Den w.K R z (.tup cs) := h2
    cases h2' with
    | tup h4 h5 => exact ⟨C, dd, _, b, rfl, rfl, h3, hC, .inr ⟨_, _, cvs, rfl, rl.sub _ _ h4, clsDs_v h5 hc, hk⟩, cn _ _ S R H as rl (Sub.refl _) (Pre.refl _) (ok_d (Den.bl b)) q⟩
theorem le_xv (hX : XfC w.K C) (hno : PySem.W.findIn w.K (.ref C) "value" = some none) (h : LE w te Γ S fun e S1 => e = .d (.exn a dd u) ∧ k (.d u) S1) : LE w (tXv w.K a (.ref C) (some dd) "value" te) Γ S k := fun σ R H as Q rl s c =>
  h σ R H as _ rl s fun v e S1 R1 H1 as1 rl1 s1 p1 e1 ⟨h1, h2⟩ => by
    subst h1
    obtain ⟨rfl, z, h3, h4⟩ := xd_at rl1 e1
    exact ⟨rfl, C, dd, _, z, rfl, hX, hno, rfl, h3, by simp, c _ _ S1 R1 H1 as1 rl1 s1 p1 (ok_d h4) h2⟩
end
end Gm
/-! dicts of the module, least and greatest, enumerate, comprehensions over displays -/
namespace Gm
open PySem L2

/-! ### d.get(k) of a written dict -/
structure KD (K : PySem.W.Frag) (w0 : World) (a : Addr) : Prop where
  ex : ∃ es n, K.lookup a = some ⟨.type "dict", none, .dict es n, #[]⟩ ∧ PySem.W.KeysLit w0.params es.toList
  sys : (a == sysModules) = false
structure KGet (K : PySem.W.Frag) (a : Addr) (x : Str) (v : V) : Prop where
  ex : ∃ u : Option Value, PySem.W.nsIn K a x = some u ∧ RelV v (u.getD .none)
def tKGet (K : PySem.W.Frag) (w0 : World) (td ty : TE) : TE := fun σ H Q => td σ H fun x H1 => ∃ a, x = .ref a ∧ KD K w0 a ∧ ty σ H1 fun y H2 => ∃ z v, y = .str z ∧ KGet K a z v ∧ Q v H2
section
variable {X : Cx} {o e : Expr} {apos cpos : Pos} {td ty : TE}
theorem pe_kget (ho : PE X o td) (he : PE X e ty)
    (hb : attributeBase o "get" X.env (eval o X.env) = eval o X.env := by rfl)
    (hfew : ((backTo cpos (starEach [e] X.env)).all (fun x => !x.1) && (backToKw cpos (keywordEach [] X.env)).all (fun x => x.1.isSome)
      && decide (([e] : List Expr).length + ([] : List Keyword).length + (if ([] : List Keyword).isEmpty then 0 else 1) < 30)) = true := by rfl)
    (hline : (apos.endLine == cpos.line) = true := by rfl)
    (htrees : backTo cpos (starEach [e] X.env) = [(false, eval e X.env)] := by rfl) :
    PE X (.Call (.Attribute o "get" apos) [e] [] cpos) (tKGet X.K X.w td ty) := by
  refine ⟨fun pins s σ H Q I h => ?_⟩
  refine wpAny_Call_method hb hfew hline PySem.F.plainAttrs_dict PySem.F.slot_dict_get PySem.F.type_dict_get (thn (ho.run pins s σ H _ I h) fun u s1 ⟨x, H1, I1, rx, a, ex, d, q1⟩ => ?_)
  subst ex
  obtain rfl : u = Value.ref a := rx
  obtain ⟨⟨es, n, hl, hk⟩, hsys⟩ := d
  have hm := PySem.W.mapOf_K (prog := X.prog) (w := X.w) I1.kIn hl hk
  refine ⟨hm.typeIs, hm.noDict, ?_⟩
  rw [htrees]
  refine Calls.callWith_builtin rfl (Calls.evalArgs_plain (Calls.spliced_cons (thn (he.run pins s1 σ H1 _ I1 q1) fun iv s2 ⟨y, H2, I2, ry, z, v, ey, g, q2⟩ => Calls.spliced_nil ?_)))
  subst ey
  obtain ⟨t, rfl⟩ := (show ∃ t, iv = Value.str z t from ry)
  obtain ⟨u, h1, h2⟩ := g.ex
  have hm2 := PySem.W.mapOf_K (prog := X.prog) (w := X.w) I2.kIn hl hk
  refine call_meetsIn PySem.F.slot_dict_get hm2.typeIs PySem.F.entry_dict_get (PySem.F.args_dict_get_2 _ _) (meets_dict_get (strKind X.prog X.w) a (strKind_is X.prog X.w z t) hsys) ⟨_, hm2, ⟨v, H2, I2.tok _, ?_, q2⟩⟩
  rw [PySem.W.find_K hl h1]
  exact h2
end
section
variable {w : Wd} {Γ : Env} {S : List Own} {k : KE} {ta tb te : TE}
theorem den_flat {K : PySem.W.Frag} {R : Hp} {v : V} {d : D} (h : flatD d = some v) : Den K R v d := by
  cases d <;> simp [flatD] at h <;> subst h <;> constructor
theorem le_kget {w0 : World} (h : LE w ta Γ S fun x S1 => ∃ a, x = .d (.cls a) ∧ KD w.K w0 a ∧ LE w tb Γ S1 fun y S2 => ∃ z v d, y = .d (.str z) ∧ KGet w.K a z v ∧ flatD d = some v ∧ k (.d d) S2) : LE w (tKGet w.K w0 ta tb) Γ S k := fun σ R H as Q rl s c => by
  refine h σ R H as _ rl s fun u x S1 R1 H1 as1 rl1 s1 p1 e1 ⟨a, hx, hd, h1⟩ => ?_
  subst hx
  cases e1
  refine ⟨a, rfl, hd, h1 σ R1 H1 as1 _ rl1 (s.mono s1 p1) fun y e S2 R2 H2 as2 rl2 s2 p2 e2 ⟨z, v, d, hy, hg, hf, hk⟩ => ?_⟩
  subst hy
  cases e2
  exact ⟨z, v, rfl, hg, c _ _ S2 R2 H2 as2 rl2 (s1.trans s2) (p1.trans p2) (ok_d (den_flat hf)) hk⟩
end

/-! ### min, max -/
def gMinT (K : PySem.W.Frag) : List V → Hp → VK → Prop := fun vs H Q => ∃ (a : Addr) (n : Int) (ns : List Int), vs = [V.ref a] ∧ SqT K H a ((n :: ns).map V.int) ∧ Q (.int (ns.foldl min n)) H
theorem reads_ints (h : Heap) : ∀ {vs : List Value} {ns : List Int}, Vals (ns.map V.int) vs → ReadsAll h vs (ns.map PyData.int) []
  | _, [], .nil => .nil
  | _, n :: ns, .cons r t => by
    obtain ⟨k, rfl⟩ := r
    exact ReadsAll.cons (as := []) (bs := []) (.int n k) (reads_ints h t)
theorem alike_ints (ns : List Int) : PySem.W.AlikeAll (ns.map PyData.int) := by
  constructor
  · intro x hx y hy
    obtain ⟨a, _, rfl⟩ := List.mem_map.mp hx
    obtain ⟨b, _, rfl⟩ := List.mem_map.mp hy
    rfl
  · intro x hx z
    obtain ⟨a, _, rfl⟩ := List.mem_map.mp hx
    cases z
section
variable {X : Cx}
theorem c_minT (hc : X.calm = true) (hu : X.A.units + 1 < cLine) : CallR X (.builtin "min") (gMinT X.K) := by
  intro pins s σ H vs us Q I r h
  obtain ⟨a, n, ns, rfl, hs, q⟩ := h
  obtain ⟨its, rv, p, hz⟩ := I.tuple hs
  rw [Vals.ref1 r]
  have rr : ReadsAll s.heap its.toArray.toList (PyData.int n :: ns.map PyData.int) [] := reads_ints s.heap (ns := n :: ns) rv
  refine PySem.W.min_tuple_data (I.ok.hd hc) p rr (alike_ints (n :: ns)) ?_ fun i v h' tk bs hi hr hk => ?_
  · rw [show PyData.depthAll (PyData.int n :: ns.map PyData.int) = 0 from depth_ints (n :: ns)]; exact hu
  · rw [PySem.W.minD_ints] at hr
    cases hr
    exact ⟨.int _, H, I.kept hk, ⟨_, rfl⟩, q⟩
end
section
variable {w : Wd} {Γ : Env} {S : List Own} {k : KE} {ta tb te : TE} {G : GE} {t1 t2 : TS}
theorem lst_ints {K : PySem.W.Frag} {R H : Hp} {x : Ent} {s : List Int} {v : V} {as : List Addr} (hx : IsLst x S (s.map D.int)) (rl : Rel w R H as S) (e : EntOk w.K R as v x) : ∃ a, v = .ref a ∧ SqL w.K H a (s.map V.int) := by
  obtain ⟨a, vs, q1, q2, q3⟩ := isLst_at hx rl e
  have := q3.ints
  subst this
  exact ⟨a, q1, SqL.of q2⟩
theorem rc_minL {x : Ent} {s : List Int} (hx : IsLst x S (s.map D.int)) (hs : 0 < s.length) (q : ∀ m, m ∈ s → (∀ y ∈ s, m ≤ y) → k (.d (.int m)) S) : RC w (rMin w.K) [x] S k := fun R H as us Q rl hu c => by
  obtain ⟨v, rfl, hv⟩ := one_ent hu
  obtain ⟨a, rfl, h⟩ := lst_ints (K := w.K) hx rl hv
  exact ⟨a, s, rfl, h, hs, fun m h1 h2 => c _ _ S R H as rl (Sub.refl _) (Pre.refl _) (ok_d (Den.int m)) (q m h1 h2)⟩
theorem rc_maxL {x : Ent} {s : List Int} (hx : IsLst x S (s.map D.int)) (hs : 0 < s.length) (q : ∀ m, m ∈ s → (∀ y ∈ s, y ≤ m) → k (.d (.int m)) S) : RC w (rMax w.K) [x] S k := fun R H as us Q rl hu c => by
  obtain ⟨v, rfl, hv⟩ := one_ent hu
  obtain ⟨a, rfl, h⟩ := lst_ints (K := w.K) hx rl hv
  exact ⟨a, s, rfl, h, hs, fun m h1 h2 => c _ _ S R H as rl (Sub.refl _) (Pre.refl _) (ok_d (Den.int m)) (q m h1 h2)⟩
theorem rc_minT {n : Int} {ns : List Int} (q : k (.d (.int (ns.foldl min n))) S) : RC w (gMinT w.K) [.d (.tup ((n :: ns).map D.int))] S k := fun R H as us Q rl hu c => by
  obtain ⟨v, rfl, hv⟩ := one_ent hu
  cases hv with
  | tup ha hd =>
    have := Dens.ints (ns := n :: ns) hd
    subst this
    exact ⟨_, n, ns, rfl, SqT.of (rl.sub _ _ ha), c _ _ S R H as rl (Sub.refl _) (Pre.refl _) (ok_d (Den.int _)) q⟩
/-- tuple(..) -/
def gTupl (K : PySem.W.Frag) : List V → Hp → VK → Prop := fun xs H Q => ∃ p ys, xs = [.ref p] ∧ ((SqL K H p ys ∧ ∀ l, H l = none → Q (.ref l) (upd H l (.tup ys))) ∨ (SqT K H p ys ∧ Q (.ref p) H))
theorem c_tuple {X : Cx} : CallR X (.type "tuple") (gTupl X.K) := call_tuple_of
theorem rc_tupleL {x : Ent} {ds : List D} (hx : IsLst x S ds) (q : k (.d (.tup ds)) S) : RC w (gTupl w.K) [x] S k := fun R H as us Q rl hu c => by
  obtain ⟨v, rfl, hv⟩ := one_ent hu
  obtain ⟨a, vs, rfl, q2, q3⟩ := isLst_at hx rl hv
  refine ⟨a, vs, rfl, .inl ⟨SqL.of q2, fun l hl => ?_⟩⟩
  obtain ⟨rl2, s2⟩ := rl.alloc hl (.tup vs)
  exact c _ _ S _ _ as rl2 s2 (Pre.refl _) (ok_d (Den.tup upd_same (q3.mono s2))) q
theorem for_enum {K : PySem.W.Frag} {a : Addr} {g : TG} {tb : TS} {D : Ends} {σ : St} {H : Hp} (n : Nat) (Pv : Nat → St → Hp → Prop) (h0 : Pv 0 σ H) (hl : ∀ i σ H, i ≤ n → Pv i σ H → ∃ xs, SqL K H a xs ∧ xs.length = n)
    (hs : ∀ i σ H T x, i < n → Pv i σ H → (∀ xs, SqL K H a xs → xs[i]? = some x) → H T = none → g (.ref T) σ (upd H T (.tup [.int (i : Nat), x])) fun σ2 H2 => tb { D with nx := Pv (i + 1), ct := Pv (i + 1), bk := D.nx } σ2 H2) (hd : ∀ σ H, Pv n σ H → D.nx σ H) :
    ∃ W : Nat → Nat → St → Hp → Prop, (∃ m, W 0 m σ H) ∧ ∀ i m σ H, W i m σ H →
      ((Ite K a).stop i H ∧ D.nx σ H) ∨ ((Ite K a).go i H ∧ ∃ N : St → Hp → Prop, (∀ σ' H', N σ' H' → ∃ m', m' < m ∧ W (i + 1) m' σ' H') ∧ ∀ x H', (Ite K a).yld i H x H' → g x σ H' fun σ2 H2 => tb { D with nx := N, ct := N, bk := D.nx } σ2 H2) := by
  refine ⟨fun i m σ H => i ≤ n ∧ m = n - i ∧ Pv i σ H, ⟨n, Nat.zero_le _, rfl, h0⟩, fun i m σ H ⟨hi, hm, hP⟩ => ?_⟩
  obtain ⟨xs, hq, hx⟩ := hl i σ H hi hP
  by_cases h : i = n
  · subst h
    exact .inl ⟨⟨xs, hq, by omega⟩, hd σ H hP⟩
  · have hlt : i < n := by omega
    refine .inr ⟨⟨xs, xs[i]'(by omega), hq, List.getElem?_eq_getElem _⟩, Pv (i + 1), fun σ' H' hp => ⟨n - (i + 1), by omega, by omega, rfl, hp⟩, ?_⟩
    rintro x H' ⟨T, y, rfl, hT, rfl, hy⟩
    exact hs i σ H T y hlt hP hy hT
/-! ### for i, x in enumerate(xs) -/
def IsLstB (w : Wd) (x : Ent) (S : List Own) (ds : List D) : Prop := x = .d (.lst ds) ∨ ∃ i, x = .own i ∧ i < w.as0.length ∧ S[i]? = some (.lst ds)
theorem IsLstB.is {x : Ent} {ds : List D} (h : IsLstB w x S ds) : IsLst x S ds := by
  rcases h with h | ⟨i, h1, _, h2⟩
  · exact .inl h
  · exact .inr ⟨i, h1, h2⟩
theorem ls_forE {t : TA} {g : TG} (h : LA w t Γ S fun es S1 => ∃ x ds, es = [x] ∧ IsLstB w x S1 ds ∧ ∃ I : Nat → Env → List Own → Prop, I 0 Γ S1 ∧ (∀ i Γ1 S2, I i Γ1 S2 → IsLstB w x S2 ds) ∧
    (∀ i d Γ1 S2, ds[i]? = some d → I i Γ1 S2 → LG w g (.d (.tup [.int i, d])) Γ1 S2 fun Γ2 S3 => LS w t1 Γ2 S3 { G with nx := I (i + 1), ct := I (i + 1), bk := G.nx }) ∧ (∀ Γ1 S2, I ds.length Γ1 S2 → G.nx Γ1 S2)) : LS w (tFor (iEnum w.K t) g t1) Γ S G := fun D σ R H as rl s e => by
  refine h σ R H as _ rl s fun vs es S1 R1 H1 as1 rl1 s1 p1 e1 ⟨x, ds, h1, hx, I, i0, hI, is, iE⟩ => ?_
  subst h1
  obtain ⟨v, rfl, hv⟩ := one_ent e1
  obtain ⟨a, rfl, ha, back⟩ : ∃ a, v = .ref a ∧ (∃ xs, SqL w.K H1 a xs) ∧ ∀ (R' H' : Hp) (as' : List Addr) (S' : List Own), Sub R1 R' → Rel w R' H' as' S' → IsLstB w x S' ds → ∃ us, SqL w.K H' a us ∧ us.length = ds.length ∧ Dens w.K R' us ds := by
    rcases hx with rfl | ⟨i, rfl, hi, hS⟩
    · cases hv with
      | lst hR hD => exact ⟨_, rfl, ⟨_, SqL.of (rl1.sub _ _ hR)⟩, fun R' H' as' S' sb r' _ => ⟨_, SqL.of (r'.sub _ _ (sb _ _ hR)), hD.len, hD.mono sb⟩⟩
    · obtain ⟨a, vs, q1, q2, q3⟩ := isLst_at (.inr ⟨i, rfl, hS⟩) rl1 hv
      refine ⟨a, q1, ⟨vs, SqL.of q2⟩, fun R' H' as' S' sb r' hx' => ?_⟩
      obtain ⟨b, hb, hv'⟩ := hv
      have ea : w.as0[i]? = some a := by
        obtain ⟨c, hc⟩ : ∃ c, w.as0[i]? = some c := ⟨_, List.getElem?_eq_getElem hi⟩
        have := rl1.pre i c hc
        rw [hb] at this
        cases this
        rw [q1] at hv'; cases hv'; exact hc
      rcases hx' with z | ⟨j, z, hj, hS'⟩
      · cases z
      · cases z
        obtain ⟨c, us, w1, w2, w3⟩ := isLst_at (.inr ⟨i, rfl, hS'⟩) r' (show EntOk w.K R' as' (.ref a) (.own i) from ⟨a, r'.pre i a ea, rfl⟩)
        cases w1
        exact ⟨us, SqL.of w2, w3.len, w3⟩
  obtain ⟨xs0, hx0⟩ := ha
  refine ⟨a, xs0, rfl, hx0, ?_⟩
  refine for_enum ds.length (fun i σ' H' => ∃ Γ' S' R' as', Sub R1 R' ∧ Rel w R' H' as' S' ∧ Sts w.K R' as' σ' Γ' ∧ I i Γ' S') ⟨Γ, S1, R1, as1, Sub.refl _, rl1, s.mono s1 p1, i0⟩ ?_ ?_ ?_
  · rintro i σ2 H2 hi ⟨Γ2, S2, R2, as2, u2, rl2, st2, i2⟩
    obtain ⟨us, h1, h2, h4⟩ := back R2 H2 as2 S2 u2 rl2 (hI i Γ2 S2 i2)
    exact ⟨us, h1, h2⟩
  · rintro i σ2 H2 T x hi ⟨Γ2, S2, R2, as2, u2, rl2, st2, i2⟩ hq hT
    obtain ⟨us, h1, h2, h4⟩ := back R2 H2 as2 S2 u2 rl2 (hI i Γ2 S2 i2)
    obtain ⟨d, hd1, hd2⟩ := h4.get2 (hq us h1)
    obtain ⟨rl3, s3⟩ := rl2.alloc hT (.tup [.int (i : Nat), x])
    refine is i d Γ2 S2 hd1 i2 _ σ2 _ _ as2 _ rl3 (st2.mono s3 (Pre.refl _)) (ok_d (Den.tup upd_same (.cons (.int _) (.cons (hd2.mono s3) .nil)))) fun Γ3 S3 σ3 R3 H3 as3 rl4 s4 p4 st4 q => ?_
    have up := (u2.trans s3).trans s4
    have e2 := e.up (s1.trans up)
    exact q _ σ3 R3 H3 as3 rl4 st4 ⟨fun Γ' S' σ' R' H' as' u a b hi => ⟨Γ', S', R', as', up.trans u, a, b, hi⟩, e2.rt, e2.nx, fun Γ' S' σ' R' H' as' u a b hi => ⟨Γ', S', R', as', up.trans u, a, b, hi⟩⟩
  · rintro σ2 H2 ⟨Γ2, S2, R2, as2, u2, rl2, st2, i2⟩
    exact e.nx Γ2 S2 σ2 R2 H2 as2 (s1.trans u2) rl2 st2 (iE Γ2 S2 i2)
end
/-! ### two ways that go on alike -/
section
variable {w : Wd} {Γ : Env} {S : List Own} {G : GE} {t1 t2 : TS}
theorem ls_nx (M : Env → List Own → Prop) (h : LS w t1 Γ S { G with nx := M }) (q : ∀ Γ1 S1, M Γ1 S1 → G.nx Γ1 S1) : LS w t1 Γ S G := fun D σ R H as rl s e =>
  h D σ R H as rl s ⟨fun Γ1 S1 σ1 R1 H1 as1 u r1 s1 z => e.nx Γ1 S1 σ1 R1 H1 as1 u r1 s1 (q Γ1 S1 z), e.rt, e.bk, e.ct⟩
theorem ls_ifB {c : TT} (b : Bool) (h : LT w c Γ S fun b' S1 => b' = b ∧ S1 = S) (h1 : b = true → LS w t1 Γ S G) (h2 : b = false → LS w t2 Γ S G) : LS w (tIfS c t1 t2) Γ S G :=
  ls_if fun σ R H as Q rl s k => h σ R H as Q rl s fun b' S1 R1 H1 as1 a1 a2 a3 ⟨e1, e2⟩ => k b' S1 R1 H1 as1 a1 a2 a3 (by subst e1 e2; exact ⟨h1, h2⟩)
theorem if_join {a b : Prop} (M : Env → List Own → Prop) (h1 : a → LS w t1 Γ S { G with nx := M }) (h2 : b → LS w t2 Γ S { G with nx := M }) (q : ∀ Γ1 S1, M Γ1 S1 → G.nx Γ1 S1) : (a → LS w t1 Γ S G) ∧ (b → LS w t2 Γ S G) :=
  ⟨fun z => ls_nx M (h1 z) q, fun z => ls_nx M (h2 z) q⟩
end
/-! ### [e(v) for v in xs], xs data of some kind -/
section
variable {w : Wd} {Γ : Env} {S : List Own} {k : KE} {ta tb te : TE}
theorem le_lcLM {α : Type} {tl : TE} {v : Nat} {tt : TT} (f F : α → D) (h : LE w tl Γ S fun e S1 => ∃ xs : List α, e = .d (.lst (xs.map f)) ∧ xs.length ≤ sizeLine ∧ (∀ x acc, x ∈ xs → LcD w Γ v tt te (f x) (S1 ++ [.lst acc]) (F x)) ∧ k (.d (.lst (xs.map F))) S1) : LE w (tLc (iList w.K tl) (gName v) tt te [v]) Γ S k := by
  refine le_lcL (le_mono h fun e S1 ⟨xs, h1, h2, h3, h4⟩ => ⟨xs.map f, h1, fun i acc S2 => S2 = S1 ∧ acc = (xs.take i).map F, ⟨rfl, rfl⟩, ?_, ?_⟩)
  · rintro i d acc _ hd _ ⟨rfl, rfl⟩
    rw [List.getElem?_map] at hd
    obtain ⟨x, hx, rfl⟩ := Option.map_eq_some_iff.mp hd
    obtain ⟨hi, he⟩ := List.getElem?_eq_some_iff.mp hx
    refine lcd_turn (h3 x _ (List.mem_of_getElem? hx)) (by rw [List.length_map, List.length_take]; omega) ⟨rfl, ?_⟩
    rw [List.take_succ_eq_append_getElem hi, List.map_append, he]; rfl
  · rintro acc _ ⟨rfl, rfl⟩
    rw [List.length_map, List.take_length]
    exact h4
end
/-! ### [.. for v in [a, b, ..]] over things of any kind -/
section
variable {w : Wd} {Γ : Env} {S : List Own} {k : KE} {ta tb te : TE}
def LcE (w : Wd) (Γ : Env) (v : Nat) (tt : TT) (te : TE) (x : Ent) (acc : List D) (S2 : List Own) (N : List D → List Own → Prop) : Prop :=
  LT w tt (Γ.set v (some x)) (S2 ++ [.lst acc]) fun b S3 =>
    (b = true → LE w te (Γ.set v (some x)) S3 fun e S4 => ∃ d S5, e = .d d ∧ S4 = S5 ++ [.lst acc] ∧ S5.length = S2.length ∧ acc.length < sizeLine ∧ N (acc ++ [d]) S5) ∧
    (b = false → ∃ S5, S3 = S5 ++ [.lst acc] ∧ S5.length = S2.length ∧ N acc S5)
theorem lc_turnE {v : Nat} {tt : TT} {σ : St} {R1 R2 H2 : Hp} {as1 as2 : List Addr} {S2 : List Own} {acc : List D} {x : Ent} {u : V} {Dl : Addr} {N : List D → List Own → Prop} (st : Sts w.K R1 as1 σ Γ)
    (rl : Rel w R2 H2 as2 (S2 ++ [.lst acc])) (sb : Sub R1 R2) (pr : Pre as1 as2) (hD : as2[S2.length]? = some Dl) (hx : EntOk w.K R2 as2 u x) (h : LcE w Γ v tt te x acc S2 N) :
    gName v u (wipe σ [v]) H2 fun σ2 H3 => wipe σ2 [v] = wipe σ [v] ∧ tt σ2 H3 fun b H4 => if b = true then te σ2 H4 fun y H5 => ∃ acc, H5 Dl = some (.lst acc) ∧ acc.length < sizeLine ∧ LcP w R1 as1 S2.length Dl N (upd H5 Dl (.lst (acc ++ [y]))) else LcP w R1 as1 S2.length Dl N H4 := by
  have e1 : (σ.set v none).set v (some u) = σ.set v (some u) := List.set_set ..
  refine ⟨?_, ?_⟩
  · show ((wipe σ [v]).set v (some u)).set v none = σ.set v none
    show (((σ.set v none).set v (some u))).set v none = σ.set v none
    rw [List.set_set, List.set_set]
  · have st2 : Sts w.K R2 as2 ((wipe σ [v]).set v (some u)) (Γ.set v (some x)) := by
      show Sts w.K R2 as2 ((σ.set v none).set v (some u)) _
      rw [e1]
      exact (st.mono sb pr).set v hx
    refine h _ R2 H2 as2 _ rl st2 fun b S3 R3 H3 as3 rl3 s3 p3 q => ?_
    cases b with
    | true =>
      rw [if_pos rfl]
      refine q.1 rfl _ R3 H3 as3 _ rl3 (st2.mono s3 p3) fun y e S4 R4 H4 as4 rl4 s4 p4 e4 q4 => ?_
      obtain ⟨d, S5, rfl, rfl, hl, hz, hn⟩ := q4
      have hi : (S5 ++ [Own.lst acc])[S5.length]? = some (.lst acc) := List.getElem?_concat_length
      have ha : as4[S5.length]? = some Dl := by rw [hl]; exact p4 _ _ (p3 _ _ hD)
      obtain ⟨⟨z, vs, c1, c2⟩, _⟩ := rl4.reg _ _ _ hi ha (by intro z; cases z)
      refine ⟨vs, c1, by rw [c2.len]; exact hz, S5, R4, as4, acc ++ [d], ?_, (sb.trans s3).trans s4, (pr.trans p3).trans p4, ha, hl, hn⟩
      have rl5 := rl4.write (o' := .lst (acc ++ [d])) (u := .lst (vs ++ [y])) hi ha (by intro z; cases z) (by intro z; cases z) ⟨z, _, upd_same, c2.append (.cons e4 .nil)⟩
      have es : (S5 ++ [Own.lst acc]).set S5.length (.lst (acc ++ [d])) = S5 ++ [.lst (acc ++ [d])] := by
        rw [List.set_append_right _ _ (Nat.le_refl _), Nat.sub_self]; rfl
      rw [es] at rl5
      exact rl5
    | false =>
      rw [if_neg Bool.false_ne_true]
      obtain ⟨S5, rfl, hl, hn⟩ := q.2 rfl
      exact ⟨S5, R3, as3, acc, rl3, sb.trans s3, pr.trans p3, by rw [hl]; exact p3 _ _ hD, hl, hn⟩
theorem ents_get {K : PySem.W.Frag} {R : Hp} {as : List Addr} : ∀ {vs : List V} {es : List Ent} {i : Nat} {v : V}, EntsOk K R as vs es → vs[i]? = some v → ∃ e, es[i]? = some e ∧ EntOk K R as v e
  | [], [], _, _, _, e => by simp at e
  | _ :: _, _ :: _, 0, _, ⟨h, _⟩, e => by simp at e; subst e; exact ⟨_, rfl, h⟩
  | _ :: _, _ :: _, i + 1, _, ⟨_, t⟩, e => by
    obtain ⟨x, h1, h2⟩ := ents_get (i := i) t (by simpa using e)
    exact ⟨x, by simpa using h1, h2⟩
  | [], _ :: _, _, _, h, _ => h.elim
  | _ :: _, [], _, _, h, _ => h.elim
theorem le_lcE {ta : TA} {v : Nat} {tt : TT} (h : LA w ta Γ S fun es S1 => es.length ≤ sizeLine ∧ ∃ I : Nat → List D → List Own → Prop, I 0 [] S1 ∧
    (∀ i e acc S2, es[i]? = some e → S2.length = S1.length → I i acc S2 → LcE w Γ v tt te e acc S2 (I (i + 1))) ∧ (∀ acc S2, I es.length acc S2 → k (.d (.lst acc)) S2)) : LE w (tLc (iList w.K (tLst ta)) (gName v) tt te [v]) Γ S k := fun σ R H as Q rl s c => by
  refine h σ R H as _ rl s fun vs es S1 R0 H0 as1 rl0 s0 p1 e0 ⟨hz, I, i0, is, iE⟩ => ⟨by rw [e0.len]; exact hz, fun p hp => ?_⟩
  obtain ⟨rl1, sp⟩ := rl0.alloc hp (.lst vs)
  have e1 : EntsOk w.K (upd R0 p (.lst vs)) as1 vs es := e0.mono sp (Pre.refl _)
  have ha : upd R0 p (.lst vs) p = some (.lst vs) := upd_same
  have s1 := s0.trans sp
  generalize upd R0 p (.lst vs) = R1 at *
  generalize upd H0 p (.lst vs) = H1 at *
  refine ⟨p, rfl, ⟨vs, SqL.of (rl1.sub _ _ ha)⟩, fun Dl hD => ?_⟩
  refine lc_list (xs := vs) (fun i H => LcP w R1 as1 S1.length Dl (I i) H) (lc_begin rl1 hD i0) (fun i H2 hi q => ?_) (fun i x H2 hx q => ?_) fun H2 q => ?_
  · obtain ⟨S2, R2, as2, acc, rl2, sb, pr, ha2, hl, hi2⟩ := q
    exact SqL.of (rl2.sub _ _ (sb _ _ ha))
  · obtain ⟨S2, R2, as2, acc, rl2, sb, pr, ha2, hl, hi2⟩ := q
    obtain ⟨d, hd1, hd2⟩ := ents_get e1 hx
    have := lc_turnE (Dl := Dl) (s.mono s1 p1) rl2 sb pr ha2 (hd2.mono sb pr) (is i d acc S2 hd1 hl hi2)
    rw [hl] at this
    exact this
  · rw [e1.len] at q
    obtain ⟨acc, S', R', as', q1, q2, q3, q4, q5⟩ := lc_end rl1.len rl1.as0_le q
    exact c _ _ S' R' _ as' q1 (s1.trans q2) (p1.trans q3) (ok_d q4) (iE acc S' q5)
end
section
variable {X : Cx} {e : Expr} {p pos : Pos} {te : TE}
theorem b_minL (hm : X.mg "min" = none) (he : PE X e te) (hc : X.calm = true := by rfl) (hg : Gl X "min" := by rfl) (hs : starEach [e] X.env = (false, eval e X.env) :: starEach [] X.env := by rfl) : PE X (.Call (.Name "min" p) [e] [] pos) (tCB (rMin X.K) (tCons te tNil)) :=
  pe_callB (cr_min hc) hg hm (by decide +kernel) (pa_cons he pa_nil hs) (he := hs)
theorem b_maxL (hm : X.mg "max" = none) (he : PE X e te) (hc : X.calm = true := by rfl) (hg : Gl X "max" := by rfl) (hs : starEach [e] X.env = (false, eval e X.env) :: starEach [] X.env := by rfl) : PE X (.Call (.Name "max" p) [e] [] pos) (tCB (rMax X.K) (tCons te tNil)) :=
  pe_callB (cr_max hc) hg hm (by decide +kernel) (pa_cons he pa_nil hs) (he := hs)
theorem b_minT (hu : X.A.units + 64 < cLine) (hm : X.mg "min" = none) (he : PE X e te) (hc : X.calm = true := by rfl) (hg : Gl X "min" := by rfl) (hs : starEach [e] X.env = (false, eval e X.env) :: starEach [] X.env := by rfl) : PE X (.Call (.Name "min" p) [e] [] pos) (tCB (gMinT X.K) (tCons te tNil)) :=
  pe_callB (c_minT hc (by omega)) hg hm (by decide +kernel) (pa_cons he pa_nil hs) (he := hs)
theorem b_tuple (hm : X.mg "tuple" = none) (he : PE X e te) (hg : Gl X "tuple" := by rfl) (hs : starEach [e] X.env = (false, eval e X.env) :: starEach [] X.env := by rfl) : PE X (.Call (.Name "tuple" p) [e] [] pos) (tCB (gTupl X.K) (tCons te tNil)) :=
  pe_callTy c_tuple hg hm (by decide +kernel) (pa_cons he pa_nil hs) (he := hs)
end
/-! ### in -/
section
theorem sl_listB {X : Cx} (K : PySem.W.Frag) (hK : X.K = K := by rfl) : L2.SlR X (rSlL K) := by subst hK; exact sl_list
theorem sl_tupB {X : Cx} (K : PySem.W.Frag) (hK : X.K = K := by rfl) : L2.SlR X (rSlT K) := by subst hK; exact sl_tup
variable {w : Wd} {Γ : Env} {S : List Own} {k : KE}
theorem Dens.strs {K : PySem.W.Frag} {R : Hp} : ∀ {vs : List V} {as : List Str}, Dens K R vs (as.map D.str) → vs = as.map V.str
  | _, [], r => by cases r; rfl
  | _, n :: ns, r => by
    cases r with
    | cons h r => cases h; rw [Dens.strs r]; rfl
theorem inV_strs (a : Str) : ∀ as : List Str, inV (.str a) (as.map V.str) = decide (a ∈ as)
  | [] => by simp [inV]
  | b :: as => by
    have ih := inV_strs a as
    unfold inV at ih ⊢
    rw [List.map_cons, List.any_cons, ih]
    show ((b == a) || decide (a ∈ as)) = decide (a ∈ b :: as)
    rw [Bool.eq_iff_iff, Bool.or_eq_true, decide_eq_true_iff, decide_eq_true_iff, List.mem_cons, beq_iff_eq]
    exact ⟨fun h => h.imp Eq.symm id, fun h => h.imp Eq.symm id⟩
theorem rr_inStr {a : Str} {as : List Str} (q : k (.d (.bl (decide (a ∈ as)))) S) : RR w (rIn w.K false) (.d (.str a)) (.d (.tup (as.map D.str))) S k := fun R H as' u v Q rl hu hv c => by
  cases hu
  cases hv with
  | tup ha hd =>
    have := Dens.strs hd
    subst this
    refine ⟨_, _, rfl, .inr (SqT.of (rl.sub _ _ ha)), rfl, by simp [flatV], ?_⟩
    rw [if_neg Bool.false_ne_true, inV_strs]
    exact c _ _ S R H as' rl (Sub.refl _) (Pre.refl _) (ok_d (Den.bl _)) q
end
/-! ### for i in range(a, b, c) -/
section
variable {w : Wd} {Γ : Env} {S : List Own} {G : GE} {t1 : TS}
theorem ls_forC {ta : TA} {g : TG} (h : LA w ta Γ S fun es S1 => ∃ i j c n, es = [.d (.int i), .d (.int j), .d (.int c)] ∧ RgC i j c n ∧ ∃ I : Nat → Env → List Own → Prop, I 0 Γ S1 ∧
    (∀ (t : Nat) Γ1 S2, t < n → I t Γ1 S2 → LG w g (.d (.int (i + t * c))) Γ1 S2 fun Γ2 S3 => LS w t1 Γ2 S3 { G with nx := I (t + 1), ct := I (t + 1), bk := G.nx }) ∧ (∀ Γ1 S2, I n Γ1 S2 → G.nx Γ1 S2)) : LS w (tFor (iRng3 ta) g t1) Γ S G := fun D σ R H as rl s e => by
  refine h σ R H as _ rl s fun vs es S1 R1 H1 as1 rl1 s1 p1 e1 ⟨i, j, c, n, h1, hr, I, i0, is, iE⟩ => ?_
  subst h1
  match vs, e1 with
  | [x, y, z], ⟨q1, q2, q3, _⟩ =>
    cases q1; cases q2; cases q3
    refine ⟨i, j, c, n, rfl, hr, ?_⟩
    refine for_rangeC (fun i σ' H' => ∃ Γ' S' R' as', Sub R R' ∧ Rel w R' H' as' S' ∧ Sts w.K R' as' σ' Γ' ∧ I i Γ' S') ⟨Γ, S1, R1, as1, s1, rl1, s.mono s1 p1, i0⟩ ?_ ?_
    · rintro i σ2 H2 hi ⟨Γ2, S2, R2, as2, u2, rl2, st2, i2⟩
      refine is i Γ2 S2 hi i2 _ σ2 R2 H2 as2 _ rl2 st2 (Den.int _) fun Γ3 S3 σ3 R3 H3 as3 rl3 s3 p3 st3 q => ?_
      have up := u2.trans s3
      have e2 := e.up up
      exact q _ σ3 R3 H3 as3 rl3 st3 ⟨fun Γ' S' σ' R' H' as' u a b hi => ⟨Γ', S', R', as', up.trans u, a, b, hi⟩, e2.rt, e2.nx, fun Γ' S' σ' R' H' as' u a b hi => ⟨Γ', S', R', as', up.trans u, a, b, hi⟩⟩
    · rintro σ2 H2 ⟨Γ2, S2, R2, as2, u2, rl2, st2, i2⟩
      exact e.nx Γ2 S2 σ2 R2 H2 as2 u2 rl2 st2 (iE Γ2 S2 i2)
end
end Gm
/-! ranges of any size; // and % by a divisor of either sign -/
namespace Gm
open PySem PySem.Spec PyProof.Rows L2
theorem turn_long {P : Program} {w : World} {K : PySem.W.Frag} {tg : Expr} (it : Addr) (lo : Int) (n : Nat) : Turn P w K tg (Itr lo n) [it] it (fun i h => IsLongIter h it (lo + (i : Nat) * 1) ((n : Int) - (i : Nat)) 1) where
  mem := by simp
  obj := fun i h st b hb => by
    have e : b = it := by simpa using hb
    subst e
    exact ⟨_, st, fun v z => by
      have z' : Data.fields _ = Data.cell v := z
      cases z'⟩
  keep := fun i h h' st k => k it (by simp) _ st
  item := by
    intro X hP hw hK hc i pins s σ H E I hf st hg
    subst hP hw hK
    obtain ⟨f0, f1, f2, f3, f4, f5⟩ := hf it (by simp)
    have W := Walks.longrange (prog := X.prog) (w := X.w) (I.ok.hd hc) it lo 1 n
    refine W.item i s _ _ hg st fun v h' tk hv st' kk => ?_
    obtain ⟨t, rfl⟩ := hv
    have I1 : Inv X pins σ H { s with heap := h', toks := tk } := I.turned (fun b o hb e => kk b o (by simpa using hb) e) f0 f1 f3 f4 f5
    refine ⟨_, rfl, go_of (s := { s with heap := h', toks := tk }) (n := "longrange_iterator") st' rfl rfl (by decide) ⟨.int (lo + i), H, I1, ⟨t, ?_⟩, ⟨rfl, rfl⟩, st', fun b hb => (hf b hb).1⟩⟩
    rw [Int.mul_one]
  done := by
    intro X hP hw hK hc i pins s σ H E I hf st hg
    subst hP hw hK
    obtain ⟨f0, f1, f2, f3, f4, f5⟩ := hf it (by simp)
    exact wpAny_pyNext_long_end (I.ok.hd hc) st (by have : n ≤ i := hg; omega) fun h' eb => ⟨rfl, I.turned (t' := s.toks) (fun b o hb e => eb b o hb e) f0 f1 f3 f4 f5⟩
  self := fun _ _ _ _ _ st h => wpAny_pyIter_longiter st h
section
variable {X : Cx} {tg : Expr}
theorem range_itL {pins : List (Addr × Obj)} {σ : L2.St} {H : Hp} {s : Shared} {R : It → Hp → Prop} {E : Value → Shared → Prop} {lo hi : Int} {t u v : Tok} {tk : Nat} (I : Inv X pins σ H s)
    (q : R (Itr lo (hi - lo).toNat) H) : wpAny (model X.prog X.w) X.A (pyIter (.ref s.heap.objs.size)) (PIE X pins σ tg R) E { s with heap := s.heap.push { cls := .type "range", data := .fields #[.int lo t, .int hi u, .int 1 v] }, toks := tk } := by
  have I1 : Inv X pins σ H { s with heap := s.heap.push { cls := .type "range", data := .fields #[.int lo t, .int hi u, .int 1 v] }, toks := tk } := I.kept fun b o e => Heap.get?_push_of_some _ e
  have e1 : lo + ((0 : Nat) : Int) * 1 = lo := by simp
  have e2 : (((hi - lo).toNat : Nat) : Int) - ((0 : Nat) : Int) = Builtin.Range.rangeSize lo hi 1 := by rw [rangeSize_one]; split <;> omega
  cases hs : Builtin.Range.small lo hi 1 with
  | true =>
    refine wpAny_pyIter_range (IsRange.new ..) hs ?_
    refine ⟨(s.heap.push { cls := .type "range", data := .fields #[.int lo t, .int hi u, .int 1 v] }).objs.size, [(s.heap.push { cls := .type "range", data := .fields #[.int lo t, .int hi u, .int 1 v] }).objs.size], _, _, H, rfl,
      I1.kept (t' := tk) fun b o e => Heap.get?_push_of_some _ e, turn_range _ lo (hi - lo).toNat, ?_, fun b hb => ?_, q⟩
    · show IsRangeIter _ _ (lo + ((0 : Nat) : Int) * 1) ((((hi - lo).toNat : Nat) : Int) - ((0 : Nat) : Int)) 1
      rw [e1, e2]
      exact Heap.get?_push_size _ rfl
    · have e : b = (s.heap.push { cls := .type "range", data := .fields #[.int lo t, .int hi u, .int 1 v] }).objs.size := by simpa using hb
      subst e
      exact I1.fpOk (Nat.le_refl _) (I1.hok.fresh (Nat.le_refl _))
  | false =>
    refine wpAny_pyIter_longrange (IsRange.new ..) hs ?_
    refine ⟨(s.heap.push { cls := .type "range", data := .fields #[.int lo t, .int hi u, .int 1 v] }).objs.size, [(s.heap.push { cls := .type "range", data := .fields #[.int lo t, .int hi u, .int 1 v] }).objs.size], _, _, H, rfl,
      I1.kept (t' := tk) fun b o e => Heap.get?_push_of_some _ e, turn_long _ lo (hi - lo).toNat, ?_, fun b hb => ?_, q⟩
    · show IsLongIter _ _ (lo + ((0 : Nat) : Int) * 1) ((((hi - lo).toNat : Nat) : Int) - ((0 : Nat) : Int)) 1
      rw [e1, e2]
      exact Heap.get?_push_size _ rfl
    · have e : b = (s.heap.push { cls := .type "range", data := .fields #[.int lo t, .int hi u, .int 1 v] }).objs.size := by simpa using hb
      subst e
      exact I1.fpOk (Nat.le_refl _) (I1.hok.fresh (Nat.le_refl _))
def iRngL (ta : TA) : TI := fun σ H R => ta σ H fun vs H1 => ∃ i j : Int, vs = [.int i, .int j] ∧ R (Itr i (j - i).toNat) H1
theorem pi_rangeL {a b : Expr} {ta : TA} {p pos : Pos} (hg : Gl X "range") (hm : X.mg "range" = none) (ha : PA X [a, b] ta) (hs : starEach [a, b] X.env = [(false, eval a X.env), (false, eval b X.env)] := by rfl) (hs2 : starEach [b] X.env = [(false, eval b X.env)] := by rfl) :
    PI X tg (.Call (.Name "range" p) [a, b] [] pos) (iRngL ta) := by
  refine ⟨fun pins s σ H R I h => ?_⟩
  refine Call_ (ld_blt I hg hm boot_range (PyProof.Rows.callWith_type1 (thn (ha.run pos pins s σ H _ I h) fun us s1 ⟨vs, H1, I1, r1, q1⟩ => ?_) (by rw [hs, hs2]) (by rw [hs2]; rfl)))
  obtain ⟨i, j, e, q⟩ := q1
  subst e
  cases r1 with
  | cons r rr =>
    cases rr with
    | cons r' rr =>
      cases rr
      obtain ⟨t, rfl⟩ := r
      obtain ⟨t', rfl⟩ := r'
      exact call_range_2 (range_itL I1 q)
end
section
variable {w : Wd} {Γ : Env} {S : List Own}
theorem lr_L {ta : TA} {k : Int → Nat → List Own → Prop} (h : LA w ta Γ S fun es S1 => ∃ i j, es = [.d (.int i), .d (.int j)] ∧ k i (j - i).toNat S1) : LR w (iRngL ta) Γ S k := fun σ R H as Q rl s c =>
  h σ R H as _ rl s fun vs es S1 R1 H1 as1 rl1 s1 p1 e1 ⟨i, j, h1, h4⟩ => by
    subst h1
    match vs, e1 with
    | [a, b], ⟨q1, q2, _⟩ => cases q1; cases q2; exact ⟨i, j, rfl, c i _ S1 R1 H1 as1 rl1 s1 p1 h4⟩
theorem ls_par3 {G : GE} {i j l : Nat} {ta : TA} (h : LA w ta Γ S fun es S1 => ∃ x y z, es = [x, y, z] ∧ G.nx (((Γ.set i (some x)).set j (some y)).set l (some z)) S1) : LS w (tPar3 i j l ta) Γ S G := fun D σ R H as rl s e =>
  h σ R H as _ rl s fun vs es S1 R1 H1 as1 rl1 s1 p1 e1 ⟨x, y, z, h1, h2⟩ => by
    subst h1
    match vs, e1 with
    | [a, b, c], ⟨q1, q2, q3, _⟩ => exact ⟨a, b, c, rfl, e.nx _ S1 _ R1 H1 as1 s1 rl1 ((((s.mono s1 p1).set i q1).set j q2).set l q3) h2⟩
end
end Gm
/-! dicts with texts as keys; a list that stands in a dict -/
namespace Gm
open PySem PySem.Spec PyProof.Rows L2
theorem units1 {A : Around} (h : A.units + 64 < cLine) : A.units + 1 < cLine := by omega
theorem lt_ble {a b : Nat} (h : Nat.ble (a + 1) b = true) : a < b := Nat.le_of_ble_eq_true h
theorem DenK.len {K : PySem.W.Frag} {R : Hp} : ∀ {ps : List (L2.Key × V)} {qs : List (Str × D)}, DenK K R ps qs → ps.length = qs.length
  | [], [], _ => rfl
  | _ :: _, _ :: _, ⟨_, _, c⟩ => congrArg (· + 1) c.len
  | [], _ :: _, h => h.elim
  | _ :: _, [], h => h.elim
def getD_ (x : Str) : List (Str × D) → Option D
  | [] => none
  | (y, d) :: r => if y = x then some d else getD_ x r
def putD (x : Str) (d : D) : List (Str × D) → List (Str × D)
  | [] => []
  | (y, e) :: r => (if y = x then (y, d) else (y, e)) :: putD x d r
theorem putD_len (x : Str) (d : D) : ∀ gs : List (Str × D), (putD x d gs).length = gs.length
  | [] => rfl
  | _ :: r => congrArg (· + 1) (putD_len x d r)
theorem DenK.get {K : PySem.W.Frag} {R : Hp} {x : Str} {d : D} : ∀ {ps : List (L2.Key × V)} {qs : List (Str × D)}, DenK K R ps qs → getD_ x qs = some d → ∃ v, valV ps (.inr x) = some v ∧ Den K R v d
  | [], [], _, e => by cases e
  | (k, v) :: ps, (y, d0) :: qs, ⟨a, b, c⟩, e => by
    have a' : k = .inr y := a
    subst a'
    unfold getD_ at e
    by_cases h : y = x
    · rw [if_pos h] at e
      cases e
      subst h
      exact ⟨v, valV_pos rfl, b⟩
    · rw [if_neg h] at e
      obtain ⟨u, h1, h2⟩ := DenK.get c e
      exact ⟨u, by rw [valV_neg (p := (Sum.inr y, v)) (fun z => h (Sum.inr.inj z))]; exact h1, h2⟩
  | [], _ :: _, h, _ => h.elim
  | _ :: _, [], h, _ => h.elim
theorem DenK.repl {K : PySem.W.Frag} {R : Hp} {x : Str} {v : V} {d : D} (hd : Den K R v d) : ∀ {ps : List (L2.Key × V)} {qs : List (Str × D)}, DenK K R ps qs → DenK K R (ps.map fun kv => if kv.1 = .inr x then (kv.1, v) else kv) (putD x d qs)
  | [], [], _ => trivial
  | (k, u) :: ps, (y, d0) :: qs, ⟨a, b, c⟩ => by
    have a' : k = .inr y := a
    subst a'
    have r := DenK.repl (x := x) hd c
    by_cases h : y = x
    · subst h
      show DenK K R ((if (Sum.inr y : L2.Key) = .inr y then ((Sum.inr y : L2.Key), v) else (.inr y, u)) :: _) ((if y = y then (y, d) else (y, d0)) :: putD y d qs)
      rw [if_pos rfl, if_pos rfl]
      exact ⟨rfl, hd, r⟩
    · show DenK K R ((if (Sum.inr y : L2.Key) = .inr x then ((Sum.inr y : L2.Key), v) else (.inr y, u)) :: _) ((if y = x then (y, d) else (y, d0)) :: putD x d qs)
      rw [if_neg (fun z => h (Sum.inr.inj z)), if_neg h]
      exact ⟨rfl, b, r⟩
  | [], _ :: _, h => h.elim
  | _ :: _, [], h => h.elim
theorem DenK.put {K : PySem.W.Frag} {R : Hp} {x : Str} {v : V} {d d0 : D} (hd : Den K R v d) {ps : List (L2.Key × V)} {qs : List (Str × D)} (h : DenK K R ps qs) (e : getD_ x qs = some d0) : DenK K R (putK ps (.inr x) v) (putD x d qs) := by
  obtain ⟨u, h1, _⟩ := h.get e
  unfold putK
  rw [if_pos (by rw [valV_any, h1]; rfl)]
  exact h.repl hd
section
variable {w : Wd} {Γ : Env} {S : List Own} {k : KE} {G : GE} {td ty tv : TE}
/-- d["x"] -/
theorem le_dget (h : LE w td Γ S fun x S1 => LE w ty Γ S1 fun y S2 => ∃ i gs s d, x = .own i ∧ S2[i]? = some (.dct gs) ∧ y = .d (.str s) ∧ getD_ s gs = some d ∧ k (.d d) S2) : LE w (tDGet td ty) Γ S k := fun σ R H as Q rl s c => by
  refine h σ R H as _ rl s fun v x S1 R1 H1 as1 rl1 s1 p1 e1 h1 => ?_
  refine h1 σ R1 H1 as1 _ rl1 (s.mono s1 p1) fun u y S2 R2 H2 as2 rl2 s2 p2 e2 q => ?_
  obtain ⟨i, gs, z, d, rfl, q1, rfl, q2, q3⟩ := q
  obtain ⟨a, ha, rfl⟩ := e1.mono s2 p2
  obtain ⟨⟨_, kvs, c1, c2⟩, _⟩ := rl2.reg i _ a q1 ha (by intro z; cases z)
  cases e2
  obtain ⟨v, g1, g2⟩ := c2.get q2
  refine ⟨a, v, rfl, ?_, c v (.d d) S2 R2 H2 as2 rl2 (s1.trans s2) (p1.trans p2) g2 q3⟩
  have := DGet.k (k := (Sum.inr z : L2.Key)) c1
  rw [g1] at this
  exact this
/-- d["x"] = e -/
theorem ls_dput (h : LE w tv Γ S fun v S1 => LE w td Γ S1 fun x S2 => LE w ty Γ S2 fun y S3 => ∃ e i gs s d0, v = .d e ∧ x = .own i ∧ S3[i]? = some (.dct gs) ∧ y = .d (.str s) ∧ getD_ s gs = some d0 ∧ gs.length < 1000 ∧ G.nx Γ (S3.set i (.dct (putD s e gs)))) : LS w (sDPut td ty tv) Γ S G := fun D σ R H as rl s e => by
  refine h σ R H as _ rl s fun v0 v S1 R1 H1 as1 rl1 s1 p1 e1 h1 => ?_
  refine h1 σ R1 H1 as1 _ rl1 (s.mono s1 p1) fun u x S2 R2 H2 as2 rl2 s2 p2 e2 h2 => ?_
  refine h2 σ R2 H2 as2 _ rl2 ((s.mono s1 p1).mono s2 p2) fun u2 y S3 R3 H3 as3 rl3 s3 p3 e3 q => ?_
  obtain ⟨d, i, gs, z, d0, rfl, rfl, q1, rfl, q2, q3, q4⟩ := q
  obtain ⟨a, ha, rfl⟩ := e2.mono s3 p3
  obtain ⟨⟨_, kvs, c1, c2⟩, _⟩ := rl3.reg i _ a q1 ha (by intro z; cases z)
  cases e3
  have hv : Den w.K R3 v0 d := (e1.mono (s2.trans s3) (p2.trans p3) : EntOk w.K R3 as3 v0 (.d d))
  refine ⟨a, _, rfl, DPut.k (k := (Sum.inr z : L2.Key)) c1 (by rw [c2.len, sizeLine_eq]; omega), ?_⟩
  have rl4 := rl3.write (o' := .dct (putD z d gs)) (u := .dK (putK kvs (.inr z) v0)) q1 ha (by intro z; cases z) (by intro z; cases z) ⟨by assumption, _, upd_same, c2.put hv q2⟩
  exact e.nx Γ _ σ R3 _ as3 ((s1.trans s2).trans s3) rl4 (s.mono ((s1.trans s2).trans s3) ((p1.trans p2).trans p3)) q4
/-- d["x"] op= e -/
theorem ls_daug {rd : V → V → Hp → VK → Prop} (h : LE w td Γ S fun x S1 => LE w ty Γ S1 fun y S2 => ∃ i gs s d, x = .own i ∧ S2[i]? = some (.dct gs) ∧ y = .d (.str s) ∧ getD_ s gs = some d ∧
    LE w tv Γ S2 fun y2 S3 => RR w rd (.d d) y2 S3 fun z S4 => ∃ e gs' d0, z = .d e ∧ S4[i]? = some (.dct gs') ∧ getD_ s gs' = some d0 ∧ gs'.length < 1000 ∧ G.nx Γ (S4.set i (.dct (putD s e gs')))) : LS w (sDAug td ty tv rd) Γ S G := fun D σ R H as rl s e => by
  refine h σ R H as _ rl s fun v x S1 R1 H1 as1 rl1 s1 p1 e1 h1 => ?_
  refine h1 σ R1 H1 as1 _ rl1 (s.mono s1 p1) fun u y S2 R2 H2 as2 rl2 s2 p2 e2 q => ?_
  obtain ⟨i, gs, z, d, rfl, q1, rfl, q2, q3⟩ := q
  obtain ⟨a, ha, rfl⟩ := e1.mono s2 p2
  obtain ⟨⟨_, kvs, c1, c2⟩, _⟩ := rl2.reg i _ a q1 ha (by intro z; cases z)
  cases e2
  obtain ⟨v, g1, g2⟩ := c2.get q2
  have hg := DGet.k (k := (Sum.inr z : L2.Key)) c1
  rw [g1] at hg
  refine ⟨a, v, rfl, hg, ?_⟩
  refine q3 σ R2 H2 as2 _ rl2 ((s.mono s1 p1).mono s2 p2) fun u2 y2 S3 R3 H3 as3 rl3 s3 p3 e3 h3 => ?_
  refine h3 R3 H3 as3 _ _ _ rl3 ((show EntOk w.K R2 as2 v (.d d) from g2).mono s3 p3) e3 fun v4 e4 S4 R4 H4 as4 rl4 s4 p4 ev4 q5 => ?_
  obtain ⟨e', gs', d0, rfl, r1, r2, r3, r4⟩ := q5
  have ha4 : as4[i]? = some a := p4 _ _ (p3 _ _ ha)
  obtain ⟨⟨_, kvs', c1', c2'⟩, _⟩ := rl4.reg i _ a r1 ha4 (by intro z; cases z)
  refine ⟨_, DPut.k (k := (Sum.inr z : L2.Key)) c1' (by rw [c2'.len, sizeLine_eq]; omega), ?_⟩
  have rl5 := rl4.write (o' := .dct (putD z e' gs')) (u := .dK (putK kvs' (.inr z) v4)) r1 ha4 (by intro z; cases z) (by intro z; cases z) ⟨by assumption, _, upd_same, c2'.put ev4 r2⟩
  exact e.nx Γ _ σ R4 _ as4 (((s1.trans s2).trans s3).trans s4) rl5 (s.mono (((s1.trans s2).trans s3).trans s4) (((p1.trans p2).trans p3).trans p4)) r4
theorem rr_ipI {f : Int → Int → Int} {i j : Int} (q : k (.d (.int (f i j))) S) : RR w (ipI f) (.d (.int i)) (.d (.int j)) S k := fun R H as u v Q rl hu hv c => by
  cases hu; cases hv
  exact ⟨i, j, rfl, rfl, c _ _ S R H as rl (Sub.refl _) (Pre.refl _) (ok_d (Den.int _)) q⟩
/-- len of a list in a dict -/
theorem rc_lenLat {i : Nat} {g : Addr} {ds : List D} (hi : S[i]? = some (.lat g ds)) (q : k (.d (.int ds.length)) S) : RC w (gLen w.K) [.d (.cls g)] S k := fun R H as us Q rl hu c => by
  obtain ⟨v, rfl, hv⟩ := one_ent hu
  cases hv
  obtain ⟨a, ha⟩ := rl.own hi
  obtain ⟨⟨rfl, z, vs, c1, c2⟩, _⟩ := rl.reg i _ a hi ha (by intro z; cases z)
  refine ⟨a, vs, rfl, .inl (SqL.of c1), ?_⟩
  rw [c2.len]
  exact c _ _ S R H as rl (Sub.refl _) (Pre.refl _) (ok_d (Den.int _)) q
/-- a method of a list in a dict -/
theorem le_bmLat {r : V → List V → Hp → VK → Prop} {t : TA} (h : LE w td Γ S fun x S1 => (∃ (i : Nat) (g : Addr) (ds : List D), x = Ent.d (.cls g) ∧ S1[i]? = some (Own.lat g ds)) ∧ LA w t Γ S1 fun xs S2 => RM w r x xs S2 k) : LE w (tBM w.K "list" r td t) Γ S k := fun σ R H as Q rl s c => by
  refine h σ R H as _ rl s fun v x S1 R1 H1 as1 rl1 s1 p1 e1 ⟨⟨i, g, ds, h1, h2⟩, h3⟩ => ?_
  subst h1
  cases e1
  obtain ⟨a, ha⟩ := rl1.own h2
  obtain ⟨⟨rfl, z, vs, c1, c2⟩, _⟩ := rl1.reg i _ a h2 ha (by intro z; cases z)
  refine ⟨.inl ⟨rfl, vs, SqL.of c1⟩, ?_⟩
  refine h3 σ R1 H1 as1 _ rl1 (s.mono s1 p1) fun vs es S2 R2 H2 as2 rl2 s2 p2 e2 h4 => ?_
  exact h4 R2 H2 as2 _ _ Q rl2 (ok_d (Den.cls _)) e2 fun v' e' S' R' H' as' a1 a2 a3 a4 a5 => c v' e' S' R' H' as' a1 ((s1.trans s2).trans a2) ((p1.trans p2).trans a3) a4 a5
/-- pop(0) of it -/
theorem rm_popLat {i : Nat} {g : Addr} {d : D} {ds : List D} (hi : S[i]? = some (.lat g (d :: ds))) (q : k (.d d) (S.set i (.lat g ds))) : RM w rPopAt (.d (.cls g)) [.d (.int 0)] S k := fun R H as u us Q rl hu hus c => by
  cases hu
  obtain ⟨a, ha⟩ := rl.own hi
  obtain ⟨⟨rfl, z, vs, c1, c2⟩, _⟩ := rl.reg i _ a hi ha (by intro z; cases z)
  match us, hus with
  | [v], ⟨hv, _⟩ =>
    cases hv
    cases c2 with
    | cons c3 c4 =>
      rename_i x xs
      refine ⟨a, x :: xs, 0, 0, x, rfl, rfl, c1, by decide, by decide, ?_, rfl, ?_⟩
      · unfold seqIndex?
        simp
      have rl2 := rl.write (o' := .lat a ds) (u := .lst xs) hi ha (by intro z; cases z) (by intro z; cases z) ⟨rfl, z, _, upd_same, c4⟩
      exact c x (.d d) _ R _ as rl2 (Sub.refl _) (Pre.refl _) c3 q
end
/-! ### a display -/
def PairsOk (K : PySem.W.Frag) (R : Hp) (as : List Addr) : List (V × V) → List (Ent × Ent) → Prop
  | [], [] => True
  | p :: ps, e :: es => EntOk K R as p.1 e.1 ∧ EntOk K R as p.2 e.2 ∧ PairsOk K R as ps es
  | _, _ => False
def LP (w : Wd) (trs : List (TE × TE)) (Γ : Env) (S : List Own) (k : List (Ent × Ent) → List Own → Prop) : Prop :=
  ∀ (σ : L2.St) (R H : Hp) (as : List Addr) (Q : List (V × V) → Hp → Prop), Rel w R H as S → Sts w.K R as σ Γ →
    (∀ ps es S' R' H' as', Rel w R' H' as' S' → Sub R R' → Pre as as' → PairsOk w.K R' as' ps es → k es S' → Q ps H') → tPairs trs σ H Q
theorem pairs_dct {K : PySem.W.Frag} {R : Hp} {as : List Addr} : ∀ {gs : List (Str × D)} {ps : List (V × V)}, PairsOk K R as ps (gs.map fun p => (Ent.d (.str p.1), Ent.d p.2)) → ∃ kvs : List (L2.Key × V), ps = kvs.map (fun kv => (kV kv.1, kv.2)) ∧ DenK K R kvs gs
  | [], [], _ => ⟨[], rfl, trivial⟩
  | (x, d) :: gs, (a, b) :: ps, ⟨h1, h2, h3⟩ => by
    obtain ⟨kvs, e, q⟩ := pairs_dct h3
    have h1' : Den K R a (.str x) := h1
    cases h1'
    exact ⟨(.inr x, b) :: kvs, by rw [e]; rfl, rfl, h2, q⟩
  | [], _ :: _, h => h.elim
  | _ :: _, [], h => h.elim
theorem mergeK_app : ∀ (more acc : List (L2.Key × V)), (∀ p ∈ more, valV acc p.1 = none) → (more.map (·.1)).Nodup → mergeK acc more = acc ++ more
  | [], acc, _, _ => (List.append_nil acc).symm
  | p :: r, acc, h, n => by
    have n' := List.nodup_cons.mp n
    have hp := h p (List.mem_cons_self ..)
    show mergeK (putK acc p.1 p.2) r = _
    rw [putK_new p.2 hp, mergeK_app r _ (fun q hq => ?_) n'.2, List.append_assoc]
    · rfl
    · rw [valV_snoc _ _ _ _ hp]
      have : ¬ q.1 = p.1 := fun z => n'.1 (by show p.1 ∈ _; rw [← z]; exact List.mem_map.mpr ⟨q, hq, rfl⟩)
      rw [if_neg this]
      exact h q (List.mem_cons_of_mem _ hq)
theorem DenK.keys {K : PySem.W.Frag} {R : Hp} : ∀ {ps : List (L2.Key × V)} {qs : List (Str × D)}, DenK K R ps qs → ps.map (·.1) = (qs.map (·.1)).map Sum.inr
  | [], [], _ => rfl
  | p :: ps, q :: qs, ⟨a, _, c⟩ => by rw [List.map_cons, List.map_cons, List.map_cons, c.keys, a]
  | [], _ :: _, h => h.elim
  | _ :: _, [], h => h.elim
theorem DenK.merge {K : PySem.W.Frag} {R : Hp} {ps : List (L2.Key × V)} {qs : List (Str × D)} (h : DenK K R ps qs) (n : (qs.map (·.1)).Nodup) : mergeK [] ps = ps := by
  rw [mergeK_app ps [] (fun _ _ => rfl) ?_]
  · rfl
  · rw [h.keys]
    exact List.Pairwise.map Sum.inr (fun a b (hab : a ≠ b) e => hab (Sum.inr.inj e)) n
section
variable {w : Wd} {Γ : Env} {S : List Own} {k : KE}
theorem lp_nil {k : List (Ent × Ent) → List Own → Prop} (q : k [] S) : LP w [] Γ S k := fun σ R H as Q rl s c => c [] [] S R H as rl (Sub.refl _) (Pre.refl _) trivial q
theorem lp_cons {tk tv : TE} {trs : List (TE × TE)} {k : List (Ent × Ent) → List Own → Prop} (h : LE w tk Γ S fun x S1 => LE w tv Γ S1 fun y S2 => LP w trs Γ S2 fun ps S3 => k ((x, y) :: ps) S3) : LP w ((tk, tv) :: trs) Γ S k := fun σ R H as Q rl s c =>
  h σ R H as _ rl s fun v x S1 R1 H1 as1 rl1 s1 p1 e1 h1 => h1 σ R1 H1 as1 _ rl1 (s.mono s1 p1) fun u y S2 R2 H2 as2 rl2 s2 p2 e2 h2 =>
    h2 σ R2 H2 as2 _ rl2 ((s.mono s1 p1).mono s2 p2) fun ps es S3 R3 H3 as3 rl3 s3 p3 e3 h3 =>
      c ((v, u) :: ps) ((x, y) :: es) S3 R3 H3 as3 rl3 ((s1.trans s2).trans s3) ((p1.trans p2).trans p3) ⟨e1.mono (s2.trans s3) (p2.trans p3), e2.mono s3 p3, e3⟩ h3
/-- {"x": e, ..} -/
theorem le_disp {trs : List (TE × TE)} (h : LP w trs Γ (S ++ [.dct []]) fun es S1 => S1[S.length]? = some (.dct []) ∧ ∃ gs : List (Str × D), es = gs.map (fun p => (Ent.d (.str p.1), Ent.d p.2)) ∧ (gs.map (·.1)).Nodup ∧ gs.length ≤ 15 ∧ k (.own S.length) (S1.set S.length (.dct gs))) :
    LE w (tDisp trs) Γ S k := fun σ R H as Q rl s c p hp => by
  have rl0 := rl.allocO hp (.dK []) (o := .dct []) ⟨(rl.fresh hp).1, [], upd_same, trivial⟩
  refine h σ R _ _ _ rl0 (s.mono (Sub.refl _) (Pre.app _ _)) fun ps es S1 R1 H1 as1 rl1 s1 p1 e1 ⟨hd, gs, ee, n, hl, q⟩ => ?_
  subst ee
  have ha : as1[S.length]? = some p := p1 _ _ (by rw [← rl.len]; exact List.getElem?_concat_length)
  obtain ⟨⟨z, kvs0, c1, c2⟩, _⟩ := rl1.reg _ _ p hd ha (by intro z; cases z)
  obtain rfl : kvs0 = [] := List.eq_nil_of_length_eq_zero c2.len
  obtain ⟨kvs, rfl, dk⟩ := pairs_dct e1
  refine ⟨c1, kvs, rfl, by rw [dk.len]; exact hl, ?_⟩
  rw [dk.merge n]
  have rl2 := rl1.write (o' := .dct gs) (u := .dK kvs) hd ha (by intro z; cases z) (by intro z; cases z) ⟨z, kvs, upd_same, dk⟩
  exact c (.ref p) (.own S.length) _ R1 _ as1 rl2 s1 ((Pre.app _ _).trans p1) ⟨p, ha, rfl⟩ q
/-- {"x": l, ..}, a list of the store first -/
theorem le_dispO {trs : List (TE × TE)} (h : LP w trs Γ (S ++ [.dct []]) fun es S1 => S1[S.length]? = some (.dct []) ∧ ∃ (z : Str) (j : Nat) (xs : List D) (gs : List (Str × D)), es = (Ent.d (.str z), Ent.own j) :: gs.map (fun p => (Ent.d (.str p.1), Ent.d p.2)) ∧ (z :: gs.map (·.1)).Nodup ∧ gs.length ≤ 14 ∧ S1[j]? = some (.lst xs) ∧
      ∀ g, k (.own S.length) ((S1.set j (.lat g xs)).set S.length (.dct ((z, .cls g) :: gs)))) :
    LE w (tDisp trs) Γ S k := fun σ R H as Q rl s c p hp => by
  have rl0 := rl.allocO hp (.dK []) (o := .dct []) ⟨(rl.fresh hp).1, [], upd_same, trivial⟩
  refine h σ R _ _ _ rl0 (s.mono (Sub.refl _) (Pre.app _ _)) fun ps es S1 R1 H1 as1 rl1 s1 p1 e1 ⟨hd, x, j, xs, gs, ee, n, hl, hj, q⟩ => ?_
  subst ee
  have ha : as1[S.length]? = some p := p1 _ _ (by rw [← rl.len]; exact List.getElem?_concat_length)
  obtain ⟨⟨z, kvs0, c1, c2⟩, _⟩ := rl1.reg _ _ p hd ha (by intro z; cases z)
  obtain rfl : kvs0 = [] := List.eq_nil_of_length_eq_zero c2.len
  match ps, e1 with
  | (a, b) :: ps, ⟨f1, ⟨g, f2, f3⟩, f4⟩ =>
  obtain ⟨kvs, rfl, dk⟩ := pairs_dct f4
  have f1' : Den w.K R1 a (.str x) := f1
  cases f1'
  have f3' : b = .ref g := f3
  subst f3'
  have dk' : DenK w.K R1 ((.inr x, .ref g) :: kvs) ((x, .cls g) :: gs) := ⟨rfl, Den.cls g, dk⟩
  refine ⟨c1, (.inr x, .ref g) :: kvs, rfl, by rw [dk'.len]; simp; omega, ?_⟩
  rw [dk'.merge n]
  obtain ⟨⟨y, vs, d1, d2⟩, _⟩ := rl1.reg _ _ g hj f2 (by intro z; cases z)
  have eu : upd H1 g (.lst vs) = H1 := by
    funext b
    by_cases hb : b = g
    · rw [hb, upd_same, d1]
    · rw [upd_ne hb]
  have rl2 := rl1.write (o' := .lat g xs) (u := .lst vs) hj f2 (by intro z; cases z) (by intro z; cases z) ⟨rfl, y, vs, upd_same, d2⟩
  rw [eu] at rl2
  have hne : j ≠ S.length := by
    rintro rfl
    rw [hd] at hj; cases hj
  have hd2 : (S1.set j (.lat g xs))[S.length]? = some (.dct []) := by rw [List.getElem?_set_ne hne]; exact hd
  have rl3 := rl2.write (o' := .dct ((x, .cls g) :: gs)) (u := .dK ((.inr x, .ref g) :: kvs)) hd2 ha (by intro z; cases z) (by intro z; cases z) ⟨z, _, upd_same, dk'⟩
  exact c (.ref p) (.own S.length) _ R1 _ as1 rl3 s1 ((Pre.app _ _).trans p1) ⟨p, ha, rfl⟩ (q g)
end
section
variable {w : Wd} {Γ : Env} {S : List Own} {G : GE} {t1 : TS}
theorem ls_forS {tl : TE} {g : TG} (h : LE w tl Γ S fun e S1 => ∃ ns, e = .d (.scr ns) ∧ ∃ I : Nat → Env → List Own → Prop, I 0 Γ S1 ∧
    (∀ i n Γ1 S2, ns[i]? = some n → I i Γ1 S2 → LG w g (.d (.int n)) Γ1 S2 fun Γ2 S3 => LS w t1 Γ2 S3 { G with nx := I (i + 1), ct := I (i + 1), bk := G.nx }) ∧ (∀ Γ1 S2, I ns.length Γ1 S2 → G.nx Γ1 S2)) : LS w (tFor (iList w.K tl) g t1) Γ S G := fun D σ R H as rl s e => by
  refine h σ R H as _ rl s fun v x S1 R1 H1 as1 rl1 s1 p1 e1 ⟨ns, h1, I, i0, is, iE⟩ => ?_
  subst h1
  cases e1 with
  | scr ha =>
    rename_i a
    refine ⟨a, rfl, ⟨_, sub_seq rl1.sub ha⟩, ?_⟩
    refine for_list (xs := ns.map V.int) (fun i σ' H' => ∃ Γ' S' R' as', Sub R1 R' ∧ Rel w R' H' as' S' ∧ Sts w.K R' as' σ' Γ' ∧ I i Γ' S') ⟨Γ, S1, R1, as1, Sub.refl _, rl1, s.mono s1 p1, i0⟩ ?_ ?_ ?_
    · rintro i σ2 H2 hi ⟨Γ2, S2, R2, as2, u2, rl2, st2, i2⟩
      exact sub_seq rl2.sub (sub_seq u2 ha)
    · rintro i x σ2 H2 hx ⟨Γ2, S2, R2, as2, u2, rl2, st2, i2⟩
      rw [List.getElem?_map, Option.map_eq_some_iff] at hx
      obtain ⟨n, hn, rfl⟩ := hx
      refine is i n Γ2 S2 hn i2 _ σ2 R2 H2 as2 _ rl2 st2 (Den.int n) fun Γ3 S3 σ3 R3 H3 as3 rl3 s3 p3 st3 q => ?_
      have up := u2.trans s3
      have e2 := e.up (s1.trans up)
      exact q _ σ3 R3 H3 as3 rl3 st3 ⟨fun Γ' S' σ' R' H' as' u a b hi => ⟨Γ', S', R', as', up.trans u, a, b, hi⟩, e2.rt, e2.nx, fun Γ' S' σ' R' H' as' u a b hi => ⟨Γ', S', R', as', up.trans u, a, b, hi⟩⟩
    · rintro σ2 H2 ⟨Γ2, S2, R2, as2, u2, rl2, st2, i2⟩
      exact e.nx Γ2 S2 σ2 R2 H2 as2 (s1.trans u2) rl2 st2 (by rw [List.length_map] at i2; exact iE Γ2 S2 i2)
end
section
variable {w : Wd} {Γ : Env} {S : List Own} {k : KE} {te : TE}
theorem dens_ints {K : PySem.W.Frag} {R : Hp} : ∀ ns : List Int, Dens K R (ns.map V.int) (ns.map D.int)
  | [] => .nil
  | n :: ns => .cons (.int n) (dens_ints ns)
/-- a slice of the script -/
theorem le_slS {tl th : TO} (h : LE w te Γ S fun x S1 => LO w tl Γ S1 fun lo S2 => LO w th Γ S2 fun hi S3 => ∃ ns, x = .d (.scr ns) ∧ k (.d (.lst (cutD (ns.map D.int) lo hi))) S3) : LE w (tSl (rSlL w.K) te tl th) Γ S k := fun σ R H as Q rl s c => by
  refine h σ R H as _ rl s fun v x S1 R1 H1 as1 rl1 s1 p1 e1 h1 => ?_
  refine h1 σ R1 H1 as1 _ rl1 (s.mono s1 p1) fun lo S2 R2 H2 as2 rl2 s2 p2 h2 => ?_
  refine h2 σ R2 H2 as2 _ rl2 (s.mono (s1.trans s2) (p1.trans p2)) fun hi S3 R3 H3 as3 rl3 s3 p3 ⟨ns, h3, h4⟩ => ?_
  subst h3
  have e3 : EntOk w.K R3 as3 v (.d (.scr ns)) := (e1.mono s2 p2).mono s3 p3
  cases e3 with
  | scr ha =>
    refine ⟨_, ns.map V.int, rfl, sub_seq rl3.sub ha, fun p hp => ?_⟩
    obtain ⟨rl4, s4⟩ := rl3.alloc hp (.lst (cutV (ns.map V.int) lo hi))
    exact c _ _ S3 _ _ as3 rl4 (((s1.trans s2).trans s3).trans s4) ((p1.trans p2).trans p3) (ok_d (Den.lst upd_same ((cut_dens (dens_ints ns) lo hi)))) h4
end
end Gm
/-! repr of lists and tuples, where no repr runs around -/
namespace Gm
open PySem PySem.Spec PyProof.Rows L2
def gRepr (K : PySem.W.Frag) : List V → Hp → VK → Prop := fun xs H Q => ∃ (a : Addr) (d : PyData), xs = [.ref a] ∧ Dp K H (.ref a) d ∧ d.showable = true ∧ d.hasDict = false ∧ d.depth ≤ 50 ∧ d.shown.length ≤ sizeLine ∧ Q (.str d.shown) H
theorem c_repr {X : Cx} (hg : X.A.guards = some []) (hu : X.A.units + 64 < cLine) : CallR X (.builtin "repr") (gRepr X.K) := by
  intro pins s σ H xs us Q I r h
  obtain ⟨a, d, rfl, hd, hs, hh, hdp, hz, q⟩ := h
  obtain ⟨u, rfl, ru⟩ := r.one
  obtain rfl : u = Value.ref a := ru
  obtain ⟨as, rd⟩ := Dp.reads I d (.ref a) (.ref a) hd rfl
  exact repr_of_reads' rd hs (fun z => by rw [hh] at z; cases z) hg (by omega) (fun _ _ e => e) (fun h' t tk hk => ⟨.str d.shown, H, I.kept (t' := tk) hk, ⟨t, rfl⟩, q⟩) hz
theorem b_repr {X : Cx} {e : Expr} {te : TE} {p pos : Pos} (hgu : X.A.guards = some []) (hu : X.A.units + 64 < cLine) (hm : X.mg "repr" = none) (h1 : PE X e te) (hK : X.calm = true := by rfl)
    (hg : Gl X "repr" := by rfl) (hs : starEach [e] X.env = (false, eval e X.env) :: starEach [] X.env := by rfl) (hpl : (backTo pos (starEach [] X.env)).any (·.1) = false := by rfl) :
    PE X (.Call (.Name "repr" p) [e] [] pos) (tCB (gRepr X.K) (tCons te tNil)) :=
  pe_callB (c_repr hgu hu) hg hm (by decide +kernel) (pa_cons h1 pa_nil hs) (he := hs) (hpl := hpl)
section
variable {w : Wd} {Γ : Env} {S : List Own} {k : KE}
theorem rc_repr {x : Ent} {d : PyData} (hx : entP S x = some d) (hs : d.showable = true) (hh : d.hasDict = false) (hdp : d.depth ≤ 50) (hz : d.shown.length ≤ sizeLine) (hr : (∃ ds, d = .list ds) ∨ ∃ ds, d = .tuple ds) (q : k (.d (.str d.shown)) S) : RC w (gRepr w.K) [x] S k := fun R H as us Q rl hu c => by
  obtain ⟨v, rfl, hv⟩ := one_ent hu
  have h := entP_dp rl hv hx
  have hv' : ∃ a, v = .ref a := by
    rcases hr with ⟨ds, rfl⟩ | ⟨ds, rfl⟩
    · cases h with
      | lst _ _ => exact ⟨_, rfl⟩
    · cases h with
      | tup _ _ => exact ⟨_, rfl⟩
  obtain ⟨a, rfl⟩ := hv'
  exact ⟨a, d, rfl, h, hs, hh, hdp, hz, c _ _ S R H as rl (Sub.refl _) (Pre.refl _) (ok_d (Den.str _)) q⟩
end
/-- a promise that wants that no repr runs around -/
structure FnOkG (P : Program) (w : World) (K : PySem.W.Frag) (mg : Str → Option Value) (base : Heap) (CX : CXT) (k : Nat) (f : Addr) (fd : FuncData) (ps : List Str) (sp : Sp) : Prop where
  len : ∀ vs H Q E, sp vs H Q E → vs.length = ps.length
  run : ∀ (A : Around) (outer : List PySem.Env) (s : Shared) (H : Hp) (args : Args) (us : List Value) (vs : List V) (Q : VK) (E : XK), A.guards = some [] → Room k A → Env0 P w K mg base A outer s H → BindsTo s fd args (ps.zip us) → Vals vs us → sp vs H Q E →
    codeAny (model P w) A (.call (.ref f) args) (CR CX outer P w H s Q E) s
section
variable {P : Program} {w0 : World} {K : PySem.W.Frag} {mg : Str → Option Value} {base : Heap}
theorem Fun.okG {x qual : Str} {st : Stmt} {f : Addr} {fd : FuncData} {N ps : List Str} {k : Nat} {sp : Sp} (fu : Fun K x qual st f fd) (fs : FnScope N ps (defScope st)) (lenG : ∀ vs H Q E, sp vs H Q E → vs.length = ps.length)
    (bodyG : ∀ (cdv : Value) (A : Around) (outer : List PySem.Env) (s : Shared) (H : Hp) (vs : List V) (Q : VK) (E : XK), A.guards = some [] → Room k (A.deeper (envOfC qual (defScope st) s.heap.objs.size f cdv)) → sp vs H Q E →
      ∃ t, PSs (cxOf CX0 P w0 K mg base N qual (defScope st) f cdv A outer s H E).nox (defBody st) t ∧ t { nx := fun _ H' => Q .non H', rt := Q } (start N vs) H) : FnOkG P w0 K mg base CX0 (k + 1) f fd ps sp := by
  obtain ⟨oc, od, kV, doc, pm, an, cdv, ct, osl, rfl, hl, hc⟩ := fu.ex
  refine ⟨lenG, fun A outer s H args us vs Q E hg room env bd rv hs => ?_⟩
  have nps := lenG vs H Q E hs
  have inK : K.In s.heap := env.mod.kin.keeps (fun c u q => (env.bs c u q).1)
  have noL : s.heap.NoLimit := env.mod.nolimit.keeps (fun c u q => (env.bs c u q).1)
  refine codeAny_call_function room.depth (inK f _ hl) rfl fs.co fs.gen rfl (PySem.W.codeRec_of inK hc) (bd _ _ _ _ ?_)
  refine wpAny_newFunctionEnv_cells fs.kind (fun z hz => ?_) fun e2 he2 s2 made => ?_
  · rcases fs.par z.1 (List.of_mem_zip (show (z.1, z.2) ∈ ps.zip us from hz)).1 with q | q
    · exact Or.inl q
    · exact Or.inr ⟨q, PySem.W.cellsFrom_some _ _ _ (Or.inl q)⟩
  subst he2
  refine ⟨noL.keeps made.toInCall.keep, codeAny_func ?_⟩
  obtain ⟨t, pt, qt⟩ := bodyG cdv A outer s H vs Q E hg (room.deeper _) hs
  have I0 : Inv (cxOf CX0 P w0 K mg base N qual (defScope st) f cdv A outer s H E) [] (start N vs) H s2 := inv_start fs room.hd env nps rv made
  refine wpAny_mono (pt.nox.run [] s2 (start N vs) H _ I0 qt) (fun r s3 hr => ?_) (fun _ _ h => h)
  cases r with
  | ret u => obtain ⟨v, σ3, H3, J, ru, q⟩ := hr; exact ⟨v, H3, J.os, J.bare, J.base, J.hok, ru, q⟩
  | next => obtain ⟨σ3, H3, J, q⟩ := hr; exact ⟨V.non, H3, J.os, J.bare, J.base, J.hok, rfl, q⟩
  | brk => obtain ⟨_, _, _, q⟩ := hr; exact q.elim
  | cont => obtain ⟨_, _, _, q⟩ := hr; exact q.elim
end
end Gm
/-! the end of a law whose promise wants that no repr runs around -/
namespace Gm
open PySem PySem.Spec PyProof.Rows L2
section
variable {P : Program} {w : World} {K : PySem.W.Frag} {mg nb : Str → Option Value} {k : Nat} {fa p : Addr} {fd : FuncData} {x : Str} {sp : Sp} {s0 : Shared} {us : List Value} {zs : List Int}
theorem lawG (inK : K.In s0.heap) (gl : s0.heap.Ns mainGlobals mg) (bu : s0.heap.Ns builtinsNs nb) (bb : ∀ y : Str, y ≠ "__name__" → nb y = bootBuiltins y) (nl : s0.heap.NoLimit) (g0 : s0.gens = #[])
    (hp : s0.heap.get? p = some { cls := .type "list", data := .seq us.toArray }) (hu : IntsAre us zs) (hz : zs.length ≤ sizeLine) (room : Room k callerA)
    (prom : ∀ base : Heap, K.In base → base.Ns mainGlobals mg → FnOkG P w K mg base CX0 k fa fd [x] sp) (bd : ∀ (s : Shared) (u : Value), BindsTo s fd ⟨[u], []⟩ [(x, u)])
    (meets : ∀ H : Hp, Only H → SqL K H p (zs.map V.int) → sp [.ref p] H (fun v _ => v = .bl true) fun _ _ _ => False) :
    codeAny (model P w) callerA (.call (.ref fa) ⟨[.ref p], []⟩) (fun r s1 => r = .ok (.ret (.bool true)) ∧ OldK s0.heap s1.heap ∧ s1.os = s0.os ∧ AllBare s1.gens) s0 := by
  have core : ∀ H : Hp, Only H → SqL K H p (zs.map V.int) → HOk P w H s0.heap → (∀ c, H c ≠ none → c = p) → (H p ≠ none → K.lookup p = none) →
      codeAny (model P w) callerA (.call (.ref fa) ⟨[.ref p], []⟩) (fun r s1 => r = .ok (.ret (.bool true)) ∧ OldK s0.heap s1.heap ∧ s1.os = s0.os ∧ AllBare s1.gens) s0 := by
    intro H only sq ok one kp
    have none_of : ∀ {c : Addr}, c ≠ p → H c = none := fun {c} ne => by
      cases q : H c with
      | none => rfl
      | some _ => exact absurd (one c (by rw [q]; exact Option.some_ne_none _)) ne
    have dict_none : ∀ {c : Addr} {o : Obj} {es : Array DictEntry} {ep : Nat}, s0.heap.get? c = some o → o.data = .dict es ep → H c = none := fun {c o es ep} q d => by
      by_cases ne : c = p
      · subst ne
        rw [hp] at q
        cases q
        exact absurd (show Data.seq us.toArray _ = Data.dict es ep from d) (by intro z; cases z)
      · exact none_of ne
    have ns_of : ∀ {c : Addr} {m : Str → Option Value}, s0.heap.Ns c m → (hidT s0.heap H).Ns c m := fun {c m} ⟨o, es, ep, q, d, r⟩ => ⟨o, es, ep, hidT_get q (dict_none q d), d, r⟩
    have inB : K.In (hidT s0.heap H) := fun c o q => hidT_get (inK c o q) (by
      by_cases ne : c = p
      · subst ne
        cases h : H c with
        | none => rfl
        | some _ => rw [kp (by rw [h]; exact Option.some_ne_none _)] at q; cases q
      · exact none_of ne)
    have md : Mod K mg (hidT s0.heap H) := ⟨inB, ns_of gl, ⟨nb, ns_of bu, bb⟩, nl.elim fun mc h => ⟨mc, ns_of h.1, h.2⟩⟩
    have env : Env0 P w K mg (hidT s0.heap H) callerA [] s0 H := ⟨rfl, md, fun c o q => of_hidT q, Nat.le_of_eq (hidT_size _ _), trivial, (fun c hc => absurd (show c ∈ ([] : List Addr) from hc) List.not_mem_nil), ok, .of_eq g0⟩
    refine codeAny_mono ((prom _ inB (ns_of gl)).run callerA [] s0 H ⟨[.ref p], []⟩ [.ref p] [.ref p] _ _ rfl room env (bd s0 (.ref p)) (.cons rfl .nil) (meets H only sq)) fun r s1 h => ?_
    match r, h with
    | .error e, h => exact h.elim
    | .ok .next, h => exact h.elim
    | .ok .brk, h => exact h.elim
    | .ok .cont, h => exact h.elim
    | .ok (.ret u), h =>
      obtain ⟨v, H1, os, bare, un, ok1, rv, q⟩ := h
      obtain rfl : v = .bl true := q
      obtain rfl : u = Value.bool true := rv
      refine ⟨rfl, OldK.of_keep fun c o hc => ?_, os, bare⟩
      by_cases ne : c = p
      · subst ne
        cases h : H c with
        | none => exact un.keep c o hc h (fun z => absurd (show c ∈ ([] : List Addr) from z) List.not_mem_nil) List.not_mem_nil
        | some t =>
          rcases only c with z | ⟨ob, xs, z⟩
          · rw [h] at z; cases z
          · have h1 := (ok c _ z).1
            have h2 := (ok1 c _ (un.frzs c ob _ z)).1
            rw [hc] at h1
            cases h1
            exact h2
      · exact un.keep c o hc (none_of ne) (fun z => absurd (show c ∈ ([] : List Addr) from z) List.not_mem_nil) List.not_mem_nil
  have rv := vals_ints hu
  cases hk : K.lookup p with
  | some o =>
    have q := inK p o hk
    rw [hp] at q
    cases q
    exact core (fun _ => none) (fun _ => .inl rfl) (.inr ⟨_, us.toArray, _, hk, rfl, rfl, rfl, by rw [List.size_toArray, hu.length]; exact hz, by simpa using rv⟩) (fun c t q => by cases (show (none : Option HO) = some t from q)) (fun c q => absurd rfl q) fun q => absurd rfl q
  | none =>
    refine core (fun c => if c = p then some (.frz { cls := .type "list", data := .seq us.toArray } (.lst (zs.map V.int))) else none) (fun c => ?_) (.inl (.inr ⟨_, if_pos rfl⟩)) (fun c t q => ?_) (fun c q => ?_) fun _ => hk
    · by_cases ne : c = p
      · exact .inr ⟨_, _, if_pos ne⟩
      · exact .inl (if_neg ne)
    · by_cases ne : c = p
      · have q1 := (if_pos ne).symm.trans q
        cases q1
        subst ne
        exact ⟨hp, by rw [List.length_map]; exact hz, us, _, rv, hp⟩
      · have q1 := (if_neg ne).symm.trans q
        cases q1
    · by_cases ne : c = p
      · exact ne
      · exact absurd (if_neg ne) q
end
theorem walkG {l : PySem.W.OpenLaw} {n k : Nat} {q : Program} {loose : List Str} {XP : (Str → Option Value) → Heap → Prop} {YP : World → Heap → Prop} {d : DefRec} {K : Params → PySem.W.Frag} {sp : World → Sp} {x : Str} (most : l.most = some n) (small : n ≤ sizeLine) (plain : d.params.defaults = []) (room : Room k callerA)
    (inK : ∀ (w : World) (h : Heap), YP w h → (K w.params).In h)
    (prom : ∀ (w : World) (mg : Str → Option Value) (fa : Addr) (h : Heap), (K w.params).In h → h.Ns mainGlobals mg → mg d.name = some (.ref fa) →
      ∃ fd : FuncData, (∀ (s : Shared) (u : Value), BindsTo s fd ⟨[u], []⟩ [(x, u)]) ∧ ∀ base : Heap, (K w.params).In base → base.Ns mainGlobals mg → FnOkG l.prog w (K w.params) mg base CX0 k fa fd [x] (sp w))
    (meets : ∀ (w : World) (H : Hp) (p : Addr) (zs : List Int), zs.length ≤ n → Only H → SqL (K w.params) H p (zs.map V.int) → sp w [.ref p] H (fun v _ => v = .bl true) fun _ _ _ => False) :
    PySem.W.WalkO q loose XP YP l.row.toRowW d [] (fun f vs => PySem.call f vs) := by
  refine Att.attach_call most plain fun w s0 s1 mg nb fa o pm cd doc p us zs G Y ho hd hcd hmg hobj hints hlen hg => ?_
  obtain ⟨fd, bd, pr⟩ := prom w mg fa _ (inK w _ Y) G.T.g hmg
  exact lawG (inK w _ Y) G.T.g G.T.b G.T.builtins G.T.nolimit hg hobj hints (Nat.le_trans hlen small) room pr bd fun H only sq => meets w H p zs hlen only sq
section
variable {P : Program} {w0 : World} {K : PySem.W.Frag} {mg : Str → Option Value} {base : Heap}
/-- a def by its body, where no repr runs around -/
theorem fnG {x qual : Str} {st : Stmt} {f : Addr} {fd : FuncData} {N ps : List Str} {k : Nat} {f0 : DS} (F : Fun K x qual st f fd) (Sc : FnScope N ps (defScope st)) (len : ∀ es S p e, f0 es S p e → es.length = ps.length)
    (body : ∀ (cdv : Value) (A : Around) (outer : List PySem.Env) (s : Shared) (H : Hp) (E : XK), A.guards = some [] → Room k (A.deeper (PyProof.Rows.envOfC qual (defScope st) s.heap.objs.size f cdv)) →
      ∀ (w : Wd) (es : List Ent) (S : List Own) (p : KE) (e : KX), w.K = K → w.as0.length = S.length → f0 es S p e → ∃ t, PSs (cxOf CX0 P w0 K mg base N qual (defScope st) f cdv A outer s H E).nox (defBody st) t ∧ LS w t (startG N es) S { nx := fun _ S' => p (.d .non) S', rt := p }) :
    FnOkG P w0 K mg base CX0 (k + 1) f fd ps (spD K f0) := by
  refine Gm.Fun.okG F Sc (fun vs H Q E ⟨R, as, S, es, p, e, h1, h2, h3, h4, h5⟩ => by rw [h1.len]; exact len es S p e h3) (fun cdv A outer s H vs Q E hg hr h => ?_)
  obtain ⟨R, as, S, es, p, e, h1, h2, h3, h4, h5⟩ := h
  obtain ⟨t, ht, hL⟩ := body cdv A outer s H E hg hr ⟨K, R, H, as⟩ es S p e rfl h2.len h3
  refine ⟨t, ht, hL _ _ R H as h2 (sts_start h1) ⟨fun Γ' S' σ' R' H' as' u a b c => ?_, fun v x S' R' H' as' u a b c => h4 v x S' R' H' as' a b c, fun _ _ _ _ _ _ _ _ _ c => c.elim, fun _ _ _ _ _ _ _ _ _ c => c.elim⟩⟩
  exact h4 .non (.d .non) S' R' H' as' a Den.non c
end
end Gm
/-! comprehensions with pairs as targets, with two fors; sorted pairs; reversed ranges -/
namespace Gm
open PySem PySem.Spec PyProof.Rows L2
theorem wipe_get : ∀ (vs : List Nat) (σ : L2.St) (j : Nat), (wipe σ vs)[j]? = if j ∈ vs then σ[j]?.map (fun _ => none) else σ[j]?
  | [], σ, j => by rw [if_neg List.not_mem_nil]; rfl
  | v :: vs, σ, j => by
    have e : wipe σ (v :: vs) = (wipe σ vs).set v none := rfl
    have ih := wipe_get vs σ j
    rw [e, List.getElem?_set]
    by_cases h : v = j
    · subst h
      rw [if_pos rfl, if_pos (List.mem_cons_self ..)]
      have hl : (wipe σ vs).length = σ.length := wipe_length ..
      rw [hl]
      by_cases hl : v < σ.length
      · rw [if_pos hl, List.getElem?_eq_getElem hl]; rfl
      · rw [if_neg hl, List.getElem?_eq_none (show σ.length ≤ v by omega)]; rfl
    · rw [if_neg h, ih]
      simp [Ne.symm h]
theorem wipe_set {τ : L2.St} {vs : List Nat} {v : Nat} {x : Option V} (h : v ∈ vs) : wipe (τ.set v x) vs = wipe τ vs := by
  refine List.ext_getElem? fun j => ?_
  rw [wipe_get, wipe_get]
  by_cases hj : j ∈ vs
  · rw [if_pos hj, if_pos hj, List.getElem?_set]
    split
    · rename_i e
      subst e
      split
      · rename_i hl
        rw [List.getElem?_eq_getElem hl]; rfl
      · rename_i hl
        rw [List.getElem?_eq_none (show τ.length ≤ v by omega)]
    · rfl
  · rw [if_neg hj, if_neg hj, List.getElem?_set_ne (fun e => hj (by rw [← e]; exact h))]
theorem wipe_wipe {σ : L2.St} {vs : List Nat} : wipe (wipe σ vs) vs = wipe σ vs := by
  refine List.ext_getElem? fun j => ?_
  rw [wipe_get, wipe_get]
  by_cases hj : j ∈ vs
  · rw [if_pos hj, if_pos hj]
    cases σ[j]? <;> rfl
  · rw [if_neg hj, if_neg hj]
section
variable {w : Wd} {Γ : Env} {S : List Own} {k : KE}
/-- a target in a block's turn -/
def TgOk (w : Wd) (g : TG) (vs : List Nat) (d : D) (up : Env → Env) : Prop :=
  ∀ (σ : L2.St) (Γ : Env) (R H : Hp) (as : List Addr) (S : List Own) (u : V) (Q : L2.St → Hp → Prop), Rel w R H as S → Sts w.K R as σ Γ → Den w.K R u d →
    (∀ σ2, Sts w.K R as σ2 (up (wipeG Γ vs)) → wipe σ2 vs = wipe σ vs → Q σ2 H) → g u (wipe σ vs) H Q
theorem tg_name {v : Nat} {vs : List Nat} {d : D} (h : v ∈ vs) : TgOk w (gName v) vs d fun Γ => Γ.set v (some (.d d)) := fun σ Γ R H as S u Q rl st hd c =>
  c _ ((st.wipe vs).set v (ok_d hd)) (by rw [wipe_set h, wipe_wipe])
theorem tg_pair {i j : Nat} {vs : List Nat} {x y : D} (hi : i ∈ vs) (hj : j ∈ vs) : TgOk w (gTup w.K 2 (gCons (gName i) (gCons (gName j) gNil))) vs (.tup [x, y]) fun Γ => (Γ.set i (some (.d x))).set j (some (.d y)) := fun σ Γ R H as S u Q rl st hd c => by
  cases hd with
  | tup ha hds =>
    rename_i a xs
    match xs, hds with
    | [v1, v2], hds =>
      cases hds with
      | cons h1 h2 =>
        cases h2 with
        | cons h2 h3 =>
          refine ⟨a, _, rfl, SqT.of (rl.sub _ _ ha), rfl, v1, [v2], rfl, v2, [], rfl, rfl, ?_⟩
          exact c _ (((st.wipe vs).set i (ok_d h1)).set j (ok_d h2)) (by rw [wipe_set hj, wipe_set hi, wipe_wipe])
/-- what a turn of a block does, once its target is set -/
def LcG (w : Wd) (Γ' : Env) (tt : TT) (te : TE) (acc : List D) (S2 : List Own) (N : List D → List Own → Prop) : Prop :=
  LT w tt Γ' (S2 ++ [.lst acc]) fun b S3 =>
    (b = true → LE w te Γ' S3 fun e S4 => ∃ d S5, e = .d d ∧ S4 = S5 ++ [.lst acc] ∧ S5.length = S2.length ∧ acc.length < sizeLine ∧ N (acc ++ [d]) S5) ∧
    (b = false → ∃ S5, S3 = S5 ++ [.lst acc] ∧ S5.length = S2.length ∧ N acc S5)
theorem lc_turnG {tt : TT} {te : TE} {σ2 : L2.St} {Γ' : Env} {R1 R2 H2 : Hp} {as1 as2 : List Addr} {S2 : List Own} {acc : List D} {Dl : Addr} {N : List D → List Own → Prop} (st2 : Sts w.K R2 as2 σ2 Γ')
    (rl : Rel w R2 H2 as2 (S2 ++ [.lst acc])) (sb : Sub R1 R2) (pr : Pre as1 as2) (hD : as2[S2.length]? = some Dl) (h : LcG w Γ' tt te acc S2 N) :
    tt σ2 H2 fun b H4 => if b = true then te σ2 H4 fun y H5 => ∃ acc, H5 Dl = some (.lst acc) ∧ acc.length < sizeLine ∧ LcP w R1 as1 S2.length Dl N (upd H5 Dl (.lst (acc ++ [y]))) else LcP w R1 as1 S2.length Dl N H4 := by
  refine h _ R2 H2 as2 _ rl st2 fun b S3 R3 H3 as3 rl3 s3 p3 q => ?_
  cases b with
  | true =>
    rw [if_pos rfl]
    refine q.1 rfl _ R3 H3 as3 _ rl3 (st2.mono s3 p3) fun y e S4 R4 H4 as4 rl4 s4 p4 e4 q4 => ?_
    obtain ⟨d, S5, rfl, rfl, hl, hz, hn⟩ := q4
    have hi : (S5 ++ [Own.lst acc])[S5.length]? = some (.lst acc) := List.getElem?_concat_length
    have ha : as4[S5.length]? = some Dl := by rw [hl]; exact p4 _ _ (p3 _ _ hD)
    obtain ⟨⟨z, vs, c1, c2⟩, _⟩ := rl4.reg _ _ _ hi ha (by intro z; cases z)
    refine ⟨vs, c1, by rw [c2.len]; exact hz, S5, R4, as4, acc ++ [d], ?_, (sb.trans s3).trans s4, (pr.trans p3).trans p4, ha, hl, hn⟩
    have rl5 := rl4.write (o' := .lst (acc ++ [d])) (u := .lst (vs ++ [y])) hi ha (by intro z; cases z) (by intro z; cases z) ⟨z, _, upd_same, c2.append (.cons e4 .nil)⟩
    have es : (S5 ++ [Own.lst acc]).set S5.length (.lst (acc ++ [d])) = S5 ++ [.lst (acc ++ [d])] := by
      rw [List.set_append_right _ _ (Nat.le_refl _), Nat.sub_self]; rfl
    rw [es] at rl5
    exact rl5
  | false =>
    rw [if_neg Bool.false_ne_true]
    obtain ⟨S5, rfl, hl, hn⟩ := q.2 rfl
    exact ⟨S5, R3, as3, acc, rl3, sb.trans s3, pr.trans p3, by rw [hl]; exact p3 _ _ hD, hl, hn⟩
theorem le_lcG {tl te : TE} {g : TG} {tt : TT} {vs : List Nat} (h : LE w tl Γ S fun e S1 => ∃ ds, e = .d (.lst ds) ∧ ∃ I : Nat → List D → List Own → Prop, I 0 [] S1 ∧
    (∀ i d acc S2, ds[i]? = some d → S2.length = S1.length → I i acc S2 → ∃ up, TgOk w g vs d up ∧ LcG w (up (wipeG Γ vs)) tt te acc S2 (I (i + 1))) ∧ (∀ acc S2, I ds.length acc S2 → k (.d (.lst acc)) S2)) : LE w (tLc (iList w.K tl) g tt te vs) Γ S k := fun σ R H as Q rl s c => by
  refine h σ R H as _ rl s fun vl el S1 R1 H1 as1 rl1 s1 p1 e1 ⟨ds, h1, I, i0, is, iE⟩ => ?_
  subst h1
  cases e1 with
  | lst ha hd =>
    rename_i a xs
    refine ⟨a, rfl, ⟨xs, SqL.of (rl1.sub _ _ ha)⟩, fun Dl hD => ?_⟩
    refine lc_list (xs := xs) (fun i H => LcP w R1 as1 S1.length Dl (I i) H) (lc_begin rl1 hD i0) (fun i H2 hi p => ?_) (fun i x H2 hx p => ?_) fun H2 p => ?_
    · obtain ⟨S2, R2, as2, acc, rl2, sb, pr, ha2, hl, hi2⟩ := p
      exact SqL.of (rl2.sub _ _ (sb _ _ ha))
    · obtain ⟨S2, R2, as2, acc, rl2, sb, pr, ha2, hl, hi2⟩ := p
      obtain ⟨d, hd1, hd2⟩ := hd.get2 hx
      obtain ⟨up, hu, hg⟩ := is i d acc S2 hd1 hl hi2
      refine hu σ Γ R2 H2 as2 _ x _ rl2 ((s.mono s1 p1).mono sb pr) (hd2.mono sb) fun σ2 st2 hw => ⟨hw, ?_⟩
      have := lc_turnG (Dl := Dl) st2 rl2 sb pr ha2 hg
      rw [hl] at this
      exact this
    · rw [hd.len] at p
      obtain ⟨acc, S', R', as', q1, q2, q3, q4, q5⟩ := lc_end rl1.len rl1.as0_le p
      exact c _ _ S' R' _ as' q1 (s1.trans q2) (p1.trans q3) (ok_d q4) (iE acc S' q5)
theorem le_lcGO {tl te : TE} {g : TG} {tt : TT} {vs : List Nat} (h : LE w tl Γ S fun e S1 => ∃ ds, e = .d (.lst ds) ∧ ∃ I : Nat → List D → List Own → Prop, I 0 [] S1 ∧
    (∀ i d acc S2, ds[i]? = some d → S2.length = S1.length → I i acc S2 → ∃ up, TgOk w g vs d up ∧ LcG w (up (wipeG Γ vs)) tt te acc S2 (I (i + 1))) ∧ (∀ acc S2, S2.length = S1.length → I ds.length acc S2 → k (.own S2.length) (S2 ++ [.lst acc]))) : LE w (tLc (iList w.K tl) g tt te vs) Γ S k := fun σ R H as Q rl s c => by
  refine h σ R H as _ rl s fun vl el S1 R1 H1 as1 rl1 s1 p1 e1 ⟨ds, h1, I, i0, is, iE⟩ => ?_
  subst h1
  cases e1 with
  | lst ha hd =>
    rename_i a xs
    refine ⟨a, rfl, ⟨xs, SqL.of (rl1.sub _ _ ha)⟩, fun Dl hD => ?_⟩
    refine lc_list (xs := xs) (fun i H => LcP w R1 as1 S1.length Dl (I i) H) (lc_begin rl1 hD i0) (fun i H2 hi p => ?_) (fun i x H2 hx p => ?_) fun H2 p => ?_
    · obtain ⟨S2, R2, as2, acc, rl2, sb, pr, ha2, hl, hi2⟩ := p
      exact SqL.of (rl2.sub _ _ (sb _ _ ha))
    · obtain ⟨S2, R2, as2, acc, rl2, sb, pr, ha2, hl, hi2⟩ := p
      obtain ⟨d, hd1, hd2⟩ := hd.get2 hx
      obtain ⟨up, hu, hg⟩ := is i d acc S2 hd1 hl hi2
      refine hu σ Γ R2 H2 as2 _ x _ rl2 ((s.mono s1 p1).mono sb pr) (hd2.mono sb) fun σ2 st2 hw => ⟨hw, ?_⟩
      have := lc_turnG (Dl := Dl) st2 rl2 sb pr ha2 hg
      rw [hl] at this
      exact this
    · rw [hd.len] at p
      obtain ⟨S2, R2, as2, acc, rl2, sb, pr, ha2, hl, hi2⟩ := p
      exact c _ (.own S2.length) _ R2 _ as2 rl2 (s1.trans sb) (p1.trans pr) (show EntOk w.K R2 as2 (.ref Dl) (.own S2.length) from ⟨Dl, ha2, rfl⟩) (iE acc S2 hl hi2)
theorem lcP_mono {R1 R2 H : Hp} {as1 as2 : List Addr} {n : Nat} {Dl : Addr} {I J : List D → List Own → Prop} (h : LcP w R2 as2 n Dl I H) (sb : Sub R1 R2) (pr : Pre as1 as2) (hI : ∀ acc S', I acc S' → J acc S') : LcP w R1 as1 n Dl J H := by
  obtain ⟨S', R', as', acc, rl, sb', pr', hD, hl, hi⟩ := h
  exact ⟨S', R', as', acc, rl, sb.trans sb', pr.trans pr', hD, hl, hI _ _ hi⟩
/-- [.. for g in l for g1 in l1]: the store stays -/
theorem le_lc2 {tl tl1 te : TE} {g g1 : TG} {vs vs1 : List Nat} (h : LE w tl Γ S fun e S1 => ∃ ds, e = .d (.lst ds) ∧ ∃ I : Nat → List D → Prop, I 0 [] ∧
    (∀ i d acc, ds[i]? = some d → I i acc → ∃ up, TgOk w g vs d up ∧ LE w tl1 (up (wipeG Γ vs)) (S1 ++ [.lst acc]) fun e' S2 => S2 = S1 ++ [.lst acc] ∧ ∃ es, e' = .d (.lst es) ∧ ∃ J : Nat → List D → Prop, J 0 acc ∧
      (∀ q d' acc', es[q]? = some d' → J q acc' → ∃ up1, TgOk w g1 vs1 d' up1 ∧ LE w te (up1 (wipeG (up (wipeG Γ vs)) vs1)) (S1 ++ [.lst acc']) fun y S3 => S3 = S1 ++ [.lst acc'] ∧ ∃ z, y = .d z ∧ acc'.length < sizeLine ∧ J (q + 1) (acc' ++ [z])) ∧
      (∀ acc', J es.length acc' → I (i + 1) acc')) ∧ (∀ acc, I ds.length acc → k (.d (.lst acc)) S1)) : LE w (tLc2 (iList w.K tl) g tYes (iList w.K tl1) g1 tYes te vs vs1) Γ S k := fun σ R H as Q rl s c => by
  refine h σ R H as _ rl s fun vl el S1 R1 H1 as1 rl1 s1 p1 e1 ⟨ds, h1, I, i0, is, iE⟩ => ?_
  subst h1
  cases e1 with
  | lst ha hd =>
    rename_i a xs
    refine ⟨a, rfl, ⟨xs, SqL.of (rl1.sub _ _ ha)⟩, fun Dl hD => ?_⟩
    refine ⟨fun i m H => m = xs.length - i ∧ i ≤ xs.length ∧ LcP w R1 as1 S1.length Dl (fun acc S' => S' = S1 ∧ I i acc) H, ⟨_, rfl, Nat.zero_le _, lc_begin rl1 hD ⟨rfl, i0⟩⟩, ?_⟩
    rintro i m H2 ⟨rfl, hi, p⟩
    obtain ⟨S2, R2, as2, acc, rl2, sb, pr, ha2, hl, rfl, hi2⟩ := p
    have sq : SqL w.K H2 a xs := SqL.of (rl2.sub _ _ (sb _ _ ha))
    by_cases hx : i < xs.length
    · have hx1 : xs[i]? = some xs[i] := List.getElem?_eq_getElem hx
      refine .inr ⟨⟨xs, _, sq, hx1⟩, fun H' => LcP w R1 as1 S2.length Dl (fun acc S' => S' = S2 ∧ I (i + 1) acc) H', fun H' hp => ⟨xs.length - (i + 1), by omega, rfl, hx, hp⟩, ?_⟩
      rintro x _ ⟨rfl, hy⟩
      have hxx := hy xs sq
      obtain ⟨d, hd1, hd2⟩ := hd.get2 hxx
      obtain ⟨up, hu, hg⟩ := is i d acc hd1 hi2
      refine hu σ Γ R2 _ as2 _ x _ rl2 ((s.mono s1 p1).mono sb pr) (hd2.mono sb) fun σ2 st2 hw => ⟨hw, ?_⟩
      unfold tYes
      dsimp only
      rw [if_pos rfl]
      refine hg σ2 R2 _ as2 _ rl2 st2 fun vl2 el2 S3 R3 H3 as3 rl3 s3 p3 e3 ⟨q1, es, q2, J, j0, js, jE⟩ => ?_
      subst q1
      subst q2
      cases e3 with
      | lst hb hd' =>
        rename_i b ys
        have hD3 := p3 _ _ ha2
        refine ⟨b, rfl, ⟨ys, SqL.of (rl3.sub _ _ hb)⟩, ?_⟩
        refine ⟨fun q m H => m = ys.length - q ∧ q ≤ ys.length ∧ LcP w R3 as3 S2.length Dl (fun acc' S' => S' = S2 ∧ J q acc') H, ⟨_, rfl, Nat.zero_le _, S2, R3, as3, acc, rl3, Sub.refl _, Pre.refl _, hD3, rfl, rfl, j0⟩, ?_⟩
        rintro q m H4 ⟨rfl, hq, p⟩
        obtain ⟨S4, R4, as4, acc', rl4, sb4, pr4, ha4, hl4, rfl, hj⟩ := p
        have sq4 : SqL w.K H4 b ys := SqL.of (rl4.sub _ _ (sb4 _ _ hb))
        by_cases hy2 : q < ys.length
        · have hy1 : ys[q]? = some ys[q] := List.getElem?_eq_getElem hy2
          refine .inr ⟨⟨ys, _, sq4, hy1⟩, fun H' => LcP w R3 as3 S4.length Dl (fun acc' S' => S' = S4 ∧ J (q + 1) acc') H', fun H' hp => ⟨ys.length - (q + 1), by omega, rfl, hy2, hp⟩, ?_⟩
          rintro x' _ ⟨rfl, hy'⟩
          obtain ⟨d', hd1', hd2'⟩ := hd'.get2 (hy' ys sq4)
          obtain ⟨up1, hu1, hg1⟩ := js q d' acc' hd1' hj
          refine hu1 σ2 _ R4 _ as4 _ x' _ rl4 ((st2.mono s3 p3).mono sb4 pr4) (hd2'.mono sb4) fun σ3 st3 hw3 => ⟨hw3, ?_⟩
          try unfold tYes
          dsimp only
          rw [if_pos rfl]
          refine hg1 σ3 R4 _ as4 _ rl4 st3 fun y ey S5 R5 H5 as5 rl5 s5 p5 e5 ⟨q5, z, q6, hz, hn⟩ => ?_
          subst q5
          subst q6
          have hi5 : (S4 ++ [Own.lst acc'])[S4.length]? = some (.lst acc') := List.getElem?_concat_length
          have ha5 : as5[S4.length]? = some Dl := p5 _ _ ha4
          obtain ⟨⟨zz, vs5, c1, c2⟩, _⟩ := rl5.reg _ _ _ hi5 ha5 (by intro z; cases z)
          refine ⟨vs5, c1, by rw [c2.len]; exact hz, S4, R5, as5, acc' ++ [z], ?_, sb4.trans s5, pr4.trans p5, ha5, rfl, rfl, hn⟩
          have rl6 := rl5.write (o' := .lst (acc' ++ [z])) (u := .lst (vs5 ++ [y])) hi5 ha5 (by intro z; cases z) (by intro z; cases z) ⟨zz, _, upd_same, c2.append (.cons e5 .nil)⟩
          have es : (S4 ++ [Own.lst acc']).set S4.length (.lst (acc' ++ [z])) = S4 ++ [.lst (acc' ++ [z])] := by
            rw [List.set_append_right _ _ (Nat.le_refl _), Nat.sub_self]; rfl
          rw [es] at rl6
          exact rl6
        · have e : q = ys.length := by omega
          subst e
          refine .inl ⟨⟨ys, sq4, Nat.le_refl _⟩, ?_⟩
          rw [hd'.len] at hj
          exact ⟨S4, R4, as4, acc', rl4, (sb.trans s3).trans sb4, (pr.trans p3).trans pr4, ha4, rfl, rfl, jE acc' hj⟩
    · have e : i = xs.length := by omega
      subst e
      refine .inl ⟨⟨xs, sq, Nat.le_refl _⟩, ?_⟩
      rw [hd.len] at hi2
      obtain ⟨acc', S', R', as', q1, q2, q3, q4, q5, q6⟩ := lc_end rl1.len rl1.as0_le (I := fun acc S' => S' = S2 ∧ I ds.length acc) ⟨S2, R2, as2, acc, rl2, sb, pr, ha2, rfl, rfl, hi2⟩
      subst q5
      exact c _ _ S' R' _ as' q1 (s1.trans q2) (p1.trans q3) (ok_d q4) (iE acc' q6)
/-! sorted, of pairs and of numbers -/
abbrev pD2 (p : Int × Int) : D := .tup [.int p.1, .int p.2]
def pk (R : Hp) : V → Int × Int
  | .ref t => match R t with
    | some (.tup [.int a, .int b]) => (a, b)
    | _ => (0, 0)
  | _ => (0, 0)
theorem den_pair {K : PySem.W.Frag} {R : Hp} {x : V} {p : Int × Int} (h : Den K R x (pD2 p)) : (∃ t, x = .ref t ∧ R t = some (.tup [.int p.1, .int p.2])) ∧ pk R x = p := by
  cases h with
  | tup ha hd =>
    rename_i a vs
    have e := Dens.ints (ns := [p.1, p.2]) hd
    subst e
    refine ⟨⟨a, rfl, ha⟩, ?_⟩
    unfold pk
    dsimp only
    rw [ha]; rfl
theorem dens_pairs {K : PySem.W.Frag} {R : Hp} : ∀ {xs : List V} {ps : List (Int × Int)}, Dens K R xs (ps.map pD2) → (∀ x ∈ xs, (∃ t, x = .ref t ∧ R t = some (.tup [.int (pk R x).1, .int (pk R x).2])) ∧ Den K R x (pD2 (pk R x))) ∧ xs.map (pk R) = ps
  | [], [], _ => ⟨fun x hx => (List.not_mem_nil hx).elim, rfl⟩
  | x :: xs, p :: ps, .cons h t => by
    obtain ⟨t1, t2⟩ := dens_pairs t
    obtain ⟨h1, h2⟩ := den_pair h
    refine ⟨fun y hy => ?_, by rw [List.map_cons, h2, t2]⟩
    rcases List.mem_cons.mp hy with rfl | hy
    · rw [h2]; exact ⟨h1, h⟩
    · exact t1 y hy
  | [], _ :: _, h => nomatch h
  | _ :: _, [], h => nomatch h
theorem dens_of {K : PySem.W.Frag} {R : Hp} {f : V → D} : ∀ {ys : List V}, (∀ y ∈ ys, Den K R y (f y)) → Dens K R ys (ys.map f)
  | [], _ => .nil
  | y :: ys, h => .cons (h y (List.mem_cons_self ..)) (dens_of fun z hz => h z (List.mem_cons_of_mem _ hz))
theorem rc_sortP {ps : List (Int × Int)} (q : ∀ qs : List (Int × Int), qs.Perm ps → k (.d (.lst (qs.map pD2))) S) : RC w (rSortedPO w.K) [.d (.lst (ps.map pD2))] S k := fun R H as us Q rl hu c => by
  obtain ⟨v, rfl, hv⟩ := one_ent hu
  have hv' : Den w.K R v (.lst (ps.map pD2)) := hv
  cases hv' with
  | lst ha hd =>
    rename_i a xs
    obtain ⟨h1, h2⟩ := dens_pairs hd
    refine ⟨a, xs, pk R, rfl, SqL.of (rl.sub _ _ ha), fun x hx => ?_, fun ys p _ st hp => ?_⟩
    · obtain ⟨⟨t, e1, e2⟩, _⟩ := h1 x hx
      exact ⟨t, e1, rl.sub _ _ e2⟩
    · obtain ⟨rl2, s2⟩ := rl.alloc hp (.lst ys)
      have hperm := st.perm
      have hd2 : Dens w.K R ys (ys.map fun y => pD2 (pk R y)) := dens_of (f := fun y => pD2 (pk R y)) fun y hy => (h1 y (hperm.mem_iff.mp hy)).2
      have e : (ys.map fun y => pD2 (pk R y)) = (ys.map (pk R)).map pD2 := by rw [List.map_map]; rfl
      rw [e] at hd2
      exact c _ _ S _ _ as rl2 s2 (Pre.refl _) (ok_d (Den.lst upd_same (hd2.mono s2))) (q _ (by rw [← h2]; exact hperm.map _))
end
section
variable {X : Cx} {e : Expr} {p pos : Pos} {te : TE}
theorem b_sortP (hm : X.mg "sorted" = none) (he : PE X e te) (hg : Gl X "sorted" := by rfl) (hs : starEach [e] X.env = (false, eval e X.env) :: starEach [] X.env := by rfl) : PE X (.Call (.Name "sorted" p) [e] [] pos) (tCB (rSortedPO X.K) (tCons te tNil)) :=
  pe_callB cr_sortedPO hg hm (by decide +kernel) (pa_cons he pa_nil hs) (he := hs)
end
/-! for i in reversed(range(n)) -/
section
variable {w : Wd} {Γ : Env} {S : List Own} {G : GE} {t1 : TS}
theorem ls_forV {ta : TE} {g : TG} (h : LE w ta Γ S fun e S1 => ∃ n : Nat, e = .d (.int n) ∧ n < 2 ^ 60 ∧ ∃ I : Nat → Env → List Own → Prop, I n Γ S1 ∧
    (∀ (i : Nat) Γ1 S2, i < n → I (i + 1) Γ1 S2 → LG w g (.d (.int i)) Γ1 S2 fun Γ2 S3 => LS w t1 Γ2 S3 { G with nx := I i, ct := I i, bk := G.nx }) ∧ (∀ Γ1 S2, I 0 Γ1 S2 → G.nx Γ1 S2)) : LS w (tFor (iRevR (tRg1 ta)) g t1) Γ S G := fun D σ R H as rl s e => by
  refine h σ R H as _ rl s fun v ev S1 R1 H1 as1 rl1 s1 p1 e1 ⟨n, h1, hn, I, i0, is, iE⟩ => ?_
  subst h1
  cases e1
  refine ⟨n, rfl, by decide, by decide, by omega, by omega, ?_⟩
  have en : ((n : Int) - 0).toNat = n := by omega
  rw [en]
  refine for_rangeC (fun t σ' H' => ∃ Γ' S' R' as', Sub R R' ∧ Rel w R' H' as' S' ∧ Sts w.K R' as' σ' Γ' ∧ t ≤ n ∧ I (n - t) Γ' S') ⟨Γ, S1, R1, as1, s1, rl1, s.mono s1 p1, Nat.zero_le _, i0⟩ ?_ ?_
  · rintro t σ2 H2 ht ⟨Γ2, S2, R2, as2, u2, rl2, st2, _, i2⟩
    have et : (0 : Int) + (n : Int) - 1 + (t : Int) * -1 = ((n - (t + 1) : Nat) : Int) := by omega
    rw [et]
    have e2' : n - t = n - (t + 1) + 1 := by omega
    rw [e2'] at i2
    refine is (n - (t + 1)) Γ2 S2 (by omega) i2 _ σ2 R2 H2 as2 _ rl2 st2 (Den.int _) fun Γ3 S3 σ3 R3 H3 as3 rl3 s3 p3 st3 q => ?_
    have up := u2.trans s3
    have e2 := e.up up
    exact q _ σ3 R3 H3 as3 rl3 st3 ⟨fun Γ' S' σ' R' H' as' u a b hi => ⟨Γ', S', R', as', up.trans u, a, b, by omega, hi⟩, e2.rt, e2.nx, fun Γ' S' σ' R' H' as' u a b hi => ⟨Γ', S', R', as', up.trans u, a, b, by omega, hi⟩⟩
  · rintro σ2 H2 ⟨Γ2, S2, R2, as2, u2, rl2, st2, _, i2⟩
    rw [Nat.sub_self] at i2
    exact e.nx Γ2 S2 σ2 R2 H2 as2 u2 rl2 st2 (iE Γ2 S2 i2)
end
end Gm
/-! sorted(set(..)) of lists of numbers -/
namespace Gm
open PySem PySem.Spec PyProof.Rows L2
theorem ints_get : ∀ {vs : List Value} {ns : List Int} {i : Nat} {v : Value}, IntsAre vs ns → vs[i]? = some v → ∃ k t, ns[i]? = some k ∧ v = Value.int k t
  | _, _, _, _, .nil, e => by simp at e
  | _, _, 0, _, .cons n t h, e => by simp at e; exact ⟨n, t, rfl, e.symm⟩
  | _, _, i + 1, _, .cons n t h, e => by
    obtain ⟨k, t', h1, h2⟩ := ints_get (i := i) h (by simpa using e)
    exact ⟨k, t', by simpa using h1, h2⟩
theorem call_set_listI {P : Program} {w : World} {A : Around} {E : Value → Shared → Prop} {s : Shared} {l : Addr} {items : Array Value} (ns : List Int) {Q : Value → Shared → Prop} (hh : A.handled = none) (hl : s.heap.IsList l items) (hit : IntsAre items.toList ns) (hb : ns.length + 1 < scanBound)
    (h : ∀ (h' : Heap) (tk c : Nat), SetR w h' s.heap.objs.size (fun j => decide (j ∈ ns)) c → c ≤ ns.length → (∀ (b : Addr) (o : Obj), s.heap.get? b = some o → h'.get? b = some o) → Q (.ref s.heap.objs.size) { heap := h', gens := s.gens, drawn := s.drawn, toks := tk, os := s.os }) :
    wpAny (model P w) A (call (.type "set") [.ref l]) Q E s := by
  have hisz : items.size = ns.length := by rw [← hit.length, Array.length_toList]
  obtain ⟨c, tl, hmro⟩ := F.called_set.mro
  have hmade := F.called_set.made
  have hsub := F.called_set.sub
  refine wpAny_call (codeAny_of_tree ?_)
  refine wpAny_pure ⟨Code.quiet_builtin _ (by decide +kernel), codeAny_builtin F.entry_type_call ?_⟩
  rw [Around.under_plain (weight_type_call_type "set" [.ref l] []) rfl]
  have h1 := F.called_set.notType
  have h2 := F.called_set.canCreate
  have hct := F.typeCall_set_1 (.ref l)
  unfold Builtin.«type.__call__»
  refine wpAny_ite_false rfl ?_
  refine wpAny_ite_false rfl ?_
  refine wpAny_bind (wpAny_of_eq hct ?_)
  refine wpAny_bind (wpAny_of_eq hmro ?_)
  refine wpAny_ite_false rfl ?_
  refine wpAny_bind (wpAny_of_eq hmade ?_)
  refine wpAny_bind (wpAny_pure ?_)
  refine wpAny_bind (wpAny_holding (wpAny_call ?_))
  refine codeAny_mono (code_set_led1 (P := P) (w := w) (A := A.in1) (E := fun _ _ => False) (s := s) (.ref l) (Q₁ := fun v s1 => v = .ref s.heap.objs.size ∧ s1 = { heap := s.heap.push { cls := Value.type "set", data := Data.set #[] 0 (SetTable.fresh 0 0 !w.params.followText "set-order") }, gens := s.gens, drawn := s.drawn, toks := s.toks, os := s.os }) ⟨rfl, rfl⟩) fun r s₁ hr => ?_
  match r, hr with
  | .ok (.ret v), hr =>
    obtain ⟨rfl, rfl⟩ := hr
    dsimp only
    have hnew : (s.heap.push { cls := Value.type "set", data := Data.set #[] 0 (SetTable.fresh 0 0 !w.params.followText "set-order") }).get? s.heap.objs.size = some { cls := Value.type "set", data := Data.set #[] 0 (SetTable.fresh 0 0 !w.params.followText "set-order") } := Heap.get?_push_size _ rfl
    have hsd : (Data.set #[] 0 (SetTable.fresh 0 0 !w.params.followText "set-order")) = Data.set #[] 0 (SetTable.fresh 0 0 !w.params.followText "set-order") := rfl
    generalize hO : ({ cls := Value.type "set", data := Data.set #[] 0 (SetTable.fresh 0 0 !w.params.followText "set-order") } : Obj) = O at *
    have hty : (Shared.mk (s.heap.push O) s.gens s.drawn s.toks s.os).TypeIs (.ref s.heap.objs.size) "set" := by
      exact ⟨_, hnew, by rw [← hO]⟩
    have hOd : O.data = Data.set #[] 0 (SetTable.fresh 0 0 !w.params.followText "set-order") := by rw [← hO]
    have hOc : O.cls = .type "set" := by rw [← hO]
    refine wpAny_bind (wpAny_isInstance hty hsub ?_)
    refine wpAny_ite_false rfl ?_
    refine wpAny_bind (wpAny_holding ?_)
    unfold callSpecial?
    refine wpAny_bind (wpAny_specialOf hty F.called_set.init.lookup ?_)
    dsimp only
    refine wpAny_holding (wpAny_bind (wpAny_of_eq (F.called_set.init.bind ..) ?_))
    refine wpAny_bind (wpAny_call ?_)
    refine codeAny_mono (R := fun r s' => r = .ok (.ret .none) ∧ ∃ (h' : Heap) (tk c : Nat), s' = { heap := h', gens := s.gens, drawn := s.drawn, toks := tk, os := s.os } ∧ SetR w h' s.heap.objs.size (fun j => decide (j ∈ ns)) c ∧ c ≤ ns.length ∧ (∀ (b : Addr) (o : Obj), s.heap.get? b = some o → h'.get? b = some o)) ?_ fun r s₁ hr => ?_
    · refine codeAny_call_builtin F.called_set.init.plain F.entry_set_init (check_set_init_1 hty ?_)
      unfold Builtin.«set.__init__»
      refine wpAny_bind (wpAny_ite_true rfl (wpAny_pure ?_))
      simp only [List.cons_append, List.nil_append]
      refine wpAny_bind ?_
      unfold typeNameOfCut
      refine wpAny_bind ?_
      unfold shownTypeOf
      refine wpAny_bind (wpAny_typeOf hty ?_)
      refine wpAny_ite_false rfl ?_
      refine wpAny_pure ?_
      refine wpAny_pure ?_
      refine wpAny_bind ?_
      unfold checkCount
      refine wpAny_ite_false rfl ?_
      refine wpAny_ite_false rfl ?_
      refine wpAny_ite_false rfl ?_
      refine wpAny_pure ?_
      refine wpAny_bind ?_
      unfold Builtin.Frozenset.addrOf
      refine wpAny_pure ?_
      refine wpAny_bind ?_
      unfold setUsed
      refine wpAny_bind ?_
      unfold setState
      refine wpAny_bind (wpAny_load' hnew ?_)
      rw [hOd]
      dsimp only
      refine wpAny_ite_false rfl ?_
      refine wpAny_pure ?_
      refine wpAny_pure ?_
      refine wpAny_ite_false rfl ?_
      refine wpAny_bind ?_
      unfold Builtin.Frozenset.updateFrom
      obtain ⟨o, ho, hocls, no, hodata⟩ := hl
      have hl1 : (s.heap.push O).get? l = some o := Heap.get?_push_of_some _ ho
      have hlty : (Shared.mk (s.heap.push O) s.gens s.drawn s.toks s.os).TypeIs (.ref l) "list" := ⟨o, hl1, hocls⟩
      refine wpAny_bind ?_
      unfold Builtin.Frozenset.isAnySet
      refine wpAny_bind (wpAny_isInstance hlty F.sub_list_set ?_)
      show wpAny _ _ (isInstance (.ref l) (.type "frozenset")) _ _ _
      refine wpAny_isInstance hlty F.sub_list_frozenset ?_
      refine wpAny_ite_false rfl ?_
      refine wpAny_bind (wpAny_typeOf hlty ?_)
      refine wpAny_ite_false rfl ?_
      have hIL : (s.heap.push O).IsList l items := ⟨o, hl1, hocls, no, hodata⟩
      refine wpAny_bind (wpAny_pyIter_list hIL ?_)
      refine wpAny_bind (wpAny_runValue ?_)
      have hl0 : l < s.heap.objs.size := Heap.lt_size ho
      have hsz : (s.heap.push O).objs.size = s.heap.objs.size + 1 := Heap.size_push ..
      have hne : l ≠ (s.heap.push O).objs.size := by
        rw [hsz]
        exact Nat.ne_of_lt (Nat.lt_succ_of_lt hl0)
      refine set_update_ints (Walks.toS (Walks.list (A := A.in1.in1.in1) hh (s.heap.push O).objs.size l hne items)) s.heap.objs.size ?_ ns hisz hb ?_ _ 0 _ rfl (Nat.zero_le _) ?_ ⟨0, Nat.le_refl _, setR_new_at ?_⟩ fun s' c' hm hc hs => ?_
      · intro hm
        rcases List.mem_cons.mp hm with e | hm
        · rw [hsz] at e
          exact Nat.ne_of_lt (Nat.lt_succ_self _) e
        · exact Nat.ne_of_gt hl0 (List.mem_singleton.mp hm)
      · intro i v hv
        exact ints_get hit (by rw [Array.getElem?_toList]; exact hv)
      · exact ⟨⟨_, Heap.get?_push_size _ rfl, rfl, rfl⟩, hIL.push _⟩
      · exact (Heap.get?_push_of_some _ hnew).trans (by rw [← hO])
      · refine wpAny_pure (wpAny_pure ⟨rfl, s'.heap, s'.toks, c', ?_, hs, by rw [← hisz]; exact hc, fun b o' hb' => ?_⟩)
        · have e1 := hm.gens
          have e2 := hm.drawn
          have e3 := hm.os
          cases s'
          dsimp only at e1 e2 e3
          subst e1; subst e2; subst e3
          rfl
        · refine hm.heap b o' (fun hm2 => ?_) (Heap.get?_push_of_some _ (Heap.get?_push_of_some _ hb'))
          have hb0 : b < s.heap.objs.size := Heap.lt_size hb'
          rcases List.mem_cons.mp hm2 with e | hm2
          · exact Nat.ne_of_lt hb0 e
          · have e := List.mem_singleton.mp hm2
            rw [hsz] at e
            exact Nat.ne_of_lt (Nat.lt_succ_of_lt hb0) e
    · obtain ⟨rfl, h', tk, c', rfl, hs, hc, hk⟩ := hr
      refine wpAny_pure ?_
      refine wpAny_ite_false rfl ?_
      exact wpAny_pure (h h' tk c' hs hc hk)


theorem vals_ints : ∀ {ns : List Int} {vs : List Value}, Vals (ns.map V.int) vs → IntsAre vs ns
  | [], _, h => by cases h; exact .nil
  | n :: ns, _, h => by
    cases h with
    | cons h t =>
      obtain ⟨tk, rfl⟩ := h
      exact .cons n tk (vals_ints t)
def rSetL (K : PySem.W.Frag) (W : World) : List V → Hp → VK → Prop := fun xs H Q => ∃ (l : Addr) (ns : List Int), xs = [.ref l] ∧ SqL K H l (ns.map V.int) ∧ ns.length + 1 < scanBound ∧ ∀ (p : Addr) (c : Nat), H p = none → c ≤ ns.length → Q (.ref p) (upd H p (SetO W p (fun j => decide (j ∈ ns)) c))
theorem c_setL {X : Cx} (hc : X.A.handled = none) : CallR X (.type "set") (rSetL X.K X.w) := by
  intro pins s σ H xs us Q I r h
  obtain ⟨l, ns, rfl, sq, hb, q⟩ := h
  obtain ⟨u, rfl, ru⟩ := r.one
  obtain rfl : u = Value.ref l := ru
  obtain ⟨its, hv, hp, _⟩ := I.list sq
  refine call_set_listI ns hc (items := its.toArray) ?_ (by exact vals_ints hv) hb fun h' tk c hs hcn hk => ?_
  · obtain ⟨o, n, h1, h2, _, h3⟩ := hp
    exact ⟨o, h1, h2, n, h3⟩
  · exact ⟨.ref s.heap.objs.size, _, I.laid hk (Nat.le_refl _) (setO_new hs), rfl, q _ c I.fresh hcn⟩
section
variable {w : Wd} {Γ : Env} {S : List Own} {k : KE}
theorem le_sortSet {W : World} {te : TE} (h : LE w te Γ S fun e S1 => ∃ s : List Int, IsLst e S1 (s.map D.int) ∧ s.length < 64 ∧ ∀ out : List Int, out.Pairwise (· < ·) → (∀ x, x ∈ out ↔ x ∈ s) → k (.d (.lst (out.map D.int))) S1) :
    LE w (tCB (rSortedSet W) (tCons (tCB (rSetL w.K W) (tCons te tNil)) tNil)) Γ S k := fun σ R H as Q rl s c => by
  refine h σ R H as _ rl s fun v e S1 R1 H1 as1 rl1 s1 p1 e1 ⟨ns, hx, hl, q⟩ => ?_
  obtain ⟨a, ha⟩ := lst_ints (K := w.K) hx rl1 e1
  refine ⟨a, ns, by rw [ha.1], ha.2, Nat.lt_of_lt_of_le (show ns.length + 1 < 70 by omega) (by decide +kernel), fun p n hp hn => ?_⟩
  obtain ⟨rl2, s2⟩ := rl1.alloc hp (SetO W p (fun j => decide (j ∈ ns)) n)
  refine ⟨p, _, n, rfl, upd_same, by omega, fun out p2 h1 h2 h3 hp2 => ?_⟩
  obtain ⟨rl3, s3⟩ := rl2.alloc hp2 (.lst (out.map V.int))
  exact c _ (.d (.lst (out.map D.int))) S1 _ _ as1 rl3 ((s1.trans s2).trans s3) p1 (ok_d (Den.lst upd_same ((Dens.of_ints out).mono s3))) (q out h1 fun x => by rw [h2]; simp)
end
section
variable {X : Cx} {e : Expr} {p pos p2 pos2 : Pos} {te : TE}
theorem b_sortSet (hm : X.mg "sorted" = none) (hm2 : X.mg "set" = none) (he : PE X e te) (hc : X.calm = true := by rfl) (hh : X.A.handled = none := by rfl) (hg : Gl X "sorted" := by rfl) (hg2 : Gl X "set" := by rfl)
    (hs : starEach [e] X.env = (false, eval e X.env) :: starEach [] X.env := by rfl)
    (hs2 : starEach [.Call (.Name "set" p2) [e] [] pos2] X.env = (false, eval (.Call (.Name "set" p2) [e] [] pos2) X.env) :: starEach [] X.env := by rfl) :
    PE X (.Call (.Name "sorted" p) [.Call (.Name "set" p2) [e] [] pos2] [] pos) (tCB (rSortedSet X.w) (tCons (tCB (rSetL X.K X.w) (tCons te tNil)) tNil)) :=
  pe_callB (cr_sortedSet hc) hg hm (by decide +kernel) (pa_cons (pe_callTy (c_setL hh) hg2 hm2 (by decide +kernel) (pa_cons he pa_nil hs) (he := hs)) pa_nil hs2) (he := hs2)
end
/-! sorted(..) of lists of numbers -/
section
variable {w : Wd} {Γ : Env} {S : List Own} {k : KE}
theorem rc_sortI {x : Ent} {s : List Int} (hx : IsLst x S (s.map D.int)) (q : ∀ out : List Int, out.Perm s → out.Pairwise (· ≤ ·) → k (.d (.lst (out.map D.int))) S) : RC w (rSortedI w.K) [x] S k := fun R H as us Q rl hu c => by
  obtain ⟨v, rfl, hv⟩ := one_ent hu
  obtain ⟨a, ha⟩ := lst_ints (K := w.K) hx rl hv
  refine ⟨a, s, by rw [ha.1], ha.2, fun out p h1 h2 hp => ?_⟩
  obtain ⟨rl2, s2⟩ := rl.alloc hp (.lst (out.map V.int))
  exact c _ _ S _ _ as rl2 s2 (Pre.refl _) (ok_d (Den.lst upd_same ((Dens.of_ints out).mono s2))) (q out h1 h2)
end
section
variable {X : Cx} {e : Expr} {p pos : Pos} {te : TE}
theorem b_sortI (hm : X.mg "sorted" = none) (he : PE X e te) (hg : Gl X "sorted" := by rfl) (hs : starEach [e] X.env = (false, eval e X.env) :: starEach [] X.env := by rfl) : PE X (.Call (.Name "sorted" p) [e] [] pos) (tCB (rSortedI X.K) (tCons te tNil)) :=
  pe_callB cr_sortedI hg hm (by decide +kernel) (pa_cons he pa_nil hs) (he := hs)
end
end Gm
/-! calls of defs whose promise wants that no repr runs around -/
namespace Gm
open PySem PySem.Spec PyProof.Rows L2
theorem run_fnG {X : Cx} {CX : CXT} {k : Nat} {f : Addr} {fd : FuncData} {ps : List Str} {sp : Sp} {E : XK} {pins : List (Addr × Obj)} {σ : L2.St} {H : Hp} {s : Shared} {Q : VK} {us : List Value} {vs : List V}
    (F : FnOkG X.prog X.w X.K X.mg X.base CX k f fd ps sp) (hg : X.A.guards = some []) (hr : Room k X.A) (hb : Binds X.K fd ps []) (hx : Passes CX X E) (I : L2.Inv X pins σ H s) (r : Vals vs us) (h : sp vs H Q E) : wpAny (model X.prog X.w) X.A (call (.ref f) us) (EP X pins σ Q) X.xe s := by
  have hl : us.length = ps.length := by rw [← F.len vs H Q E h, r.length]
  have hbd := hb s us I.kIn (by rw [List.append_nil]; exact hl)
  rw [List.append_nil] at hbd
  refine wpAny_call (codeAny_mono (F.run X.A X.stack s H ⟨us, []⟩ us vs Q E hg hr I.env0 hbd r h) fun r s' hr => ?_)
  match r, hr with
  | .error e, hr => exact hx pins σ H s e s' I hr
  | .ok .next, hr => exact hr.elim
  | .ok .brk, hr => exact hr.elim
  | .ok .cont, hr => exact hr.elim
  | .ok (.ret u), hr => exact I.after hr
structure DfG (P : Program) (w0 : World) (K : PySem.W.Frag) (mg : Str → Option Value) (base : Heap) (CX : CXT) (k : Nat) (x : Str) (n : Nat) (ds : DS) : Prop where
  ex : ∃ (f : Addr) (fd : FuncData) (ps : List Str), ps.length = n ∧ FnOkG P w0 K mg base CX k f fd ps (spD K ds) ∧ mg x = some (.ref f) ∧ PySem.W.keepIn K (.ref f) = true ∧ Binds K fd ps []
theorem pe_dfG {X : Cx} {CX : CXT} {k n : Nat} {x : Str} {ds : DS} {E : XK} {p pos : Pos} {e : Expr} {es : List Expr} {t : TA} (hgu : X.A.guards = some []) (d : DfG X.prog X.w X.K X.mg X.base CX k x n ds) (hr : Room k X.A) (hx : Passes CX X E) (ha : PA X (e :: es) t) (hg : Gl X x := by rfl) (hdb : (x == ("__debug__" : Str)) = false := by decide)
    (he : starEach (e :: es) X.env = (false, eval e X.env) :: starEach es X.env := by rfl) (hpl : (backTo pos (starEach es X.env)).any (·.1) = false := by rfl) : PE X (.Call (.Name x p) (e :: es) [] pos) (tCall (spD X.K ds) [] E t) := by
  obtain ⟨f, fd, ps, _, F, hm, hk, hb⟩ := d.ex
  refine ⟨fun pins s σ H Q I h => ?_⟩
  refine wpAny_Call_Name_kw (ld_glob I hg hm ?_ hdb)
  refine PySem.W.callWith_K (first := []) (h₀ := X.base) I.ok.mod.kin hk (thn (ha.run pos pins s σ H _ I h) fun us s1 ⟨vs, H1, I1, r1, q1⟩ => ⟨I1.kIn, ?_⟩) he hpl
  dsimp only at q1
  rw [List.append_nil] at q1
  exact run_fnG F hgu hr hb hx I1 r1 q1
end Gm
/-! sets of numbers by comprehension -/
namespace Gm
open PySem PySem.Spec PyProof.Rows L2
/-- a turn of the comprehension: what the set at D is afterwards -/
abbrev SciT (w : World) (g : TG) (tt : TT) (te : TE) (vs : List Nat) (D : Addr) (x : V) (σ : L2.St) (H : Hp) (N : Hp → Prop) : Prop :=
  g x (wipe σ vs) H fun τ H2 => wipe τ vs = wipe σ vs ∧ tt τ H2 fun b H3 => if b = true then te τ H3 fun y H4 =>
    ∃ (c : Int) (Z : Int → Bool) (n : Nat), y = .int c ∧ H4 D = some (SetO w D Z n) ∧ n + 1 < scanBound ∧ N (upd H4 D (SetO w D (fun j => Z j || decide (j = c)) (if Z c = true then n else n + 1))) else N H3
abbrev set0 (w : World) (H : Hp) (D : Addr) : Hp := upd H D (SetO w D (fun _ => false) 0)
def tSci (w : World) (wi : TI) (g : TG) (tt : TT) (te : TE) (vs : List Nat) : TE := fun σ H Q => wi σ H fun J H1 => ∀ D, H1 D = none → ∃ W : Nat → Nat → Hp → Prop,
  (∃ m, W 0 m (set0 w H1 D)) ∧ ∀ i m H, W i m H → (J.stop i H ∧ Q (.ref D) H) ∨ (J.go i H ∧ ∃ N : Hp → Prop, (∀ H', N H' → ∃ m', m' < m ∧ W (i + 1) m' H') ∧ ∀ x H', J.yld i H x H' → SciT w g tt te vs D x σ H' N)
section
variable {X : Cx}
theorem addI_ok {pins : List (Addr × Obj)} {σ : L2.St} {H : Hp} {s : Shared} {E : Value → Shared → Prop} {D : Addr} {Z : Int → Bool} {n : Nat} {y : Int} {tk : Tok} {Q : Value → Shared → Prop}
    (I : Inv X pins σ H s) (hD : H D = some (SetO X.w D Z n)) (hn : n + 1 < scanBound)
    (q : ∀ t, Inv X pins σ (upd H D (SetO X.w D (fun j => Z j || decide (j = y)) (if Z y = true then n else n + 1))) t → Q .none t) :
    wpAny (model X.prog X.w) X.A (call (.builtin "set.add") [.ref D, .int y tk]) Q E s :=
  setR_add (setO_get I hD) hn fun h' sb new => q _ (I.write (e := D) (t' := s.toks + 1) (by rw [hD]; trivial) (.inl rfl) (fun b u h1 h2 => (sb.2 b h1).trans h2) ⟨_, new.choose_spec.choose_spec.choose_spec.choose_spec.1⟩ (setO_new new))
variable {elt tg iter : Expr} {ifs : List Expr} {scope : Scope} {own : List (PySem.Str × Nat)} {pos : Pos} {wi : TI} {g : TG} {tt : TT} {te : TE}
theorem pe_sci (hc : X.calm = true) (hN : X.N.Nodup) (hi : PI X tg iter wi) (ok : BlkOk X.N X.env.scope scope own)
    (hg : ∀ (s : Shared) (H : Hp) (C : Addr) (cl : List (PySem.Str × Addr)) (fp : List Addr), PG (X.blk s H scope (compEnvC scope cl C X.env) fp) tg g)
    (ht : ∀ (s : Shared) (H : Hp) (C : Addr) (cl : List (PySem.Str × Addr)) (fp : List Addr), PTs (X.blk s H scope (compEnvC scope cl C X.env) fp) ifs tt)
    (he : ∀ (s : Shared) (H : Hp) (C : Addr) (cl : List (PySem.Str × Addr)) (fp : List Addr), PE (X.blk s H scope (compEnvC scope cl C X.env) fp) elt te)
    (hs : ∀ x, foldedSetIterable iter X.env x = pure x := by intro _; rfl) :
    PE X (.SetComp elt [⟨tg, iter, ifs, 0⟩] scope pos) (tSci X.w wi g tt te (own.map (·.2))) := by
  refine ⟨fun pins s0 σ H Q I h => ?_⟩
  rw [PpSet.eval_SetComp]
  have fr : ∀ y ∈ scope.names, y.2 = .free → ∃ c, X.env.cells.lookup y.1 = some c := by
    intro y hy e
    cases ok.free y hy e with
    | inl k => exact I.ok.has _ (.inl k)
    | inr k => exact I.ok.has _ (.inr k)
  refine wpAny_comprehension_free rfl hs (closure_ok fr) ok.kind (fun y hy e => by rw [ok.uniq y hy, e]) (thn (hi.run pins s0 σ H _ I h) ?_)
  intro xv s1 hx
  refine thn hx ?_
  rintro _ s2 ⟨it, fp, tn, J, H2, rfl, I2, T, st2, f2, q⟩
  refine PpSet.newSet_ok (newEnv_comp ?_)
  obtain ⟨D, hD⟩ : ∃ D, s2.heap.objs.size = D := ⟨_, rfl⟩
  rw [hD]
  have dn : H2 D = none := I2.hok.fresh (Nat.le_of_eq hD)
  obtain ⟨W, ⟨m0, w0⟩, turn⟩ := q D dn
  obtain ⟨s3, hs3⟩ : ∃ s3 : Shared, s3 = { s2 with heap := s2.heap.push { cls := .type "set", dict := none, data := .set #[] 0 (.fresh 0 0 (!X.w.params.followText "set-order")) } } := ⟨_, rfl⟩
  rw [← hs3]
  have up3 : ∀ (b : Addr) (o : Obj), s2.heap.get? b = some o → s3.heap.get? b = some o := fun b o e => by rw [hs3]; exact Heap.get?_push_of_some _ e
  have I3 : Inv X pins σ (set0 X.w H2 D) s3 := by
    subst hs3
    subst hD
    exact I2.laid (t' := s2.toks) (fun b o e => Heap.get?_push_of_some _ e) (Nat.le_refl _) (setO_new (setR_fresh X.w))
  have z3 : s3.heap.objs.size = s2.heap.objs.size + 1 := by rw [hs3]; exact Heap.size_push ..
  have f3 : ∀ b ∈ fp, FpOk X pins (set0 X.w H2 D) b ∧ b < s3.heap.objs.size := by
    intro b hb
    obtain ⟨o, eo, _⟩ := T.obj _ _ st2 b hb
    have lt := Heap.lt_size eo
    refine ⟨⟨?_, (f2 b hb).2⟩, by rw [z3]; exact Nat.lt_succ_of_lt lt⟩
    have ne : b ≠ D := by rw [← hD]; exact Nat.ne_of_lt lt
    rw [set0, upd_ne ne]
    exact (f2 b hb).1
  have st3 : tn 0 s3.heap := T.keep _ _ _ st2 fun b _ o e => up3 b o e
  have I4 := block_start I3 ok hN f3
  generalize hK : cellsFrom (s3.heap.objs.size + 1) scope.names (cloFrom X.env.cells scope.names []) = cl at I4 ⊢
  have pg := hg s3 (set0 X.w H2 D) s3.heap.objs.size cl fp
  have pt := ht s3 (set0 X.w H2 D) s3.heap.objs.size cl fp
  have pe := he s3 (set0 X.w H2 D) s3.heap.objs.size cl fp
  have nf : ∀ b ∈ fp, (set0 X.w H2 D) b = none := fun b hb => (f3 b hb).1.1
  obtain ⟨ce, hce⟩ : ∃ ce, ce = compEnvC scope cl s3.heap.objs.size X.env := ⟨_, rfl⟩
  rw [← hce] at I4 pg pt pe
  have cL : ce.locals = s3.heap.objs.size := by rw [hce]; rfl
  obtain ⟨H3, hH3⟩ : ∃ H3, H3 = set0 X.w H2 D := ⟨_, rfl⟩
  rw [← hH3] at I3 I4 pg pt pe w0 nf f3
  obtain ⟨s4, hs4⟩ : ∃ s4 : Shared, s4 = { s3 with heap := pushCells (s3.heap.push { cls := .type "dict", data := .dict #[] }) scope.names } := ⟨_, rfl⟩
  have st4 : tn 0 s4.heap := T.keep _ _ _ st3 fun b _ o e => by
    rw [hs4]
    exact pushCells_keeps _ _ _ _ (Heap.get?_push_of_some _ e)
  rw [← hs4] at I4
  have stat : ∀ {τ : L2.St} {K : Hp} {t : Shared}, Inv (X.blk s3 H3 scope ce fp) [] τ K t → (∀ b ∈ fp, K b = none) → ∀ b ∈ fp, FpOk (X.blk s3 H3 scope ce fp) [] K b := by
    intro τ K t J' hn b hb
    refine ⟨hn b hb, (J'.ok.exf b hb).1, J'.ok.exfs b hb, .inl hb, fun x c e => (J'.ok.exf b hb).2 x c e, fun p hp => ?_⟩
    exact absurd (show p ∈ ([] : List (Addr × Obj)) ++ [] from hp) (by simp)
  show codeAny _ _ (.compStart _ 0 (.ref it) (.ref D) (compEnvC scope cl s3.heap.objs.size X.env)) (compPost _ _ _ none _ _ s3.heap.objs.size) _
  rw [← hce, ← hs4]
  refine (fun loop => PpSet.codeAny_compStart_set loop (T.self X.A 0 _ _ _ st4 loop)) ?_
  refine PpSet.compLoopS_any (fun n t => ∃ i K, Inv (X.blk s3 H3 scope ce fp) [] (wipe σ (own.map (·.2))) K t ∧ tn i t.heap ∧ (∀ b ∈ fp, K b = none) ∧ W i n K) ?_ m0 ⟨0, H3, I4, st4, nf, w0⟩
  rintro n s5 ⟨i, H5, I5, st5, n5, w5⟩
  cases turn i n H5 w5 with
  | inl e =>
    obtain ⟨stop, qq⟩ := e
    refine thnF (T.done (X.blk s3 H3 scope ce fp) rfl rfl rfl hc i [] s5 _ H5 (fun _ _ => False) I5 (stat I5 n5) st5 stop) ?_
    rintro _ s6 ⟨rfl, I6⟩
    have I7 : Inv X pins σ H5 s6 := by
      refine I3.call' (ch := fp) I6.os I6.base I6.hok I6.bare fun b hb => ?_
      have f := (f3 b hb).1.2
      exact ⟨f.2.2.1, f.1, f.2.2.2.1, f.2.2.2.2⟩
    have nC : H5 s3.heap.objs.size = none := by
      rw [← cL]
      exact I6.free
    obtain ⟨m, hm, _⟩ := I6.loc
    refine ⟨m, by rw [← cL]; exact hm, fun h2 sb => ?_⟩
    obtain ⟨g0, g1, g2, g3, g4, g5⟩ := I3.fpOk (Nat.le_refl _) nC
    exact ⟨.ref D, H5, I7.turned (t' := s6.toks) (fun b o hb e => (sb.2 b hb).trans e) g0 g1 g3 g4 g5, rfl, qq⟩
  | inr e =>
    obtain ⟨go, N, hN2, step⟩ := e
    refine thnF (T.item (X.blk s3 H3 scope ce fp) rfl rfl rfl hc i [] s5 _ H5 (fun _ _ => False) I5 (stat I5 n5) st5 go) ?_
    rintro _ s6 ⟨u, rfl, h6⟩
    refine thnF h6 ?_
    rintro _ s7 ⟨x, H7, I7, r7, y7, st7, n7⟩
    refine thnF (pg.run _ s7 _ H7 x u _ (I7.pinned (stat I7 n7) (T.obj _ _ st7)) r7 (step x H7 y7)) ?_
    rintro _ s8 ⟨τ, H8, I8, hw8, q8⟩
    refine thnF (pt.run _ s8 τ H8 _ I8 q8) ?_
    rintro b s9 ⟨H9, I9, q9⟩
    have fin : ∀ {t : Shared} {K : Hp}, Inv (X.blk s3 H3 scope ce fp) ([] ++ pinsAt fp s7.heap) τ K t → N K → ∃ m, m < n ∧ ∃ i K, Inv (X.blk s3 H3 scope ce fp) [] (wipe σ (own.map (·.2))) K t ∧ tn i t.heap ∧ (∀ b ∈ fp, K b = none) ∧ W i m K := by
      intro t K J' nx
      obtain ⟨m', hm, w'⟩ := hN2 K nx
      have pn : ∀ b ∈ fp, ∀ o, s7.heap.get? b = some o → t.heap.get? b = some o ∧ K b = none := by
        intro b hb o e
        have z := J'.pin (b, o) (List.mem_append_right _ (List.mem_append_right _ (mem_pinsAt hb e)))
        exact ⟨z.1, z.2.1⟩
      refine ⟨m', hm, i + 1, K, (J'.unpinned (pins := [])).weak ?_ (fun j v e => ?_), T.keep _ _ _ st7 fun b hb o e => (pn b hb o e).1, fun b hb => ?_, w'⟩
      · rw [← hw8, wipe_length]
      · rw [← hw8] at e
        exact (wipe_some e).1
      · obtain ⟨o, e, _⟩ := T.obj _ _ st7 b hb
        exact (pn b hb o e).2
    cases b with
    | false =>
      simp only [Bool.false_eq_true, if_false] at q9 ⊢
      exact fin I9 q9
    | true =>
      simp only [if_true] at q9 ⊢
      refine thnF (pe.run _ s9 τ H9 _ I9 q9) ?_
      rintro z s10 ⟨yv, H10, I10, r10, cb, S0, n0, rfl, hD10, hz10, nx⟩
      obtain ⟨tk, rfl⟩ : ∃ tk, z = Value.int cb tk := r10
      exact addI_ok (X := X.blk s3 H3 scope ce fp) I10 hD10 hz10 fun s11 I11 => fin I11 nx
end
/-! ### sorted({.. for x in xs}) of an expression that changes nothing -/
def PureI (K : PySem.W.Frag) (Γ : Env) (v : Nat) (te : TE) (x y : Int) : Prop := ∀ (R : Hp) (as : List Addr) (σ : L2.St) (H : Hp) (Q : VK), Sts K R as σ (Γ.set v (some (.d (.int x)))) → Q (.int y) H → te σ H Q
theorem pure_mod {K : PySem.W.Frag} {Γ : Env} {v i j : Nat} {x a p : Int} (h1 : (Γ.set v (some (.d (.int x))))[i]? = some (some (.d (.int a)))) (h2 : (Γ.set v (some (.d (.int x))))[j]? = some (some (.d (.int p)))) (hp : 0 < p) :
    PureI K Γ v (tOp (rI (fun _ j => 0 < j) fun i j => .int (i % j)) (tVar i) (tVar j)) x (a % p) := fun R as σ H Q st q => by
  obtain ⟨u1, e1, o1⟩ := st.get _ _ h1
  obtain ⟨u2, e2, o2⟩ := st.get _ _ h2
  cases (show Den K R u1 (.int a) from o1)
  cases (show Den K R u2 (.int p) from o2)
  exact ⟨_, e1, _, e2, a, p, rfl, rfl, hp, q⟩
section
variable {w : Wd} {Γ : Env} {S : List Own} {k : KE} {tl te : TE} {v : Nat} {W : World} {g0 : TE}
/-- the set under way -/
def SetP (W : World) (H1 : Hp) (D : Addr) (ns : List Int) (m : Nat) (i : Nat) (H : Hp) : Prop := ∃ n, n ≤ i ∧ H = upd H1 D (SetO W D (fun j => decide (j ∈ ns.take i)) n) ∧ i ≤ ns.length ∧ m = ns.length - i
theorem sci_walk {Γ : Env} {R H1 : Hp} {as : List Addr} {σ : L2.St} {a B : Addr} {vs : List V} {xs : List Int} {f : Int → Int} {Q : VK} (st : Sts w.K R as σ Γ) (sub : Sub R H1) (hD : H1 B = none) (ha : R a = some (.lst vs)) (hx : Dens w.K R vs (xs.map D.int)) (h64 : xs.length < 64)
    (hp : ∀ x ∈ xs, PureI w.K Γ v te x (f x)) (q : ∀ n, n ≤ xs.length → Q (.ref B) (upd H1 B (SetO W B (fun j => decide (j ∈ xs.map f)) n))) :
    ∃ Wk : Nat → Nat → Hp → Prop, (∃ m, Wk 0 m (set0 W H1 B)) ∧ ∀ i m H, Wk i m H → ((Itl w.K a).stop i H ∧ Q (.ref B) H) ∨ ((Itl w.K a).go i H ∧ ∃ N : Hp → Prop, (∀ H', N H' → ∃ m', m' < m ∧ Wk (i + 1) m' H') ∧ ∀ x H', (Itl w.K a).yld i H x H' → SciT W (gName v) tYes te [v] B x σ H' N) := by
  have hl : (xs.map f).length = xs.length := List.length_map _
  refine ⟨fun i m H => SetP W H1 B (xs.map f) m i H, ⟨(xs.map f).length, 0, Nat.le_refl _, rfl, Nat.zero_le _, rfl⟩, ?_⟩
  rintro i m H ⟨n, hn, rfl, hi, rfl⟩
  have ss : Sub R (upd H1 B (SetO W B (fun j => decide (j ∈ (xs.map f).take i)) n)) := fun b o e => by
    have e1 := sub b o e
    rw [upd_ne (ne_of_none e1 hD)]
    exact e1
  have ha' : SqL w.K (upd H1 B (SetO W B (fun j => decide (j ∈ (xs.map f).take i)) n)) a vs := SqL.of (ss _ _ ha)
  have hv : vs.length = xs.length := by rw [hx.len, List.length_map]
  by_cases hlt : i < xs.length
  · have hiv : i < vs.length := by omega
    refine .inr ⟨⟨vs, vs[i], ha', List.getElem?_eq_getElem hiv⟩, fun H' => SetP W H1 B (xs.map f) ((xs.map f).length - (i + 1)) (i + 1) H', fun H' p => ⟨_, by omega, p⟩, ?_⟩
    rintro x H' ⟨rfl, y⟩
    have ex := y vs ha'
    obtain ⟨d, hd1, hd2⟩ := hx.get2 ex
    have hxi : xs[i]? = some xs[i] := List.getElem?_eq_getElem hlt
    rw [List.getElem?_map, hxi] at hd1
    have hd1 : some (D.int xs[i]) = some d := hd1
    cases hd1
    have e1 : ((wipe σ [v]).set v (some x)) = σ.set v (some x) := List.set_set ..
    refine ⟨?_, ?_⟩
    · show ((wipe σ [v]).set v (some x)).set v none = σ.set v none
      rw [e1, List.set_set]
    show te _ _ _
    rw [e1]
    refine hp xs[i] (List.getElem_mem hlt) R as _ _ _ (st.set v (ok_d hd2)) ⟨f xs[i], _, n, rfl, upd_same, Nat.lt_of_lt_of_le (show n + 1 < 70 by omega) (by decide +kernel), ?_⟩
    rw [upd_upd]
    have et : (xs.map f).take (i + 1) = (xs.map f).take i ++ [f xs[i]] := by
      rw [List.take_add_one, List.getElem?_map, hxi]; rfl
    have ef : (fun j => decide (j ∈ (xs.map f).take i) || decide (j = f xs[i])) = fun j => decide (j ∈ (xs.map f).take (i + 1)) := by
      funext j
      rw [et]
      simp [List.mem_append]
    rw [ef]
    exact ⟨_, by split <;> omega, rfl, by omega, rfl⟩
  · have e : i = xs.length := by omega
    subst e
    refine .inl ⟨⟨vs, ha', by omega⟩, ?_⟩
    have et : (xs.map f).take xs.length = xs.map f := List.take_of_length_le (by omega)
    rw [et]
    exact q n hn
theorem le_sortSc (f : Int → Int) (h : LE w tl Γ S fun e S1 => ∃ xs : List Int, e = .d (.lst (xs.map D.int)) ∧ xs.length < 64 ∧ (∀ x, x ∈ xs → PureI w.K Γ v te x (f x)) ∧
    ∀ out : List Int, out.Pairwise (· < ·) → (∀ y, y ∈ out ↔ ∃ x, x ∈ xs ∧ f x = y) → k (.d (.lst (out.map D.int))) S1) :
    LE w (tCB (rSortedSet W) (tCons (tSci W (iList w.K tl) (gName v) tYes te [v]) tNil)) Γ S k := fun σ R H as Q rl s c => by
  refine h σ R H as _ rl s fun vl el S1 R1 H1 as1 rl1 s1 p1 e1 ⟨xs, h1, h64, hp, q⟩ => ?_
  subst h1
  cases e1 with
  | lst ha hd =>
    rename_i a vs
    refine ⟨a, rfl, ⟨vs, SqL.of (rl1.sub _ _ ha)⟩, fun B hB => ?_⟩
    refine sci_walk (W := W) (Q := fun x H1 => rSortedSet W [x] H1 Q) (s.mono s1 p1) rl1.sub hB ha hd h64 hp fun n hn => ?_
    obtain ⟨rl2, s2⟩ := rl1.alloc hB (SetO W B (fun j => decide (j ∈ xs.map f)) n)
    refine ⟨B, _, n, rfl, upd_same, by omega, fun out p2 g1 g2 g3 hp2 => ?_⟩
    obtain ⟨rl3, s3⟩ := rl2.alloc hp2 (.lst (out.map V.int))
    exact c _ (.d (.lst (out.map D.int))) S1 _ _ as1 rl3 ((s1.trans s2).trans s3) p1 (ok_d (Den.lst upd_same ((Dens.of_ints out).mono s3))) (q out g1 fun y => by rw [g2]; simp)
theorem le_sortScO (f : Int → Int) (h : LE w tl Γ S fun e S1 => ∃ xs : List Int, e = .d (.lst (xs.map D.int)) ∧ xs.length < 64 ∧ (∀ x, x ∈ xs → PureI w.K Γ v te x (f x)) ∧
    ∀ out : List Int, out.Pairwise (· < ·) → (∀ y, y ∈ out ↔ ∃ x, x ∈ xs ∧ f x = y) → k (.own S1.length) (S1 ++ [.lst (out.map D.int)])) :
    LE w (tCB (rSortedSet W) (tCons (tSci W (iList w.K tl) (gName v) tYes te [v]) tNil)) Γ S k := fun σ R H as Q rl s c => by
  refine h σ R H as _ rl s fun vl el S1 R1 H1 as1 rl1 s1 p1 e1 ⟨xs, h1, h64, hp, q⟩ => ?_
  subst h1
  cases e1 with
  | lst ha hd =>
    rename_i a vs
    refine ⟨a, rfl, ⟨vs, SqL.of (rl1.sub _ _ ha)⟩, fun B hB => ?_⟩
    refine sci_walk (W := W) (Q := fun x H1 => rSortedSet W [x] H1 Q) (s.mono s1 p1) rl1.sub hB ha hd h64 hp fun n hn => ?_
    obtain ⟨rl2, s2⟩ := rl1.alloc hB (SetO W B (fun j => decide (j ∈ xs.map f)) n)
    refine ⟨B, _, n, rfl, upd_same, by omega, fun out p2 g1 g2 g3 hp2 => ?_⟩
    have rl3 := rl2.allocO hp2 (.lst (out.map V.int)) (o := .lst (out.map D.int)) ⟨(rl2.fresh hp2).1, _, upd_same, Dens.of_ints out⟩
    exact c _ (.own S1.length) _ _ _ _ rl3 (s1.trans s2) (p1.trans (Pre.app _ _)) (show EntOk w.K _ _ (.ref p2) (.own S1.length) from ⟨p2, by rw [← rl2.len]; exact List.getElem?_concat_length, rfl⟩) (q out g1 fun y => by rw [g2]; simp)
end
section
variable {X : Cx} {e : Expr} {p pos : Pos} {te : TE}
theorem b_sortSc (hm : X.mg "sorted" = none) (he : PE X e te) (hc : X.calm = true := by rfl) (hg : Gl X "sorted" := by rfl) (hs : starEach [e] X.env = (false, eval e X.env) :: starEach [] X.env := by rfl) : PE X (.Call (.Name "sorted" p) [e] [] pos) (tCB (rSortedSet X.w) (tCons te tNil)) :=
  pe_callB (cr_sortedSet hc) hg hm (by decide +kernel) (pa_cons he pa_nil hs) (he := hs)
end
/-! k in a list of numbers -/
theorem inV_ints (n : Int) (s : List Int) : inV (.int n) (s.map V.int) = decide (n ∈ s) := by
  unfold inV
  rw [Bool.eq_iff_iff, List.any_eq_true, decide_eq_true_iff]
  constructor
  · rintro ⟨y, hy, e⟩
    obtain ⟨z, hz, rfl⟩ := List.mem_map.mp hy
    have : z = n := by simpa [eqV] using e
    rw [← this]; exact hz
  · intro h
    exact ⟨_, List.mem_map_of_mem h, by simp [eqV]⟩
section
variable {w : Wd} {S : List Own} {k : KE}
theorem rr_inI {y : Ent} {n : Int} {s : List Int} (hy : IsLst y S (s.map D.int)) (q : k (.d (.bl (decide (n ∈ s)))) S) : RR w (rIn w.K false) (.d (.int n)) y S k := fun R H as u v Q rl hu hv c => by
  obtain ⟨a, rfl, h⟩ := lst_ints (K := w.K) hy rl hv
  cases (show Den w.K R u (.int n) from hu)
  refine ⟨a, _, rfl, .inl h, rfl, by simp [List.all_map, flatV], ?_⟩
  rw [if_neg Bool.false_ne_true, inV_ints]
  exact c _ _ S R H as rl (Sub.refl _) (Pre.refl _) (ok_d (Den.bl _)) q
theorem rr_niI {y : Ent} {n : Int} {s : List Int} (hy : IsLst y S (s.map D.int)) (q : k (.d (.bl (!decide (n ∈ s)))) S) : RR w (rIn w.K true) (.d (.int n)) y S k := fun R H as u v Q rl hu hv c => by
  obtain ⟨a, rfl, h⟩ := lst_ints (K := w.K) hy rl hv
  cases (show Den w.K R u (.int n) from hu)
  refine ⟨a, _, rfl, .inl h, rfl, by simp [List.all_map, flatV], ?_⟩
  rw [if_pos rfl, inV_ints]
  exact c _ _ S R H as rl (Sub.refl _) (Pre.refl _) (ok_d (Den.bl _)) q
end
/-! k in xs inside a comprehension -/
theorem op_in_seqB {X : Cx} (K : PySem.W.Frag) (hK : X.K = K := by rfl) : OpR X (compareOp .In) (rIn K false) := by subst hK; exact op_in_seq
theorem op_notIn_seqB {X : Cx} (K : PySem.W.Frag) (hK : X.K = K := by rfl) : OpR X (compareOp .NotIn) (rIn K true) := by subst hK; exact op_notIn_seq
theorem at_zero (d : D) (ds : List D) : atI (d :: ds) 0 = some d := by
  unfold atI ixN
  rw [if_pos (Int.le_refl _), if_pos (by simp only [List.length_cons]; omega)]
  rfl
end Gm
/-! tuples that hold things of the store: ==, items, as a call's answer -/
namespace Gm
open PySem L2
section
variable {w : Wd} {S : List Own} {k : KE}
def entPs (S : List Own) : List Ent → Option (List PyData)
  | [] => some []
  | e :: es => (entP S e).bind fun y => (entPs S es).map (y :: ·)
def entQ (S : List Own) : Ent → Option PyData
  | .tup es => (entPs S es).map PyData.tuple
  | e => entP S e
theorem entPs_dp {R H : Hp} {as : List Addr} (rl : Rel w R H as S) : ∀ {vs : List V} {es : List Ent} {ps : List PyData}, EntsOk w.K R as vs es → entPs S es = some ps → DpAll w.K H vs ps
  | [], [], _, _, e => by cases e; exact .nil
  | v :: vs, x :: es, ps, ⟨h, t⟩, e => by
    simp [entPs, Option.bind_eq_some_iff] at e
    obtain ⟨y, h1, ys, h2, h3⟩ := e
    subst h3
    exact .cons (entP_dp rl h h1) (entPs_dp rl t h2)
  | [], _ :: _, _, h, _ => h.elim
  | _ :: _, [], _, h, _ => h.elim
theorem entQ_dp {R H : Hp} {as : List Addr} {v : V} {x : Ent} {p : PyData} (rl : Rel w R H as S) (h : EntOk w.K R as v x) (e : entQ S x = some p) : Dp w.K H v p := by
  cases x with
  | d x => exact entP_dp rl h e
  | own i => exact entP_dp rl h e
  | tup es =>
    obtain ⟨a, vs, rfl, h2, h3⟩ := h
    have e : (entPs S es).map PyData.tuple = some p := e
    rw [Option.map_eq_some_iff] at e
    obtain ⟨ps, h4, rfl⟩ := e
    exact .tup (SqT.of (rl.sub _ _ h2)) (entPs_dp rl h3 h4)
theorem rr_eqQ {x y : Ent} {d e : PyData} (hx : entQ S x = some d) (hy : entQ S y = some e) (sd : SeqAt.shaped d = true) (se : SeqAt.shaped e = true) (q : k (.d (.bl (PyData.eqv d e))) S) : RR w (rEqD w.K) x y S k := fun R H as u v Q rl hu hv c =>
  ⟨d, e, entQ_dp rl hu hx, entQ_dp rl hv hy, sd, se, c _ _ S R H as rl (Sub.refl _) (Pre.refl _) (ok_d (Den.bl _)) q⟩
theorem rr_neQ {x y : Ent} {d e : PyData} (hx : entQ S x = some d) (hy : entQ S y = some e) (sd : SeqAt.shaped d = true) (se : SeqAt.shaped e = true) (q : k (.d (.bl (!PyData.eqv d e))) S) : RR w (rNeD w.K) x y S k := fun R H as u v Q rl hu hv c =>
  ⟨d, e, entQ_dp rl hu hx, entQ_dp rl hv hy, sd, se, c _ _ S R H as rl (Sub.refl _) (Pre.refl _) (ok_d (Den.bl _)) q⟩
theorem ents_at {K : PySem.W.Frag} {R : Hp} {as : List Addr} : ∀ {vs : List V} {es : List Ent} {j : Nat} {e : Ent}, EntsOk K R as vs es → es[j]? = some e → ∃ v, vs[j]? = some v ∧ EntOk K R as v e
  | v :: _, x :: _, 0, e, ⟨h, _⟩, q => by simp at q; subst q; exact ⟨v, rfl, h⟩
  | v :: vs, x :: es, j + 1, e, ⟨_, t⟩, q => by
    obtain ⟨u, h1, h2⟩ := ents_at t (by simpa using q)
    exact ⟨u, by simpa using h1, h2⟩
  | [], [], _, _, _, q => by simp at q
  | [], _ :: _, _, _, h, _ => h.elim
  | _ :: _, [], _, _, h, _ => h.elim
theorem rr_ixTE {es : List Ent} {i : Int} {j : Nat} {e : Ent} (h1 : ixN es.length i = some j) (h2 : es[j]? = some e) (q : k e S) : RR w (rIxT w.K) (.tup es) (.d (.int i)) S k := fun R H as u' v' Q rl hu hv c => by
  cases (show Den w.K R v' (.int i) from hv)
  obtain ⟨a, vs, rfl, ha, he⟩ := hu
  obtain ⟨v, e1, e2⟩ := ents_at he h2
  exact ⟨_, _, i, v, rfl, rfl, SqT.of (rl.sub _ _ ha), atI_map he.len h1 e1, c _ _ S R H as rl (Sub.refl _) (Pre.refl _) e2 q⟩
end
section
variable {w : Wd} {S : List Own} {α : Type} {pre : α → List Ent → List Own → Prop} {post : α → Ent → List Own → Prop} {E : XK} {k : KE}
theorem backs_tup (n : Nat) : ∀ ds : List D, Ent.backs [] n (ds.map Ent.d ++ [.own 0]) = ds.map Ent.d ++ [.own n]
  | [] => by simp [Ent.backs, Ent.back]
  | d :: ds => by
    show Ent.back [] n (.d d) :: Ent.backs [] n (ds.map Ent.d ++ [.own 0]) = _
    rw [backs_tup n ds]; rfl
/-- nothing is borrowed, it gives a tuple whose last item is a new thing of the store -/
theorem r0T {es : List Ent} (a : α) (hpre : pre a es []) (h : ∀ e S', post a e S' → ∃ (o' : Own) (ds : List D), S' = [o'] ∧ e = .tup (ds.map Ent.d ++ [.own 0]) ∧ k (.tup (ds.map Ent.d ++ [.own S.length])) (S ++ [o'])) (hw : es.all (Ent.wf 0) = true := by rfl) : RS w (ds pre post) E es S k := by
  refine rs_call (ex0 (w := w) (E := E)) [] Pick.nil (ren_wf0 hw) hw ⟨a, hpre, fun e S' q => ?_⟩
  obtain ⟨o', ds, rfl, rfl, h2⟩ := h e S' q
  refine ⟨[], [o'], rfl, rfl, by simp, ?_⟩
  show k (.tup (Ent.backs [] S.length (ds.map Ent.d ++ [.own 0]))) _
  rw [backs_tup]
  exact h2
end
/-! [.. for v in (a, b, ..)], of data -/
section
variable {w : Wd} {Γ : Env} {S : List Own} {k : KE}
theorem le_lcTup {tl te : TE} {v : Nat} {tt : TT} (h : LE w tl Γ S fun e S1 => ∃ ds, e = .d (.tup ds) ∧ ∃ I : Nat → List D → List Own → Prop, I 0 [] S1 ∧
    (∀ i d acc S2, ds[i]? = some d → S2.length = S1.length → I i acc S2 → LcT w Γ v tt te d acc S2 (I (i + 1))) ∧ (∀ acc S2, I ds.length acc S2 → k (.d (.lst acc)) S2)) : LE w (tLc (iTup w.K tl) (gName v) tt te [v]) Γ S k := fun σ R H as Q rl s c => by
  refine h σ R H as _ rl s fun vl el S1 R1 H1 as1 rl1 s1 p1 e1 ⟨ds, h1, I, i0, is, iE⟩ => ?_
  subst h1
  cases e1 with
  | tup ha hd =>
    rename_i a vs
    refine ⟨a, rfl, ⟨vs, SqT.of (rl1.sub _ _ ha)⟩, fun Dl hD => ?_⟩
    refine lc_tup (xs := vs) (fun i H => LcP w R1 as1 S1.length Dl (I i) H) (lc_begin rl1 hD i0) (fun i H2 hi p => ?_) (fun i x H2 hx p => ?_) fun H2 p => ?_
    · obtain ⟨S2, R2, as2, acc, rl2, sb, pr, ha2, hl, hi2⟩ := p
      exact SqT.of (rl2.sub _ _ (sb _ _ ha))
    · obtain ⟨S2, R2, as2, acc, rl2, sb, pr, ha2, hl, hi2⟩ := p
      obtain ⟨d, hd1, hd2⟩ := hd.get2 hx
      have := lc_turn (Dl := Dl) (s.mono s1 p1) rl2 sb pr ha2 (hd2.mono sb) (is i d acc S2 hd1 hl hi2)
      rw [hl] at this
      exact this
    · rw [hd.len] at p
      obtain ⟨acc, S', R', as', q1, q2, q3, q4, q5⟩ := lc_end rl1.len rl1.as0_le p
      exact c _ _ S' R' _ as' q1 (s1.trans q2) (p1.trans q3) (ok_d q4) (iE acc S' q5)
end
end Gm
/-! sorted pairs, with their order -/
namespace Gm
open PySem PySem.Spec PyProof.Rows L2
section
variable {w : Wd} {Γ : Env} {S : List Own} {k : KE}
theorem rc_sortPS {x : Ent} {ps : List (Int × Int)} (hx : IsLst x S (ps.map pD2)) (q : ∀ qs : List (Int × Int), qs.Perm ps → qs.Pairwise (fun a b => a.1 ≤ b.1) → k (.d (.lst (qs.map pD2))) S) : RC w (rSortedPO w.K) [x] S k := fun R H as us Q rl hu c => by
  obtain ⟨v, rfl, hv⟩ := one_ent hu
  obtain ⟨a, xs, rfl, ha, hd⟩ := isLst_at hx rl hv
  obtain ⟨h1, h2⟩ := dens_pairs hd
  refine ⟨a, xs, pk R, rfl, SqL.of ha, fun x hx => ?_, fun ys p so st hp => ?_⟩
  · obtain ⟨⟨t, e1, e2⟩, _⟩ := h1 x hx
    exact ⟨t, e1, rl.sub _ _ e2⟩
  · obtain ⟨rl2, s2⟩ := rl.alloc hp (.lst ys)
    have hperm := st.perm
    have hd2 : Dens w.K R ys (ys.map fun y => pD2 (pk R y)) := dens_of (f := fun y => pD2 (pk R y)) fun y hy => (h1 y (hperm.mem_iff.mp hy)).2
    have e : (ys.map fun y => pD2 (pk R y)) = (ys.map (pk R)).map pD2 := by rw [List.map_map]; rfl
    rw [e] at hd2
    refine c _ _ S _ _ as rl2 s2 (Pre.refl _) (ok_d (Den.lst upd_same (hd2.mono s2))) (q _ (by rw [← h2]; exact hperm.map _) ?_)
    refine List.pairwise_map.mpr (so.imp fun {x y} hxy => ?_)
    have := SrtO.lexB_no.mp (show SrtO.lexB (pk R y) (pk R x) = false from hxy)
    omega
theorem take_snoc' {α : Type} {xs : List α} {i : Nat} {d : α} (h : xs[i]? = some d) : xs.take (i + 1) = xs.take i ++ [d] := by rw [List.take_add_one, h]; rfl
/-- a comprehension over pairs of numbers -/
theorem le_lcPr {tl te : TE} {i j : Nat} (F : Int × Int → D) (h : LE w tl Γ S fun e S1 => ∃ ps : List (Int × Int), e = .d (.lst (ps.map pD2)) ∧ ps.length ≤ sizeLine ∧
    (∀ p acc, p ∈ ps → LE w te (((wipeG Γ [i, j]).set i (some (.d (.int p.1)))).set j (some (.d (.int p.2)))) (S1 ++ [.lst acc]) fun e S4 => e = .d (F p) ∧ S4 = S1 ++ [.lst acc]) ∧ k (.d (.lst (ps.map F))) S1) :
    LE w (tLc (iList w.K tl) (gTup w.K 2 (gCons (gName i) (gCons (gName j) gNil))) tYes te [i, j]) Γ S k := by
  refine le_lcG (le_mono h fun e S1 ⟨ps, h1, h2, h3, h4⟩ => ⟨ps.map pD2, h1, fun t acc S2 => S2 = S1 ∧ acc = (ps.take t).map F, ⟨rfl, rfl⟩, ?_, ?_⟩)
  · rintro t d acc _ hd _ ⟨rfl, rfl⟩
    rw [List.getElem?_map, Option.map_eq_some_iff] at hd
    obtain ⟨p, hp, rfl⟩ := hd
    have hl := (List.getElem?_eq_some_iff.mp hp).1
    refine ⟨_, tg_pair (by simp) (by simp), ?_⟩
    refine lt_yes ⟨fun _ => ?_, fun z => Bool.noConfusion z⟩
    refine le_mono (h3 p _ (List.mem_of_getElem? hp)) fun e S4 ⟨e1, e2⟩ => ⟨F p, _, e1, e2, rfl, ?_, rfl, ?_⟩
    · rw [List.length_map, List.length_take]; omega
    · rw [take_snoc' hp, List.map_append]; rfl
  · rintro acc _ ⟨rfl, rfl⟩
    rw [List.length_map, List.take_length]
    exact h4
/-- .. with a test -/
theorem le_lcPrF {tl te : TE} {tt : TT} {i j : Nat} (b : Int × Int → Bool) (F : Int × Int → D) (h : LE w tl Γ S fun e S1 => ∃ ps : List (Int × Int), e = .d (.lst (ps.map pD2)) ∧ ps.length ≤ sizeLine ∧
    (∀ p acc, p ∈ ps → LT w tt (((wipeG Γ [i, j]).set i (some (.d (.int p.1)))).set j (some (.d (.int p.2)))) (S1 ++ [.lst acc]) fun b' S4 => b' = b p ∧ S4 = S1 ++ [.lst acc]) ∧
    (∀ p acc, p ∈ ps → b p = true → LE w te (((wipeG Γ [i, j]).set i (some (.d (.int p.1)))).set j (some (.d (.int p.2)))) (S1 ++ [.lst acc]) fun e S4 => e = .d (F p) ∧ S4 = S1 ++ [.lst acc]) ∧ k (.d (.lst ((ps.filter b).map F))) S1) :
    LE w (tLc (iList w.K tl) (gTup w.K 2 (gCons (gName i) (gCons (gName j) gNil))) tt te [i, j]) Γ S k := by
  refine le_lcG (le_mono h fun e S1 ⟨ps, h1, h2, h3, h5, h4⟩ => ⟨ps.map pD2, h1, fun t acc S2 => S2 = S1 ∧ acc = ((ps.take t).filter b).map F, ⟨rfl, rfl⟩, ?_, ?_⟩)
  · rintro t d acc _ hd _ ⟨rfl, rfl⟩
    rw [List.getElem?_map, Option.map_eq_some_iff] at hd
    obtain ⟨p, hp, rfl⟩ := hd
    have hl := (List.getElem?_eq_some_iff.mp hp).1
    have hm := List.mem_of_getElem? hp
    have hfl := List.length_filter_le b (ps.take t)
    rw [List.length_take] at hfl
    refine ⟨_, tg_pair (by simp) (by simp), ?_⟩
    refine lt_mono (h3 p _ hm) fun b' S3 ⟨e1, e2⟩ => ?_
    subst e1 e2
    refine ⟨fun hb => le_mono (h5 p _ hm hb) fun e S4 ⟨e1, e2⟩ => ⟨F p, _, e1, e2, rfl, ?_, rfl, ?_⟩, fun hb => ⟨_, rfl, rfl, rfl, ?_⟩⟩
    · rw [List.length_map]; omega
    · rw [take_snoc' hp, List.filter_append, List.map_append, List.filter_cons, if_pos hb]; rfl
    · rw [take_snoc' hp, List.filter_append, List.filter_cons, hb]; simp
  · rintro acc _ ⟨rfl, rfl⟩
    rw [List.length_map, List.take_length]
    exact h4
/-- two fors, the store stays -/
theorem le_lc2F {α β : Type} {tl tl1 te : TE} {g g1 : TG} {vs vs1 : List Nat} (fa : α → D) (fb : β → D) (g0 : α → List β) (F : α → β → D) (up : α → Env → Env) (up1 : β → Env → Env)
    (h : LE w tl Γ S fun e S1 => ∃ xs : List α, e = .d (.lst (xs.map fa)) ∧ (xs.flatMap fun a => (g0 a).map (F a)).length ≤ sizeLine ∧
      (∀ a ∈ xs, TgOk w g vs (fa a) (up a) ∧ (∀ acc, LE w tl1 (up a (wipeG Γ vs)) (S1 ++ [.lst acc]) fun e' S2 => S2 = S1 ++ [.lst acc] ∧ e' = .d (.lst ((g0 a).map fb))) ∧
        ∀ b ∈ g0 a, TgOk w g1 vs1 (fb b) (up1 b) ∧ ∀ acc, LE w te (up1 b (wipeG (up a (wipeG Γ vs)) vs1)) (S1 ++ [.lst acc]) fun y S3 => S3 = S1 ++ [.lst acc] ∧ y = .d (F a b)) ∧
      k (.d (.lst (xs.flatMap fun a => (g0 a).map (F a)))) S1) : LE w (tLc2 (iList w.K tl) g tYes (iList w.K tl1) g1 tYes te vs vs1) Γ S k := by
  refine le_lc2 (le_mono h fun e S1 ⟨xs, h1, h2, h3, h4⟩ => ⟨xs.map fa, h1, fun t acc => acc = (xs.take t).flatMap fun a => (g0 a).map (F a), rfl, ?_, ?_⟩)
  · rintro t d _ hd rfl
    rw [List.getElem?_map, Option.map_eq_some_iff] at hd
    obtain ⟨a, ha, rfl⟩ := hd
    obtain ⟨q1, q2, q3⟩ := h3 a (List.mem_of_getElem? ha)
    have hsplit : xs = xs.take t ++ a :: xs.drop (t + 1) := by
      obtain ⟨hl, rfl⟩ := List.getElem?_eq_some_iff.mp ha
      rw [← List.drop_eq_getElem_cons hl, List.take_append_drop]
    have hlen : ((xs.take t).flatMap fun a => (g0 a).map (F a)).length + (g0 a).length ≤ sizeLine := by
      refine Nat.le_trans ?_ h2
      conv => rhs; rw [hsplit]
      rw [List.flatMap_append, List.flatMap_cons, List.length_append, List.length_append, List.length_map]
      omega
    refine ⟨_, q1, le_mono (q2 _) fun e' S2 ⟨e1, e2⟩ => ⟨e1, _, e2, fun q acc' => acc' = ((xs.take t).flatMap fun a => (g0 a).map (F a)) ++ ((g0 a).take q).map (F a), by simp, ?_, ?_⟩⟩
    · rintro q d' _ hd' rfl
      rw [List.getElem?_map, Option.map_eq_some_iff] at hd'
      obtain ⟨b, hb, rfl⟩ := hd'
      have hbl := (List.getElem?_eq_some_iff.mp hb).1
      obtain ⟨r1, r2⟩ := q3 b (List.mem_of_getElem? hb)
      refine ⟨_, r1, le_mono (r2 _) fun y S3 ⟨f1, f2⟩ => ⟨f1, _, f2, ?_, ?_⟩⟩
      · rw [List.length_append, List.length_map, List.length_take]; omega
      · dsimp only
        rw [take_snoc' hb, List.map_append, List.append_assoc]; rfl
    · rintro _ rfl
      rw [List.length_map, List.take_length, take_snoc' ha, List.flatMap_append]
      simp
  · rintro _ rfl
    rw [List.length_map, List.take_length]
    exact h4
end
section
variable {X : Cx}
theorem pi_listB (K : PySem.W.Frag) {tg l : Expr} {tl : TE} (hl : PE X l tl) (hK : X.K = K := by rfl) : PI X tg l (iList K tl) := by
  subst hK; exact pi_list hl
end
end Gm
/-! a dict whose keys are pairs of numbers -/
namespace Gm
open PySem PySem.Spec PyProof.Rows L2
def kP (p : Int × Int) : List L2.Key := [.inl p.1, .inl p.2]
theorem kP_inj {p q : Int × Int} (h : kP p = kP q) : p = q := by
  obtain ⟨a, b⟩ := p
  obtain ⟨c, d⟩ := q
  simp [kP] at h
  exact Prod.ext h.1 h.2
theorem kP_tup (p : Int × Int) : (kP p).map kV = [V.int p.1, V.int p.2] := rfl
theorem valV_pairs {kvs : List (List L2.Key × V)} {ps : List (Int × Int)} (h : kvs.map (·.1) = ps.map kP) (p : Int × Int) : (valV kvs (kP p)).isSome = decide (p ∈ ps) := by
  rw [← valV_any, Bool.eq_iff_iff, List.any_eq_true, decide_eq_true_iff]
  constructor
  · rintro ⟨kv, hm, he⟩
    have : kv.1 ∈ ps.map kP := by rw [← h]; exact List.mem_map_of_mem hm
    obtain ⟨q, hq, e⟩ := List.mem_map.mp this
    rw [of_decide_eq_true he] at e
    rw [← kP_inj e]; exact hq
  · intro hp
    have : kP p ∈ kvs.map (·.1) := by rw [h]; exact List.mem_map_of_mem hp
    obtain ⟨kv, hm, e⟩ := List.mem_map.mp this
    exact ⟨kv, hm, decide_eq_true e⟩
section
variable {w : Wd} {Γ : Env} {S : List Own} {k : KE} {G : GE} {td ty tv te : TE}
theorem le_newT (q : k (.own S.length) (S ++ [.sn []])) : LE w tDNewT Γ S k := fun σ R H as Q rl s c p hp =>
  c _ _ _ R _ _ (rl.allocO hp _ (o := .sn []) ⟨(rl.fresh hp).1, [], upd_same, rfl⟩) (Sub.refl _) (Pre.app _ _) (ok_own (by rw [← rl.len]; exact List.getElem?_concat_length)) q
theorem den_pr {K : PySem.W.Frag} {R : Hp} {v : V} {p : Int × Int} (h : Den K R v (pD2 p)) : ∃ b, v = .ref b ∧ R b = some (.tup ((kP p).map kV)) := by
  cases h with
  | tup ha hd =>
    rename_i a vs
    have e := Dens.ints (ns := [p.1, p.2]) hd
    subst e
    exact ⟨_, rfl, ha⟩
theorem lt_notinT (h : LE w ty Γ S fun y S1 => LE w td Γ S1 fun x S2 => ∃ i ps p, x = .own i ∧ S2[i]? = some (.sn ps) ∧ y = .d (pD2 p) ∧ k (.d (.bl (!decide (p ∈ ps)))) S2) : LE w (tDNotIn ty td) Γ S k := fun σ R H as Q rl s c => by
  refine h σ R H as _ rl s fun y ey S1 R1 H1 as1 rl1 s1 p1 e1 h1 => ?_
  refine h1 σ R1 H1 as1 _ rl1 (s.mono s1 p1) fun x ex S2 R2 H2 as2 rl2 s2 p2 e2 ⟨i, ps, p, hx, hi, hy, hk⟩ => ?_
  subst hx hy
  obtain ⟨a, ha, rfl⟩ := e2
  obtain ⟨⟨z, kvs, c1, c2⟩, _⟩ := rl2.reg i _ a hi ha (by intro z; cases z)
  obtain ⟨b, rfl, hb⟩ := den_pr (show Den w.K R2 y (pD2 p) from (e1.mono s2 p2 : EntOk w.K R2 as2 y (.d (pD2 p))))
  refine ⟨a, _, rfl, DGet.t c1 (rl2.sub _ _ hb), ?_⟩
  rw [valV_pairs c2]
  exact c _ _ S2 R2 H2 as2 rl2 (s1.trans s2) (p1.trans p2) (ok_d (Den.bl _)) hk
theorem ls_dputT (h : LE w tv Γ S fun v S1 => LE w td Γ S1 fun x S2 => LE w ty Γ S2 fun y S3 => ∃ e i ps p, v = .d e ∧ x = .own i ∧ S3[i]? = some (.sn ps) ∧ y = .d (pD2 p) ∧ p ∉ ps ∧ ps.length < sizeLine ∧ G.nx Γ (S3.set i (.sn (ps ++ [p])))) : LS w (sDPut td ty tv) Γ S G := fun D σ R H as rl s e => by
  refine h σ R H as _ rl s fun v ev S1 R1 H1 as1 rl1 s1 p1 e1 h1 => ?_
  refine h1 σ R1 H1 as1 _ rl1 (s.mono s1 p1) fun x ex S2 R2 H2 as2 rl2 s2 p2 e2 h2 => ?_
  refine h2 σ R2 H2 as2 _ rl2 ((s.mono s1 p1).mono s2 p2) fun y ey S3 R3 H3 as3 rl3 s3 p3 e3 ⟨d, i, ps, p, hv, hx, hi, hy, hp, hl, hk⟩ => ?_
  subst hv hx hy
  obtain ⟨a, ha, rfl⟩ := e2.mono s3 p3
  obtain ⟨⟨z, kvs, c1, c2⟩, _⟩ := rl3.reg i _ a hi ha (by intro z; cases z)
  obtain ⟨b, rfl, hb⟩ := den_pr (show Den w.K R3 y (pD2 p) from e3)
  have hlen : kvs.length = ps.length := by have := congrArg List.length c2; simpa using this
  refine ⟨a, _, rfl, DPut.t c1 (rl3.sub _ _ hb) (by rw [hlen]; exact hl), ?_⟩
  have hput : putK kvs (kP p) v = kvs ++ [(kP p, v)] := by
    unfold putK
    rw [if_neg]
    rw [valV_any, valV_pairs c2]
    simpa using hp
  rw [hput]
  have rl4 := rl3.write (o' := .sn (ps ++ [p])) (u := .dT (kvs ++ [(kP p, v)])) hi ha (by intro z; cases z) (by intro z; cases z) ⟨z, _, upd_same, by rw [List.map_append, List.map_append]; exact congrArg (· ++ [kP p]) c2⟩
  exact e.nx _ _ σ R3 _ as3 ((s1.trans s2).trans s3) rl4 (((s.mono s1 p1).mono s2 p2).mono s3 p3) hk
/-- [y for x, y in d if x == 0] -/
theorem le_seenC {i j m n : Nat} {ps : List (Int × Int)} (hn : m ≠ n) (hx : Γ[i]? = some (some (.own j))) (hS : S[j]? = some (.sn ps)) (hl : ps.length ≤ sizeLine) (hm : m < Γ.length) (hn2 : n < Γ.length)
    (q : k (.d (.lst (((ps.filter fun p => decide (p.1 = 0)).map (·.2)).map D.int))) S) :
    LE w (tLockE (tLc (iKeys (tVar i)) (gTup w.K 2 (gCons (gName m) (gCons (gName n) gNil))) (tTest (tOp rEq (tVar m) (tC (.int 0)))) (tVar n) [m, n])) Γ S k := fun σ R H as Q rl s c => by
  obtain ⟨v, hv, a, ha, rfl⟩ := s.get i _ hx
  obtain ⟨⟨hR, kvs, c1, c2⟩, _⟩ := rl.reg j _ a hS ha (by intro z; cases z)
  have hlen : kvs.length = ps.length := by have := congrArg List.length c2; simpa using this
  refine ⟨a, .dT kvs, c1, trivial, fun od => ?_⟩
  refine ⟨.ref a, hv, a, od, rfl, .inr ⟨kvs, upd_same, fun B hB => ?_⟩⟩
  have hBa : B ≠ a := fun z => by rw [z, upd_same] at hB; cases hB
  have hB0 : H B = none := by rw [upd_ne hBa] at hB; exact hB
  refine ⟨fun t z Hc => t ≤ ps.length ∧ z = ps.length - t ∧ Hc = upd (upd H a (.frz od (.dT kvs))) B (.lst ((((ps.take t).filter fun p => decide (p.1 = 0)).map (·.2)).map V.int)), ⟨_, Nat.zero_le _, rfl, rfl⟩, ?_⟩
  rintro t z _ ⟨ht, rfl, rfl⟩
  have hd : (upd (upd H a (.frz od (.dT kvs))) B (.lst ((((ps.take t).filter fun p => decide (p.1 = 0)).map (·.2)).map V.int))) a = some (.frz od (.dT kvs)) := by rw [upd_ne (Ne.symm hBa), upd_same]
  by_cases htl : t < ps.length
  · refine .inr ⟨⟨hd, by rw [hlen]; exact htl⟩, fun H' => H' = upd (upd H a (.frz od (.dT kvs))) B (.lst ((((ps.take (t + 1)).filter fun p => decide (p.1 = 0)).map (·.2)).map V.int)), fun H' e => ⟨_, by omega, htl, rfl, e⟩, ?_⟩
    rintro x _ ⟨rfl, key, vv, b, hk, rfl, hb⟩
    have hkey : key = kP ps[t] := by
      have e1 : (kvs.map (·.1))[t]? = some key := by rw [List.getElem?_map, hk]; rfl
      rw [c2, List.getElem?_map, List.getElem?_eq_getElem htl] at e1
      exact (Option.some.inj e1).symm
    subst hkey
    have etk : ps.take (t + 1) = ps.take t ++ [ps[t]] := by rw [List.take_add_one, List.getElem?_eq_getElem htl]; rfl
    rw [etk]
    generalize ps[t] = p at hb
    have ws : ∀ u1 u2 : V, wipe (((wipe σ [m, n]).set m (some u1)).set n (some u2)) [m, n] = wipe σ [m, n] := fun u1 u2 => by
      rw [wipe_set (by simp), wipe_set (by simp), wipe_wipe]
    have sl : (wipe σ [m, n]).length = Γ.length := by rw [wipe_length]; exact s.len
    refine ⟨b, _, rfl, SqT.of hb, rfl, V.int p.1, [V.int p.2], rfl, V.int p.2, [], rfl, rfl, ws _ _, ?_⟩
    refine ⟨V.int p.1, by rw [List.getElem?_set_ne (Ne.symm hn), List.getElem?_set_self (by rw [sl]; exact hm)], rfl, _, rfl, ?_⟩
    by_cases h0 : p.1 = 0
    · have e0 : decide (V.int p.1 = V.int 0) = true := by rw [h0]; exact decide_eq_true rfl
      rw [e0]
      dsimp only
      rw [if_pos rfl]
      refine ⟨V.int p.2, by rw [List.getElem?_set_self (by rw [List.length_set, sl]; exact hn2)], _, upd_same, ?_, ?_⟩
      · rw [List.length_map, List.length_map]
        have := List.length_filter_le (fun p : Int × Int => decide (p.1 = 0)) (ps.take t)
        rw [List.length_take] at this
        omega
      · rw [List.filter_append, List.filter_cons, if_pos (decide_eq_true h0), List.map_append, List.map_append]
        funext y
        by_cases hy : y = B
        · rw [hy, upd_same, upd_same]; rfl
        · rw [upd_ne hy, upd_ne hy, upd_ne hy]
    · have e0 : decide (V.int p.1 = V.int 0) = false := decide_eq_false fun z => h0 (by injection z)
      rw [e0]
      dsimp only
      rw [if_neg Bool.false_ne_true, List.filter_append, List.filter_cons, if_neg (by simpa using h0)]
      simp
  · refine .inl ⟨⟨hd, by rw [hlen]; omega⟩, hd, ?_⟩
    have ex : upd (upd (upd H a (.frz od (.dT kvs))) B (.lst ((((ps.take t).filter fun p => decide (p.1 = 0)).map (·.2)).map V.int))) a (.dT kvs) = upd H B (.lst (((ps.filter fun p => decide (p.1 = 0)).map (·.2)).map V.int)) := by
      rw [List.take_of_length_le (by omega)]
      funext y
      by_cases hy : y = a
      · rw [hy, upd_same, upd_ne (Ne.symm hBa), c1]
      · rw [upd_ne hy]
        by_cases hy2 : y = B
        · rw [hy2, upd_same, upd_same]
        · rw [upd_ne hy2, upd_ne hy2, upd_ne hy]
    rw [ex]
    obtain ⟨rl2, s2⟩ := rl.alloc hB0 (.lst (((ps.filter fun p : Int × Int => decide (p.1 = 0)).map (fun p : Int × Int => p.2)).map V.int))
    exact c _ _ S _ _ as rl2 s2 (Pre.refl _) (ok_d (Den.lst upd_same (Dens.of_ints _))) q
theorem rm_pop {i : Nat} {ds : List D} {d : D} (hi : S[i]? = some (.lst (ds ++ [d]))) (q : k (.d d) (S.set i (.lst ds))) : RM w L2.rPop (.own i) [] S k := fun R H as u us Q rl hu hus c => by
  obtain ⟨a, ha, rfl⟩ := hu
  obtain ⟨⟨z, vs, c1, c2⟩, _⟩ := rl.reg i _ a hi ha (by intro z; cases z)
  match us, hus with
  | [], _ =>
    have hl : vs.length = ds.length + 1 := by rw [c2.len]; simp
    obtain ⟨y, hy, hd⟩ := c2.get (i := ds.length) List.getElem?_concat_length
    refine ⟨a, vs, y, rfl, rfl, c1, by rw [hl]; exact hy, ?_⟩
    have c3 := c2.dropLast
    rw [List.dropLast_concat] at c3
    have rl2 := rl.write (o' := .lst ds) (u := .lst vs.dropLast) hi ha (by intro z; cases z) (by intro z; cases z) ⟨z, _, upd_same, c3⟩
    exact c y (.d d) _ R _ as rl2 (Sub.refl _) (Pre.refl _) (ok_d hd) q
theorem Rel.cut {R H : Hp} : ∀ {junk : List Own} {as : List Addr} {S0 : List Own}, Rel w R H as (S0 ++ junk) → w.as0.length ≤ S0.length → ∃ as', Rel w R H as' S0
  | [], as, S0, r, _ => ⟨as, by rw [List.append_nil] at r; exact r⟩
  | o :: junk, as, S0, r, h => by
    have r2 : Rel w R H as ((S0 ++ [o]) ++ junk) := by rw [List.append_assoc]; exact r
    obtain ⟨as2, r3⟩ := Rel.cut r2 (by rw [List.length_append]; omega)
    exact ⟨_, r3.drop1.pop h⟩
/-- data are returned; what was new in the store is forgotten -/
theorem ls_retD {t : TE} (h : LE w t Γ S fun e S1 => ∃ d S0 junk, e = .d d ∧ S1 = S0 ++ junk ∧ w.as0.length ≤ S0.length ∧ G.rt (.d d) S0) : LS w (tRet t) Γ S G := fun D σ R H as rl s e =>
  h σ R H as _ rl s fun v x S1 R1 H1 as1 rl1 s1 p1 e1 ⟨d, S0, junk, h1, h2, h3, h4⟩ => by
    subst h1 h2
    obtain ⟨as2, r2⟩ := rl1.cut h3
    exact e.rt v (.d d) S0 R1 H1 as2 s1 r2 e1 h4
end
section
variable {X : Cx} {p pos : Pos} {e : Expr} {te : TE}
theorem b_minLB (K : PySem.W.Frag) (hm : X.mg "min" = none) (he : PE X e te) (hc : X.calm = true := by rfl) (hg : Gl X "min" := by rfl) (hs : starEach [e] X.env = (false, eval e X.env) :: starEach [] X.env := by rfl) (hK : X.K = K := by rfl) : PE X (.Call (.Name "min" p) [e] [] pos) (tCB (rMin K) (tCons te tNil)) := by
  subst hK; exact b_minL hm he hc hg hs
theorem b_maxLB (K : PySem.W.Frag) (hm : X.mg "max" = none) (he : PE X e te) (hc : X.calm = true := by rfl) (hg : Gl X "max" := by rfl) (hs : starEach [e] X.env = (false, eval e X.env) :: starEach [] X.env := by rfl) (hK : X.K = K := by rfl) : PE X (.Call (.Name "max" p) [e] [] pos) (tCB (rMax K) (tCons te tNil)) := by
  subst hK; exact b_maxL hm he hc hg hs
end
end Gm
/-! sorted(set(..)) of numbers, of any length -/
namespace Gm
open PySem PySem.Spec PyProof.Rows L2
theorem sorted_setB {P : Program} {w : World} {A : Around} {E : Value → Shared → Prop} {s : Shared} {a : Addr} {S : Int → Bool} {n : Nat} {Q : Value → Shared → Prop} (R : SetR w s.heap a S n) (hh : A.handled = none) (h64 : n ≤ sizeLine)
    (hQ : ∀ s' p (out : Array Value) (c : Nat) (ns : List Int), (∀ b o, s.heap.get? b = some o → s'.heap.get? b = some o) → s'.gens = s.gens → s'.os = s.os → s.heap.objs.size ≤ p →
      s'.heap.get? p = some (seqObj "list" out c) → IntsAre out.toList ns → ns.Pairwise (· < ·) → (∀ k, k ∈ ns ↔ S k = true) → ns.length = n → Q (.ref p) s') :
    wpAny (model P w) A (call (.builtin "sorted") [.ref a]) Q E s := by
  obtain ⟨o, es, ep, t, ho, hex, hd, g, nd, hm, hb, hf, hn, hr, hl⟩ := R
  refine Calls.call_function_entry kind_sorted plain_sorted entry_sorted (args_sorted1 _) ?_
  unfold Builtin.«sorted»
  refine wpAny_bind (m := checkCount "sorted" 1 1 _) (wpAny_pure ?_)
  refine wpAny_bind (collect_set (A := A.in1) hh ⟨o, ho, hex.1, hd⟩ hf hb hr hl fun s1 vs k1 hz g1 o1 pm => ?_)
  have hvl : vs.length = n := by rw [pm.length_eq, List.length_map, Array.length_toList]; exact hn
  have hI : IntsAre vs (vs.map Builtin.Re.reRawOf) := ints_of vs fun v hv => by
    obtain ⟨e, he, q⟩ := List.mem_map.mp (pm.mem_iff.mp hv)
    obtain ⟨k, tk, h1, _⟩ := g e he
    exact ⟨k, tk, by rw [← q]; exact h1⟩
  have pk : (vs.map Builtin.Re.reRawOf).Perm (es.toList.map keyOf) := by
    have q := pm.map Builtin.Re.reRawOf
    rw [List.map_map] at q
    exact q
  refine wpAny_bind (wpAny_newList ?_ (by rw [hvl]; exact h64))
  have hoL : (s1.heap.push (seqObj "list" vs.toArray 0)).get? s1.heap.objs.size = some (seqObj "list" vs.toArray 0) := Heap.get?_push_size _ rfl
  refine wpAny_bind (wpAny_holding (wpAny_call_entry slot_list_sort ⟨_, hoL, rfl⟩ entry_list_sort (SrtO.list_sort_ord SrtO.swo_int hoL (by rw [hvl]; exact h64) (fun h2 => SrtO.ints_sortable hI h2) fun out h1 h2 => ⟨_, rfl, ?_⟩) (args_list_sort _)))
  obtain ⟨a1, a2, a3⟩ := SrtO.ints_out hI h1 h2
  obtain ⟨c, hc⟩ := sortedHeap_at (vs := vs) (out := out.toArray) hoL
  have pn : (out.map SrtO.iv).Perm (es.toList.map keyOf) := a2.trans pk
  refine wpAny_pure ⟨_, rfl, hQ _ s1.heap.objs.size out.toArray c (out.map SrtO.iv) (fun b u e => ?_) g1 o1 hz hc a1 (lt_of_le_nodup _ a3 (pn.nodup_iff.mpr nd)) (fun k => by rw [pn.mem_iff, ← hm k]) ?_⟩
  · have q := k1 b u e
    have hlt := Heap.lt_size q
    show (sortedHeap (s1.heap.push (seqObj "list" vs.toArray 0)) s1.heap.objs.size vs out.toArray).get? b = some u
    rw [sortedHeap_old (Nat.ne_of_lt hlt) (by rw [size_push']; exact Nat.lt_succ_of_lt hlt)]
    exact Heap.get?_push_of_some _ q
  · rw [pn.length_eq, List.length_map, Array.length_toList]; exact hn
def rSortedSetB (w : World) : List V → Hp → VK → Prop := fun vs H Q => ∃ (a : Addr) (S : Int → Bool) (n : Nat), vs = [V.ref a] ∧ H a = some (SetO w a S n) ∧ n ≤ sizeLine ∧
  ∀ (ns : List Int) (p : Addr), ns.Pairwise (· < ·) → (∀ k : Int, k ∈ ns ↔ S k = true) → ns.length = n → H p = none → Q (.ref p) (upd H p (.lst (ns.map V.int)))
theorem cr_sortedSetB {X : Cx} (hc : X.calm = true) : CallR X (.builtin "sorted") (rSortedSetB X.w) := by
  intro pins s σ H vs us Q I r h
  obtain ⟨a, S, n, rfl, ha, h64, q⟩ := h
  have R := setO_get I ha
  rw [Vals.ref1 r]
  refine sorted_setB R (I.ok.hd hc) h64 fun s' p out c ns k g o hp hg hi hs hm hl => ?_
  have hlen : (ns.map V.int).length ≤ sizeLine := by rw [List.length_map, hl]; exact h64
  have hn : H p = none := I.hok.fresh hp
  have J : Inv X pins σ (upd H p (.lst (ns.map V.int))) { s with heap := s'.heap, gens := s'.gens, drawn := s'.drawn, toks := s'.toks } :=
    I.call (ch := []) (Un.laid k hp hn) (I.hok.laid k hp ⟨hlen, out.toList, c, vals_of_ints hi, hg⟩) (by rw [g]; exact I.bare) (fun _ z => nomatch z)
  have e : s' = { s with heap := s'.heap, gens := s'.gens, drawn := s'.drawn, toks := s'.toks } := by
    cases s'
    cases s
    cases o
    rfl
  rw [e]
  exact ⟨.ref p, _, J, rfl, q ns p hs hm hl hn⟩
section
variable {w : Wd} {Γ : Env} {S : List Own} {k : KE}
theorem le_sortSetB {W : World} {te : TE} (h : LE w te Γ S fun e S1 => ∃ s : List Int, IsLst e S1 (s.map D.int) ∧ s.length ≤ 4000 ∧ ∀ out : List Int, out.Pairwise (· < ·) → (∀ x, x ∈ out ↔ x ∈ s) → out.length ≤ s.length → k (.d (.lst (out.map D.int))) S1) :
    LE w (tCB (rSortedSetB W) (tCons (tCB (rSetL w.K W) (tCons te tNil)) tNil)) Γ S k := fun σ R H as Q rl s c => by
  refine h σ R H as _ rl s fun v e S1 R1 H1 as1 rl1 s1 p1 e1 ⟨ns, hx, hl, q⟩ => ?_
  obtain ⟨a, ha⟩ := lst_ints (K := w.K) hx rl1 e1
  refine ⟨a, ns, by rw [ha.1], ha.2, Nat.lt_of_lt_of_le (show ns.length + 1 < 4003 by omega) (by decide +kernel), fun p n hp hn => ?_⟩
  obtain ⟨rl2, s2⟩ := rl1.alloc hp (SetO W p (fun j => decide (j ∈ ns)) n)
  refine ⟨p, _, n, rfl, upd_same, by unfold sizeLine; omega, fun out p2 h1 h2 h3 hp2 => ?_⟩
  obtain ⟨rl3, s3⟩ := rl2.alloc hp2 (.lst (out.map V.int))
  exact c _ (.d (.lst (out.map D.int))) S1 _ _ as1 rl3 ((s1.trans s2).trans s3) p1 (ok_d (Den.lst upd_same ((Dens.of_ints out).mono s3))) (q out h1 (fun x => by rw [h2]; simp) (by rw [h3]; exact hn))
end
section
variable {X : Cx} {e : Expr} {p pos p2 pos2 : Pos} {te : TE}
theorem b_sortSetB (hm : X.mg "sorted" = none) (hm2 : X.mg "set" = none) (he : PE X e te) (hc : X.calm = true := by rfl) (hh : X.A.handled = none := by rfl) (hg : Gl X "sorted" := by rfl) (hg2 : Gl X "set" := by rfl)
    (hs : starEach [e] X.env = (false, eval e X.env) :: starEach [] X.env := by rfl)
    (hs2 : starEach [.Call (.Name "set" p2) [e] [] pos2] X.env = (false, eval (.Call (.Name "set" p2) [e] [] pos2) X.env) :: starEach [] X.env := by rfl) :
    PE X (.Call (.Name "sorted" p) [.Call (.Name "set" p2) [e] [] pos2] [] pos) (tCB (rSortedSetB X.w) (tCons (tCB (rSetL X.K X.w) (tCons te tNil)) tNil)) :=
  pe_callB (cr_sortedSetB hc) hg hm (by decide +kernel) (pa_cons (pe_callTy (c_setL hh) hg2 hm2 (by decide +kernel) (pa_cons he pa_nil hs) (he := hs)) pa_nil hs2) (he := hs2)
end
end Gm
/-! a list of the store, named by its address -/
namespace Gm
open PySem PySem.Spec PyProof.Rows L2
section
variable {w : Wd} {R H : Hp} {as : List Addr} {S : List Own} {Γ : Env} {k : KE} {G : GE}
theorem Rel.toLat (r : Rel w R H as S) {i : Nat} {a : Addr} {xs : List D} (hi : S[i]? = some (.lst xs)) (ha : as[i]? = some a) : Rel w R H as (S.set i (.lat a xs)) := by
  obtain ⟨⟨z, vs, c1, c2⟩, _⟩ := r.reg _ _ _ hi ha (by intro z; cases z)
  have e : upd H a (.lst vs) = H := by
    funext b
    by_cases hb : b = a
    · subst hb; rw [upd_same, c1]
    · rw [upd_ne hb]
  have := r.write (o' := .lat a xs) (u := .lst vs) hi ha (by intro z; cases z) (by intro z; cases z) ⟨rfl, z, vs, upd_same, c2⟩
  rw [e] at this; exact this
/-- a new list is called by its address -/
theorem rs_lat {f : DS} {E : XK} {es : List Ent} (h : RS w f E es S fun e S1 => ∃ i xs, e = .own i ∧ S1[i]? = some (.lst xs) ∧ ∀ g, k (.d (.cls g)) (S1.set i (.lat g xs))) : RS w f E es S k := fun R H as vs Q rl ev c =>
  h R H as vs Q rl ev fun v e S' R' H' as' r s p ok ⟨i, xs, he, hi, hk⟩ => by
    subst he
    obtain ⟨a, ha, rfl⟩ := ok
    exact c _ (.d (.cls a)) _ R' H' as' (r.toLat hi ha) s p (Den.cls a) (hk a)
theorem le_lat {t : TE} (h : LE w t Γ S fun e S1 => ∃ i xs, e = .own i ∧ S1[i]? = some (.lst xs) ∧ ∀ g, k (.d (.cls g)) (S1.set i (.lat g xs))) : LE w t Γ S k := fun σ R H as Q rl st c =>
  h σ R H as Q rl st fun v e S' R' H' as' r s p ok ⟨i, xs, he, hi, hk⟩ => by
    subst he
    obtain ⟨a, ha, rfl⟩ := ok
    exact c _ (.d (.cls a)) _ R' H' as' (r.toLat hi ha) s p (Den.cls a) (hk a)
theorem Rel.frzEnd {S0 : List Own} {xs : List D} {v : V} (rl : Rel w R H as (S0 ++ [.lst xs])) (ok : EntOk w.K R as v (.own S0.length)) (hw : w.as0.length ≤ S0.length) (as1 : List Addr) (hp : Pre as1 as) (h1 : as1.length ≤ S0.length) :
    ∃ R' as', Rel w R' H as' S0 ∧ Sub R R' ∧ Pre as1 as' ∧ Den w.K R' v (.lst xs) := by
  obtain ⟨a, hD, rfl⟩ := ok
  have hg : (S0 ++ [Own.lst xs])[S0.length]? = some (.lst xs) := List.getElem?_concat_length
  obtain ⟨⟨z, vs, c1, c2⟩, _⟩ := rl.reg _ _ _ hg hD (by intro z; cases z)
  obtain ⟨rl2, s2⟩ := rl.freeze hg hD (by intro z; cases z) c1
  have es : (S0 ++ [Own.lst xs]).set S0.length .gone = S0 ++ [.gone] := by
    rw [List.set_append_right _ _ (Nat.le_refl _), Nat.sub_self]; rfl
  rw [es] at rl2
  refine ⟨_, _, rl2.pop hw, s2, fun i b hb => ?_, .lst upd_same (c2.mono s2)⟩
  have := (List.getElem?_eq_some_iff.mp hb).1
  rw [List.getElem?_take, if_pos (by omega)]
  exact hp i b hb
/-- a new list becomes data -/
theorem rs_frz {f : DS} {E : XK} {es : List Ent} (h : RS w f E es S fun e S1 => ∃ xs S0, e = .own S0.length ∧ S1 = S0 ++ [.lst xs] ∧ S.length ≤ S0.length ∧ k (.d (.lst xs)) S0) : RS w f E es S k := fun R H as vs Q rl ev c =>
  h R H as vs Q rl ev fun v e S' R' H' as' r s p ok ⟨xs, S0, he, hS, hl, hk⟩ => by
    subst he hS
    obtain ⟨R2, as2, r2, s2, p2, d2⟩ := r.frzEnd ok (Nat.le_trans rl.as0_le hl) as p (by rw [rl.len]; exact hl)
    exact c v (.d (.lst xs)) S0 R2 H' as2 r2 (s.trans s2) p2 d2 hk
/-- a list that was called by its address is returned; all else is forgotten -/
theorem ls_retLat {t : TE} (hw : w.as0 = []) (h : LE w t Γ S fun e S1 => ∃ (g : Addr) (i : Nat) (xs : List D), e = Ent.d (D.cls g) ∧ S1[i]? = some (Own.lat g xs) ∧ G.rt (.own 0) [Own.lst xs]) : LS w (tRet t) Γ S G := fun D σ R H as rl s e =>
  h σ R H as _ rl s fun v x S1 R1 H1 as1 rl1 s1 p1 e1 ⟨g, i, xs, h1, h2, h3⟩ => by
    subst h1
    obtain ⟨a, ha⟩ := rl1.own h2
    obtain ⟨⟨q1, q2, vs, q3, q4⟩, q5⟩ := rl1.reg _ _ _ h2 ha (by intro z; cases z)
    subst q1
    have r2 : Rel w R1 H1 [a] [.lst xs] := by
      refine ⟨rl1.r0, rl1.sub, rl1.keep, rl1.there, fun i b hb => ?_, rl1.orig, rfl, fun j o b hj hb n => ?_, fun j l b o u hj hl n1 n2 a1 a2 => ?_⟩
      · rw [hw] at hb; simp at hb
      · match j, hj, hb with
        | 0, hj, hb => cases hj; cases hb; exact ⟨⟨q2, vs, q3, q4⟩, q5⟩
        | j + 1, hj, _ => simp at hj
      · have h1 := (List.getElem?_eq_some_iff.mp hj).1
        have h2 := (List.getElem?_eq_some_iff.mp hl).1
        simp at h1 h2; omega
    cases e1
    exact e.rt _ (.own 0) [.lst xs] R1 H1 [a] s1 r2 ⟨a, rfl, rfl⟩ h3
end
end Gm
/-! a list of lists, each called by its address -/
namespace Gm
open PySem PySem.Spec PyProof.Rows L2
section
variable {w : Wd} {Γ : Env} {S : List Own} {k : KE} {G : GE}
def nest (gs : List Addr) : List Own := .lst (gs.map .cls) :: gs.map fun g => .lat g []
def LcN (w : Wd) (R1 : Hp) (as1 : List Addr) (S1 : List Own) (Dl : Addr) (i : Nat) (H : Hp) : Prop :=
  ∃ (gs : List Addr) (R' : Hp) (as' : List Addr), Rel w R' H as' (S1 ++ nest gs) ∧ Sub R1 R' ∧ Pre as1 as' ∧ as'[S1.length]? = some Dl ∧ gs.length = i
/-- [[] for g in l] -/
theorem le_lcNest {tl : TE} {g : TG} {vs : List Nat} (h : LE w tl Γ S fun e S1 => ∃ ds, e = .d (.lst ds) ∧ ds.length ≤ sizeLine ∧ (∀ d ∈ ds, ∃ up, TgOk w g vs d up) ∧ ∀ gs : List Addr, gs.length = ds.length → k (.own S1.length) (S1 ++ nest gs)) :
    LE w (tLc (iList w.K tl) g tYes (tLst tNil) vs) Γ S k := fun σ R H as Q rl s c => by
  refine h σ R H as _ rl s fun vl el S1 R1 H1 as1 rl1 s1 p1 e1 ⟨ds, h1, hz, hu, iE⟩ => ?_
  subst h1
  cases e1 with
  | lst ha hd =>
    rename_i a xs
    refine ⟨a, rfl, ⟨xs, SqL.of (rl1.sub _ _ ha)⟩, fun Dl hD => ?_⟩
    refine lc_list (xs := xs) (fun i H => LcN w R1 as1 S1 Dl i H) ?_ (fun i H2 hi p => ?_) (fun i x H2 hx p => ?_) fun H2 p => ?_
    · exact ⟨[], R1, as1 ++ [Dl], rl1.allocO hD _ (o := .lst []) ⟨(rl1.fresh hD).1, [], upd_same, .nil⟩, Sub.refl _, Pre.app _ _, by rw [← rl1.len]; exact List.getElem?_concat_length, rfl⟩
    · obtain ⟨gs, R2, as2, rl2, sb, pr, ha2, hl⟩ := p
      exact SqL.of (rl2.sub _ _ (sb _ _ ha))
    · obtain ⟨gs, R2, as2, rl2, sb, pr, ha2, hl⟩ := p
      obtain ⟨d, hd1, hd2⟩ := hd.get2 hx
      have hil := (List.getElem?_eq_some_iff.mp hd1).1
      obtain ⟨up, hu⟩ := hu d (List.mem_of_getElem? hd1)
      refine hu σ Γ R2 H2 as2 _ x _ rl2 ((s.mono s1 p1).mono sb pr) (hd2.mono sb) fun σ2 st2 hw => ⟨hw, ?_⟩
      show (fun (b : Bool) (H4 : Hp) => if b = true then (tLst tNil : TE) σ2 H4 (fun y H5 => ∃ acc, H5 Dl = some (.lst acc) ∧ acc.length < sizeLine ∧ LcN w R1 as1 S1 Dl (i + 1) (upd H5 Dl (.lst (acc ++ [y])))) else LcN w R1 as1 S1 Dl (i + 1) H4) true H2
      dsimp only
      rw [if_pos rfl]
      refine ⟨Nat.zero_le _, fun p hp => ?_⟩
      have hat : (S1 ++ nest gs)[S1.length]? = some (.lst (gs.map .cls)) := by
        rw [List.getElem?_append_right (Nat.le_refl _), Nat.sub_self]; rfl
      obtain ⟨⟨z, ws, c1, c2⟩, _⟩ := rl2.reg _ _ _ hat ha2 (by intro z; cases z)
      have hne : Dl ≠ p := fun e => by rw [e, hp] at c1; cases c1
      have hwl : ws.length = gs.length := by rw [c2.len, List.length_map]
      have rl3 := rl2.allocO hp (.lst []) (o := .lat p []) ⟨rfl, (rl2.fresh hp).1, [], upd_same, .nil⟩
      have hat3 : ((S1 ++ nest gs) ++ [Own.lat p []])[S1.length]? = some (.lst (gs.map .cls)) := by
        rw [List.getElem?_append_left (by rw [List.length_append]; simp [nest])]; exact hat
      have ha3 : (as2 ++ [p])[S1.length]? = some Dl := Pre.app _ _ _ _ ha2
      have rl4 := rl3.write (o' := .lst ((gs ++ [p]).map .cls)) (u := .lst (ws ++ [.ref p])) hat3 ha3 (by intro z; cases z) (by intro z; cases z) ⟨z, _, upd_same, by rw [List.map_append]; exact c2.append (.cons (.cls p) .nil)⟩
      refine ⟨ws, by rw [upd_ne hne]; exact c1, by omega, gs ++ [p], R2, as2 ++ [p], ?_, sb, pr.trans (Pre.app _ _), ha3, by rw [List.length_append, hl]; rfl⟩
      have es : ((S1 ++ nest gs) ++ [Own.lat p []]).set S1.length (.lst ((gs ++ [p]).map .cls)) = S1 ++ nest (gs ++ [p]) := by
        rw [List.append_assoc, List.set_append_right _ _ (Nat.le_refl _), Nat.sub_self]
        unfold nest
        simp
      rw [es] at rl4
      exact rl4
    · rw [hd.len] at p
      obtain ⟨gs, R2, as2, rl2, sb, pr, ha2, hl⟩ := p
      exact c _ (.own S1.length) _ R2 _ as2 rl2 (s1.trans sb) (p1.trans pr) (show EntOk w.K R2 as2 (.ref Dl) (.own S1.length) from ⟨Dl, ha2, rfl⟩) (iE gs hl)
/-- what a list called by its address is, among the owned -/
theorem Rel.toLst {R H : Hp} {as : List Addr} (r : Rel w R H as S) {i : Nat} {g : Addr} {xs : List D} (hi : S[i]? = some (.lat g xs)) : as[i]? = some g ∧ Rel w R H as (S.set i (.lst xs)) := by
  obtain ⟨a, ha⟩ := r.own hi
  obtain ⟨⟨e, z, vs, c1, c2⟩, _⟩ := r.reg _ _ _ hi ha (by intro z; cases z)
  subst e
  have e : upd H a (.lst vs) = H := by
    funext b
    by_cases hb : b = a
    · subst hb; rw [upd_same, c1]
    · rw [upd_ne hb]
  have := r.write (o' := .lst xs) (u := .lst vs) hi ha (by intro z; cases z) (by intro z; cases z) ⟨z, vs, upd_same, c2⟩
  rw [e] at this
  exact ⟨ha, this⟩
/-- a method asked of a list that is called by its address -/
theorem rm_lat {r : V → List V → Hp → VK → Prop} {i : Nat} {g : Addr} {xs : List D} {es : List Ent} (hi : S[i]? = some (.lat g xs)) (h : RM w r (.own i) es (S.set i (.lst xs)) fun e S1 => ∃ ys, S1[i]? = some (.lst ys) ∧ k e (S1.set i (.lat g ys))) : RM w r (.d (.cls g)) es S k := fun R H as u us Q rl hu hus c => by
  cases hu
  obtain ⟨ha, r2⟩ := rl.toLst hi
  refine h R H as _ us Q r2 ⟨g, ha, rfl⟩ hus fun v e S' R' H' as' r' s p ok ⟨ys, hy, hk⟩ => ?_
  exact c v e _ R' H' as' (r'.toLat hy (p _ _ ha)) s p ok hk
/-- a call that takes a list that is called by its address -/
theorem rs_arg {f : DS} {E : XK} {i : Nat} {g : Addr} {xs : List D} {es : List Ent} (hi : S[i]? = some (.lat g xs)) (h : RS w f E (.own i :: es) (S.set i (.lst xs)) fun e S1 => ∃ ys, S1[i]? = some (.lst ys) ∧ k e (S1.set i (.lat g ys))) : RS w f E (.d (.cls g) :: es) S k := fun R H as vs Q rl ev c => by
  obtain ⟨ha, r2⟩ := rl.toLst hi
  refine h R H as vs Q r2 ?_ fun v e S' R' H' as' r' s p ok ⟨ys, hy, hk⟩ => ?_
  · match vs, ev with
    | v :: vs, ⟨h1, h2⟩ => cases h1; exact ⟨⟨g, ha, rfl⟩, h2⟩
  · exact c v e _ R' H' as' (r'.toLat hy (p _ _ ha)) s p ok hk
end
end Gm
set_option maxHeartbeats 4000000
/-! comprehensions whose list stays own -/
namespace Gm
open PySem PySem.Spec PyProof.Rows L2
section
variable {w : Wd} {Γ : Env} {S : List Own} {k : KE} {te : TE}
/-- [.. for v in range(..) if ..]: a list of its own -/
theorem le_lcRO {wi : TI} {v : Nat} {tt : TT} (h : LR w wi Γ S fun lo n S1 => ∃ I : Nat → List D → List Own → Prop, I 0 [] S1 ∧
    (∀ i acc S2, i < n → S2.length = S1.length → I i acc S2 → LcT w Γ v tt te (.int (lo + i)) acc S2 (I (i + 1))) ∧ (∀ acc S2, S2.length = S1.length → I n acc S2 → k (.own S2.length) (S2 ++ [.lst acc]))) : LE w (tLc wi (gName v) tt te [v]) Γ S k := fun σ R H as Q rl s c => by
  refine h σ R H as _ rl s fun lo n S1 R1 H1 as1 rl1 s1 p1 ⟨I, i0, is, iE⟩ Dl hD => ?_
  refine lc_range (fun i H => LcP w R1 as1 S1.length Dl (I i) H) (lc_begin rl1 hD i0) (fun i H2 hi p => ?_) fun H2 p => ?_
  · obtain ⟨S2, R2, as2, acc, rl2, sb, pr, ha, hl, hi2⟩ := p
    have := lc_turn (Dl := Dl) (s.mono s1 p1) rl2 sb pr ha (Den.int (lo + i)) (is i acc S2 hi hl hi2)
    rw [hl] at this
    exact this
  · obtain ⟨S2, R2, as2, acc, rl2, sb, pr, ha2, hl, hi2⟩ := p
    exact c _ (.own S2.length) _ R2 _ as2 rl2 (s1.trans sb) (p1.trans pr) (show EntOk w.K R2 as2 (.ref Dl) (.own S2.length) from ⟨Dl, ha2, rfl⟩) (iE acc S2 hl hi2)
end
end Gm
/-! sorted(set(..)) by how many unlike numbers there are; lists called by their address, read -/
namespace Gm
open PySem PySem.Spec PyProof.Rows L2
theorem set_update_intsD {P : Program} {w : World} {A : Around} {I : Addr} {fp wr : List Addr} {G : Array GenState → Array GenState → Prop} {n : Nat} {Pv : Nat → Value → Prop} {St : Nat → Shared → Prop} {R : Result → Shared → Prop}
    (W : WalksS P w A.in1 I fp wr G n Pv St) (S : Addr) (hSf : S ∉ fp) (ns : List Int) (hn : n = ns.length) (hb : ∀ ys : List Int, ys.Nodup → (∀ j ∈ ys, j ∈ ns) → ys.length + 1 < scanBound) (hval : ∀ i v, Pv i v → ∃ k t, ns[i]? = some k ∧ v = .int k t) :
    ∀ (k i : Nat) (s : Shared), n - i = k → i ≤ n → St i s → (∃ (ys : List Int) (c : Nat), ys.Nodup ∧ (∀ j, j ∈ ys ↔ j ∈ ns.take i) ∧ c = ys.length ∧ SetR w s.heap S (fun j => decide (j ∈ ns.take i)) c) →
      (∀ s' c, Moved (S :: wr) G s s' → c + 1 < scanBound → SetR w s'.heap S (fun j => decide (j ∈ ns)) c → R (.ok (.ret .none)) s') →
      codeAny (model P w) A (.builtin "set.update.loop" ⟨[.ref S, .ref I], []⟩) R s := by
  have hSw : S ∉ wr := fun h => hSf (W.sub _ h)
  have hsub : ∀ b ∈ wr, b ∈ S :: wr := fun b hb => List.mem_cons_of_mem _ hb
  intro k
  induction k with
  | zero =>
    intro i s hk' hi hst ⟨ys, c, hy1, hy2, hc, hS⟩ hR
    have hin : i = n := by omega
    subst hin
    refine codeAny_builtin F.entry_set_update_loop ?_
    rw [Around.under_plainId F.plain_set_update_loop _]
    show wpAny _ A.in1 (pyNext (.ref I) >>= _) _ _ s
    refine wpAny_bind (W.done s _ _ hst fun s' hm => ?_)
    show wpAny _ A.in1 (ret Value.none) _ _ s'
    have e : ns.take i = ns := List.take_of_length_le (by omega)
    rw [e] at hS
    rw [e] at hy2
    have := hb ys hy1 fun j hj => (hy2 j).mp hj
    exact wpAny_pure (hR s' c (hm.mono hsub) (by omega) (hS.at fun o e => hm.heap S o hSw e))
  | succ k ih =>
    intro i s hk' hi hst ⟨ys, c, hy1, hy2, hc, hS⟩ hR
    have hlt : i < n := by omega
    refine codeAny_builtin F.entry_set_update_loop ?_
    rw [Around.under_plainId F.plain_set_update_loop _]
    show wpAny _ A.in1 (pyNext (.ref I) >>= _) _ _ s
    refine wpAny_bind (W.item i s _ _ hlt hst fun v s' hP hst' hm => ?_)
    obtain ⟨z, t, hz, rfl⟩ := hval i v hP
    have hS' : SetR w s'.heap S (fun j => decide (j ∈ ns.take i)) c := hS.at fun o e => hm.heap S o hSw e
    have hroom := hb ys hy1 fun j hj => List.mem_of_mem_take ((hy2 j).mp hj)
    show wpAny _ A.in1 (holding [Value.int z t] (setAdd S (.int z t)) >>= _) _ _ s'
    refine wpAny_bind (wpAny_holding ?_)
    unfold setAdd
    refine wpAny_holding ?_
    refine wpAny_bind ((intKind P w).pyHash (k := z) (intKind_is _ _ _ _) ?_)
    refine setR_add_hashed (s := { s' with toks := s'.toks + 1 }) hS' (by omega) fun h' hsb hS2 => ?_
    have et : ns.take (i + 1) = ns.take i ++ [z] := by rw [List.take_add_one, hz]; rfl
    have hS3 : SetR w h' S (fun j => decide (j ∈ ns.take (i + 1))) (if decide (z ∈ ns.take i) = true then c else c + 1) := hS2.congr fun j => by
      rw [et]
      simp [List.mem_append]
    have hnew : ∃ ys' : List Int, ys'.Nodup ∧ (∀ j, j ∈ ys' ↔ j ∈ ns.take (i + 1)) ∧ (if decide (z ∈ ns.take i) = true then c else c + 1) = ys'.length := by
      by_cases hm : z ∈ ns.take i
      · refine ⟨ys, hy1, fun j => ?_, by rw [decide_eq_true hm, if_pos rfl]; exact hc⟩
        rw [et, List.mem_append, hy2, List.mem_singleton]
        exact ⟨.inl, fun q => q.elim id fun q => by subst q; exact hm⟩
      · refine ⟨ys ++ [z], List.nodup_append.mpr ⟨hy1, List.pairwise_singleton .., fun a ha b hb => ?_⟩, fun j => ?_, by rw [decide_eq_false hm, if_neg Bool.false_ne_true, List.length_append]; simp; exact hc⟩
        · have : b = z := by simpa using hb
          subst this
          intro q; subst q; exact hm ((hy2 _).mp ha)
        · rw [et, List.mem_append, List.mem_append, hy2]
    obtain ⟨ys', q1, q2, q3⟩ := hnew
    refine wpAny_pure ⟨plainId_quiet F.plain_set_update_loop _, ih (i + 1) _ (by omega) hlt (W.frame _ s' _ _ hst' (Nat.le_succ _) fun b hb o e => ?_) ⟨ys', _, q1, q2, q3, hS3⟩ fun s'' c2 hm'' hc'' hS'' => ?_⟩
    · rw [hsb.2 b (fun h : b = S => hSf (by rw [← h]; exact hb))]; exact e
    · refine hR s'' c2 (Moved.trans W.gtrans ((hm.mono hsub).then_heap (Nat.le_succ _) fun b o hb e => ?_) hm'') hc'' hS''
      rw [hsb.2 b (fun h : b = S => hb (by rw [h]; exact List.mem_cons_self))]; exact e
theorem call_set_listD {P : Program} {w : World} {A : Around} {E : Value → Shared → Prop} {s : Shared} {l : Addr} {items : Array Value} (ns : List Int) {Q : Value → Shared → Prop} (hh : A.handled = none) (hl : s.heap.IsList l items) (hit : IntsAre items.toList ns) (hb : ∀ ys : List Int, ys.Nodup → (∀ j ∈ ys, j ∈ ns) → ys.length + 1 < scanBound)
    (h : ∀ (h' : Heap) (tk c : Nat), SetR w h' s.heap.objs.size (fun j => decide (j ∈ ns)) c → c + 1 < scanBound → (∀ (b : Addr) (o : Obj), s.heap.get? b = some o → h'.get? b = some o) → Q (.ref s.heap.objs.size) { heap := h', gens := s.gens, drawn := s.drawn, toks := tk, os := s.os }) :
    wpAny (model P w) A (call (.type "set") [.ref l]) Q E s := by
  have hisz : items.size = ns.length := by rw [← hit.length, Array.length_toList]
  obtain ⟨c, tl, hmro⟩ := F.called_set.mro
  have hmade := F.called_set.made
  have hsub := F.called_set.sub
  refine wpAny_call (codeAny_of_tree ?_)
  refine wpAny_pure ⟨Code.quiet_builtin _ (by decide +kernel), codeAny_builtin F.entry_type_call ?_⟩
  rw [Around.under_plain (weight_type_call_type "set" [.ref l] []) rfl]
  have h1 := F.called_set.notType
  have h2 := F.called_set.canCreate
  have hct := F.typeCall_set_1 (.ref l)
  unfold Builtin.«type.__call__»
  refine wpAny_ite_false rfl ?_
  refine wpAny_ite_false rfl ?_
  refine wpAny_bind (wpAny_of_eq hct ?_)
  refine wpAny_bind (wpAny_of_eq hmro ?_)
  refine wpAny_ite_false rfl ?_
  refine wpAny_bind (wpAny_of_eq hmade ?_)
  refine wpAny_bind (wpAny_pure ?_)
  refine wpAny_bind (wpAny_holding (wpAny_call ?_))
  refine codeAny_mono (code_set_led1 (P := P) (w := w) (A := A.in1) (E := fun _ _ => False) (s := s) (.ref l) (Q₁ := fun v s1 => v = .ref s.heap.objs.size ∧ s1 = { heap := s.heap.push { cls := Value.type "set", data := Data.set #[] 0 (SetTable.fresh 0 0 !w.params.followText "set-order") }, gens := s.gens, drawn := s.drawn, toks := s.toks, os := s.os }) ⟨rfl, rfl⟩) fun r s₁ hr => ?_
  match r, hr with
  | .ok (.ret v), hr =>
    obtain ⟨rfl, rfl⟩ := hr
    dsimp only
    have hnew : (s.heap.push { cls := Value.type "set", data := Data.set #[] 0 (SetTable.fresh 0 0 !w.params.followText "set-order") }).get? s.heap.objs.size = some { cls := Value.type "set", data := Data.set #[] 0 (SetTable.fresh 0 0 !w.params.followText "set-order") } := Heap.get?_push_size _ rfl
    have hsd : (Data.set #[] 0 (SetTable.fresh 0 0 !w.params.followText "set-order")) = Data.set #[] 0 (SetTable.fresh 0 0 !w.params.followText "set-order") := rfl
    generalize hO : ({ cls := Value.type "set", data := Data.set #[] 0 (SetTable.fresh 0 0 !w.params.followText "set-order") } : Obj) = O at *
    have hty : (Shared.mk (s.heap.push O) s.gens s.drawn s.toks s.os).TypeIs (.ref s.heap.objs.size) "set" := by
      exact ⟨_, hnew, by rw [← hO]⟩
    have hOd : O.data = Data.set #[] 0 (SetTable.fresh 0 0 !w.params.followText "set-order") := by rw [← hO]
    have hOc : O.cls = .type "set" := by rw [← hO]
    refine wpAny_bind (wpAny_isInstance hty hsub ?_)
    refine wpAny_ite_false rfl ?_
    refine wpAny_bind (wpAny_holding ?_)
    unfold callSpecial?
    refine wpAny_bind (wpAny_specialOf hty F.called_set.init.lookup ?_)
    dsimp only
    refine wpAny_holding (wpAny_bind (wpAny_of_eq (F.called_set.init.bind ..) ?_))
    refine wpAny_bind (wpAny_call ?_)
    refine codeAny_mono (R := fun r s' => r = .ok (.ret .none) ∧ ∃ (h' : Heap) (tk c : Nat), s' = { heap := h', gens := s.gens, drawn := s.drawn, toks := tk, os := s.os } ∧ SetR w h' s.heap.objs.size (fun j => decide (j ∈ ns)) c ∧ c + 1 < scanBound ∧ (∀ (b : Addr) (o : Obj), s.heap.get? b = some o → h'.get? b = some o)) ?_ fun r s₁ hr => ?_
    · refine codeAny_call_builtin F.called_set.init.plain F.entry_set_init (check_set_init_1 hty ?_)
      unfold Builtin.«set.__init__»
      refine wpAny_bind (wpAny_ite_true rfl (wpAny_pure ?_))
      simp only [List.cons_append, List.nil_append]
      refine wpAny_bind ?_
      unfold typeNameOfCut
      refine wpAny_bind ?_
      unfold shownTypeOf
      refine wpAny_bind (wpAny_typeOf hty ?_)
      refine wpAny_ite_false rfl ?_
      refine wpAny_pure ?_
      refine wpAny_pure ?_
      refine wpAny_bind ?_
      unfold checkCount
      refine wpAny_ite_false rfl ?_
      refine wpAny_ite_false rfl ?_
      refine wpAny_ite_false rfl ?_
      refine wpAny_pure ?_
      refine wpAny_bind ?_
      unfold Builtin.Frozenset.addrOf
      refine wpAny_pure ?_
      refine wpAny_bind ?_
      unfold setUsed
      refine wpAny_bind ?_
      unfold setState
      refine wpAny_bind (wpAny_load' hnew ?_)
      rw [hOd]
      dsimp only
      refine wpAny_ite_false rfl ?_
      refine wpAny_pure ?_
      refine wpAny_pure ?_
      refine wpAny_ite_false rfl ?_
      refine wpAny_bind ?_
      unfold Builtin.Frozenset.updateFrom
      obtain ⟨o, ho, hocls, no, hodata⟩ := hl
      have hl1 : (s.heap.push O).get? l = some o := Heap.get?_push_of_some _ ho
      have hlty : (Shared.mk (s.heap.push O) s.gens s.drawn s.toks s.os).TypeIs (.ref l) "list" := ⟨o, hl1, hocls⟩
      refine wpAny_bind ?_
      unfold Builtin.Frozenset.isAnySet
      refine wpAny_bind (wpAny_isInstance hlty F.sub_list_set ?_)
      show wpAny _ _ (isInstance (.ref l) (.type "frozenset")) _ _ _
      refine wpAny_isInstance hlty F.sub_list_frozenset ?_
      refine wpAny_ite_false rfl ?_
      refine wpAny_bind (wpAny_typeOf hlty ?_)
      refine wpAny_ite_false rfl ?_
      have hIL : (s.heap.push O).IsList l items := ⟨o, hl1, hocls, no, hodata⟩
      refine wpAny_bind (wpAny_pyIter_list hIL ?_)
      refine wpAny_bind (wpAny_runValue ?_)
      have hl0 : l < s.heap.objs.size := Heap.lt_size ho
      have hsz : (s.heap.push O).objs.size = s.heap.objs.size + 1 := Heap.size_push ..
      have hne : l ≠ (s.heap.push O).objs.size := by
        rw [hsz]
        exact Nat.ne_of_lt (Nat.lt_succ_of_lt hl0)
      refine set_update_intsD (Walks.toS (Walks.list (A := A.in1.in1.in1) hh (s.heap.push O).objs.size l hne items)) s.heap.objs.size ?_ ns hisz hb ?_ _ 0 _ rfl (Nat.zero_le _) ?_ ⟨[], 0, List.nodup_nil, (fun j => by simp), rfl, setR_new_at ?_⟩ fun s' c' hm hc hs => ?_
      · intro hm
        rcases List.mem_cons.mp hm with e | hm
        · rw [hsz] at e
          exact Nat.ne_of_lt (Nat.lt_succ_self _) e
        · exact Nat.ne_of_gt hl0 (List.mem_singleton.mp hm)
      · intro i v hv
        exact ints_get hit (by rw [Array.getElem?_toList]; exact hv)
      · exact ⟨⟨_, Heap.get?_push_size _ rfl, rfl, rfl⟩, hIL.push _⟩
      · exact (Heap.get?_push_of_some _ hnew).trans (by rw [← hO])
      · refine wpAny_pure (wpAny_pure ⟨rfl, s'.heap, s'.toks, c', ?_, hs, hc, fun b o' hb' => ?_⟩)
        · have e1 := hm.gens
          have e2 := hm.drawn
          have e3 := hm.os
          cases s'
          dsimp only at e1 e2 e3
          subst e1; subst e2; subst e3
          rfl
        · refine hm.heap b o' (fun hm2 => ?_) (Heap.get?_push_of_some _ (Heap.get?_push_of_some _ hb'))
          have hb0 : b < s.heap.objs.size := Heap.lt_size hb'
          rcases List.mem_cons.mp hm2 with e | hm2
          · exact Nat.ne_of_lt hb0 e
          · have e := List.mem_singleton.mp hm2
            rw [hsz] at e
            exact Nat.ne_of_lt (Nat.lt_succ_of_lt hb0) e
    · obtain ⟨rfl, h', tk, c', rfl, hs, hc, hk⟩ := hr
      refine wpAny_pure ?_
      refine wpAny_ite_false rfl ?_
      exact wpAny_pure (h h' tk c' hs hc hk)


def rSetD (K : PySem.W.Frag) (W : World) : List V → Hp → VK → Prop := fun xs H Q => ∃ (l : Addr) (ns : List Int), xs = [.ref l] ∧ SqL K H l (ns.map V.int) ∧ (∀ ys : List Int, ys.Nodup → (∀ j ∈ ys, j ∈ ns) → ys.length + 1 < scanBound) ∧ ∀ (p : Addr) (c : Nat), H p = none → c + 1 < scanBound → Q (.ref p) (upd H p (SetO W p (fun j => decide (j ∈ ns)) c))
theorem c_setD {X : Cx} (hc : X.A.handled = none) : CallR X (.type "set") (rSetD X.K X.w) := by
  intro pins s σ H xs us Q I r h
  obtain ⟨l, ns, rfl, sq, hb, q⟩ := h
  obtain ⟨u, rfl, ru⟩ := r.one
  obtain rfl : u = Value.ref l := ru
  obtain ⟨its, hv, hp, _⟩ := I.list sq
  refine call_set_listD ns hc (items := its.toArray) ?_ (by exact vals_ints hv) hb fun h' tk c hs hcn hk => ?_
  · obtain ⟨o, n, h1, h2, _, h3⟩ := hp
    exact ⟨o, h1, h2, n, h3⟩
  · exact ⟨.ref s.heap.objs.size, _, I.laid hk (Nat.le_refl _) (setO_new hs), rfl, q _ c I.fresh hcn⟩
section
variable {w : Wd} {R H : Hp} {as : List Addr} {Γ : Env} {S : List Own} {k : KE} {G : GE}
/-- a list, also one that is called by its address -/
def IsLat (x : Ent) (S : List Own) (ds : List D) : Prop := IsLst x S ds ∨ ∃ (g : Addr) (i : Nat), x = Ent.d (.cls g) ∧ S[i]? = some (Own.lat g ds)
theorem isLat_at {v : V} {x : Ent} {ds : List D} (o : IsLat x S ds) (r : Rel w R H as S) (e : EntOk w.K R as v x) : ∃ a vs, v = .ref a ∧ H a = some (.lst vs) ∧ Dens w.K R vs ds := by
  rcases o with h | ⟨g, i, rfl, hi⟩
  · exact isLst_at h r e
  · cases e
    obtain ⟨a, ha⟩ := r.own hi
    obtain ⟨⟨rfl, z, vs, c1, c2⟩, _⟩ := r.reg _ _ _ hi ha (by intro z; cases z)
    exact ⟨_, vs, rfl, c1, c2⟩
theorem lat_ints {x : Ent} {s : List Int} {v : V} (hx : IsLat x S (s.map D.int)) (rl : Rel w R H as S) (e : EntOk w.K R as v x) : ∃ a, v = .ref a ∧ SqL w.K H a (s.map V.int) := by
  obtain ⟨a, vs, rfl, h1, h2⟩ := isLat_at hx rl e
  rw [Dens.ints h2] at h1
  exact ⟨a, rfl, SqL.of h1⟩
theorem le_sortSetD {W : World} {te : TE} (h : LE w te Γ S fun e S1 => ∃ s : List Int, IsLat e S1 (s.map D.int) ∧ (∀ ys : List Int, ys.Nodup → (∀ j ∈ ys, j ∈ s) → ys.length ≤ 4000) ∧ ∀ out : List Int, out.Pairwise (· < ·) → (∀ x, x ∈ out ↔ x ∈ s) → k (.d (.lst (out.map D.int))) S1) :
    LE w (tCB (rSortedSetB W) (tCons (tCB (rSetD w.K W) (tCons te tNil)) tNil)) Γ S k := fun σ R H as Q rl s c => by
  refine h σ R H as _ rl s fun v e S1 R1 H1 as1 rl1 s1 p1 e1 ⟨ns, hx, hl, q⟩ => ?_
  obtain ⟨a, ha⟩ := lat_ints hx rl1 e1
  refine ⟨a, ns, by rw [ha.1], ha.2, fun ys y1 y2 => Nat.lt_of_lt_of_le (show ys.length + 1 < 4003 by have := hl ys y1 y2; omega) (by decide +kernel), fun p n hp hn => ?_⟩
  obtain ⟨rl2, s2⟩ := rl1.alloc hp (SetO W p (fun j => decide (j ∈ ns)) n)
  have hsb : scanBound = 4096 := rfl
  refine ⟨p, _, n, rfl, upd_same, by unfold sizeLine; omega, fun out p2 h1 h2 h3 hp2 => ?_⟩
  obtain ⟨rl3, s3⟩ := rl2.alloc hp2 (.lst (out.map V.int))
  exact c _ (.d (.lst (out.map D.int))) S1 _ _ as1 rl3 ((s1.trans s2).trans s3) p1 (ok_d (Den.lst upd_same ((Dens.of_ints out).mono s3))) (q out h1 fun x => by rw [h2]; simp)
end
section
variable {w : Wd} {Γ : Env} {S : List Own} {k : KE} {te : TE}
theorem Dens.clss {K : PySem.W.Frag} {R : Hp} : ∀ {gs : List Addr} {vs : List V}, Dens K R vs (gs.map D.cls) → vs = gs.map V.ref
  | [], _, .nil => rfl
  | g :: gs, _, .cons h r => by
    cases h
    rw [Dens.clss r]; rfl
/-- [.. for l in a list of lists] -/
theorem le_lcRows {tl : TE} {v : Nat} {tt : TT} (h : LE w tl Γ S fun e S1 => ∃ (i0 : Nat) (gs : List Addr), e = .own i0 ∧ S1[i0]? = some (.lst (gs.map D.cls)) ∧ ∃ I : Nat → List D → List Own → Prop, I 0 [] S1 ∧ (∀ i acc S2, I i acc S2 → S2[i0]? = some (.lst (gs.map D.cls))) ∧
    (∀ i g acc S2, gs[i]? = some g → S2.length = S1.length → I i acc S2 → LcT w Γ v tt te (.cls g) acc S2 (I (i + 1))) ∧ (∀ acc S2, S2.length = S1.length → I gs.length acc S2 → k (.d (.lst acc)) S2)) : LE w (tLc (iList w.K tl) (gName v) tt te [v]) Γ S k := fun σ R H as Q rl s c => by
  refine h σ R H as _ rl s fun vl el S1 R1 H1 as1 rl1 s1 p1 e1 ⟨i0, gs, h1, hS, I, i0', ik, is, iE⟩ => ?_
  subst h1
  obtain ⟨a, ha, rfl⟩ := e1
  have at_ : ∀ {R' H' : Hp} {as' : List Addr} {S' : List Own}, Rel w R' H' as' S' → Pre as1 as' → S'[i0]? = some (.lst (gs.map D.cls)) → H' a = some (.lst (gs.map V.ref)) := fun r p hs => by
    obtain ⟨⟨z, vs, c1, c2⟩, _⟩ := r.reg _ _ _ hs (p _ _ ha) (by intro z; cases z)
    rw [← Dens.clss c2]; exact c1
  have h0 := at_ rl1 (Pre.refl _) hS
  refine ⟨a, rfl, ⟨gs.map V.ref, SqL.of h0⟩, fun Dl hD => ?_⟩
  have old : ∀ {S2 : List Own} {acc : List D}, S2[i0]? = some (Own.lst (gs.map D.cls)) → (S2 ++ [Own.lst acc])[i0]? = some (Own.lst (gs.map D.cls)) := fun {S2 acc} hs => by
    rw [List.getElem?_append_left (List.getElem?_eq_some_iff.mp hs).1]; exact hs
  refine lc_list (xs := gs.map V.ref) (fun i H => LcP w R1 as1 S1.length Dl (I i) H) (lc_begin rl1 hD i0') (fun i H2 hi p => ?_) (fun i x H2 hx p => ?_) fun H2 p => ?_
  · obtain ⟨S2, R2, as2, acc, rl2, sb, pr, ha2, hl, hi2⟩ := p
    exact SqL.of (at_ rl2 pr (old (ik _ _ _ hi2)))
  · obtain ⟨S2, R2, as2, acc, rl2, sb, pr, ha2, hl, hi2⟩ := p
    rw [List.getElem?_map, Option.map_eq_some_iff] at hx
    obtain ⟨g, hg, rfl⟩ := hx
    have := lc_turn (Dl := Dl) (s.mono s1 p1) rl2 sb pr ha2 (Den.cls g) (is i g acc S2 hg hl hi2)
    rw [hl] at this
    exact this
  · rw [List.length_map] at p
    obtain ⟨S2, R2, as2, acc, rl2, sb, pr, hD2, hl, hi⟩ := p
    have hg : (S2 ++ [Own.lst acc])[S2.length]? = some (.lst acc) := List.getElem?_concat_length
    obtain ⟨⟨z, vs, c1, c2⟩, _⟩ := rl2.reg _ _ _ hg hD2 (by intro z; cases z)
    obtain ⟨rl3, s3⟩ := rl2.freeze hg hD2 (by intro z; cases z) c1
    have es : (S2 ++ [Own.lst acc]).set S2.length .gone = S2 ++ [.gone] := by
      rw [List.set_append_right _ _ (Nat.le_refl _), Nat.sub_self]; rfl
    rw [es] at rl3
    refine c _ _ S2 _ _ _ (rl3.pop (by rw [hl]; exact rl1.as0_le)) (s1.trans (sb.trans s3)) (p1.trans fun i b hb => ?_) (ok_d (.lst upd_same (c2.mono s3))) (iE acc S2 hl hi)
    have hil := (List.getElem?_eq_some_iff.mp hb).1
    rw [List.getElem?_take, if_pos (by rw [hl, ← rl1.len]; exact hil)]
    exact pr i b hb
end
section
variable {X : Cx} {e : Expr} {p pos p2 pos2 : Pos} {te : TE}
theorem b_sortSetD (hm : X.mg "sorted" = none) (hm2 : X.mg "set" = none) (he : PE X e te) (hc : X.calm = true := by rfl) (hh : X.A.handled = none := by rfl) (hg : Gl X "sorted" := by rfl) (hg2 : Gl X "set" := by rfl)
    (hs : starEach [e] X.env = (false, eval e X.env) :: starEach [] X.env := by rfl)
    (hs2 : starEach [.Call (.Name "set" p2) [e] [] pos2] X.env = (false, eval (.Call (.Name "set" p2) [e] [] pos2) X.env) :: starEach [] X.env := by rfl) :
    PE X (.Call (.Name "sorted" p) [.Call (.Name "set" p2) [e] [] pos2] [] pos) (tCB (rSortedSetB X.w) (tCons (tCB (rSetD X.K X.w) (tCons te tNil)) tNil)) :=
  pe_callB (cr_sortedSetB hc) hg hm (by decide +kernel) (pa_cons (pe_callTy (c_setD hh) hg2 hm2 (by decide +kernel) (pa_cons he pa_nil hs) (he := hs)) pa_nil hs2) (he := hs2)
theorem b_sortSetDB (K : PySem.W.Frag) (W : World) (hm : X.mg "sorted" = none) (hm2 : X.mg "set" = none) (he : PE X e te) (hh : X.A.handled = none) (hK : X.K = K := by rfl) (hW : X.w = W := by rfl) (hc : X.calm = true := by rfl) (hg : Gl X "sorted" := by rfl) (hg2 : Gl X "set" := by rfl)
    (hs : starEach [e] X.env = (false, eval e X.env) :: starEach [] X.env := by rfl)
    (hs2 : starEach [.Call (.Name "set" p2) [e] [] pos2] X.env = (false, eval (.Call (.Name "set" p2) [e] [] pos2) X.env) :: starEach [] X.env := by rfl) :
    PE X (.Call (.Name "sorted" p) [.Call (.Name "set" p2) [e] [] pos2] [] pos) (tCB (rSortedSetB W) (tCons (tCB (rSetD K W) (tCons te tNil)) tNil)) := by
  subst hK; subst hW
  exact b_sortSetD hm hm2 he hc hh hg hg2 hs hs2
theorem b_sortIB (K : PySem.W.Frag) (hm : X.mg "sorted" = none) (he : PE X e te) (hK : X.K = K := by rfl) (hg : Gl X "sorted" := by rfl) (hs : starEach [e] X.env = (false, eval e X.env) :: starEach [] X.env := by rfl) : PE X (.Call (.Name "sorted" p) [e] [] pos) (tCB (rSortedI K) (tCons te tNil)) := by
  subst hK
  exact b_sortI hm he hg hs
end
end Gm
set_option maxHeartbeats 4000000
/-! lists of ints that are called by their address: loops, membership, sorted -/
namespace Gm
open PySem PySem.Spec PyProof.Rows L2
section
variable {w : Wd} {R H : Hp} {as : List Addr} {Γ : Env} {S : List Own} {k : KE} {G : GE} {t1 : TS}
theorem rr_niD {y : Ent} {n : Int} {s : List Int} (hy : IsLat y S (s.map D.int)) (q : k (.d (.bl (!decide (n ∈ s)))) S) : RR w (rIn w.K true) (.d (.int n)) y S k := fun R H as u v Q rl hu hv c => by
  obtain ⟨a, rfl, h⟩ := lat_ints hy rl hv
  cases (show Den w.K R u (.int n) from hu)
  refine ⟨a, _, rfl, .inl h, rfl, by simp [List.all_map, flatV], ?_⟩
  rw [if_pos rfl, inV_ints]
  exact c _ _ S R H as rl (Sub.refl _) (Pre.refl _) (ok_d (Den.bl _)) q
theorem rc_sortID {x : Ent} {s : List Int} (hx : IsLat x S (s.map D.int)) (q : ∀ out : List Int, out.Perm s → out.Pairwise (· ≤ ·) → k (.d (.lst (out.map D.int))) S) : RC w (rSortedI w.K) [x] S k := fun R H as us Q rl hu c => by
  obtain ⟨v, rfl, hv⟩ := one_ent hu
  obtain ⟨a, ha⟩ := lat_ints hx rl hv
  refine ⟨a, s, by rw [ha.1], ha.2, fun out p h1 h2 hp => ?_⟩
  obtain ⟨rl2, s2⟩ := rl.alloc hp (.lst (out.map V.int))
  exact c _ _ S _ _ as rl2 s2 (Pre.refl _) (ok_d (Den.lst upd_same ((Dens.of_ints out).mono s2))) (q out h1 h2)
/-- for x in a list of ints that is called by its address -/
theorem ls_forLat {tl : TE} {g : TG} (h : LE w tl Γ S fun e S1 => ∃ (ga : Addr) (i0 : Nat) (ns : List Int), e = .d (.cls ga) ∧ S1[i0]? = some (Own.lat ga (ns.map D.int)) ∧ ∃ I : Nat → Env → List Own → Prop, I 0 Γ S1 ∧ (∀ i Γ1 S2, I i Γ1 S2 → S2[i0]? = some (Own.lat ga (ns.map D.int))) ∧
    (∀ i n Γ1 S2, ns[i]? = some n → I i Γ1 S2 → LG w g (.d (.int n)) Γ1 S2 fun Γ2 S3 => LS w t1 Γ2 S3 { G with nx := I (i + 1), ct := I (i + 1), bk := G.nx }) ∧ (∀ Γ1 S2, I ns.length Γ1 S2 → G.nx Γ1 S2)) : LS w (tFor (iList w.K tl) g t1) Γ S G := fun EE σ R H as rl s e => by
  refine h σ R H as _ rl s fun v x S1 R1 H1 as1 rl1 s1 p1 e1 ⟨ga, j0, ns, h1, hS, I, i0, ik, is, iE⟩ => ?_
  subst h1
  cases e1
  have at_ : ∀ {R' H' : Hp} {as' : List Addr} {S' : List Own}, Rel w R' H' as' S' → S'[j0]? = some (Own.lat ga (ns.map D.int)) → SqL w.K H' ga (ns.map V.int) := fun r hs => by
    obtain ⟨a, ha⟩ := r.own hs
    obtain ⟨⟨rfl, z, vs, c1, c2⟩, _⟩ := r.reg _ _ _ hs ha (by intro z; cases z)
    rw [← Dens.ints c2]; exact SqL.of c1
  refine ⟨ga, rfl, ⟨ns.map V.int, at_ rl1 hS⟩, ?_⟩
  refine for_list (xs := ns.map V.int) (fun i σ' H' => ∃ Γ' S' R' as', Sub R1 R' ∧ Rel w R' H' as' S' ∧ Sts w.K R' as' σ' Γ' ∧ I i Γ' S') ⟨Γ, S1, R1, as1, Sub.refl _, rl1, s.mono s1 p1, i0⟩ ?_ ?_ ?_
  · rintro i σ2 H2 hi ⟨Γ2, S2, R2, as2, u2, rl2, st2, i2⟩
    exact at_ rl2 (ik _ _ _ i2)
  · rintro i x σ2 H2 hx ⟨Γ2, S2, R2, as2, u2, rl2, st2, i2⟩
    rw [List.getElem?_map, Option.map_eq_some_iff] at hx
    obtain ⟨n, hn, rfl⟩ := hx
    refine is i n Γ2 S2 hn i2 _ σ2 R2 H2 as2 _ rl2 st2 (Den.int n) fun Γ3 S3 σ3 R3 H3 as3 rl3 s3 p3 st3 q => ?_
    have up := u2.trans s3
    have e2 := e.up (s1.trans up)
    exact q _ σ3 R3 H3 as3 rl3 st3 ⟨fun Γ' S' σ' R' H' as' u a b hi => ⟨Γ', S', R', as', up.trans u, a, b, hi⟩, e2.rt, e2.nx, fun Γ' S' σ' R' H' as' u a b hi => ⟨Γ', S', R', as', up.trans u, a, b, hi⟩⟩
  · rintro σ2 H2 ⟨Γ2, S2, R2, as2, u2, rl2, st2, i2⟩
    exact e.nx Γ2 S2 σ2 R2 H2 as2 (s1.trans u2) rl2 st2 (by rw [List.length_map] at i2; exact iE Γ2 S2 i2)
end
end Gm
/-! zip of a list and a tuple -/
namespace Gm
open PySem PySem.Spec PyProof.Rows L2
/-- the list at a and the tuple at b as they stand at each turn, the items in new pairs -/
def ItzM (K : PySem.W.Frag) (a b : Addr) : It :=
  ⟨fun i H => ∃ (xs ys : List V) (x y : V), SqL K H a xs ∧ SqT K H b ys ∧ xs[i]? = some x ∧ ys[i]? = some y,
    fun i H v H' => ∃ T x y, v = .ref T ∧ H T = none ∧ H' = upd H T (.tup [x, y]) ∧ (∀ xs, SqL K H a xs → xs[i]? = some x) ∧ ∀ ys, SqT K H b ys → ys[i]? = some y,
    fun i H => ∃ xs ys : List V, SqL K H a xs ∧ SqT K H b ys ∧ i ≤ xs.length ∧ i ≤ ys.length ∧ (i = xs.length ∨ i = ys.length)⟩
theorem five {α : Type} {c a1 a2 a3 a4 a5 : α} (h : c ∈ [a1, a2, a3, a4, a5]) : c = a1 ∨ c = a2 ∨ c = a3 ∨ c = a4 ∨ c = a5 := by simpa using h
theorem turn_zipM {P : Program} {w : World} {K : PySem.W.Frag} {elts : List Expr} {kk : Nat} {tpos : Pos} {a b z TI TO i1 i2 : Addr} (D : ZipSep2 z TI TO i1 i2 [i1, a] [i2, b]) :
    Turn P w K (.Tuple elts kk tpos) (ItzM K a b) [z, TI, TO, i1, i2] z (fun i h => IsZip h z TI TO .none ∧ IsTupOf2 h TI (.ref i1) (.ref i2) ∧ (∃ x y, IsTupOf2 h TO x y) ∧ h.IsListIter i1 a i ∧ h.IsTupleIter i2 b i) where
  mem := by simp
  obj := fun i h st c hc => by
    obtain ⟨hz, hTI, ⟨x, y, hTO⟩, ⟨o1, e1, _, d1⟩, ⟨o2, e2, _, d2⟩⟩ := st
    rcases five hc with q | q | q | q | q
    · rw [q]; exact ⟨_, hz, fun v q => nomatch q⟩
    · rw [q]; exact ⟨_, hTI, fun v q => nomatch q⟩
    · rw [q]; exact ⟨_, hTO, fun v q => nomatch q⟩
    · exact ⟨o1, by rw [q]; exact e1, fun v q => by rw [d1] at q; cases q⟩
    · exact ⟨o2, by rw [q]; exact e2, fun v q => by rw [d2] at q; cases q⟩
  keep := fun i h h' st k => by
    obtain ⟨hz, hTI, ⟨x, y, hTO⟩, h1, h2⟩ := st
    exact ⟨k z (by simp) _ hz, k TI (by simp) _ hTI, ⟨x, y, k TO (by simp) _ hTO⟩, h1.at fun o q => k i1 (by simp) o q, h2.at fun o q => k i2 (by simp) o q⟩
  item := by
    intro X hP hw hK hc i pins s σ H E I hf st hg
    subst hP hw hK
    obtain ⟨hz, hTI, ⟨x0, y0, hTO⟩, h1, h2⟩ := st
    obtain ⟨xs, ys, x, y, hqx, hqy, hx, hy⟩ := hg
    obtain ⟨its, rv, p, _⟩ := I.list hqx
    obtain ⟨its2, rv2, p2, _⟩ := I.tuple hqy
    obtain ⟨u, hu, ru⟩ := rv.get hx
    obtain ⟨u2, hu2, ru2⟩ := rv2.get hy
    have hh : X.A.in1.handled = none := I.ok.hd hc
    have hzl : z < s.heap.objs.size := Heap.lt_size hz
    have lt1 : i < its.toArray.size := by have := (List.getElem?_eq_some_iff.mp hu).1; simpa using this
    have lt2 : i < its2.toArray.size := by have := (List.getElem?_eq_some_iff.mp hu2).1; simpa using this
    have n1 : a ≠ i1 := fun e => by
      obtain ⟨o1, e1, c1, d1⟩ := h1
      obtain ⟨o, e2, c2, _⟩ := p.isList
      rw [e, e1] at e2; cases e2
      rw [c1] at c2; exact absurd c2 (by decide +kernel)
    have n2 : b ≠ i2 := fun e => by
      obtain ⟨o1, e1, c1, d1⟩ := h2
      obtain ⟨o, e2, c2, _⟩ := p2
      rw [e, e1] at e2; cases e2
      rw [c1] at c2; exact absurd c2 (by decide +kernel)
    refine wpAny_pyNext_zipD2_item D (Draws.list hh i1 a n1 its.toArray) (Draws.tuple hh i2 b n2 its2.toArray) hz hTI hTO ⟨h1, p.isList⟩ ⟨h2, p2⟩ lt1 lt2 fun v1 v2 h' tk y1 y2 z' TO' s1' s2' hT hsz hk => ?_
    have ev1 : v1 = u := by have y1 : its.toArray[i]? = some v1 := y1; rw [List.getElem?_toArray, hu] at y1; exact (Option.some.inj y1).symm
    have ev2 : v2 = u2 := by have y2 : its2.toArray[i]? = some v2 := y2; rw [List.getElem?_toArray, hu2] at y2; exact (Option.some.inj y2).symm
    subst ev1 ev2
    refine ⟨_, rfl, wpAny_letOwnedTupleGo_zip (s := { s with heap := h', toks := tk }) z' fun h'' z'' sb => ?_⟩
    have hT2 : h''.get? s.heap.objs.size = some { cls := .type "tuple", data := .seq #[v1, v2] } := (sb.2 _ (Nat.ne_of_gt hzl)).trans hT
    have new : ObjOk X.prog X.w (upd H s.heap.objs.size (.tup [x, y])) h'' s.heap.objs.size (.tup [x, y]) :=
      ⟨by show 2 ≤ sizeLine; decide, [v1, v2], .cons ru (.cons ru2 .nil), ⟨_, hT2, rfl, _, rfl⟩⟩
    have I1 : Inv X pins σ (upd H s.heap.objs.size (.tup [x, y])) { s with heap := h'', toks := tk } :=
      I.turnedNew (t' := tk) (ch := [z, TI, TO, i1, i2]) (fun c o hb q => (sb.2 c (fun q' => hb (by simp [q']))).trans (hk c o (fun q' => hb (by simp [q'])) (fun q' => hb (by simp [q'])) (fun q' => hb (by simp [q'])) (fun q' => hb (by simp [q'])) q)) hf (Nat.le_refl _) new
    refine ⟨.ref s.heap.objs.size, _, I1, rfl, ⟨_, x, y, rfl, I.hok.fresh (Nat.le_refl _), rfl, fun l hl => by rw [I.list_inj hl hqx]; exact hx, fun l hl => by rw [I.tuple_inj hl hqy]; exact hy⟩, ⟨z'', ?_, ⟨v1, v2, ?_⟩, ?_, ?_⟩, fun c hcm => ?_⟩
    · exact (sb.2 _ D.TIz).trans (hk _ _ D.TIz D.TITO D.TIi1 D.TIi2 hTI)
    · exact (sb.2 _ D.TOz).trans TO'
    · exact s1'.1.at fun o q => (sb.2 _ D.zi1.symm).trans q
    · exact s2'.1.at fun o q => (sb.2 _ D.zi2.symm).trans q
    · have hlt : c < s.heap.objs.size := by
        rcases five hcm with q | q | q | q | q
        · rw [q]; exact hzl
        · rw [q]; exact Heap.lt_size hTI
        · rw [q]; exact Heap.lt_size hTO
        · rw [q]; obtain ⟨_, e1, _⟩ := h1; exact Heap.lt_size e1
        · rw [q]; obtain ⟨_, e2, _⟩ := h2; exact Heap.lt_size e2
      rw [upd_ne (Nat.ne_of_lt hlt)]
      exact (hf c hcm).1
  done := by
    intro X hP hw hK hc i pins s σ H E I hf st hg
    subst hP hw hK
    obtain ⟨hz, hTI, ⟨x0, y0, hTO⟩, h1, h2⟩ := st
    obtain ⟨xs, ys, hqx, hqy, l1, l2, hend⟩ := hg
    obtain ⟨its, rv, p, _⟩ := I.list hqx
    obtain ⟨its2, rv2, p2, _⟩ := I.tuple hqy
    have hh : X.A.in1.handled = none := I.ok.hd hc
    have e1 : its.toArray.size = xs.length := by rw [List.size_toArray]; exact rv.length.symm
    have e2 : its2.toArray.size = ys.length := by rw [List.size_toArray]; exact rv2.length.symm
    have n1 : a ≠ i1 := fun e => by
      obtain ⟨o1, e1, c1, d1⟩ := h1
      obtain ⟨o, e2, c2, _⟩ := p.isList
      rw [e, e1] at e2; cases e2
      rw [c1] at c2; exact absurd c2 (by decide +kernel)
    have n2 : b ≠ i2 := fun e => by
      obtain ⟨o1, e1, c1, d1⟩ := h2
      obtain ⟨o, e2, c2, _⟩ := p2
      rw [e, e1] at e2; cases e2
      rw [c1] at c2; exact absurd c2 (by decide +kernel)
    exact wpAny_pyNext_zipD2_end D (Draws.list hh i1 a n1 its.toArray) (Draws.tuple hh i2 b n2 its2.toArray) hz hTI hTO ⟨h1, p.isList⟩ ⟨h2, p2⟩ (by rw [e1]; exact l1) (by rw [e2]; exact l2) (by rw [e1, e2]; exact hend) fun h' tk hk => ⟨rfl, I.turnedL (t' := tk) (ch := [z, TI, TO, i1, i2]) (fun c o hb q =>
      hk c o (fun q' => hb (by simp [q'])) (fun q' => hb (by simp [q'])) (fun q' => hb (by simp [q'])) (fun q' => hb (by simp [q'])) q) hf⟩
  self := fun A i s Q E st h => wpAny_pyIter_zip st.1 h
def iZipM (K : PySem.W.Frag) (ta : TA) : TI := fun σ H R => ta σ H fun vs H1 => ∃ a b xs ys, vs = [.ref a, .ref b] ∧ SqL K H1 a xs ∧ SqT K H1 b ys ∧ R (ItzM K a b) H1
theorem pi_zipM {X : Cx} {e e2 : Expr} {ta : TA} {p pos tpos : Pos} {elts : List Expr} {kk : Nat} (K : PySem.W.Frag) (hm : X.mg "zip" = none) (ha : PA X [e, e2] ta) (hg : Gl X "zip" := by rfl)
    (hs : starEach [e, e2] X.env = (false, eval e X.env) :: starEach [e2] X.env := by rfl) (hpl : (backTo pos (starEach [e2] X.env)).any (·.1) = false := by rfl) (hK : X.K = K := by rfl) :
    PI X (.Tuple elts kk tpos) (.Call (.Name "zip" p) [e, e2] [] pos) (iZipM K ta) := by
  subst hK
  refine ⟨fun pins s σ H R I h => ?_⟩
  refine Call_ (ld_blt I hg hm PyProof.Rows.boot_zip (PyProof.Rows.callWith_type1 (thn (ha.run pos pins s σ H _ I h) fun us s1 ⟨vs, H1, I1, r1, q1⟩ => ?_) hs hpl))
  obtain ⟨a, b, xs, ys, ex, hqx, hqy, q⟩ := q1
  subst ex
  obtain ⟨u1, u2, rfl, ru1, ru2⟩ : ∃ u1 u2, us = [u1, u2] ∧ RelV (.ref a) u1 ∧ RelV (.ref b) u2 := by
    cases r1 with
    | cons r rr => cases rr with
      | cons r' rr => cases rr; exact ⟨_, _, rfl, r, r'⟩
  obtain rfl : u1 = Value.ref a := ru1
  obtain rfl : u2 = Value.ref b := ru2
  obtain ⟨its, rv, p1, _⟩ := I1.list hqx
  obtain ⟨its2, rv2, p2, _⟩ := I1.tuple hqy
  have la : a < s1.heap.objs.size := p1.lt
  have lb : b < s1.heap.objs.size := by obtain ⟨o2, ho2, _⟩ := id p2; exact Heap.lt_size ho2
  have fresh5 : ∀ c, c ∈ [s1.heap.objs.size + 4, s1.heap.objs.size + 2, s1.heap.objs.size + 3, s1.heap.objs.size, s1.heap.objs.size + 1] → FpOk X pins H1 c := fun c hcm => by
    have hle : s1.heap.objs.size ≤ c := by
      rcases five hcm with z | z | z | z | z <;> rw [z]
      · exact Nat.le_add_right _ _
      · exact Nat.le_add_right _ _
      · exact Nat.le_add_right _ _
      · exact Nat.le_refl _
      · exact Nat.le_add_right _ _
    exact I1.fpOk hle (I1.hok.fresh hle)
  refine zip_begins2 (begins_list a its.toArray) (begins_tuple b its2.toArray) p1.isList p2 fun h' hz hTI hTO g1 g2 hsz hk => wpAny_pyIter_zip hz ?_
  have I2 : Inv X pins σ H1 { s1 with heap := h' } := I1.kept (t' := s1.toks) hk
  exact ⟨s1.heap.objs.size + 4, [s1.heap.objs.size + 4, s1.heap.objs.size + 2, s1.heap.objs.size + 3, s1.heap.objs.size, s1.heap.objs.size + 1], _, _, H1, rfl, I2,
    turn_zipM (zip_sep2 (fun c hc => by rw [List.mem_singleton.mp hc]; exact la) (fun c hc => by rw [List.mem_singleton.mp hc]; exact lb)), ⟨hz, hTI, ⟨_, _, hTO⟩, ⟨_, g1, rfl, rfl⟩, ⟨_, g2, rfl, rfl⟩⟩, fresh5, q⟩
/-- a loop over zip of a list and a tuple of one length -/
theorem for_zipM {K : PySem.W.Frag} {a b : Addr} {n : Nat} {g : TG} {tb : TS} {D : Ends} {σ : L2.St} {H : Hp} (Pv : Nat → L2.St → Hp → Prop) (h0 : Pv 0 σ H) (hq : ∀ i σ H, Pv i σ H → ∃ xs ys, SqL K H a xs ∧ SqT K H b ys ∧ xs.length = n ∧ ys.length = n)
    (hs : ∀ (i : Nat) (x y : V) (T : Addr) (σ : L2.St) (H : Hp), i < n → (∀ xs, SqL K H a xs → xs[i]? = some x) → (∀ ys, SqT K H b ys → ys[i]? = some y) → Pv i σ H → H T = none → g (.ref T) σ (upd H T (.tup [x, y])) fun σ2 H2 => tb { D with nx := Pv (i + 1), ct := Pv (i + 1), bk := D.nx } σ2 H2) (hd : ∀ σ H, Pv n σ H → D.nx σ H) :
    ∃ W : Nat → Nat → L2.St → Hp → Prop, (∃ m, W 0 m σ H) ∧ ∀ i m σ H, W i m σ H →
      ((ItzM K a b).stop i H ∧ D.nx σ H) ∨ ((ItzM K a b).go i H ∧ ∃ N : L2.St → Hp → Prop, (∀ σ' H', N σ' H' → ∃ m', m' < m ∧ W (i + 1) m' σ' H') ∧ ∀ v H', (ItzM K a b).yld i H v H' → g v σ H' fun σ2 H2 => tb { D with nx := N, ct := N, bk := D.nx } σ2 H2) := by
  refine ⟨fun i m σ H => m = n - i ∧ i ≤ n ∧ Pv i σ H, ⟨n, rfl, Nat.zero_le _, h0⟩, ?_⟩
  rintro i m σ H ⟨rfl, hi, p⟩
  obtain ⟨xs, ys, qx, qy, ex, ey⟩ := hq i σ H p
  by_cases hlt : i < n
  · have hx : xs[i]? = some (xs[i]'(by omega)) := List.getElem?_eq_getElem (by omega)
    have hy : ys[i]? = some (ys[i]'(by omega)) := List.getElem?_eq_getElem (by omega)
    refine .inr ⟨⟨xs, ys, _, _, qx, qy, hx, hy⟩, Pv (i + 1), fun σ' H' p' => ⟨n - (i + 1), by omega, rfl, hlt, p'⟩, fun v H' y => ?_⟩
    obtain ⟨T, x', y', rfl, hT, rfl, f1, f2⟩ := y
    exact hs i x' y' T σ H hlt f1 f2 p hT
  · have e : i = n := by omega
    exact .inl ⟨⟨xs, ys, qx, qy, by omega, by omega, by omega⟩, hd σ H (e ▸ p)⟩
section
variable {w : Wd} {Γ : Env} {S : List Own} {G : GE} {t1 : TS}
theorem ls_forZip {t : TA} {g : TG} (h : LA w t Γ S fun es S1 => ∃ ds1 ds2, es = [.d (.lst ds1), .d (.tup ds2)] ∧ ds1.length = ds2.length ∧ ∃ I : Nat → Env → List Own → Prop, I 0 Γ S1 ∧
    (∀ i d1 d2 Γ1 S2, ds1[i]? = some d1 → ds2[i]? = some d2 → I i Γ1 S2 → LG w g (.d (.tup [d1, d2])) Γ1 S2 fun Γ2 S3 => LS w t1 Γ2 S3 { G with nx := I (i + 1), ct := I (i + 1), bk := G.nx }) ∧ (∀ Γ1 S2, I ds1.length Γ1 S2 → G.nx Γ1 S2)) : LS w (tFor (iZipM w.K t) g t1) Γ S G := fun D σ R H as rl s e => by
  refine h σ R H as _ rl s fun vs es S1 R1 H1 as1 rl1 s1 p1 e1 ⟨ds1, ds2, h1, hl, I, i0, is, iE⟩ => ?_
  subst h1
  obtain ⟨v, v2, rfl, hv, hv2⟩ := two_ent e1
  cases hv with
  | lst ha hda =>
    cases hv2 with
    | tup hb hdb =>
      rename_i a us b us2
      refine ⟨a, b, us, us2, rfl, SqL.of (rl1.sub _ _ ha), SqT.of (rl1.sub _ _ hb), ?_⟩
      refine for_zipM (n := ds1.length) (fun i σ' H' => ∃ Γ' S' R' as', Sub R1 R' ∧ Rel w R' H' as' S' ∧ Sts w.K R' as' σ' Γ' ∧ I i Γ' S') ⟨Γ, S1, R1, as1, Sub.refl _, rl1, s.mono s1 p1, i0⟩ ?_ ?_ ?_
      · rintro i σ2 H2 ⟨Γ2, S2, R2, as2, u2, rl2, st2, i2⟩
        exact ⟨us, us2, SqL.of (rl2.sub _ _ (u2 _ _ ha)), SqT.of (rl2.sub _ _ (u2 _ _ hb)), hda.len, by rw [hdb.len, hl]⟩
      · rintro i x y T σ2 H2 hi f1 f2 ⟨Γ2, S2, R2, as2, u2, rl2, st2, i2⟩ hT
        obtain ⟨d1, hd1, hd2⟩ := (hda.mono u2).get2 (f1 us (SqL.of (rl2.sub _ _ (u2 _ _ ha))))
        obtain ⟨d2, he1, he2⟩ := (hdb.mono u2).get2 (f2 us2 (SqT.of (rl2.sub _ _ (u2 _ _ hb))))
        obtain ⟨rl3, s3⟩ := rl2.alloc hT (.tup [x, y])
        refine is i d1 d2 Γ2 S2 hd1 he1 i2 _ σ2 _ _ as2 _ rl3 (st2.mono s3 (Pre.refl _)) (ok_d (Den.tup upd_same (.cons (hd2.mono s3) (.cons (he2.mono s3) .nil)))) fun Γ3 S3 σ3 R3 H3 as3 rl4 s4 p4 st4 q => ?_
        have up := (u2.trans s3).trans s4
        have e2 := e.up (s1.trans up)
        exact q _ σ3 R3 H3 as3 rl4 st4 ⟨fun Γ' S' σ' R' H' as' u a b hi => ⟨Γ', S', R', as', up.trans u, a, b, hi⟩, e2.rt, e2.nx, fun Γ' S' σ' R' H' as' u a b hi => ⟨Γ', S', R', as', up.trans u, a, b, hi⟩⟩
      · rintro σ2 H2 ⟨Γ2, S2, R2, as2, u2, rl2, st2, i2⟩
        exact e.nx Γ2 S2 σ2 R2 H2 as2 (s1.trans u2) rl2 st2 (iE Γ2 S2 i2)
end
/-! comprehensions over zip and enumerate -/
theorem lc_zipM {K : PySem.W.Frag} {a b : Addr} {n : Nat} {g : TG} {tt : TT} {te : TE} {vs : List Nat} {σ : L2.St} {H1 : Hp} {Dl : Addr} {Qd : Hp → Prop} (Pv : Nat → Hp → Prop) (h0 : Pv 0 (upd H1 Dl (.lst [])))
    (hq : ∀ i H, Pv i H → ∃ xs ys, SqL K H a xs ∧ SqT K H b ys ∧ xs.length = n ∧ ys.length = n)
    (hs : ∀ (i : Nat) (x y : V) (T : Addr) (H : Hp), i < n → (∀ xs, SqL K H a xs → xs[i]? = some x) → (∀ ys, SqT K H b ys → ys[i]? = some y) → Pv i H → H T = none → g (.ref T) (wipe σ vs) (upd H T (.tup [x, y])) fun σ2 H2 => wipe σ2 vs = wipe σ vs ∧ tt σ2 H2 fun c H3 =>
      if c = true then te σ2 H3 fun y H4 => ∃ acc, H4 Dl = some (.lst acc) ∧ acc.length < sizeLine ∧ Pv (i + 1) (upd H4 Dl (.lst (acc ++ [y]))) else Pv (i + 1) H3) (hd : ∀ H, Pv n H → Qd H) :
    ∃ W : Nat → Nat → Hp → Prop, (∃ m, W 0 m (upd H1 Dl (.lst []))) ∧ ∀ i m H, W i m H →
      ((ItzM K a b).stop i H ∧ Qd H) ∨ ((ItzM K a b).go i H ∧ ∃ Nx : Hp → Prop, (∀ H', Nx H' → ∃ m', m' < m ∧ W (i + 1) m' H') ∧ ∀ x H', (ItzM K a b).yld i H x H' → g x (wipe σ vs) H' fun σ2 H2 => wipe σ2 vs = wipe σ vs ∧ tt σ2 H2 fun c H3 =>
        if c = true then te σ2 H3 fun y H4 => ∃ acc, H4 Dl = some (.lst acc) ∧ acc.length < sizeLine ∧ Nx (upd H4 Dl (.lst (acc ++ [y]))) else Nx H3) := by
  refine ⟨fun i m H => m = n - i ∧ i ≤ n ∧ Pv i H, ⟨n, rfl, Nat.zero_le _, h0⟩, ?_⟩
  rintro i m H ⟨rfl, hi, p⟩
  obtain ⟨xs, ys, qx, qy, ex, ey⟩ := hq i H p
  by_cases hlt : i < n
  · have hx : xs[i]? = some (xs[i]'(by omega)) := List.getElem?_eq_getElem (by omega)
    have hy : ys[i]? = some (ys[i]'(by omega)) := List.getElem?_eq_getElem (by omega)
    refine .inr ⟨⟨xs, ys, _, _, qx, qy, hx, hy⟩, Pv (i + 1), fun H' p' => ⟨n - (i + 1), by omega, rfl, hlt, p'⟩, fun v H' y => ?_⟩
    obtain ⟨T, x', y', rfl, hT, rfl, f1, f2⟩ := y
    exact hs i x' y' T H hlt f1 f2 p hT
  · have e : i = n := by omega
    exact .inl ⟨⟨xs, ys, qx, qy, by omega, by omega, by omega⟩, hd H (e ▸ p)⟩
theorem lc_enum {K : PySem.W.Frag} {a : Addr} {n : Nat} {g : TG} {tt : TT} {te : TE} {vs : List Nat} {σ : L2.St} {H1 : Hp} {Dl : Addr} {Qd : Hp → Prop} (Pv : Nat → Hp → Prop) (h0 : Pv 0 (upd H1 Dl (.lst [])))
    (hq : ∀ i H, Pv i H → ∃ xs, SqL K H a xs ∧ xs.length = n)
    (hs : ∀ (i : Nat) (x : V) (T : Addr) (H : Hp), i < n → (∀ xs, SqL K H a xs → xs[i]? = some x) → Pv i H → H T = none → g (.ref T) (wipe σ vs) (upd H T (.tup [.int (i : Nat), x])) fun σ2 H2 => wipe σ2 vs = wipe σ vs ∧ tt σ2 H2 fun c H3 =>
      if c = true then te σ2 H3 fun y H4 => ∃ acc, H4 Dl = some (.lst acc) ∧ acc.length < sizeLine ∧ Pv (i + 1) (upd H4 Dl (.lst (acc ++ [y]))) else Pv (i + 1) H3) (hd : ∀ H, Pv n H → Qd H) :
    ∃ W : Nat → Nat → Hp → Prop, (∃ m, W 0 m (upd H1 Dl (.lst []))) ∧ ∀ i m H, W i m H →
      ((Ite K a).stop i H ∧ Qd H) ∨ ((Ite K a).go i H ∧ ∃ Nx : Hp → Prop, (∀ H', Nx H' → ∃ m', m' < m ∧ W (i + 1) m' H') ∧ ∀ x H', (Ite K a).yld i H x H' → g x (wipe σ vs) H' fun σ2 H2 => wipe σ2 vs = wipe σ vs ∧ tt σ2 H2 fun c H3 =>
        if c = true then te σ2 H3 fun y H4 => ∃ acc, H4 Dl = some (.lst acc) ∧ acc.length < sizeLine ∧ Nx (upd H4 Dl (.lst (acc ++ [y]))) else Nx H3) := by
  refine ⟨fun i m H => m = n - i ∧ i ≤ n ∧ Pv i H, ⟨n, rfl, Nat.zero_le _, h0⟩, ?_⟩
  rintro i m H ⟨rfl, hi, p⟩
  obtain ⟨xs, qx, ex⟩ := hq i H p
  by_cases hlt : i < n
  · have hx : xs[i]? = some (xs[i]'(by omega)) := List.getElem?_eq_getElem (by omega)
    refine .inr ⟨⟨xs, _, qx, hx⟩, Pv (i + 1), fun H' p' => ⟨n - (i + 1), by omega, rfl, hlt, p'⟩, fun v H' y => ?_⟩
    obtain ⟨T, y', rfl, hT, rfl, f1⟩ := y
    exact hs i y' T H hlt f1 p hT
  · have e : i = n := by omega
    exact .inl ⟨⟨xs, qx, by omega⟩, hd H (e ▸ p)⟩
section
variable {w : Wd} {Γ : Env} {S : List Own} {k : KE}
theorem le_lcZip {t : TA} {te : TE} {g : TG} {tt : TT} {vs : List Nat} (h : LA w t Γ S fun es S1 => ∃ ds1 ds2, es = [.d (.lst ds1), .d (.tup ds2)] ∧ ds1.length = ds2.length ∧ ∃ I : Nat → List D → List Own → Prop, I 0 [] S1 ∧
    (∀ i d1 d2 acc S2, ds1[i]? = some d1 → ds2[i]? = some d2 → S2.length = S1.length → I i acc S2 → ∃ up, TgOk w g vs (.tup [d1, d2]) up ∧ LcG w (up (wipeG Γ vs)) tt te acc S2 (I (i + 1))) ∧ (∀ acc S2, I ds1.length acc S2 → k (.d (.lst acc)) S2)) : LE w (tLc (iZipM w.K t) g tt te vs) Γ S k := fun σ R H as Q rl s c => by
  refine h σ R H as _ rl s fun vl el S1 R1 H1 as1 rl1 s1 p1 e1 ⟨ds1, ds2, h1, hlen, I, i0, is, iE⟩ => ?_
  subst h1
  obtain ⟨v, v2, rfl, hv, hv2⟩ := two_ent e1
  cases hv with
  | lst ha hda =>
    cases hv2 with
    | tup hb hdb =>
      rename_i a us b us2
      refine ⟨a, b, us, us2, rfl, SqL.of (rl1.sub _ _ ha), SqT.of (rl1.sub _ _ hb), fun Dl hD => ?_⟩
      refine lc_zipM (n := ds1.length) (fun i H => LcP w R1 as1 S1.length Dl (I i) H) (lc_begin rl1 hD i0) (fun i H2 p => ?_) (fun i x y T H2 hi f1 f2 p hT => ?_) fun H2 p => ?_
      · obtain ⟨S2, R2, as2, acc, rl2, sb, pr, ha2, hl, hi2⟩ := p
        exact ⟨us, us2, SqL.of (rl2.sub _ _ (sb _ _ ha)), SqT.of (rl2.sub _ _ (sb _ _ hb)), hda.len, by rw [hdb.len, hlen]⟩
      · obtain ⟨S2, R2, as2, acc, rl2, sb, pr, ha2, hl, hi2⟩ := p
        obtain ⟨d1, hd1, hd2⟩ := (hda.mono sb).get2 (f1 us (SqL.of (rl2.sub _ _ (sb _ _ ha))))
        obtain ⟨d2, he1, he2⟩ := (hdb.mono sb).get2 (f2 us2 (SqT.of (rl2.sub _ _ (sb _ _ hb))))
        obtain ⟨rl3, s3⟩ := rl2.alloc hT (.tup [x, y])
        obtain ⟨up, hu, hg⟩ := is i d1 d2 acc S2 hd1 he1 hl hi2
        refine hu σ Γ _ _ as2 _ _ _ rl3 (((s.mono s1 p1).mono sb pr).mono s3 (Pre.refl _)) (Den.tup upd_same (.cons (hd2.mono s3) (.cons (he2.mono s3) .nil))) fun σ2 st2 hw => ⟨hw, ?_⟩
        have := lc_turnG (Dl := Dl) st2 rl3 (sb.trans s3) pr ha2 hg
        rw [hl] at this
        exact this
      · obtain ⟨acc, S', R', as', q1, q2, q3, q4, q5⟩ := lc_end rl1.len rl1.as0_le p
        exact c _ _ S' R' _ as' q1 (s1.trans q2) (p1.trans q3) (ok_d q4) (iE acc S' q5)
theorem le_lcEnum {t : TA} {te : TE} {g : TG} {tt : TT} {vs : List Nat} (h : LA w t Γ S fun es S1 => ∃ ds1, es = [.d (.lst ds1)] ∧ ∃ I : Nat → List D → List Own → Prop, I 0 [] S1 ∧
    (∀ i d1 acc S2, ds1[i]? = some d1 → S2.length = S1.length → I i acc S2 → ∃ up, TgOk w g vs (.tup [.int (i : Nat), d1]) up ∧ LcG w (up (wipeG Γ vs)) tt te acc S2 (I (i + 1))) ∧ (∀ acc S2, I ds1.length acc S2 → k (.d (.lst acc)) S2)) : LE w (tLc (iEnum w.K t) g tt te vs) Γ S k := fun σ R H as Q rl s c => by
  refine h σ R H as _ rl s fun vl el S1 R1 H1 as1 rl1 s1 p1 e1 ⟨ds1, h1, I, i0, is, iE⟩ => ?_
  subst h1
  obtain ⟨v, rfl, hv⟩ := one_ent e1
  cases hv with
  | lst ha hda =>
    rename_i a us
    refine ⟨a, us, rfl, SqL.of (rl1.sub _ _ ha), fun Dl hD => ?_⟩
    refine lc_enum (n := ds1.length) (fun i H => LcP w R1 as1 S1.length Dl (I i) H) (lc_begin rl1 hD i0) (fun i H2 p => ?_) (fun i x T H2 hi f1 p hT => ?_) fun H2 p => ?_
    · obtain ⟨S2, R2, as2, acc, rl2, sb, pr, ha2, hl, hi2⟩ := p
      exact ⟨us, SqL.of (rl2.sub _ _ (sb _ _ ha)), hda.len⟩
    · obtain ⟨S2, R2, as2, acc, rl2, sb, pr, ha2, hl, hi2⟩ := p
      obtain ⟨d1, hd1, hd2⟩ := (hda.mono sb).get2 (f1 us (SqL.of (rl2.sub _ _ (sb _ _ ha))))
      obtain ⟨rl3, s3⟩ := rl2.alloc hT (.tup [.int (i : Nat), x])
      obtain ⟨up, hu, hg⟩ := is i d1 acc S2 hd1 hl hi2
      refine hu σ Γ _ _ as2 _ _ _ rl3 (((s.mono s1 p1).mono sb pr).mono s3 (Pre.refl _)) (Den.tup upd_same (.cons (.int _) (.cons (hd2.mono s3) .nil))) fun σ2 st2 hw => ⟨hw, ?_⟩
      have := lc_turnG (Dl := Dl) st2 rl3 (sb.trans s3) pr ha2 hg
      rw [hl] at this
      exact this
    · obtain ⟨acc, S', R', as', q1, q2, q3, q4, q5⟩ := lc_end rl1.len rl1.as0_le p
      exact c _ _ S' R' _ as' q1 (s1.trans q2) (p1.trans q3) (ok_d q4) (iE acc S' q5)
end
end Gm
/-! sorted of pairs (int, tuple of ints); sums of tuples, the left one empty, too -/
namespace SrtQ
open PySem PyProof.Rows Srt SrtO
/-- by the number, then by the tuple -/
def ltQ (p q : Int × List Int) : Bool := if p.1 = q.1 then HT.lexLt p.2 q.2 else decide (p.1 < q.1)
theorem lexLt_irr : ∀ ns : List Int, HT.lexLt ns ns = false
  | [] => rfl
  | n :: ns => by rw [HT.lexLt_cons, if_pos rfl]; exact lexLt_irr ns
theorem lexLt_asym : ∀ ns ms : List Int, HT.lexLt ns ms = true → HT.lexLt ms ns = false
  | [], [], h => rfl
  | [], _ :: _, h => rfl
  | _ :: _, [], h => by cases h
  | n :: ns, m :: ms, h => by
    rw [HT.lexLt_cons] at h ⊢
    by_cases e : n = m
    · subst e; rw [if_pos rfl] at h ⊢; exact lexLt_asym ns ms h
    · rw [if_neg e] at h; rw [if_neg (Ne.symm e)]
      have := of_decide_eq_true h
      exact decide_eq_false (by omega)
theorem lexLt_tr : ∀ x y z : List Int, HT.lexLt y x = false → HT.lexLt z y = false → HT.lexLt z x = false
  | [], [], [], _, _ => rfl
  | [], [], _ :: _, _, h => rfl
  | [], _ :: _, [], h, _ => rfl
  | [], _ :: _, _ :: _, _, _ => rfl
  | _ :: _, [], _, h, _ => by cases h
  | _ :: _, _ :: _, [], _, h => by cases h
  | a :: x, b :: y, c :: z, h1, h2 => by
    rw [HT.lexLt_cons] at h1 h2 ⊢
    by_cases e1 : b = a
    · subst e1
      rw [if_pos rfl] at h1
      by_cases e2 : c = b
      · subst e2; rw [if_pos rfl] at h2 ⊢; exact lexLt_tr x y z h1 h2
      · rw [if_neg e2] at h2 ⊢; exact h2
    · rw [if_neg e1] at h1
      have g1 := of_decide_eq_false h1
      by_cases e2 : c = b
      · subst e2; rw [if_neg e1]; exact h1
      · rw [if_neg e2] at h2
        have g2 := of_decide_eq_false h2
        rw [if_neg (by omega)]
        exact decide_eq_false (by omega)
theorem swo_ltQ {α : Type} (k : α → Int × List Int) : Swo fun v u => ltQ (k v) (k u) := by
  refine ⟨fun x y h => ?_, fun x y z h1 h2 => ?_⟩
  · generalize k x = p at h ⊢
    generalize k y = q at h ⊢
    unfold ltQ at h ⊢
    by_cases e : p.1 = q.1
    · rw [if_pos e] at h; rw [if_pos e.symm]; exact lexLt_asym _ _ h
    · rw [if_neg e] at h; rw [if_neg (Ne.symm e)]
      have := of_decide_eq_true h
      exact decide_eq_false (by omega)
  · generalize k x = p at h1 h2 ⊢
    generalize k y = q at h1 h2 ⊢
    generalize k z = r at h1 h2 ⊢
    unfold ltQ at h1 h2 ⊢
    by_cases e1 : q.1 = p.1
    · rw [if_pos e1] at h1
      by_cases e2 : r.1 = q.1
      · rw [if_pos e2] at h2; rw [if_pos (e2.trans e1)]; exact lexLt_tr _ _ _ h1 h2
      · rw [if_neg e2] at h2; rw [if_neg (by omega)]
        have := of_decide_eq_false h2
        exact decide_eq_false (by omega)
    · rw [if_neg e1] at h1
      have g1 := of_decide_eq_false h1
      by_cases e2 : r.1 = q.1
      · rw [if_neg (by omega)]; exact decide_eq_false (by omega)
      · rw [if_neg e2] at h2
        have g2 := of_decide_eq_false h2
        rw [if_neg (by omega)]; exact decide_eq_false (by omega)
/-- v is a pair of this number and a tuple of these numbers -/
def IsQ (h : Heap) (v : Value) (x : Int) (ns : List Int) : Prop := ∃ a o t u n its, v = .ref a ∧ h.get? a = some o ∧ o.cls = .type "tuple" ∧ o.data = .seq #[.int x t, .ref u] n ∧ IsTup h u its ∧ IntsAre its.toList ns
theorem IsQ.keeps {h h' : Heap} {v : Value} {x : Int} {ns : List Int} (p : IsQ h v x ns) (k : ∀ b o, h.get? b = some o → o.cls = .type "tuple" → h'.get? b = some o) : IsQ h' v x ns := by
  obtain ⟨a, o, t, u, n, its, e, ho, hc, hd, ⟨o2, g1, g2, g3⟩, hi⟩ := p
  exact ⟨a, o, t, u, n, its, e, k _ _ ho hc, hc, hd, ⟨o2, k _ _ g1 g2, g2, g3⟩, hi⟩
theorem firsts_Q {h : Heap} : ∀ {vs : List Value}, (∀ v ∈ vs, ∃ x ns, IsQ h v x ns) → ∃ fs : List Value, PySem.W.KatTups h vs fs ∧ fs.length = vs.length ∧ ∀ f ∈ fs, ∃ x t, f = Value.int x t
  | [], _ => ⟨[], PySem.W.KatTups.nil, rfl, fun f hf => by simp at hf⟩
  | v :: vs, p => by
    obtain ⟨fs, k, hl, hi⟩ := firsts_Q fun u hu => p u (List.mem_cons_of_mem _ hu)
    obtain ⟨x, ns, a, o, t, u, n, its, rfl, ho, hc, hd, _⟩ := p v (List.mem_cons_self ..)
    refine ⟨Value.int x t :: fs, PySem.W.KatTups.cons ho hc hd rfl k, by simp [hl], fun f hf => ?_⟩
    rcases List.mem_cons.mp hf with rfl | hf
    · exact ⟨x, t, rfl⟩
    · exact hi f hf
section
variable {A : Around} {s : Shared}
theorem ints_get : ∀ {vs : List Value} {ns : List Int}, IntsAre vs ns → ∀ (j : Nat) (h : j < vs.length), ∃ t, vs[j] = .int (ns.getD j 0) t
  | _, _, .nil, j, h => absurd h (Nat.not_lt_zero _)
  | _, _, .cons a t r, 0, h => ⟨t, rfl⟩
  | _, _, .cons a t r, j + 1, h => by
    obtain ⟨t', e⟩ := ints_get r j (by simpa using h)
    exact ⟨t', by simpa using e⟩
theorem all_eq_iff : ∀ (ns ms : List Int), ((List.range (min ns.length ms.length)).all (fun j => ns.getD j 0 == ms.getD j 0) && ns.length == ms.length) = decide (ns = ms)
  | ns, ms => by
    by_cases e : ns = ms
    · subst e; simp
    · rw [decide_eq_false e]
      by_cases hl : ns.length = ms.length
      · have : ¬ (List.range (min ns.length ms.length)).all (fun j => ns.getD j 0 == ms.getD j 0) = true := fun h => e (List.ext_getElem hl fun i h1 h2 => by
          have := List.all_eq_true.mp h i (List.mem_range.mpr (by omega))
          have := beq_iff_eq.mp this
          rw [List.getD_eq_getElem?_getD, List.getD_eq_getElem?_getD, List.getElem?_eq_getElem h1, List.getElem?_eq_getElem h2] at this
          exact this)
        simp only [Bool.not_eq_true] at this
        rw [this]; rfl
      · rw [show (ns.length == ms.length) = false from beq_eq_false_iff_ne.mpr hl, Bool.and_false]
theorem eq_tups {l b : Addr} {items items2 : Array Value} {ns ms : List Int} (hl : IsTup s.heap l items) (hb : IsTup s.heap b items2) (hi : IntsAre items.toList ns) (hj : IntsAre items2.toList ms) (hu : A.units < cLine) :
    SeqAt.EqAt A s (.ref l) (.ref b) (decide (ns = ms)) := by
  by_cases e : l = b
  · subst e
    obtain ⟨o, h1, h2, n, h3⟩ := hl
    obtain ⟨o', g1, g2, n', g3⟩ := hb
    rw [h1] at g1; cases g1
    rw [h3] at g3; cases g3
    have : ns = ms := by
      have : ∀ {vs : List Value} {ns ms : List Int}, IntsAre vs ns → IntsAre vs ms → ns = ms := by
        intro vs ns ms a
        induction a generalizing ms with
        | nil => intro b; cases b; rfl
        | cons x t r ih => intro b; cases b with | cons _ _ r' => rw [ih r']
      exact this hi hj
    rw [decide_eq_true this]
    exact SeqAt.EqAt.same _
  · refine SeqAt.EqAt.of_refs e ?_
    have h := SeqAt.RcAt.tuples (A := A) (e := fun j => ns.getD j 0 == ms.getD j 0) hl hb hu fun j h1 h2 => by
      obtain ⟨t, e1⟩ := ints_get hi j (by simpa using h1)
      obtain ⟨u, e2⟩ := ints_get hj j (by simpa using h2)
      have e1' : items[j] = .int (ns.getD j 0) t := by simpa using e1
      have e2' : items2[j] = .int (ms.getD j 0) u := by simpa using e2
      rw [e1', e2']
      exact SeqAt.EqAt.int_int _ _ _ _
    have l1 : items.size = ns.length := by rw [← Array.length_toList]; exact hi.length
    have l2 : items2.size = ms.length := by rw [← Array.length_toList]; exact hj.length
    rw [l1, l2, all_eq_iff] at h
    exact h
end
section
variable {prog : Program} {w : World} {A : Around} {s : Shared}
theorem q_cmp {vs : List Value} {k : Value → Int × List Int} (hu : A.units < cLine) (hp : ∀ v ∈ vs, IsQ s.heap v (k v).1 (k v).2) : Cmp prog w A s (tuples' true) (fun p => p.1 ∈ vs) (lt2 fun v u => ltQ (k v) (k u)) := by
  intro p q hm hm'
  have h1 := hp _ hm
  have h2 := hp _ hm'
  show wpAny (model prog w) A (keyLt' (tuples' true) p.1 q.1) (fun r s' => s' = s ∧ r = ltQ (k p.1) (k q.1)) (fun _ _ => False) s
  unfold ltQ
  generalize (k p.1).1 = x at h1 ⊢
  generalize (k p.1).2 = y at h1 ⊢
  generalize (k q.1).1 = x' at h2 ⊢
  generalize (k q.1).2 = y' at h2 ⊢
  obtain ⟨a, o, t, u, n, its, e, ho, hc, hd, ht, hi⟩ := h1
  obtain ⟨a', o', t', u', n', its', e', ho', hc', hd', ht', hi'⟩ := h2
  rw [e, e']
  refine PySem.W.kat_lt ho hd ho' hd' ?_
  show PySem.W.KatLex prog w A true (decide (2 < 2)) _ [(.int x t, .int x' t'), (.ref u, .ref u')] 0 s
  refine PySem.W.kat_cons (SeqAt.EqAt.int_int x t x' t' prog w _ _ ?_)
  refine PySem.W.kat_go (fun e1 => ?_) (fun e1 => ?_)
  · have ex : x = x' := by simpa using e1
    refine PySem.W.kat_yes (PySem.W.kat_cons (eq_tups ht ht' hi hi' hu prog w _ _ ?_))
    refine PySem.W.kat_go (fun e2 => ?_) (fun e2 => ?_)
    · have ey : y = y' := by simpa using e2
      have e3 : (if x = x' then HT.lexLt y y' else decide (x < x')) = false := by
        rw [if_pos ex, ey]
        exact lexLt_irr _
      exact PySem.W.kat_yes (PySem.W.kat_nil ⟨rfl, e3.symm⟩)
    · have e3 : (if x = x' then HT.lexLt y y' else decide (x < x')) = HT.lexLt y y' := if_pos ex
      refine PySem.W.kat_no (PySem.W.kat_one _ _ (HT.lt_tupInts ht ht' hi hi' hu ?_))
      exact (show s = s ∧ HT.lexLt y y' = (if x = x' then HT.lexLt y y' else decide (x < x')) from ⟨rfl, e3.symm⟩)
  · have ex : ¬ x = x' := by simpa using e1
    have e3 : (if x = x' then HT.lexLt y y' else decide (x < x')) = decide (x < x') := if_neg ex
    exact PySem.W.kat_no (oneLt_int ⟨rfl, e3.symm⟩)
theorem q_sortableO {a : Addr} {vs : List Value} {k : Value → Int × List Int} (hu : A.units < cLine) (h0 : 0 < vs.length) (hp : ∀ v ∈ vs, IsQ s.heap v (k v).1 (k v).2) (ha : ∀ o, s.heap.get? a = some o → o.cls ≠ .type "tuple") : SortableO prog w A s a vs fun v u => ltQ (k v) (k u) := by
  intro h' keep
  have hp' : ∀ v ∈ vs, IsQ h' v (k v).1 (k v).2 := fun v hm => (hp v hm).keeps fun b o e c => keep b o (fun z => by subst z; exact ha o e c) e
  obtain ⟨fs, h1, h2, h3⟩ := firsts_Q fun v hm => ⟨_, _, hp' v hm⟩
  refine ⟨tuples' true, fun Q E hq => ?_, q_cmp hu hp'⟩
  refine PySem.W.kat_kind (T := .type "int") h1 (by omega) (fun f hm => ?_) (by rfl) ?_
  · obtain ⟨x, t, rfl⟩ := h3 f hm
    exact PySem.W.Looks.now
  · have e : (Value.type "int" != Value.type "tuple") = true := by first | decide +kernel | rfl | decide
    rw [e]
    exact hq
theorem sorted_Q {l : Addr} {vs : List Value} {k : Value → Int × List Int} {E Q : Value → Shared → Prop} (hu : A.units + 64 < cLine) (hl : s.heap.IsList l vs.toArray) (hz : vs.length ≤ sizeLine) (hp : ∀ v ∈ vs, IsQ s.heap v (k v).1 (k v).2)
    (h : ∀ (h' : Heap) (d : Addr) (out : List Value), Srtd (fun v u => ltQ (k v) (k u)) out → Stb (fun v u => ltQ (k v) (k u)) out vs → (∀ b o, s.heap.get? b = some o → h'.get? b = some o) → s.heap.objs.size ≤ d → (∃ n, h'.get? d = some (seqObj "list" out.toArray n)) → Q (.ref d) { s with heap := h' }) :
    wpAny (model prog w) A (call (.builtin "sorted") [.ref l]) Q E s := by
  refine sorted_ord (swo_ltQ k) hl hz (fun h2 h₁ a ha kk => ?_) fun out hs hb => ?_
  · refine q_sortableO (s := { s with heap := h₁ }) (by show A.units + 1 + 1 < cLine; omega) (by omega) (fun v hm => (hp v hm).keeps fun b o e _ => (kk b o e).2) fun o e => ?_
    have e' : some o = some (seqObj "list" vs.toArray 0) := e.symm.trans ha
    cases e'
    intro c
    exact absurd (Value.type.inj c) (by decide)
  · exact h _ _ out hs hb (fun b o e => sortedAll_old e) (Nat.le_succ _) (sortedAll_at s.heap vs out.toArray)
end
end SrtQ
namespace L2
open PySem PySem.Spec PyProof.Rows
/-- sorted(xs), xs a list of pairs (int, tuple of ints) -/
def rSortedQ (K : PySem.W.Frag) : List V → Hp → VK → Prop := fun vs H Q => ∃ (a : Addr) (xs : List V) (k : V → Int × List Int), vs = [V.ref a] ∧ SqL K H a xs ∧ (∀ x ∈ xs, ∃ t u, x = V.ref t ∧ H t = some (.tup [.int (k x).1, .ref u]) ∧ H u = some (.tup ((k x).2.map V.int))) ∧
  ∀ ys p, SrtO.Srtd (fun x y => SrtQ.ltQ (k x) (k y)) ys → SrtO.Stb (fun x y => SrtQ.ltQ (k x) (k y)) ys xs → H p = none → Q (.ref p) (upd H p (.lst ys))
section
variable {X : Cx}
theorem cr_sortedQ (hu : X.A.units + 64 < cLine) : CallR X (.builtin "sorted") (rSortedQ X.K) := by
  intro pins s σ H vs us Q I r h
  obtain ⟨a, xs, k, rfl, hs, hx, q⟩ := h
  obtain ⟨its, rv, hl, hz⟩ := I.list hs
  obtain ⟨u, rfl, ru⟩ := vals1 r
  obtain rfl : u = Value.ref a := ru
  obtain ⟨e1, e2⟩ := refs_back rv fun x m => by
    obtain ⟨t, u, e, _⟩ := hx x m
    exact ⟨t, e⟩
  refine SrtQ.sorted_Q (k := fun u => k (backV u)) hu hl.isList (by rw [← rv.length]; exact hz) (fun v hv => ?_) fun h' d out h1 h2 kp hd hn => ?_
  · obtain ⟨t, rfl⟩ := e2 v hv
    have hm : V.ref t ∈ xs := by rw [e1]; exact List.mem_map.mpr ⟨_, hv, rfl⟩
    obtain ⟨t', u, e, ht, hn⟩ := hx _ hm
    cases e
    obtain ⟨_, its2, r2, o, ho, hc, n, hd⟩ := I.hok _ _ ht
    obtain ⟨u1, u2, rfl, ri, rj⟩ := vals2 r2
    obtain ⟨t1, rfl⟩ := ri
    obtain rfl : u2 = Value.ref u := rj
    obtain ⟨_, its3, r3, p3⟩ := I.hok _ _ hn
    exact ⟨t, o, t1, u, n, its3.toArray, rfl, ho, hc, hd, p3, r3.ints⟩
  · have h3 : ∀ u ∈ out, ∃ a, u = Value.ref a := fun u hu => e2 u (h2.perm.mem_iff.mp hu)
    obtain ⟨n, hn⟩ := hn
    have hb : SrtO.Stb (fun x y => SrtQ.ltQ (k x) (k y)) (out.map backV) xs := by
      rw [e1]
      exact SrtO.Stb.map (SrtQ.swo_ltQ k) backV h2
    refine ⟨.ref d, upd H d (.lst (out.map backV)), I.laid (t' := s.toks) kp hd ⟨?_, out, n, vals_back h3, hn⟩, rfl, q _ d (SrtO.srtd_map h1) hb (I.hok.fresh hd)⟩
    rw [hb.len]
    exact hz
end
end L2
namespace Gm
open PySem PySem.Spec PyProof.Rows L2
abbrev pDT (p : Int × List Int) : D := .tup [.int p.1, .tup (p.2.map D.int)]
def intsV : List V → List Int
  | .int i :: vs => i :: intsV vs
  | _ => []
def pkT (R : Hp) (x : V) : Int × List Int := match x with
  | .ref t => (match R t with
    | some (.tup [.int i, .ref u]) => (match R u with
      | some (.tup vs) => (i, intsV vs)
      | _ => (0, []))
    | _ => (0, []))
  | _ => (0, [])
theorem intsV_map : ∀ ns : List Int, intsV (ns.map V.int) = ns
  | [] => rfl
  | n :: ns => by show n :: intsV (ns.map V.int) = _; rw [intsV_map ns]
theorem densI {K : PySem.W.Frag} {R : Hp} : ∀ {vs : List V} {ns : List Int}, Dens K R vs (ns.map D.int) → vs = ns.map V.int
  | [], [], _ => rfl
  | v :: vs, n :: ns, .cons h t => by
    cases h
    rw [densI t]; rfl
  | [], _ :: _, h => nomatch h
  | _ :: _, [], h => nomatch h
theorem den_pT {K : PySem.W.Frag} {R : Hp} {x : V} {p : Int × List Int} (h : Den K R x (pDT p)) : (∃ t u, x = .ref t ∧ R t = some (.tup [.int p.1, .ref u]) ∧ R u = some (.tup (p.2.map V.int))) ∧ pkT R x = p := by
  cases h with
  | tup h1 h2 =>
    rename_i a vs
    cases h2 with
    | cons g1 g2 =>
      cases g1
      cases g2 with
      | cons g3 g4 =>
        cases g4
        cases g3 with
        | tup k1 k2 =>
          rename_i u ws
          have e := densI k2
          subst e
          refine ⟨⟨a, u, rfl, h1, k1⟩, ?_⟩
          unfold pkT
          dsimp only
          rw [h1]
          dsimp only
          rw [k1]
          dsimp only
          rw [intsV_map]
theorem dens_pTs {K : PySem.W.Frag} {R : Hp} : ∀ {xs : List V} {ps : List (Int × List Int)}, Dens K R xs (ps.map pDT) → (∀ x ∈ xs, (∃ t u, x = .ref t ∧ R t = some (.tup [.int (pkT R x).1, .ref u]) ∧ R u = some (.tup ((pkT R x).2.map V.int))) ∧ Den K R x (pDT (pkT R x))) ∧ xs.map (pkT R) = ps
  | [], [], _ => ⟨fun x hx => (List.not_mem_nil hx).elim, rfl⟩
  | x :: xs, p :: ps, .cons h t => by
    obtain ⟨t1, t2⟩ := dens_pTs t
    obtain ⟨h1, h2⟩ := den_pT h
    refine ⟨fun y hy => ?_, by rw [List.map_cons, h2, t2]⟩
    rcases List.mem_cons.mp hy with rfl | hy
    · rw [h2]; exact ⟨h1, h⟩
    · exact t1 y hy
  | [], _ :: _, h => nomatch h
  | _ :: _, [], h => nomatch h
section
variable {w : Wd} {S : List Own} {k : KE}
theorem rc_sortQ {x : Ent} {ps : List (Int × List Int)} (hx : IsLst x S (ps.map pDT)) (q : ∀ qs : List (Int × List Int), qs.Perm ps → qs.Pairwise (fun a b => SrtQ.ltQ b a = false) → k (.d (.lst (qs.map pDT))) S) : RC w (rSortedQ w.K) [x] S k := fun R H as us Q rl hu c => by
  obtain ⟨v, rfl, hv⟩ := one_ent hu
  obtain ⟨a, xs, rfl, ha, hd⟩ := isLst_at hx rl hv
  obtain ⟨h1, h2⟩ := dens_pTs hd
  refine ⟨a, xs, pkT R, rfl, SqL.of ha, fun x hx => ?_, fun ys p so st hp => ?_⟩
  · obtain ⟨⟨t, u, e1, e2, e3⟩, _⟩ := h1 x hx
    exact ⟨t, u, e1, rl.sub _ _ e2, rl.sub _ _ e3⟩
  · obtain ⟨rl2, s2⟩ := rl.alloc hp (.lst ys)
    have hperm := st.perm
    have hd2 : Dens w.K R ys (ys.map fun y => pDT (pkT R y)) := dens_of (f := fun y => pDT (pkT R y)) fun y hy => (h1 y (hperm.mem_iff.mp hy)).2
    have e : (ys.map fun y => pDT (pkT R y)) = (ys.map (pkT R)).map pDT := by rw [List.map_map]; rfl
    rw [e] at hd2
    exact c _ _ S _ _ as rl2 s2 (Pre.refl _) (ok_d (Den.lst upd_same (hd2.mono s2))) (q _ (by rw [← h2]; exact hperm.map _) (List.pairwise_map.mpr (so.imp fun {x y} hxy => hxy)))
end
section
variable {X : Cx} {e : Expr} {p pos : Pos} {te : TE}
theorem b_sortQ (hu : X.A.units + 64 < cLine) (hm : X.mg "sorted" = none) (he : PE X e te) (hg : Gl X "sorted" := by rfl) (hs : starEach [e] X.env = (false, eval e X.env) :: starEach [] X.env := by rfl) : PE X (.Call (.Name "sorted" p) [e] [] pos) (tCB (rSortedQ X.K) (tCons te tNil)) :=
  pe_callB (cr_sortedQ hu) hg hm (by decide +kernel) (pa_cons he pa_nil hs) (he := hs)
end
end Gm
namespace L2
open PySem PySem.Spec PyProof.Rows
/-- t + u: t empty gives u, u empty gives t -/
def rCatTE (K : PySem.W.Frag) : R2 := fun x y H Q => ∃ a b xs ys, x = .ref a ∧ y = .ref b ∧ SqT K H a xs ∧ SqT K H b ys ∧ xs.length + ys.length ≤ sizeLine ∧
  (xs = [] → Q (.ref b) H) ∧ (xs ≠ [] → ys = [] → Q (.ref a) H) ∧ (xs ≠ [] → ys ≠ [] → ∀ p, H p = none → Q (.ref p) (upd H p (.tup (xs ++ ys))))
section
variable {prog : Program} {w : World} {A : Around} {E : Value → Shared → Prop} {s : Shared}
theorem cat_tup0 {t b : Addr} {vs ws : List Value} {Q : Value → Shared → Prop} (ht : IsTup s.heap t vs.toArray) (hb : IsTup s.heap b ws.toArray) (hv : vs = []) (h1 : Q (.ref b) s) : wpAny (model prog w) A (binaryOp .Add (.ref t) (.ref b)) Q E s := by
  obtain ⟨⟨cls, dd, data, sl⟩, ho, hc, n, hd⟩ := id ht
  obtain ⟨⟨cls2, dd2, data2, sl2⟩, ho2, hc2, n2, hd2⟩ := id hb
  simp only at hc hd hc2 hd2
  subst hc hd hc2 hd2
  exact concat_meets ⟨_, ho, rfl⟩ ⟨_, ho2, rfl⟩ noFill_tuple_add seq_tuple_add PySem.F.slot_tuple_add PySem.F.entry_tuple_add (PySem.F.args_tuple_add_2 _ _)
      (tuple_addW0 t b vs.toArray ws.toArray n n2 dd dd2 sl sl2 (by simp [hv])) ⟨ho, ho2, h1⟩
end
section
variable {X : Cx}
theorem op_catTE : OpR X (binaryOp .Add) (rCatTE X.K) := by
  intro pins s σ H x y v u Q I rx ry h
  obtain ⟨a, b, xs, ys, rfl, rfl, ha, hb, hz, q0, q1, q2⟩ := h
  by_cases hx : xs = []
  · cases rx
    cases ry
    obtain ⟨its, r1, p1, _⟩ := I.tuple ha
    obtain ⟨its2, r2, p2, _⟩ := I.tuple hb
    exact cat_tup0 p1 p2 (r1.nil_iff.mpr hx) ⟨.ref b, H, I, rfl, q0 hx⟩
  · exact op_catT pins s σ H _ _ v u Q I rx ry ⟨a, b, xs, ys, rfl, rfl, ha, hb, hx, hz, q1 hx, q2 hx⟩
theorem op_catTEB (K : PySem.W.Frag) (hK : X.K = K := by rfl) : OpR X (binaryOp .Add) (rCatTE K) := by
  subst hK; exact op_catTE
end
end L2
namespace Gm
open PySem PySem.Spec PyProof.Rows L2
section
variable {w : Wd} {Γ : Env} {S : List Own} {k : KE}
theorem rr_catTE {xs ys : List D} (hl : xs.length + ys.length ≤ sizeLine) (q : k (.d (.tup (xs ++ ys))) S) : RR w (rCatTE w.K) (.d (.tup xs)) (.d (.tup ys)) S k := fun R H as u v Q rl hu hv c => by
  cases hu with
  | tup h1 h2 =>
    cases hv with
    | tup h3 h4 =>
      rename_i a vs b ws
      refine ⟨a, b, vs, ws, rfl, rfl, SqT.of (rl.sub _ _ h1), SqT.of (rl.sub _ _ h3), by rw [h2.len, h4.len]; exact hl, fun z => ?_, fun _ z => ?_, fun _ z p hp => ?_⟩
      · subst z; cases h2
        rw [List.nil_append] at q
        exact c _ _ S R H as rl (Sub.refl _) (Pre.refl _) (ok_d (Den.tup h3 h4)) q
      · subst z; cases h4
        rw [List.append_nil] at q
        exact c _ _ S R H as rl (Sub.refl _) (Pre.refl _) (ok_d (Den.tup h1 h2)) q
      · obtain ⟨rl2, s2⟩ := rl.alloc hp (.tup (vs ++ ws))
        exact c _ _ S _ _ as rl2 s2 (Pre.refl _) (ok_d (Den.tup upd_same ((h2.append h4).mono s2))) q
/-- [.. for g in l for g1 in range(..)]: the store stays -/
theorem le_lc2R {tl te : TE} {wi : TI} {g g1 : TG} {vs vs1 : List Nat} (h : LE w tl Γ S fun e S1 => ∃ ds, e = .d (.lst ds) ∧ ∃ I : Nat → List D → Prop, I 0 [] ∧
    (∀ i d acc, ds[i]? = some d → I i acc → ∃ up, TgOk w g vs d up ∧ LR w wi (up (wipeG Γ vs)) (S1 ++ [.lst acc]) fun lo n S2 => S2 = S1 ++ [.lst acc] ∧ ∃ J : Nat → List D → Prop, J 0 acc ∧
      (∀ q acc', q < n → J q acc' → ∃ up1, TgOk w g1 vs1 (.int (lo + q)) up1 ∧ LE w te (up1 (wipeG (up (wipeG Γ vs)) vs1)) (S1 ++ [.lst acc']) fun y S3 => S3 = S1 ++ [.lst acc'] ∧ ∃ z, y = .d z ∧ acc'.length < sizeLine ∧ J (q + 1) (acc' ++ [z])) ∧
      (∀ acc', J n acc' → I (i + 1) acc')) ∧ (∀ acc, I ds.length acc → k (.d (.lst acc)) S1)) : LE w (tLc2 (iList w.K tl) g tYes wi g1 tYes te vs vs1) Γ S k := fun σ R H as Q rl s c => by
  refine h σ R H as _ rl s fun vl el S1 R1 H1 as1 rl1 s1 p1 e1 ⟨ds, h1, I, i0, is, iE⟩ => ?_
  subst h1
  cases e1 with
  | lst ha hd =>
    rename_i a xs
    refine ⟨a, rfl, ⟨xs, SqL.of (rl1.sub _ _ ha)⟩, fun Dl hD => ?_⟩
    refine ⟨fun i m H => m = xs.length - i ∧ i ≤ xs.length ∧ LcP w R1 as1 S1.length Dl (fun acc S' => S' = S1 ∧ I i acc) H, ⟨_, rfl, Nat.zero_le _, lc_begin rl1 hD ⟨rfl, i0⟩⟩, ?_⟩
    rintro i m H2 ⟨rfl, hi, p⟩
    obtain ⟨S2, R2, as2, acc, rl2, sb, pr, ha2, hl, rfl, hi2⟩ := p
    have sq : SqL w.K H2 a xs := SqL.of (rl2.sub _ _ (sb _ _ ha))
    by_cases hx : i < xs.length
    · have hx1 : xs[i]? = some xs[i] := List.getElem?_eq_getElem hx
      refine .inr ⟨⟨xs, _, sq, hx1⟩, fun H' => LcP w R1 as1 S2.length Dl (fun acc S' => S' = S2 ∧ I (i + 1) acc) H', fun H' hp => ⟨xs.length - (i + 1), by omega, rfl, hx, hp⟩, ?_⟩
      rintro x _ ⟨rfl, hy⟩
      have hxx := hy xs sq
      obtain ⟨d, hd1, hd2⟩ := hd.get2 hxx
      obtain ⟨up, hu, hg⟩ := is i d acc hd1 hi2
      refine hu σ Γ R2 _ as2 _ x _ rl2 ((s.mono s1 p1).mono sb pr) (hd2.mono sb) fun σ2 st2 hw => ⟨hw, ?_⟩
      unfold tYes
      dsimp only
      rw [if_pos rfl]
      refine hg σ2 R2 _ as2 _ rl2 st2 fun lo n S3 R3 H3 as3 rl3 s3 p3 ⟨q1, J, j0, js, jE⟩ => ?_
      subst q1
      have hD3 := p3 _ _ ha2
      refine ⟨fun q m H => m = n - q ∧ q ≤ n ∧ LcP w R3 as3 S2.length Dl (fun acc' S' => S' = S2 ∧ J q acc') H, ⟨_, rfl, Nat.zero_le _, S2, R3, as3, acc, rl3, Sub.refl _, Pre.refl _, hD3, rfl, rfl, j0⟩, ?_⟩
      rintro q m H4 ⟨rfl, hq, p⟩
      obtain ⟨S4, R4, as4, acc', rl4, sb4, pr4, ha4, hl4, rfl, hj⟩ := p
      by_cases hy2 : q < n
      · refine .inr ⟨hy2, fun H' => LcP w R3 as3 S4.length Dl (fun acc' S' => S' = S4 ∧ J (q + 1) acc') H', fun H' hp => ⟨n - (q + 1), by omega, rfl, hy2, hp⟩, ?_⟩
        intro x' H' hy'
        obtain ⟨eH, eX⟩ := hy'
        subst eH eX
        obtain ⟨up1, hu1, hg1⟩ := js q acc' hy2 hj
        refine hu1 σ2 _ R4 _ as4 _ _ _ rl4 ((st2.mono s3 p3).mono sb4 pr4) (Den.int _) fun σ3 st3 hw3 => ⟨hw3, ?_⟩
        try unfold tYes
        dsimp only
        rw [if_pos rfl]
        refine hg1 σ3 R4 _ as4 _ rl4 st3 fun y ey S5 R5 H5 as5 rl5 s5 p5 e5 ⟨q5, z, q6, hz, hn⟩ => ?_
        subst q5
        subst q6
        have hi5 : (S4 ++ [Own.lst acc'])[S4.length]? = some (.lst acc') := List.getElem?_concat_length
        have ha5 : as5[S4.length]? = some Dl := p5 _ _ ha4
        obtain ⟨⟨zz, vs5, c1, c2⟩, _⟩ := rl5.reg _ _ _ hi5 ha5 (by intro z; cases z)
        refine ⟨vs5, c1, by rw [c2.len]; exact hz, S4, R5, as5, acc' ++ [z], ?_, sb4.trans s5, pr4.trans p5, ha5, rfl, rfl, hn⟩
        have rl6 := rl5.write (o' := .lst (acc' ++ [z])) (u := .lst (vs5 ++ [y])) hi5 ha5 (by intro z; cases z) (by intro z; cases z) ⟨zz, _, upd_same, c2.append (.cons e5 .nil)⟩
        have es : (S4 ++ [Own.lst acc']).set S4.length (.lst (acc' ++ [z])) = S4 ++ [.lst (acc' ++ [z])] := by
          rw [List.set_append_right _ _ (Nat.le_refl _), Nat.sub_self]; rfl
        rw [es] at rl6
        exact rl6
      · have e : q = n := by omega
        subst e
        refine .inl ⟨Nat.le_refl _, ?_⟩
        exact ⟨S4, R4, as4, acc', rl4, (sb.trans s3).trans sb4, (pr.trans p3).trans pr4, ha4, rfl, rfl, jE acc' hj⟩
    · have e : i = xs.length := by omega
      subst e
      refine .inl ⟨⟨xs, sq, Nat.le_refl _⟩, ?_⟩
      rw [hd.len] at hi2
      obtain ⟨acc', S', R', as', q1, q2, q3, q4, q5, q6⟩ := lc_end rl1.len rl1.as0_le (I := fun acc S' => S' = S2 ∧ I ds.length acc) ⟨S2, R2, as2, acc, rl2, sb, pr, ha2, rfl, rfl, hi2⟩
      subst q5
      exact c _ _ S' R' _ as' q1 (s1.trans q2) (p1.trans q3) (ok_d q4) (iE acc' q6)
end
end Gm
namespace Gm
open PySem PySem.Spec PyProof.Rows L2
section
variable {X : Cx}
theorem g_int {x : Str} {i : Int} {t : Tok} {pos : Pos} (hm : X.mg x = some (.int i t)) (hg : Gl X x := by rfl) (hd : (x == ("__debug__" : Str)) = false := by decide) : PE X (.Name x pos) (tC (.int i)) := pe_glob hg hm ⟨t, rfl⟩ hd
theorem b_sumB (K : PySem.W.Frag) {e : Expr} {te : TE} {p pos : Pos} (hm : X.mg "sum" = none) (he : PE X e te) (hK : X.K = K := by rfl) (hc : X.calm = true := by rfl) (hg : Gl X "sum" := by rfl) (hs : starEach [e] X.env = (false, eval e X.env) :: starEach [] X.env := by rfl) : PE X (.Call (.Name "sum" p) [e] [] pos) (tCB (rSum K) (tCons te tNil)) := by
  subst hK
  exact pe_callB (cr_sum hc) hg hm (by decide +kernel) (pa_cons he pa_nil hs) (he := hs)
theorem pi_tupB (K : PySem.W.Frag) {tg l : Expr} {tl : TE} (hl : PE X l tl) (hK : X.K = K := by rfl) : PI X tg l (iTup K tl) := by
  subst hK; exact pi_tup hl
end
theorem rc_sumI {w : Wd} {S : List Own} {k : KE} {x : Ent} {s : List Int} (hx : IsLst x S (s.map D.int)) (q : k (.d (.int s.sum)) S) : RC w (rSum w.K) [x] S k := fun R H as us Q rl hu c => by
  obtain ⟨v, rfl, hv⟩ := one_ent hu
  obtain ⟨a, rfl, h⟩ := lst_ints (K := w.K) hx rl hv
  exact ⟨a, s, rfl, h, c _ _ S R H as rl (Sub.refl _) (Pre.refl _) (ok_d (Den.int _)) q⟩
end Gm
namespace Gm
open PySem PySem.Spec PyProof.Rows L2
/-- repr of None, too -/
def gReprN (K : PySem.W.Frag) : List V → Hp → VK → Prop := fun xs H Q => (xs = [.non] ∧ Q (.str "None") H) ∨ gRepr K xs H Q
theorem c_reprN {X : Cx} (hg : X.A.guards = some []) (hu : X.A.units + 64 < cLine) : CallR X (.builtin "repr") (gReprN X.K) := by
  intro pins s σ H xs us Q I r h
  rcases h with ⟨rfl, q⟩ | h
  · obtain ⟨u, rfl, ru⟩ := r.one
    cases ru
    exact PySem.P.repr_of_none ⟨.str "None", H, I.tok _, ⟨_, rfl⟩, q⟩
  · exact c_repr hg hu pins s σ H xs us Q I r h
theorem b_reprN {X : Cx} {e : Expr} {te : TE} {p pos : Pos} (hgu : X.A.guards = some []) (hu : X.A.units + 64 < cLine) (hm : X.mg "repr" = none) (h1 : PE X e te) (hK : X.calm = true := by rfl)
    (hg : Gl X "repr" := by rfl) (hs : starEach [e] X.env = (false, eval e X.env) :: starEach [] X.env := by rfl) (hpl : (backTo pos (starEach [] X.env)).any (·.1) = false := by rfl) :
    PE X (.Call (.Name "repr" p) [e] [] pos) (tCB (gReprN X.K) (tCons te tNil)) :=
  pe_callB (c_reprN hgu hu) hg hm (by decide +kernel) (pa_cons h1 pa_nil hs) (he := hs) (hpl := hpl)
section
variable {w : Wd} {Γ : Env} {S : List Own} {k : KE}
theorem rc_reprNo (q : k (.d (.str "None")) S) : RC w (gReprN w.K) [.d .non] S k := fun R H as us Q rl hu c => by
  obtain ⟨v, rfl, hv⟩ := one_ent hu
  have hv' : Den w.K R v .non := hv
  cases hv'
  exact .inl ⟨rfl, c _ _ S R H as rl (Sub.refl _) (Pre.refl _) (ok_d (Den.str _)) q⟩
theorem rc_reprNd {x : Ent} (h : RC w (gRepr w.K) [x] S k) : RC w (gReprN w.K) [x] S k := fun R H as us Q rl hu c => .inr (h R H as us Q rl hu c)
end
end Gm
namespace Gm
open PySem PySem.Spec PyProof.Rows L2
theorem blkOk_any {N : List Str} {sc scope : Scope} {own : List (Str × Nat)} (h : blkC N scope scope own = true) (hf : (scope.names.all fun y => match y.2 with | .free => false | _ => true) = true) : BlkOk N sc scope own := by
  obtain ⟨h1, h2, h3, h4, h5⟩ := blkOk_by h
  refine ⟨h1, h2, h3, fun y hy e => ?_, h5⟩
  have := List.all_eq_true.mp hf y hy
  rw [e] at this; cases this
end Gm
set_option maxHeartbeats 8000000
set_option exponentiation.threshold 10000
namespace My
open PySem L2 Gm
def topS (i : Nat) : Stmt := PySem.Challenge.pw_fitsizes_k34_least_fixes.main.body.getD i (.Pass ⟨0, 0, 0, 0⟩)
abbrev scheck_line : Stmt := topS 9
abbrev Ncheck_line : List Str := ["starts", "rise", "number"]
theorem sccheck_line : FnScope Ncheck_line ["starts", "rise"] (defScope scheck_line) := ⟨rfl, rfl, rfl, by decide +kernel, rfl, by decide +kernel, by decide +kernel⟩
abbrev sis_period : Stmt := topS 10
abbrev Nis_period : List Str := ["starts", "rise", "period", "many", "part", "number"]
theorem scis_period : FnScope Nis_period ["starts", "rise", "period"] (defScope sis_period) := ⟨rfl, rfl, rfl, by decide +kernel, rfl, by decide +kernel, by decide +kernel⟩
abbrev sleast_period : Stmt := topS 11
abbrev Nleast_period : List Str := ["starts", "rise", "many", "period"]
theorem scleast_period : FnScope Nleast_period ["starts", "rise"] (defScope sleast_period) := ⟨rfl, rfl, rfl, by decide +kernel, rfl, by decide +kernel, by decide +kernel⟩
abbrev sfirst_at_least : Stmt := topS 12
abbrev Nfirst_at_least : List Str := ["starts", "value", "low", "high", "middle"]
theorem scfirst_at_least : FnScope Nfirst_at_least ["starts", "value"] (defScope sfirst_at_least) := ⟨rfl, rfl, rfl, by decide +kernel, rfl, by decide +kernel, by decide +kernel⟩
abbrev slead_at : Stmt := topS 13
abbrev Nlead_at : List Str := ["first", "second", "place"]
theorem sclead_at : FnScope Nlead_at ["first", "second", "place"] (defScope slead_at) := ⟨rfl, rfl, rfl, by decide +kernel, rfl, by decide +kernel, by decide +kernel⟩
abbrev scells_made : Stmt := topS 16
abbrev Ncells_made : List Str := ["step", "cells", "length", "stride", "pad"]
theorem sccells_made : FnScope Ncells_made ["step", "cells"] (defScope scells_made) := ⟨rfl, rfl, rfl, by decide +kernel, rfl, by decide +kernel, by decide +kernel⟩
abbrev sstep_line : Stmt := topS 17
abbrev Nstep_line : List Str := ["step", "period", "starts", "cells"]
theorem scstep_line : FnScope Nstep_line ["step"] (defScope sstep_line) := ⟨rfl, rfl, rfl, by decide +kernel, rfl, by decide +kernel, by decide +kernel⟩
abbrev srow_lines : Stmt := topS 18
abbrev Nrow_lines : List Str := ["pipeline", "lines", "step"]
theorem scrow_lines : FnScope Nrow_lines ["pipeline"] (defScope srow_lines) := ⟨rfl, rfl, rfl, by decide +kernel, rfl, by decide +kernel, by decide +kernel⟩
abbrev sjoined_lines : Stmt := topS 20
abbrev Njoined_lines : List Str := ["pipeline", "lines", "step"]
theorem scjoined_lines : FnScope Njoined_lines ["pipeline", "lines"] (defScope sjoined_lines) := ⟨rfl, rfl, rfl, by decide +kernel, rfl, by decide +kernel, by decide +kernel⟩
abbrev srise_alike : Stmt := topS 21
abbrev Nrise_alike : List Str := ["first", "second"]
theorem scrise_alike : FnScope Nrise_alike ["first", "second"] (defScope srise_alike) := ⟨rfl, rfl, rfl, by decide +kernel, rfl, by decide +kernel, by decide +kernel⟩
abbrev sall_meetings : Stmt := topS 22
abbrev Nall_meetings : List Str := ["first", "second", "low", "span", "gain", "found", "place", "lead"]
theorem scall_meetings : FnScope Nall_meetings ["first", "second", "low"] (defScope sall_meetings) := ⟨rfl, rfl, rfl, by decide +kernel, rfl, by decide +kernel, by decide +kernel⟩
abbrev sare_equal_at : Stmt := topS 23
abbrev Nare_equal_at : List Str := ["pairs", "place", "first", "second"]
theorem scare_equal_at : FnScope Nare_equal_at ["pairs", "place"] (defScope sare_equal_at) := ⟨rfl, rfl, rfl, by decide +kernel, rfl, by decide +kernel, by decide +kernel⟩
abbrev sremainders : Stmt := topS 24
abbrev Nremainders : List Str := ["sizes", "period", "size"]
theorem scremainders : FnScope Nremainders ["sizes", "period"] (defScope sremainders) := ⟨rfl, rfl, rfl, by decide +kernel, rfl, by decide +kernel, by decide +kernel⟩
abbrev sshortest_period : Stmt := topS 25
abbrev Nshortest_period : List Str := ["sizes", "span", "period"]
theorem scshortest_period : FnScope Nshortest_period ["sizes", "span"] (defScope sshortest_period) := ⟨rfl, rfl, rfl, by decide +kernel, rfl, by decide +kernel, by decide +kernel⟩
abbrev sform_of_classes : Stmt := topS 26
abbrev Nform_of_classes : List Str := ["pairs", "low", "span", "first", "second", "sizes", "size", "period"]
theorem scform_of_classes : FnScope Nform_of_classes ["pairs", "low"] (defScope sform_of_classes) := ⟨rfl, rfl, rfl, by decide +kernel, rfl, by decide +kernel, by decide +kernel⟩
abbrev sform_where : Stmt := topS 27
abbrev Nform_where : List Str := ["lines", "pairs", "low", "line", "first", "second", "place"]
theorem scform_where : FnScope Nform_where ["lines", "pairs", "low"] (defScope sform_where) := ⟨rfl, rfl, rfl, by decide +kernel, rfl, by decide +kernel, by decide +kernel⟩
abbrev sfitting_sizes : Stmt := topS 28
abbrev Nfitting_sizes : List Str := ["pipeline", "lines"]
theorem scfitting_sizes : FnScope Nfitting_sizes ["pipeline"] (defScope sfitting_sizes) := ⟨rfl, rfl, rfl, by decide +kernel, rfl, by decide +kernel, by decide +kernel⟩
abbrev snamed_rows : Stmt := topS 31
abbrev Nnamed_rows : List Str := ["step"]
theorem scnamed_rows : FnScope Nnamed_rows ["step"] (defScope snamed_rows) := ⟨rfl, rfl, rfl, by decide +kernel, rfl, by decide +kernel, by decide +kernel⟩
abbrev shas_right_numbers : Stmt := topS 32
abbrev Nhas_right_numbers : List Str := ["step", "numbers", "length", "stride", "pad"]
theorem schas_right_numbers : FnScope Nhas_right_numbers ["step"] (defScope shas_right_numbers) := ⟨rfl, rfl, rfl, by decide +kernel, rfl, by decide +kernel, by decide +kernel⟩
abbrev sis_step : Stmt := topS 33
abbrev Nis_step : List Str := ["step"]
theorem scis_step : FnScope Nis_step ["step"] (defScope sis_step) := ⟨rfl, rfl, rfl, by decide +kernel, rfl, by decide +kernel, by decide +kernel⟩
abbrev sis_right : Stmt := topS 34
abbrev Nis_right : List Str := ["step", "number"]
theorem scis_right : FnScope Nis_right ["step", "number"] (defScope sis_right) := ⟨rfl, rfl, rfl, by decide +kernel, rfl, by decide +kernel, by decide +kernel⟩
abbrev shas_word : Stmt := topS 38
abbrev Nhas_word : List Str := ["steps", "place", "words"]
theorem schas_word : FnScope Nhas_word ["steps", "place", "words"] (defScope shas_word) := ⟨rfl, rfl, rfl, by decide +kernel, rfl, by decide +kernel, by decide +kernel⟩
abbrev scheck_places : Stmt := topS 39
abbrev Ncheck_places : List Str := ["pipeline", "places", "steps", "place"]
theorem sccheck_places : FnScope Ncheck_places ["pipeline", "places"] (defScope scheck_places) := ⟨rfl, rfl, rfl, by decide +kernel, rfl, by decide +kernel, by decide +kernel⟩
abbrev schanged : Stmt := topS 40
abbrev Nchanged : List Str := ["steps", "places", "changes", "made", "place", "change", "word", "row", "left", "right"]
theorem scchanged : FnScope Nchanged ["steps", "places", "changes"] (defScope schanged) := ⟨rfl, rfl, rfl, by decide +kernel, rfl, by decide +kernel, by decide +kernel⟩
abbrev swith_changes : Stmt := topS 41
abbrev Nwith_changes : List Str := ["pipeline", "places", "changes", "steps", "place", "change"]
theorem scwith_changes : FnScope Nwith_changes ["pipeline", "places", "changes"] (defScope swith_changes) := ⟨rfl, rfl, rfl, by decide +kernel, rfl, by decide +kernel, by decide +kernel⟩
abbrev spossible_changes : Stmt := topS 42
abbrev Npossible_changes : List Str := ["steps", "places", "found", "place", "low", "told", "change", "ordered", "_"]
theorem scpossible_changes : FnScope Npossible_changes ["steps", "places"] (defScope spossible_changes) := ⟨rfl, rfl, rfl, by decide +kernel, rfl, by decide +kernel, by decide +kernel⟩
abbrev sleast_fix : Stmt := topS 43
abbrev Nleast_fix : List Str := ["pipeline", "places", "steps", "changes", "form"]
theorem scleast_fix : FnScope Nleast_fix ["pipeline", "places"] (defScope sleast_fix) := ⟨rfl, rfl, rfl, by decide +kernel, rfl, by decide +kernel, by decide +kernel⟩
abbrev s_law_rng : Stmt := topS 45
abbrev N_law_rng : List Str := ["script", "digits", "seed", "number", "far"]
theorem sc_law_rng : FnScope N_law_rng ["script"] (defScope s_law_rng) := ⟨rfl, rfl, rfl, by decide +kernel, rfl, by decide +kernel, by decide +kernel⟩
abbrev s_law_draw : Stmt := topS 46
abbrev N_law_draw : List Str := ["rng", "limit", "digit", "blend"]
theorem sc_law_draw : FnScope N_law_draw ["rng", "limit"] (defScope s_law_draw) := ⟨rfl, rfl, rfl, by decide +kernel, rfl, by decide +kernel, by decide +kernel⟩
abbrev s_law_window : Stmt := topS 47
abbrev N_law_window : List Str := ["rng", "row", "whole", "length", "stride"]
theorem sc_law_window : FnScope N_law_window ["rng", "row", "whole"] (defScope s_law_window) := ⟨rfl, rfl, rfl, by decide +kernel, rfl, by decide +kernel, by decide +kernel⟩
abbrev s_law_level : Stmt := topS 48
abbrev N_law_level : List Str := ["rng", "row", "many", "whole", "count", "front", "back"]
theorem sc_law_level : FnScope N_law_level ["rng", "row", "many", "whole"] (defScope s_law_level) := ⟨rfl, rfl, rfl, by decide +kernel, rfl, by decide +kernel, by decide +kernel⟩
abbrev s_law_steps : Stmt := topS 49
abbrev N_law_steps : List Str := ["rng", "most", "some", "whole", "turn", "many", "row", "way", "wide", "times", "other"]
theorem sc_law_steps : FnScope N_law_steps ["rng", "most"] (defScope s_law_steps) := ⟨rfl, rfl, rfl, by decide +kernel, rfl, by decide +kernel, by decide +kernel⟩
abbrev s_law_places : Stmt := topS 50
abbrev N_law_places : List Str := ["some", "spot", "step"]
theorem sc_law_places : FnScope N_law_places ["some"] (defScope s_law_places) := ⟨rfl, rfl, rfl, by decide +kernel, rfl, by decide +kernel, by decide +kernel⟩
abbrev s_law_changed : Stmt := topS 51
abbrev N_law_changed : List Str := ["some", "spots", "changes", "found", "spot", "change", "step"]
theorem sc_law_changed : FnScope N_law_changed ["some", "spots", "changes"] (defScope s_law_changed) := ⟨rfl, rfl, rfl, by decide +kernel, rfl, by decide +kernel, by decide +kernel⟩
abbrev s_law_drawn_places : Stmt := topS 52
abbrev N_law_drawn_places : List Str := ["rng", "some", "able", "one", "two"]
theorem sc_law_drawn_places : FnScope N_law_drawn_places ["rng", "some"] (defScope s_law_drawn_places) := ⟨rfl, rfl, rfl, by decide +kernel, rfl, by decide +kernel, by decide +kernel⟩
abbrev s_law_apart : Stmt := topS 53
abbrev N_law_apart : List Str := ["rng", "one", "two", "some"]
theorem sc_law_apart : FnScope N_law_apart ["rng"] (defScope s_law_apart) := ⟨rfl, rfl, rfl, by decide +kernel, rfl, by decide +kernel, by decide +kernel⟩
abbrev s_law_due : Stmt := topS 54
abbrev N_law_due : List Str := ["some", "made", "spots", "ways", "spot", "longer", "way", "change", "rated", "size", "form"]
theorem sc_law_due : FnScope N_law_due ["some", "made", "spots"] (defScope s_law_due) := ⟨rfl, rfl, rfl, by decide +kernel, rfl, by decide +kernel, by decide +kernel⟩
abbrev slaw : Stmt := topS 55
abbrev Nlaw : List Str := ["script", "rng", "lap", "some", "step", "made", "turn", "spots", "before", "due", "told", "even", "crops"]
theorem sclaw : FnScope Nlaw ["script"] (defScope slaw) := ⟨rfl, rfl, rfl, by decide +kernel, rfl, by decide +kernel, by decide +kernel⟩
abbrev sLineinit : Stmt := inClass (topS 14) 0
abbrev NLineinit : List Str := ["self", "starts", "rise", "period"]
theorem scLineinit : FnScope NLineinit ["self", "starts", "rise"] (defScope sLineinit) := ⟨rfl, rfl, rfl, by decide +kernel, rfl, by decide +kernel, by decide +kernel⟩
abbrev sLinestarts : Stmt := inClass (topS 14) 1
abbrev NLinestarts : List Str := ["self"]
theorem scLinestarts : FnScope NLinestarts ["self"] (defScope sLinestarts) := ⟨rfl, rfl, rfl, by decide +kernel, rfl, by decide +kernel, by decide +kernel⟩
abbrev sLinerise : Stmt := inClass (topS 14) 2
abbrev NLinerise : List Str := ["self"]
theorem scLinerise : FnScope NLinerise ["self"] (defScope sLinerise) := ⟨rfl, rfl, rfl, by decide +kernel, rfl, by decide +kernel, by decide +kernel⟩
abbrev sLinelen : Stmt := inClass (topS 14) 3
abbrev NLinelen : List Str := ["self"]
theorem scLinelen : FnScope NLinelen ["self"] (defScope sLinelen) := ⟨rfl, rfl, rfl, by decide +kernel, rfl, by decide +kernel, by decide +kernel⟩
abbrev sLineeq : Stmt := inClass (topS 14) 4
abbrev NLineeq : List Str := ["self", "other"]
theorem scLineeq : FnScope NLineeq ["self", "other"] (defScope sLineeq) := ⟨rfl, rfl, rfl, by decide +kernel, rfl, by decide +kernel, by decide +kernel⟩
abbrev sLineat : Stmt := inClass (topS 14) 6
abbrev NLineat : List Str := ["self", "n", "many"]
theorem scLineat : FnScope NLineat ["self", "n"] (defScope sLineat) := ⟨rfl, rfl, rfl, by decide +kernel, rfl, by decide +kernel, by decide +kernel⟩
abbrev sLineafter : Stmt := inClass (topS 14) 7
abbrev NLineafter : List Str := ["self", "inner", "turns", "many", "starts", "place"]
theorem scLineafter : FnScope NLineafter ["self", "inner"] (defScope sLineafter) := ⟨rfl, rfl, rfl, by decide +kernel, rfl, by decide +kernel, by decide +kernel⟩
abbrev sLineleast_at : Stmt := inClass (topS 14) 8
abbrev NLineleast_at : List Str := ["self", "value", "turn", "number"]
theorem scLineleast_at : FnScope NLineleast_at ["self", "value"] (defScope sLineleast_at) := ⟨rfl, rfl, rfl, by decide +kernel, rfl, by decide +kernel, by decide +kernel⟩
abbrev sPipelineinit : Stmt := inClass (topS 35) 0
abbrev NPipelineinit : List Str := ["self", "steps", "number", "step"]
theorem scPipelineinit : FnScope NPipelineinit ["self", "steps"] (defScope sPipelineinit) := ⟨rfl, rfl, rfl, by decide +kernel, rfl, by decide +kernel, by decide +kernel⟩
abbrev sPipelinesteps : Stmt := inClass (topS 35) 1
abbrev NPipelinesteps : List Str := ["self"]
theorem scPipelinesteps : FnScope NPipelinesteps ["self"] (defScope sPipelinesteps) := ⟨rfl, rfl, rfl, by decide +kernel, rfl, by decide +kernel, by decide +kernel⟩
abbrev sPipelinelen : Stmt := inClass (topS 35) 2
abbrev NPipelinelen : List Str := ["self"]
theorem scPipelinelen : FnScope NPipelinelen ["self"] (defScope sPipelinelen) := ⟨rfl, rfl, rfl, by decide +kernel, rfl, by decide +kernel, by decide +kernel⟩
abbrev sPipelineeq : Stmt := inClass (topS 35) 3
abbrev NPipelineeq : List Str := ["self", "other"]
theorem scPipelineeq : FnScope NPipelineeq ["self", "other"] (defScope sPipelineeq) := ⟨rfl, rfl, rfl, by decide +kernel, rfl, by decide +kernel, by decide +kernel⟩
/-- names that are still the built-ins -/
structure Blt (mg : Str → Option Value) : Prop where
  sorted : mg "sorted" = none
  reversed : mg "reversed" = none
  set : mg "set" = none
  lcm : mg "lcm" = some (.builtin "math.lcm")
  gcd : mg "gcd" = some (.builtin "math.gcd")
  len : mg "len" = none
  int : mg "int" = none
  range : mg "range" = none
  abs : mg "abs" = none
  max : mg "max" = none
  min : mg "min" = none
  list : mg "list" = none
  isinstance : mg "isinstance" = none
  tuple : mg "tuple" = none
  enumerate : mg "enumerate" = none
  ValueError : mg "ValueError" = none
abbrev lz (s : List Int) : D := .lst (s.map D.int)
theorem ixI {s : List Int} {i : Int} (h0 : 0 ≤ i) (h : i < s.length) : atI (s.map D.int) i = some (.int (s.getD i.toNat 0)) := by
  unfold atI ixN
  rw [List.length_map, if_pos h0, if_pos h]
  show (s.map D.int)[i.toNat]? = _
  rw [List.getElem?_map, List.getD_eq_getElem?_getD, List.getElem?_eq_getElem (show i.toNat < s.length by omega)]
  rfl
theorem ixL {s : List Int} (h : 0 < s.length) : atI (s.map D.int) (-1) = some (.int (s.getD (s.length - 1) 0)) := by
  unfold atI ixN
  rw [List.length_map, if_neg (by decide), if_pos (show -(s.length : Int) ≤ -1 by omega)]
  show (s.map D.int)[(-1 + (s.length : Int)).toNat]? = _
  have e : (-1 + (s.length : Int)).toNat = s.length - 1 := by omega
  rw [e, List.getElem?_map, List.getD_eq_getElem?_getD, List.getElem?_eq_getElem (show s.length - 1 < s.length by omega)]
  rfl
theorem len_lz (s : List Int) : lenOf (lz s) = some s.length := by show some (s.map D.int).length = _; rw [List.length_map]
theorem neI {a b : Int} (h : (!decide (V.int a = V.int b)) = true) : a ≠ b := fun e => by subst e; simp at h
theorem eqI {a b : Int} (h : (!decide (V.int a = V.int b)) = false) : a = b := by simp at h; exact h
theorem eqI' {a b : Int} (h : decide (V.int a = V.int b) = true) : a = b := by simp at h; exact h
theorem neI' {a b : Int} (h : decide (V.int a = V.int b) = false) : a ≠ b := by simp at h; exact h

local macro_rules | `(tactic| walk_at "go") => `(tactic| (first
  | ((with_reducible refine le_var (e := ?e) ?h ?_); (case h => rfl))
  | with_reducible refine le_int ?_
  | with_reducible refine le_op ?_
  | with_reducible refine rr_int0 ?_
  | with_reducible refine rr_bl0 ?_
  | with_reducible refine le_cb ?_
  | with_reducible refine la_cons ?_
  | with_reducible refine la_nil ?_
  | with_reducible refine rc_int ?_
  | with_reducible refine ls_seq ?_
  | with_reducible refine ls_set ?_
  | with_reducible refine ls_ret ?_
  | with_reducible refine ls_next ?_
  | with_reducible refine ls_drop ?_
  | with_reducible refine ls_fld ?_
  | with_reducible refine le_methK ?_
  | with_reducible refine le_callK ?_
  | with_reducible refine ls_if ?_
  | with_reducible refine lt_test ?_
  | ((with_reducible refine rr_ixO (ds := ?ds) (d := ?d) ?h1 ?h2 ?_); (case h1 => rfl); (case h2 => rfl))
  | ((with_reducible refine rr_ixT (ds := ?ds) (d := ?d) ?h ?_); (case h => rfl))
  | with_reducible refine le_un ?_
  | with_reducible refine r1_int ?_
  | with_reducible refine ls_asg ?_
  | with_reducible refine lg_name ?_
  | with_reducible refine lg_tup2 ?_
  | with_reducible refine lg_tup3 ?_
  | with_reducible refine lg_tup4 ?_
  | with_reducible refine lg_tup5 ?_
  | with_reducible refine lg_sub ?_
  | with_reducible refine le_tup ?_
  | with_reducible refine le_lst ?_
  | with_reducible refine le_bl ?_
  | with_reducible refine le_str ?_
  | with_reducible refine le_non ?_
  | with_reducible refine le_cls ?_
  | with_reducible refine le_ty ?_
  | with_reducible refine la_perm ?_
  | with_reducible refine le_chain ?_
  | with_reducible refine le_call ?_
  | with_reducible refine le_bmL ?_
  | with_reducible refine le_bmL0 ?_
  | with_reducible refine le_if ?_
  | with_reducible refine lt_and ?_
  | with_reducible refine lt_or ?_
  | with_reducible refine lt_not ?_
  | with_reducible refine lt_tb ?_
  | with_reducible refine le_andV ?_
  | with_reducible refine le_orV ?_
  | with_reducible refine le_notV ?_
  | with_reducible refine le_fld ?_
  | with_reducible refine le_meth ?_
  | with_reducible refine le_prop ?_
  | with_reducible refine le_slL ?_
  | with_reducible refine le_slT ?_
  | with_reducible refine lo_none ?_
  | with_reducible refine lo_some ?_
  | with_reducible refine le_listRg2 ?_
  | with_reducible refine lt_yes ?_
  | with_reducible refine lcd_yes ?_
  | with_reducible refine ls_par ?_
  | with_reducible refine ls_par3 ?_
  | with_reducible refine ls_retN ?_
  | with_reducible refine ls_brk ?_
  | with_reducible refine ls_cont ?_
  | with_reducible refine rc_len (len_lz _) ?_
  | ((with_reducible refine rc_len (n := ?n) ?h ?_); (case h => rfl))
  | ((with_reducible refine rc_lenO (ds := ?ds) ?h ?_); (case h => rfl))
  | with_reducible refine rc_abs ?_
  | with_reducible refine rc_max2 ?_
  | with_reducible refine rc_min2 ?_
  | ((with_reducible refine rr_eq (u := ?u) (v := ?v) ?h1 ?h2 ?h3 ?_); (case h1 => rfl); (case h2 => rfl); (case h3 => rfl))
  | ((with_reducible refine rr_ne (u := ?u) (v := ?v) ?h1 ?h2 ?h3 ?_); (case h1 => rfl); (case h2 => rfl); (case h3 => rfl))
  | with_reducible refine rr_isN ?_
  | with_reducible refine rr_notN ?_
  | refine ⟨_, rfl, sz rfl, ?_⟩
  | refine ⟨_, rfl, ?_⟩
  ))

local macro_rules | `(tactic| walk_at "gg") => `(tactic| repeat walk_at "go")
local macro_rules | `(tactic| walk_at "envle") => `(tactic| repeat (first | exact EnvLe.nil | refine EnvLe.same rfl ?_ | refine EnvLe.none ?_))

-- scheck_line sis_period sleast_period sfirst_at_least slead_at scells_made sstep_line srow_lines sjoined_lines srise_alike sall_meetings sare_equal_at sremainders sshortest_period sform_of_classes sform_where sfitting_sizes snamed_rows shas_right_numbers sis_step sis_right shas_word scheck_places schanged swith_changes spossible_changes sleast_fix s_law_rng s_law_draw s_law_window s_law_level s_law_steps s_law_places s_law_changed s_law_drawn_places s_law_apart s_law_due slaw sPipelineinit sPipelineeq sPipelinesteps sLineinit sLinelen sLineat sLineafter sLineleast_at sLinerise

section
/-- what == asks of the classes -/
structure EqC (K : PySem.W.Frag) (C : Addr) : Prop where
  ty : InsTy K C
  own : PySem.W.kitOne K (.ref C) (.ref C) = some true
  nf : PySem.W.notFirst K C (.ref C) = true
  kn : PySem.W.kitOne K (.type "NoneType") (.ref C) = some false
  ki : PySem.W.kitOne K (.type "int") (.ref C) = some false
  ks : PySem.W.kitOne K (.type "str") (.ref C) = some false
  kl : PySem.W.kitOne K (.type "list") (.ref C) = some false
  kt : PySem.W.kitOne K (.type "tuple") (.ref C) = some false
  fn : PySem.W.notFirst K C (.type "NoneType") = true
  fi : PySem.W.notFirst K C (.type "int") = true
  fs : PySem.W.notFirst K C (.type "str") = true
  fl : PySem.W.notFirst K C (.type "list") = true
  ft : PySem.W.notFirst K C (.type "tuple") = true
end

section
variable {P : Program} {w0 : World} {K : PySem.W.Frag} {mg : Str → Option Value} {base : Heap}
abbrev GS := Str × List Int
abbrev gD (g : GS) : D := .tup (.str g.1 :: g.2.map D.int)
/-- steps of the five words -/
inductive Stp where
  | win (r l s p : Int) | rep (r t : Int) | crop (r a b : Int) | pad (r a b : Int) | join (r o : Int)
deriving DecidableEq
def Stp.g : Stp → GS
  | .win r l s p => ("window", [r, l, s, p])
  | .rep r t => ("repeat", [r, t])
  | .crop r a b => ("crop", [r, a, b])
  | .pad r a b => ("pad", [r, a, b])
  | .join r o => ("join", [r, o])
abbrev Stp.d (x : Stp) : D := gD x.g
def Stp.rows : Stp → List Int
  | .win r _ _ _ => [r] | .rep r _ => [r] | .crop r _ _ => [r] | .pad r _ _ => [r] | .join r o => [r, o]
def Stp.nums : Stp → Bool
  | .win _ l s p => decide (1 ≤ s) && decide (s ≤ l) && (decide (0 ≤ p) && decide (p < l))
  | .rep _ t => decide (1 ≤ t)
  | .crop _ a b => decide (0 ≤ a) && decide (0 ≤ b)
  | .pad _ a b => decide (0 ≤ a) && decide (0 ≤ b)
  | .join _ _ => true
def Stp.ok (n : Int) : Stp → Bool
  | .win r l s p => decide (0 ≤ r) && decide (r ≤ n) && (Stp.win r l s p).nums
  | .rep r t => decide (0 ≤ r) && decide (r ≤ n) && (Stp.rep r t).nums
  | .crop r a b => decide (0 ≤ r) && decide (r ≤ n) && (Stp.crop r a b).nums
  | .pad r a b => decide (0 ≤ r) && decide (r ≤ n) && (Stp.pad r a b).nums
  | .join r o => decide (0 ≤ r) && decide (r ≤ n) && (decide (0 ≤ o) && decide (o ≤ n)) && decide (r ≠ o)
def Stp.moved (k : Int) : Stp → Stp
  | .win r l s p => .win (r + k) l s p
  | .rep r t => .rep (r + k) t
  | .crop r a b => .crop (r + k) a b
  | .pad r a b => .pad (r + k) a b
  | .join r o => .join (r + k) (o + k)
theorem ix0 {x : D} {xs : List D} : atI (x :: xs) 0 = some x := by
  unfold atI ixN
  rw [if_pos (Int.le_refl _), if_pos (by simp only [List.length_cons]; omega)]
  rfl
theorem sNe {a b : Str} (h : a ≠ b) : decide (V.str a = V.str b) = false := decide_eq_false fun e => h (by cases e; rfl)
theorem sT {a b : Str} (e : a = b) (h : decide (V.str a = V.str b) = false) : False := by subst e; simp at h
theorem sF {a b : Str} (e : a ≠ b) (h : decide (V.str a = V.str b) = true) : False := by rw [sNe e] at h; cases h
theorem sEq {a : Str} : decide (V.str a = V.str a) = true := decide_eq_true rfl
def dsNamed : DS := ds (α := Stp) (fun a es S => es = [.d a.d] ∧ S = []) (fun a e S' => e = .d (lz a.rows) ∧ S' = [])
theorem ok_named {f : Addr} {fd : FuncData} (F : Fun K "named_rows" "named_rows" snamed_rows f fd) (T : Blt mg) : FnOk P w0 K mg base CX0 1 f fd ["step"] (spD K dsNamed) := by
  refine fn0 F scnamed_rows (fun es S p e h => by obtain ⟨a, ⟨h, _⟩, _⟩ := h; rw [h]; rfl) (fun cdv A outer s H E hr w es S p e hK hA h => ?_)
  subst hK
  obtain ⟨a, ⟨rfl, rfl⟩, hp⟩ := h
  refine ⟨_, (pss_cons (ps_if (pt_cmpR op_eq (pe_ix ix_tup (pv 0) pe_int (fun _ _ => rfl)) pe_str (nomark _))
      (pss_one (ps_ret (pe_lst (pa_cons (pe_ix ix_tup (pv 0) pe_int (fun _ _ => rfl)) (pa_cons (pe_ix ix_tup (pv 0) pe_int (fun _ _ => rfl)) pa_nil)))))
      pss_nil)
    (pss_one (ps_ret (pe_lst (pa_cons (pe_ix ix_tup (pv 0) pe_int (fun _ _ => rfl)) pa_nil))))), ?_⟩
  try dsimp only [L2.cxOf, L2.Cx.nox]
  cases a with
  | join r o =>
    dsimp only [Stp.d, Stp.g, gD, List.map] at hp ⊢
    walk_at "gg"
    refine ⟨fun _ => ?_, fun hb => absurd hb (by decide +kernel)⟩
    walk_at "gg"
    exact hp _ _ ⟨rfl, rfl⟩
  | _ =>
    dsimp only [Stp.d, Stp.g, gD, List.map] at hp ⊢
    walk_at "gg"
    refine ⟨fun hb => absurd hb (by decide +kernel), fun _ => ?_⟩
    walk_at "gg"
    exact hp _ _ ⟨rfl, rfl⟩
theorem six2 {n : Nat} {d : Nat} : HT.sIx (n + 2) d (some 2) = 2 := by
  rw [show (some (2 : Int)) = some ((2 : Nat) : Int) from rfl, HT.sIx_nat]; omega
theorem no2 {a b : D} {xs : List D} {q : Prop} : ¬(HT.sIx (a :: b :: xs).length 0 (some 2) = 0 ∧ q) := fun h => by
  have e : HT.sIx (a :: b :: xs).length 0 (some 2) = 2 := six2
  rw [e] at h; omega
theorem cut2 {a b : D} {xs : List D} : cutD (a :: b :: xs) (some 2) none = xs := by
  unfold cutD
  have e : HT.sIx (a :: b :: xs).length 0 (some 2) = 2 := six2
  rw [e, HT.sIx_none]
  show List.take (xs.length + 2 - 2) xs = xs
  rw [Nat.add_sub_cancel, List.take_length]
def dsNums : DS := ds (α := Stp) (fun a es S => es = [.d a.d] ∧ S = [] ∧ a.g.1 ≠ "join") (fun a e S' => e = .d (.bl a.nums) ∧ S' = [])
theorem ok_nums {f : Addr} {fd : FuncData} (F : Fun K "has_right_numbers" "has_right_numbers" shas_right_numbers f fd) (T : Blt mg) : FnOk P w0 K mg base CX0 1 f fd ["step"] (spD K dsNums) := by
  refine fn0 F schas_right_numbers (fun es S p e h => by obtain ⟨a, ⟨h, _⟩, _⟩ := h; rw [h]; rfl) (fun cdv A outer s H E hr w es S p e hK hA h => ?_)
  subst hK
  obtain ⟨a, ⟨rfl, rfl, hj⟩, hp⟩ := h
  refine ⟨_, (pss_cons (sset 1 (pe_slice sl_tup (pv 0) (po_some pe_int) po_none) schas_right_numbers.nd)
    (pss_cons (ps_if (pt_cmpR op_eq (pe_ix ix_tup (pv 0) pe_int (fun _ _ => rfl)) pe_str (nomark _))
      (pss_cons (ps_asg (pv 1) (pg_tup (n := 3) (by rfl) (pgs_cons (gn 2 schas_right_numbers.nd) (pgs_cons (gn 3 schas_right_numbers.nd) (pgs_cons (gn 4 schas_right_numbers.nd) pgs_nil)))))
      (pss_one (ps_ret (pe_and (pe_chain op_le op_le pe_int (pv 3) (pv 2)) (pe_one (pe_chain op_le op_lt pe_int (pv 4) (pv 2)))))))
      pss_nil)
    (pss_cons (ps_if (pt_cmpR op_eq (pe_ix ix_tup (pv 0) pe_int (fun _ _ => rfl)) pe_str (nomark _))
      (pss_one (ps_ret (pe_cmpR op_ge (pe_ix ix_tup (pv 1) pe_int (fun _ _ => rfl)) pe_int (nomark _))))
      pss_nil)
    (pss_one (ps_ret (pe_cmpR op_ge (b_minT hr.units T.min (pv 1)) pe_int (nomark _))))))), ?_⟩
  try dsimp only [L2.cxOf, L2.Cx.nox]
  cases a with
  | join r o => exact absurd rfl hj
  | win r l s p =>
    dsimp only [Stp.d, Stp.g, gD, List.map] at hp ⊢
    walk_at "gg"
    refine ⟨no2, ?_⟩
    rw [cut2]
    walk_at "gg"
    refine ⟨fun _ => ?_, fun hb => absurd hb (by decide +kernel)⟩
    walk_at "gg"
    refine ⟨fun h1 => ?_, fun h1 => ?_⟩
    · walk_at "gg"
      refine ⟨fun h2 => ?_, fun h2 => ?_⟩
      · walk_at "gg"
        refine ⟨fun h3 => ?_, fun h3 => ?_⟩
        · walk_at "gg"
          exact hp _ _ ⟨by simp only [Stp.nums, h1, h2, h3, Bool.true_and], rfl⟩
        · exact hp _ _ ⟨by simp only [Stp.nums, h1, h2, h3, Bool.true_and, Bool.false_and], rfl⟩
      · walk_at "gg"
        exact hp _ _ ⟨by simp only [Stp.nums, h1, h2, Bool.true_and, Bool.false_and], rfl⟩
    · walk_at "gg"
      refine ⟨fun z => Bool.noConfusion z, fun _ => ?_⟩
      exact hp _ _ ⟨by simp only [Stp.nums, h1, Bool.true_and, Bool.false_and], rfl⟩
  | rep r t =>
    dsimp only [Stp.d, Stp.g, gD, List.map] at hp ⊢
    walk_at "gg"
    refine ⟨no2, ?_⟩
    rw [cut2]
    walk_at "gg"
    refine ⟨fun hb => absurd hb (by decide +kernel), fun _ => ?_⟩
    walk_at "gg"
    refine ⟨fun _ => ?_, fun hb => absurd hb (by decide +kernel)⟩
    walk_at "gg"
    exact hp _ _ ⟨rfl, rfl⟩
  | _ =>
    dsimp only [Stp.d, Stp.g, gD, List.map] at hp ⊢
    walk_at "gg"
    refine ⟨no2, ?_⟩
    rw [cut2]
    walk_at "gg"
    refine ⟨fun hb => absurd hb (by decide +kernel), fun _ => ?_⟩
    walk_at "gg"
    refine ⟨fun hb => absurd hb (by decide +kernel), fun _ => ?_⟩
    walk_at "gg"
    refine rc_minT (ns := [_]) ?_
    walk_at "gg"
    refine hp _ _ ⟨?_, rfl⟩
    simp only [Stp.nums, List.foldl, ← Bool.decide_and, Int.le_min, ge_iff_le]
def words : List Str := ["window", "repeat", "crop", "pad", "join", "windows", "", "Pad"]
/-- the numbers of items by word -/
structure Items (K : PySem.W.Frag) (w0 : World) (DI : Addr) : Prop where
  kd : KD K w0 DI
  win : KGet K DI "window" (.int 5)
  rep : KGet K DI "repeat" (.int 3)
  crop : KGet K DI "crop" (.int 4)
  pad : KGet K DI "pad" (.int 4)
  join : KGet K DI "join" (.int 3)
  o1 : KGet K DI "windows" .non
  o2 : KGet K DI "" .non
  o3 : KGet K DI "Pad" .non
def dsIsRight : DS := ds (α := Stp × Int) (fun a es S => es = [.d a.1.d, .d (.int a.2)] ∧ S = []) (fun a e S' => e = .d (.bl (a.1.ok a.2)) ∧ S' = [])
theorem named {w : Wd} {S : List Own} {E : XK} {k : KE} {x : Stp} (h : k (.d (lz x.rows)) S) : RS w dsNamed E [.d x.d] S k := r0 x ⟨rfl, rfl⟩ fun e S' ⟨h1, h2⟩ => ⟨_, h2, h1, h⟩
theorem nums {w : Wd} {S : List Own} {E : XK} {k : KE} {x : Stp} (hj : x.g.1 ≠ "join") (h : k (.d (.bl x.nums)) S) : RS w dsNums E [.d x.d] S k := r0 x ⟨rfl, rfl, hj⟩ fun e S' ⟨h1, h2⟩ => ⟨_, h2, h1, h⟩
theorem isRight {w : Wd} {S : List Own} {E : XK} {k : KE} {x : Stp} {n : Int} (h : k (.d (.bl (x.ok n))) S) : RS w dsIsRight E [.d x.d, .d (.int n)] S k := r0 (x, n) ⟨rfl, rfl⟩ fun e S' ⟨h1, h2⟩ => ⟨_, h2, h1, h⟩
theorem Items.get {K : PySem.W.Frag} {w0 : World} {DI : Addr} (It : Items K w0 DI) (a : Stp) : KGet K DI a.g.1 (.int ((a.g.2.length + 1 : Nat) : Int)) := by
  cases a
  · exact It.win
  · exact It.rep
  · exact It.crop
  · exact It.pad
  · exact It.join
theorem Stp.rows_pos (a : Stp) : 0 < a.rows.length := by cases a <;> simp [Stp.rows]
def Stp.tail : Stp → Bool
  | .join r o => decide (r ≠ o)
  | a => a.nums
theorem Stp.ok_eq (a : Stp) (n : Int) : a.ok n = (a.rows.all (fun r => decide (0 ≤ r)) && a.rows.all (fun r => decide (r ≤ n)) && a.tail) := by
  cases a <;> simp only [Stp.ok, Stp.rows, Stp.tail, List.all_cons, List.all_nil, Bool.and_true] <;> ac_rfl
def Stp.lone (a : Stp) : Bool := a.rows.all (fun r => decide (0 ≤ r)) && a.tail
theorem Stp.ok_lone (a : Stp) (n : Int) : a.ok n = (a.lone && a.rows.all (fun r => decide (r ≤ n))) := by
  rw [Stp.ok_eq, Stp.lone]; ac_rfl
def dsIsStep : DS := ds (α := Stp) (fun a es S => es = [.d a.d] ∧ S = []) (fun a e S' => e = .d (.bl a.lone) ∧ S' = [])
theorem ok_isstep {f DI : Addr} {fd : FuncData} (F : Fun K "is_step" "is_step" sis_step f fd) (T : Blt mg) (gITEMS : mg "ITEMS" = some (.ref DI)) (It : Items K w0 DI) (dnamed_rows : Df P w0 K mg base CX0 1 "named_rows" 1 dsNamed) (dhas_right_numbers : Df P w0 K mg base CX0 1 "has_right_numbers" 1 dsNums) :
    FnOk P w0 K mg base CX0 2 f fd ["step"] (spD K dsIsStep) := by
  refine fn0 F scis_step (fun es S p e h => by obtain ⟨a, ⟨h, _⟩, _⟩ := h; rw [h]; rfl) (fun cdv A outer s H E hr w es S p e hK hA h => ?_)
  subst hK
  obtain ⟨a, ⟨rfl, rfl⟩, hp⟩ := h
  dsimp only at hp
  refine ⟨_, (pss_cons (ps_if (PW.pt (pw_or (pt_cmpR op_eq (b_len T.len (pv 0)) pe_int (nomark _)) (pw_or1 (pt_cmpR op_ne (b_len T.len (pv 0)) (pe_kget (g_cls gITEMS) (pe_ix ix_tup (pv 0) pe_int (fun _ _ => rfl))) (nomark _)))))
      (pss_one (ps_ret pe_bl))
      pss_nil)
    (pss_cons (ps_if (pt_cmpR op_lt (b_minL T.min (pe_df dnamed_rows (hr.mono (by decide)) pass0 (pa_cons (pv 0) pa_nil))) pe_int (nomark _))
      (pss_one (ps_ret pe_bl))
      pss_nil)
    (pss_cons (ps_if (pt_cmpR op_eq (pe_ix ix_tup (pv 0) pe_int (fun _ _ => rfl)) pe_str (nomark _))
      (pss_one (ps_ret (pe_cmpR op_ne (pe_ix ix_tup (pv 0) pe_int (fun _ _ => rfl)) (pe_ix ix_tup (pv 0) pe_int (fun _ _ => rfl)) (nomark _))))
      pss_nil)
    (pss_one (ps_ret (pe_df dhas_right_numbers (hr.mono (by decide)) pass0 (pa_cons (pv 0) pa_nil))))))), ?_⟩
  try dsimp only [L2.cxOf, L2.Cx.nox]
  walk_at "gg"
  refine ⟨fun hb => absurd (eqI' hb) (by simp only [List.length_cons]; omega), fun _ => ?_⟩
  walk_at "gg"
  refine le_kget ?_
  walk_at "gg"
  refine ⟨It.kd, ?_⟩
  walk_at "gg"
  refine rr_ixT ix0 ?_
  refine ⟨_, _, .int _, rfl, It.get a, rfl, ?_⟩
  walk_at "gg"
  refine ⟨fun hb => absurd (by simp) (neI hb), fun _ => ?_⟩
  walk_at "gg"
  refine named ?_
  walk_at "gg"
  refine rc_minL (.inl rfl) a.rows_pos fun m m1 m2 => ?_
  walk_at "gg"
  refine ⟨fun hb => ?_, fun hb => ?_⟩
  · walk_at "gg"
    refine hp _ _ ⟨?_, rfl⟩
    rw [Stp.lone, show a.rows.all (fun r => decide (0 ≤ r)) = false from List.all_eq_false.mpr ⟨m, m1, by have := of_decide_eq_true hb; simp; omega⟩]
    rfl
  have h0 : 0 ≤ m := by have := of_decide_eq_false hb; omega
  have e : a.lone = a.tail := by
    rw [Stp.lone, List.all_eq_true.mpr fun r hr => decide_eq_true (Int.le_trans h0 (m2 r hr))]
    rfl
  rw [e] at hp
  walk_at "gg"
  refine rr_ixT ix0 ?_
  walk_at "gg"
  cases a with
  | join r o =>
    refine ⟨fun _ => ?_, fun hb => (sT rfl hb).elim⟩
    walk_at "gg"
    exact hp _ _ ⟨by simp [Stp.tail], rfl⟩
  | _ =>
    refine ⟨fun hb => (sF (by dsimp only [Stp.g]; decide +kernel) hb).elim, fun _ => ?_⟩
    walk_at "gg"
    exact nums (by dsimp only [Stp.g]; decide +kernel) (hp _ _ ⟨rfl, rfl⟩)
theorem isStep {w : Wd} {S : List Own} {E : XK} {k : KE} {x : Stp} (h : k (.d (.bl x.lone)) S) : RS w dsIsStep E [.d x.d] S k := r0 x ⟨rfl, rfl⟩ fun e S' ⟨h1, h2⟩ => ⟨_, h2, h1, h⟩
theorem ok_isright {f : Addr} {fd : FuncData} (F : Fun K "is_right" "is_right" sis_right f fd) (T : Blt mg) (dis_step : Df P w0 K mg base CX0 2 "is_step" 1 dsIsStep) (dnamed_rows : Df P w0 K mg base CX0 1 "named_rows" 1 dsNamed) :
    FnOk P w0 K mg base CX0 3 f fd ["step", "number"] (spD K dsIsRight) := by
  refine fn0 F scis_right (fun es S p e h => by obtain ⟨a, ⟨h, _⟩, _⟩ := h; rw [h]; rfl) (fun cdv A outer s H E hr w es S p e hK hA h => ?_)
  subst hK
  obtain ⟨⟨a, n⟩, ⟨rfl, rfl⟩, hp⟩ := h
  dsimp only at hp
  refine ⟨_, (pss_one (ps_ret (pe_and (pe_df dis_step (hr.mono (by decide)) pass0 (pa_cons (pv 0) pa_nil)) (pe_one (pe_cmpR op_le (b_maxL T.max (pe_df dnamed_rows (hr.mono (by decide)) pass0 (pa_cons (pv 0) pa_nil))) (pv 1) (nomark _)))))), ?_⟩
  try dsimp only [L2.cxOf, L2.Cx.nox]
  walk_at "gg"
  refine isStep ?_
  walk_at "gg"
  rw [Stp.ok_lone] at hp
  refine ⟨fun hb => ?_, fun hb => ?_⟩
  · walk_at "gg"
    refine named ?_
    walk_at "gg"
    refine rc_maxL (.inl rfl) a.rows_pos fun m' m3 m4 => ?_
    walk_at "gg"
    refine hp _ _ ⟨?_, rfl⟩
    rw [hb, Bool.true_and]
    congr 2
    rw [Bool.eq_iff_iff, List.all_eq_true, decide_eq_true_iff]
    exact ⟨fun h r hr => decide_eq_true (Int.le_trans (m4 r hr) h), fun h => of_decide_eq_true (h m' m3)⟩
  · refine hp _ _ ⟨?_, rfl⟩
    rw [hb, Bool.false_and]
end

section
variable {P : Program} {w0 : World} {K : PySem.W.Frag} {mg : Str → Option Value} {base : Heap}
/-- the class of pipelines -/
structure PC (K : PySem.W.Frag) (mg : Str → Option Value) (C : Addr) : Prop where
  cls : Cls K C
  nS : NoAttr K C "_steps"
  mg : mg "Pipeline" = some (.ref C)
abbrev sL (gs : List Stp) : D := .lst (gs.map Stp.d)
abbrev pF (gs : List Stp) : List (Str × D) := [("_steps", sL gs)]
abbrev pD (C : Addr) (gs : List Stp) : D := .obj C (pF gs)
theorem pf_steps {gs : List Stp} : (pF gs).lookup ("_steps" : Str) = some (sL gs) := by
  rw [List.lookup_cons, show (("_steps" : Str) == "_steps") = true by decide +kernel]
theorem pf_no {gs : List Stp} {m : Str} (h : (m == "_steps") = false) : (pF gs).lookup m = none := by
  rw [List.lookup_cons, h]; rfl
def PipeOk (gs : List Stp) : Prop := ∀ (i : Nat) (x : Stp), gs[i]? = some x → x.ok i = true
theorem rc_listX {w : Wd} {S : List Own} {k : KE} {x : Ent} {ds : List D} (hx : IsLst x S ds) (q : k (.d (.lst ds)) S) : RC w (gList w.K) [x] S k := by
  rcases hx with rfl | ⟨i, rfl, hi⟩
  · exact rc_list rfl q
  · exact rc_listOD hi q
/-- a list handed over with self -/
def Arg (x : Ent) (rest : List Own) (ds : List D) : Prop := (x = .d (.lst ds) ∧ rest = []) ∨ (x = .own 1 ∧ rest = [.lst ds])
def dsPInit (C : Addr) : DS := ds (α := Ent × List Own × List Stp) (fun a es S => es = [.own 0, a.1] ∧ S = .ins C [] :: a.2.1 ∧ Arg a.1 a.2.1 (a.2.2.map Stp.d) ∧ PipeOk a.2.2)
  (fun a e S' => e = .d .non ∧ S' = .ins C (pF a.2.2) :: a.2.1)
theorem ok_pinit {f C : Addr} {fd : FuncData} (F : Fun K "__init__" "Pipeline.__init__" sPipelineinit f fd) (T : Blt mg) (L : PC K mg C) (dis_right : Df P w0 K mg base CX0 3 "is_right" 2 dsIsRight) :
    FnOk P w0 K mg base CX0 4 f fd ["self", "steps"] (spD K (dsPInit C)) := by
  refine fn0 F scPipelineinit (fun es S p e h => by obtain ⟨a, ⟨h, _⟩, _⟩ := h; rw [h]; rfl) (fun cdv A outer s H E hr w es S p e hK hA h => ?_)
  subst hK
  obtain ⟨⟨x, rest, gs⟩, ⟨rfl, rfl, ha, ok⟩, hp⟩ := h
  dsimp only at ha ok hp
  have isl : ∀ o : Own, IsLstB w x (o :: rest) (gs.map Stp.d) := fun o => by
    rcases ha with ⟨rfl, rfl⟩ | ⟨rfl, rfl⟩
    · exact .inl rfl
    · exact .inr ⟨1, rfl, by rw [hA]; exact Nat.lt_succ_self 1, rfl⟩
  refine ⟨_, (pss_cons (ps_for PassesOwn.never rfl (pi_enum (by rfl) T.enumerate (pa_cons (pv 1) pa_nil)) (pg_tup (n := 2) (by rfl) (pgs_cons (gn 2 scPipelineinit.nd) (pgs_cons (gn 3 scPipelineinit.nd) pgs_nil)))
      (pss_one (ps_if (pt_not (pt_val (pe_df dis_right (hr.mono (by decide)) pass0 (pa_cons (pv 3) (pa_cons (pv 2) pa_nil)))))
        (pss_one ps_never)
        pss_nil)))
    (pss_one (ps_fld (pv 0) (b_list T.list (pv 1)) rfl))), ?_⟩
  try dsimp only [L2.cxOf, L2.Cx.nox]
  refine ls_seq (ls_forE ?_)
  walk_at "gg"
  refine ⟨_, _, rfl, isl _, fun i Γ S => S = .ins C [] :: rest ∧ ∃ x1 x2, Γ = [some (.own 0), some x, x1, x2], ⟨rfl, _, _, rfl⟩, ?_, ?_, ?_⟩
  · rintro i _ _ ⟨rfl, x1, x2, rfl⟩
    exact isl _
  · rintro i d _ _ hd ⟨rfl, x1, x2, rfl⟩
    rw [List.getElem?_map] at hd
    obtain ⟨g, hg, rfl⟩ := Option.map_eq_some_iff.mp hd
    walk_at "gg"
    refine isRight ?_
    rw [ok i g hg]
    walk_at "gg"
    refine ⟨fun z => Bool.noConfusion z, fun _ => ?_⟩
    walk_at "gg"
    exact ⟨rfl, _, _, rfl⟩
  · rintro _ _ ⟨rfl, x1, x2, rfl⟩
    walk_at "gg"
    refine rc_listX (isl _).is ?_
    walk_at "gg"
    refine ⟨_, _, _, _, rfl, rfl, rfl, L.cls, L.nS, by show 0 < 1000; decide, ?_⟩
    exact hp _ _ ⟨rfl, rfl⟩
theorem mkP {w : Wd} {S : List Own} {C : Addr} {E : XK} {k : KE} {Γ : Gm.Env} {t : TA} (h : LA w t Γ S fun es S1 => ∃ x gs, es = [x] ∧ IsLst x S1 (gs.map Stp.d) ∧ PipeOk gs ∧ k (.d (pD C gs)) S1) :
    LE w (tMake C (spD w.K (dsPInit C)) [] E t) Γ S k := by
  refine le_makeR fun σ R H as Q rl st c => h σ R H as Q rl st fun vs es S1 R' H' as' a1 a2 a3 a4 ⟨x, gs, q1, q2, q3, q4⟩ => c vs es S1 R' H' as' a1 a2 a3 a4 ?_
  subst q1
  rcases q2 with rfl | ⟨i, rfl, hi⟩
  · refine rs_call (ex0 (w := w) (E := E)) [S1.length] (Pick.one List.getElem?_concat_length (by intro z; cases z)) (es' := [.own 0, .d (sL gs)]) rfl rfl ⟨(.d (sL gs), [], gs), ⟨rfl, rfl, .inl ⟨rfl, rfl⟩, q3⟩, fun e S' ⟨h1, h2⟩ => ?_⟩
    refine ⟨_, [], h2.trans (List.append_nil _).symm, rfl, ?_, ?_⟩
    · intro o ho
      simp only [List.mem_cons, List.not_mem_nil, or_false] at ho
      subst ho; intro z; cases z
    · subst h1
      refine ⟨rfl, _, ?_, q4⟩
      rw [List.append_nil]
      show (S1 ++ [Own.ins C []]).set S1.length (.ins C (pF gs)) = _
      rw [List.set_append_right _ _ (Nat.le_refl _), Nat.sub_self]; rfl
  · have hl := (List.getElem?_eq_some_iff.mp hi).1
    have hi' : (S1 ++ [Own.ins C []])[i]? = some (.lst (gs.map Stp.d)) := by rw [List.getElem?_append_left hl]; exact hi
    refine rs_call (ex0 (w := w) (E := E)) [S1.length, i] (Pick.two (by omega) List.getElem?_concat_length (by intro z; cases z) hi' (by intro z; cases z)) (es' := [.own 0, .own 1]) rfl rfl ⟨(.own 1, [.lst (gs.map Stp.d)], gs), ⟨rfl, rfl, .inr ⟨rfl, rfl⟩, q3⟩, fun e S' ⟨h1, h2⟩ => ?_⟩
    refine ⟨_, [], h2.trans (List.append_nil _).symm, rfl, ?_, ?_⟩
    · intro o ho
      simp only [List.mem_cons, List.not_mem_nil, or_false] at ho
      rcases ho with rfl | rfl <;> (intro z; cases z)
    · subst h1
      refine ⟨rfl, _, ?_, q4⟩
      rw [List.append_nil]
      exact wb_two hi
def dsSteps (C : Addr) : DS := ds (α := List Stp) (fun a es S => es = [.d (pD C a)] ∧ S = []) (fun a e S' => e = .d (sL a) ∧ S' = [])
theorem ok_steps {f C : Addr} {fd : FuncData} (F : Fun K "steps" "Pipeline.steps" sPipelinesteps f fd) (T : Blt mg) (L : PC K mg C) : FnOk P w0 K mg base CX0 1 f fd ["self"] (spD K (dsSteps C)) := by
  refine fn0 F scPipelinesteps (fun es S p e h => by obtain ⟨a, ⟨h, _⟩, _⟩ := h; rw [h]; rfl) (fun cdv A outer s H E hr w es S p e hK hA h => ?_)
  subst hK
  obtain ⟨gs, ⟨rfl, rfl⟩, hp⟩ := h
  refine ⟨_, (pss_one (ps_ret (b_list T.list (pe_fld (pv 0) rfl)))), ?_⟩
  try dsimp only [L2.cxOf, L2.Cx.nox]
  walk_at "gg"
  refine ⟨_, _, _, .inl rfl, L.cls, L.nS, pf_steps, ?_⟩
  walk_at "gg"
  refine rc_list rfl ?_
  exact hp _ _ ⟨rfl, rfl⟩
theorem stepsP {C : Addr} {w : Wd} {S : List Own} {E : XK} {k : KE} {gs : List Stp} (h : k (.d (sL gs)) S) : RS w (dsSteps C) E [.d (pD C gs)] S k :=
  r0 gs ⟨rfl, rfl⟩ fun e S' ⟨h1, h2⟩ => ⟨_, h2, h1, h⟩
def dsStepsO (C : Addr) : DS := ds (α := List Stp) (fun a es S => es = [.d (pD C a)] ∧ S = []) (fun a e S' => e = .own 0 ∧ S' = [.lst (a.map Stp.d)])
theorem ok_stepsO {f C : Addr} {fd : FuncData} (F : Fun K "steps" "Pipeline.steps" sPipelinesteps f fd) (T : Blt mg) (L : PC K mg C) : FnOk P w0 K mg base CX0 1 f fd ["self"] (spD K (dsStepsO C)) := by
  refine fn0 F scPipelinesteps (fun es S p e h => by obtain ⟨a, ⟨h, _⟩, _⟩ := h; rw [h]; rfl) (fun cdv A outer s H E hr w es S p e hK hA h => ?_)
  subst hK
  obtain ⟨gs, ⟨rfl, rfl⟩, hp⟩ := h
  refine ⟨_, (pss_one (ps_ret (b_list T.list (pe_fld (pv 0) rfl)))), ?_⟩
  try dsimp only [L2.cxOf, L2.Cx.nox]
  walk_at "gg"
  refine ⟨_, _, _, .inl rfl, L.cls, L.nS, pf_steps, ?_⟩
  walk_at "gg"
  refine rc_listN rfl ?_
  exact hp _ _ ⟨rfl, rfl⟩
def dsPLen (C : Addr) : DS := ds (α := List Stp) (fun a es S => es = [.d (pD C a)] ∧ S = []) (fun a e S' => e = .d (.int a.length) ∧ S' = [])
theorem ok_plen {f C : Addr} {fd : FuncData} (F : Fun K "__len__" "Pipeline.__len__" sPipelinelen f fd) (T : Blt mg) (L : PC K mg C) : FnOk P w0 K mg base CX0 1 f fd ["self"] (spD K (dsPLen C)) := by
  refine fn0 F scPipelinelen (fun es S p e h => by obtain ⟨a, ⟨h, _⟩, _⟩ := h; rw [h]; rfl) (fun cdv A outer s H E hr w es S p e hK hA h => ?_)
  subst hK
  obtain ⟨gs, ⟨rfl, rfl⟩, hp⟩ := h
  refine ⟨_, (pss_one (ps_ret (b_len T.len (pe_fld (pv 0) rfl)))), ?_⟩
  try dsimp only [L2.cxOf, L2.Cx.nox]
  walk_at "gg"
  refine ⟨_, _, _, .inl rfl, L.cls, L.nS, pf_steps, ?_⟩
  walk_at "gg"
  refine hp _ _ ⟨?_, rfl⟩
  rw [List.length_map]
theorem lenP {C : Addr} {w : Wd} {S : List Own} {E : XK} {k : KE} {gs : List Stp} (hl : gs.length ≤ 30000) (h : k (.d (.int gs.length)) S) : RC w (gLenO C (spD w.K (dsPLen C)) E) [.d (pD C gs)] S k :=
  rc_lenOwn (.inl rfl) (r0 gs ⟨rfl, rfl⟩ fun e S' ⟨h1, h2⟩ => ⟨_, h2, h1, _, rfl, by omega, by omega, h⟩)
/-! data of steps -/
def gP (g : GS) : PyData := .tuple (.str g.1 :: g.2.map PyData.int)
abbrev Stp.p (x : Stp) : PyData := gP x.g
theorem toP_g (g : GS) : toP (gD g) = some (gP g) := by
  unfold gD gP
  simp only [toP, toPs, toPs_ints]
  rfl
theorem toPs_s : ∀ gs : List Stp, toPs (gs.map Stp.d) = some (gs.map Stp.p)
  | [] => rfl
  | g :: gs => by
    show toPs (g.d :: gs.map Stp.d) = _
    simp only [toPs, toPs_s gs]
    rw [show toP g.d = some g.p from toP_g _]
    rfl
theorem toP_s (gs : List Stp) : toP (sL gs) = some (.list (gs.map Stp.p)) := by
  simp only [toP, toPs_s]
  rfl
theorem lay_g {g : GS} (h : PyData.strOk g.1 = true) : PyData.canLay0 (gP g) = true := by
  unfold gP
  simp only [PyData.canLay0, PyData.canLayAll0, lay_ints, h]
  rfl
theorem Stp.wok (x : Stp) : PyData.strOk x.g.1 = true := by cases x <;> (dsimp only [Stp.g]; decide +kernel)
theorem lay_s : ∀ gs : List Stp, PyData.canLayAll0 (gs.map Stp.p) = true
  | [] => rfl
  | g :: gs => by
    show PyData.canLayAll0 (g.p :: gs.map Stp.p) = true
    simp only [PyData.canLayAll0, lay_s gs, Bool.and_true]
    exact lay_g g.wok
theorem depth_g (g : GS) : PyData.depth (gP g) = 1 := by
  unfold gP
  simp [PyData.depth, PyData.depthAll, depth_ints]
theorem depth_s : ∀ gs : List Stp, PyData.depthAll (gs.map Stp.p) ≤ 1
  | [] => by simp [PyData.depthAll]
  | g :: gs => by
    show PyData.depthAll (g.p :: gs.map Stp.p) ≤ 1
    have := depth_s gs
    simp only [PyData.depthAll, depth_g]
    omega
theorem shaped_s (gs : List Stp) : SeqAt.shaped (.list (gs.map Stp.p)) = true := by
  unfold SeqAt.shaped
  have := depth_s gs
  simp only [PyData.canLay0, lay_s, PyData.depth]
  simp
  omega
theorem Stp.g_inj : ∀ {x y : Stp}, x.g = y.g → x = y := by
  have ne : ∀ {a b : Str} {xs ys : List Int}, a ≠ b → (a, xs) ≠ (b, ys) := fun h e => h (congrArg Prod.fst e)
  intro x y h
  cases x <;> cases y <;> simp only [Stp.g, Prod.mk.injEq, List.cons.injEq, and_true, true_and, and_false, List.cons_ne_nil, reduceCtorEq, false_and] at h <;> first | (obtain ⟨rfl, rfl, rfl, rfl⟩ := h; rfl) | (obtain ⟨rfl, rfl, rfl⟩ := h; rfl) | (obtain ⟨rfl, rfl⟩ := h; rfl) | exact absurd h.1 (by decide +kernel) | exact absurd h (by decide +kernel) | exact h.elim
theorem eqv_g (g h : GS) : PyData.eqv (gP g) (gP h) = decide (g = h) := by
  obtain ⟨a, xs⟩ := g
  obtain ⟨b, ys⟩ := h
  unfold gP
  simp only [PyData.eqv, PyData.eqvAll, eqv_ints]
  rw [Bool.eq_iff_iff]
  simp
theorem eqv_s : ∀ gs hs : List Stp, PyData.eqvAll (gs.map Stp.p) (hs.map Stp.p) = decide (gs = hs)
  | [], [] => by simp [PyData.eqvAll]
  | [], _ :: _ => by simp [PyData.eqvAll]
  | _ :: _, [] => by simp [PyData.eqvAll]
  | g :: gs, h :: hs => by
    show PyData.eqvAll (g.p :: gs.map Stp.p) (h.p :: hs.map Stp.p) = _
    simp only [PyData.eqvAll, eqv_s gs hs, eqv_g]
    rw [Bool.eq_iff_iff]
    simp
    exact fun _ => ⟨Stp.g_inj, fun e => by rw [e]⟩
theorem eqv_sL (gs hs : List Stp) : PyData.eqv (.list (gs.map Stp.p)) (.list (hs.map Stp.p)) = decide (gs = hs) := eqv_s gs hs
end

section
variable {P : Program} {w0 : World} {K : PySem.W.Frag} {mg : Str → Option Value} {base : Heap}
def dsPEq (C : Addr) : DS := ds (α := List Stp × List Stp) (fun a es S => es = [.d (pD C a.1), .d (pD C a.2)] ∧ S = []) (fun a e S' => e = .d (.bl (decide (a.1 = a.2))) ∧ S' = [])
theorem ok_peq {f C : Addr} {fd : FuncData} (F : Fun K "__eq__" "Pipeline.__eq__" sPipelineeq f fd) (T : Blt mg) (L : PC K mg C) (Q : EqC K C) : FnOk P w0 K mg base CX0 1 f fd ["self", "other"] (spD K (dsPEq C)) := by
  refine fn0 F scPipelineeq (fun es S p e h => by obtain ⟨a, ⟨h, _⟩, _⟩ := h; rw [h]; rfl) (fun cdv A outer s H E hr w es S p e hK hA h => ?_)
  subst hK
  obtain ⟨⟨gs, hs⟩, ⟨rfl, rfl⟩, hp⟩ := h
  have gPipeline := L.mg
  refine ⟨_, (pss_one (ps_ret (pe_and (b_isi T.isinstance (pv 1) (g_cls gPipeline)) (pe_one (pe_cmpR (op_eqD hr.units) (pe_fld (pv 0) rfl) (pe_fld (pv 1) rfl) (nomark _)))))), ?_⟩
  try dsimp only [L2.cxOf, L2.Cx.nox]
  walk_at "gg"
  refine rc_isi (t := .ref C) rfl (fun D z => by cases z; exact Q.ty) Q.own ?_
  walk_at "gg"
  refine ⟨fun _ => ?_, fun z => Bool.noConfusion z⟩
  walk_at "gg"
  refine ⟨_, _, _, .inl rfl, L.cls, L.nS, pf_steps, ?_⟩
  walk_at "gg"
  refine ⟨_, _, _, .inl rfl, L.cls, L.nS, pf_steps, ?_⟩
  refine rr_eqD (toP_s gs) (toP_s hs) (shaped_s gs) (shaped_s hs) ?_
  rw [eqv_sL]
  exact hp _ _ ⟨rfl, rfl⟩
theorem peq {C : Addr} {w : Wd} {S : List Own} {E : XK} {k : KE} {gs hs : List Stp} (Q : EqC w.K C) (h : k (.d (.bl (decide (gs = hs)))) S) : RR w (rEqO w.K C (spD w.K (dsPEq C)) E) (.d (pD C gs)) (.d (pD C hs)) S k :=
  rr_eqO (t := .ref C) (.inl rfl) rfl (fun D z => by cases z; exact Q.ty) Q.nf (r0 (gs, hs) ⟨rfl, rfl⟩ fun e S' ⟨h1, h2⟩ => ⟨_, h2, h1, _, rfl, h⟩)
end

section
def Stp.str : Stp → Nat | .win _ _ s _ => s.toNat | _ => 1
def Stp.tms : Stp → Nat | .rep _ t => t.toNat | _ => 1
def Stp.jn : Stp → Nat | .join _ _ => 1 | _ => 0
def Stp.small : Stp → Prop
  | .win _ l s _ => l ≤ 9 ∧ s ≤ 6
  | .rep _ t => t ≤ 6
  | .crop _ a b => a ≤ 30 ∧ b ≤ 30
  | .pad _ a b => a ≤ 30 ∧ b ≤ 30
  | .join _ _ => True
def Sp (gs : List Stp) : Nat := gs.foldl (fun a x => a * x.str) 1
def Tp (gs : List Stp) : Nat := gs.foldl (fun a x => a * x.tms) 1
def Jp (gs : List Stp) : Nat := gs.foldl (fun a x => a + x.jn) 0
theorem Sp_app {gs : List Stp} {x : Stp} : Sp (gs ++ [x]) = Sp gs * x.str := by simp [Sp]
theorem Tp_app {gs : List Stp} {x : Stp} : Tp (gs ++ [x]) = Tp gs * x.tms := by simp [Tp]
theorem Jp_app {gs : List Stp} {x : Stp} : Jp (gs ++ [x]) = Jp gs + x.jn := by simp [Jp]
/-- a drawn pipeline -/
structure Drawn (m : Nat) (gs : List Stp) : Prop where
  ok : PipeOk gs
  len : gs.length ≤ m
  small : ∀ x ∈ gs, x.small
  st : Sp gs ≤ 60
  ti : Tp gs ≤ 24
  jo : Jp gs ≤ 3
theorem pipe_app {gs : List Stp} {x : Stp} (h : PipeOk gs) (hx : x.ok gs.length = true) : PipeOk (gs ++ [x]) := by
  intro i y hy
  by_cases hi : i < gs.length
  · rw [List.getElem?_append_left hi] at hy; exact h i y hy
  · have : i = gs.length := by
      have := (List.getElem?_eq_some_iff.mp hy).1
      rw [List.length_append] at this; simp only [List.length_cons, List.length_nil] at this; omega
    subst this
    rw [List.getElem?_concat_length] at hy
    cases hy; exact hx
theorem mem_app1 {α : Type} {P : α → Prop} {xs : List α} {x : α} (h : ∀ y ∈ xs, P y) (hx : P x) : ∀ y ∈ xs ++ [x], P y := fun y hy => by
  rcases List.mem_append.mp hy with hy | hy
  · exact h y hy
  · simp only [List.mem_cons, List.not_mem_nil, or_false] at hy; subst hy; exact hx
end

/-! ### lines of the program -/
section
variable {P : Program} {w0 : World} {K : PySem.W.Frag} {mg : Str → Option Value} {base : Heap}
structure Big (s : List Int) (r : Int) : Prop where
  len : s.length ≤ 5000
  r : r.natAbs < 2 ^ 4000
  el : ∀ i, (s.getD i 0).natAbs < 2 ^ 4000
theorem div_abs {a r : Int} (hr : 0 < r) : (a / r).natAbs ≤ a.natAbs := by
  by_cases h : 0 ≤ a
  · have h1 := Int.ediv_nonneg h (show 0 ≤ r by omega)
    have h2 := Int.ediv_le_self r h
    omega
  · have h1 : a ≤ a / r := by
      refine Int.le_ediv_of_mul_le hr ?_
      have h3 := Int.mul_nonneg (show 0 ≤ -a by omega) (show 0 ≤ r - 1 by omega)
      rw [Int.neg_mul, Int.mul_sub] at h3
      omega
    have h2 : a / r < 0 := Int.ediv_neg_of_neg_of_pos (by omega) hr
    omega
theorem putG_rise {x y : D} : putG "_rise" y [(("_starts" : Str), x)] = [(("_starts" : Str), x), (("_rise" : Str), y)] := by
  simp only [putG]
  rw [if_neg (by decide +kernel)]
theorem cut_to {s : List Int} {p : Nat} (h : p ≤ s.length) : cutD (s.map D.int) none (some (p : Int)) = (s.take p).map D.int := by
  unfold cutD
  rw [HT.sIx_none, HT.sIx_nat, List.length_map, Nat.min_eq_left h, List.drop_zero, Nat.sub_zero, List.map_take]
abbrev lineF (s : List Int) (r : Int) : List (Str × D) := [("_starts", lz s), ("_rise", .int r)]
theorem lf_starts {s : List Int} {r : Int} : (lineF s r).lookup ("_starts" : Str) = some (lz s) := by
  rw [List.lookup_cons, show (("_starts" : Str) == "_starts") = true by decide +kernel]
theorem lf_rise {s : List Int} {r : Int} : (lineF s r).lookup ("_rise" : Str) = some (.int r) := by
  rw [List.lookup_cons, show (("_rise" : Str) == "_starts") = false by decide +kernel]
  show List.lookup ("_rise" : Str) [(("_rise" : Str), D.int r)] = _
  rw [List.lookup_cons, show (("_rise" : Str) == "_rise") = true by decide +kernel]
theorem lf_no {s : List Int} {r : Int} {m : Str} (h1 : (m == "_starts") = false) (h2 : (m == "_rise") = false) : (lineF s r).lookup m = none := by
  rw [List.lookup_cons, h1]
  show List.lookup m [(("_rise" : Str), D.int r)] = _
  rw [List.lookup_cons, h2]; rfl
/-- the class of lines -/
structure LC (K : PySem.W.Frag) (mg : Str → Option Value) (C : Addr) : Prop where
  cls : Cls K C
  nS : NoAttr K C "_starts"
  nR : NoAttr K C "_rise"
  mg : mg "Line" = some (.ref C)
def dsCheck : DS := ds (α := List Int × Int) (fun a es S => es = [.d (lz a.1), .d (.int a.2)] ∧ S = [] ∧ Ln.Ok a.1 a.2 ∧ a.1.length ≤ 5000) (fun a e S' => e = .d .non ∧ S' = [])
theorem ok_check {f : Addr} {fd : FuncData} (F : Fun K "check_line" "check_line" scheck_line f fd) (T : Blt mg) : FnOk P w0 K mg base CX0 1 f fd ["starts", "rise"] (spD K dsCheck) := by
  refine fn0 F sccheck_line (fun es S p e h => by obtain ⟨a, ⟨h, _⟩, _⟩ := h; rw [h]; rfl) (fun cdv A outer s H E hr w es S p e hK hA h => ?_)
  subst hK
  obtain ⟨⟨s, r⟩, ⟨rfl, rfl, ok, hl⟩, hp⟩ := h
  dsimp only at ok hl hp
  have hs := ok.pos
  refine ⟨_, (pss_cons (ps_if (pt_cmpR op_eq (b_len T.len (pv 0)) pe_int (nomark _))
      (pss_one ps_never)
      pss_nil)
    (pss_cons (ps_for PassesOwn.never rfl (pi_range2 (by rfl) T.range (pa_cons pe_int (pa_cons (b_len T.len (pv 0)) pa_nil))) (gn 2 sccheck_line.nd)
      (pss_one (ps_if (pt_cmpR op_lt (pe_ix ix_list (pv 0) (pv 2) (fun _ _ => rfl)) (pe_ix ix_list (pv 0) (pe_op op_sub (pv 2) pe_int) (fun _ _ => rfl)) (nomark _))
        (pss_one ps_never)
        pss_nil)))
    (pss_one (ps_if (pt_cmpR op_gt (pe_ix ix_list (pv 0) (pe_un un_neg pe_int) (fun _ _ => rfl)) (pe_op op_add (pe_ix ix_list (pv 0) pe_int (fun _ _ => rfl)) (pv 1)) (nomark _))
      (pss_one ps_never)
      pss_nil)))), ?_⟩
  try dsimp only [L2.cxOf, L2.Cx.nox]
  walk_at "gg"
  refine ⟨fun hb => absurd (eqI' hb) (by omega), fun hb => ?_⟩
  walk_at "gg"
  refine ls_forR (lr_2 ?_)
  walk_at "gg"
  refine ⟨_, _, rfl, by omega, ?_⟩
  refine ⟨fun i Γ S => S = [] ∧ ∃ x, Γ = [some (.d (lz s)), some (.d (.int r)), x], ⟨rfl, _, rfl⟩, ?_, ?_⟩
  · rintro i _ _ hi ⟨rfl, x, rfl⟩
    walk_at "gg"
    refine rr_ixL (ixI (by omega) (by omega)) ?_
    walk_at "gg"
    refine rr_ixL (ixI (by omega) (by omega)) ?_
    walk_at "gg"
    refine ⟨fun hb => ?_, fun hb => ?_⟩
    · have h1 := of_decide_eq_true hb
      have h2 := ok.up (1 + (i : Int)).toNat (by omega) (by omega)
      have e : ((1 : Int) + i - 1).toNat = (1 + (i : Int)).toNat - 1 := by omega
      rw [e] at h1
      omega
    · walk_at "gg"
      exact ⟨rfl, _, rfl⟩
  · rintro _ _ ⟨rfl, x, rfl⟩
    walk_at "gg"
    refine rr_ixL (ixL hs) ?_
    walk_at "gg"
    refine rr_ixL (ixI (by omega) (by omega)) ?_
    walk_at "gg"
    refine ⟨fun hb => ?_, fun hb => ?_⟩
    · have h1 := of_decide_eq_true hb
      have h2 := ok.last
      have e : ((0 : Int)).toNat = 0 := rfl
      rw [e] at h1
      omega
    · walk_at "gg"
      exact hp _ _ ⟨rfl, rfl⟩

def dsIsPer : DS := ds (α := List Int × Int × Nat) (fun a es S => es = [.d (lz a.1), .d (.int a.2.1), .d (.int a.2.2)] ∧ S = [] ∧ Big a.1 a.2.1 ∧ 0 < a.2.2 ∧ a.2.2 ≤ a.1.length) (fun a e S' => ∃ b : Bool, e = .d (.bl b) ∧ S' = [] ∧ (b = true ↔ Ln.Per a.1 a.2.1 a.2.2))
theorem ok_isper {f : Addr} {fd : FuncData} (F : Fun K "is_period" "is_period" sis_period f fd) (T : Blt mg) : FnOk P w0 K mg base CX0 1 f fd ["starts", "rise", "period"] (spD K dsIsPer) := by
  refine fn0 F scis_period (fun es S p e h => by obtain ⟨a, ⟨h, _⟩, _⟩ := h; rw [h]; rfl) (fun cdv A outer s H E hr w es S p e hK hA h => ?_)
  subst hK
  obtain ⟨⟨s, r, d⟩, ⟨rfl, rfl, big, hd, hdl⟩, hp⟩ := h
  dsimp only at big hd hdl hp
  have hl := big.len
  have hrr := big.r
  have hmul : CMulW r d := wide_mul (a := 4000) (b := 20) hrr (by omega) (by decide) (by decide) (by decide)
  refine ⟨_, (pss_cons (sset 3 (b_len T.len (pv 0)) scis_period.nd)
    (pss_cons (ps_if (pt_cmpR op_ne (pe_op op_mod (pe_op op_mulW (pv 1) (pv 2)) (pv 3)) pe_int (nomark _))
      (pss_one (ps_ret pe_bl))
      pss_nil)
    (pss_cons (sset 4 (pe_op op_fdivW (pe_op op_mulW (pv 1) (pv 2)) (pv 3)) scis_period.nd)
    (pss_cons (ps_for PassesOwn.never rfl (pi_range2 (by rfl) T.range (pa_cons (pv 2) (pa_cons (pv 3) pa_nil))) (gn 5 scis_period.nd)
      (pss_one (ps_if (pt_cmpR op_ne (pe_ix ix_list (pv 0) (pv 5) (fun _ _ => rfl)) (pe_op op_add (pe_ix ix_list (pv 0) (pe_op op_sub (pv 5) (pv 2)) (fun _ _ => rfl)) (pv 4)) (nomark _))
        (pss_one (ps_ret pe_bl))
        pss_nil)))
    (pss_one (ps_ret pe_bl)))))), ?_⟩
  try dsimp only [L2.cxOf, L2.Cx.nox]
  walk_at "gg"
  refine rr_int hmul ?_
  walk_at "gg"
  refine rr_int (by omega) ?_
  walk_at "gg"
  refine ⟨fun hb => ?_, fun hb => ?_⟩
  · walk_at "gg"
    refine hp _ _ ⟨false, rfl, rfl, ?_⟩
    have h1 := neI hb
    exact ⟨fun z => (Bool.false_ne_true z).elim, fun z => absurd z.1 h1⟩
  · have h0 : r * d % s.length = 0 := eqI hb
    walk_at "gg"
    refine rr_int hmul ?_
    walk_at "gg"
    refine rr_int (wide_div (b := 30) (by omega) (by omega) (by decide) (by decide)) ?_
    walk_at "gg"
    generalize hpt : r * d / (s.length : Int) = part
    refine ls_forR (lr_2 ?_)
    walk_at "gg"
    refine ⟨_, _, rfl, by omega, ?_⟩
    refine ⟨fun i Γ S => S = [] ∧ (∀ j, d ≤ j → j < d + i → s.getD j 0 = s.getD (j - d) 0 + part) ∧ ∃ x, Γ = [some (.d (lz s)), some (.d (.int r)), some (.d (.int d)), some (.d (.int s.length)), some (.d (.int part)), x], ⟨rfl, fun j h1 h2 => by omega, _, rfl⟩, ?_, ?_⟩
    · rintro i _ _ hi ⟨rfl, hj, x, rfl⟩
      walk_at "gg"
      refine rr_ixL (ixI (by omega) (by omega)) ?_
      walk_at "gg"
      refine rr_ixL (ixI (by omega) (by omega)) ?_
      walk_at "gg"
      have e1 : ((d : Int) + i).toNat = d + i := by omega
      have e2 : ((d : Int) + i - d).toNat = d + i - d := by omega
      rw [e1, e2]
      refine ⟨fun hb2 => ?_, fun hb2 => ?_⟩
      · have h1 := neI hb2
        walk_at "gg"
        refine hp _ _ ⟨false, rfl, rfl, ⟨fun z => (Bool.false_ne_true z).elim, fun z => absurd ?_ h1⟩⟩
        have := z.2 (d + i) (by omega) (by omega)
        rw [hpt] at this
        exact this
      · have h1 := eqI hb2
        walk_at "gg"
        refine ⟨rfl, fun j h2 h3 => ?_, _, rfl⟩
        by_cases hj2 : j = d + i
        · subst hj2; exact h1
        · exact hj j h2 (by omega)
    · rintro _ _ ⟨rfl, hj, x, rfl⟩
      walk_at "gg"
      refine hp _ _ ⟨true, rfl, rfl, ⟨fun _ => ⟨h0, fun i h1 h2 => ?_⟩, fun _ => rfl⟩⟩
      rw [hpt]
      exact hj i h1 (by omega)
/-- p is the least period within s -/
structure IsLp (s : List Int) (r : Int) (p : Nat) : Prop where
  pos : 0 < p
  le : p ≤ s.length
  dv : s.length % p = 0
  per : Ln.Per s r p
  least : ∀ q, 0 < q → q < p → s.length % q = 0 → ¬ Ln.Per s r q
def dsLp : DS := ds (α := List Int × Int) (fun a es S => es = [.d (lz a.1), .d (.int a.2)] ∧ S = [] ∧ Big a.1 a.2 ∧ 0 < a.1.length) (fun a e S' => ∃ p : Nat, e = .d (.int p) ∧ S' = [] ∧ IsLp a.1 a.2 p)
theorem ok_lp {f : Addr} {fd : FuncData} (F : Fun K "least_period" "least_period" sleast_period f fd) (T : Blt mg) (dis_period : Df P w0 K mg base CX0 1 "is_period" 3 dsIsPer) : FnOk P w0 K mg base CX0 2 f fd ["starts", "rise"] (spD K dsLp) := by
  refine fn0 F scleast_period (fun es S p e h => by obtain ⟨a, ⟨h, _⟩, _⟩ := h; rw [h]; rfl) (fun cdv A outer s H E hr w es S p e hK hA h => ?_)
  subst hK
  obtain ⟨⟨s, r⟩, ⟨rfl, rfl, big, hs⟩, hp⟩ := h
  dsimp only at big hs hp
  have hl := big.len
  refine ⟨_, (pss_cons (sset 2 (b_len T.len (pv 0)) scleast_period.nd)
    (pss_cons (ps_for PassesOwn.never rfl (pi_range2 (by rfl) T.range (pa_cons pe_int (pa_cons (pv 2) pa_nil))) (gn 3 scleast_period.nd)
      (pss_one (ps_if (PW.pt (pw_and (pt_cmpR op_eq (pe_op op_mod (pv 2) (pv 3)) pe_int (nomark _)) (pw_and1 (pt_val (pe_df dis_period (hr.mono (by decide)) pass0 (pa_cons (pv 0) (pa_cons (pv 1) (pa_cons (pv 3) pa_nil))))))))
        (pss_one (ps_ret (pv 3)))
        pss_nil)))
    (pss_one (ps_ret (pv 2))))), ?_⟩
  try dsimp only [L2.cxOf, L2.Cx.nox]
  walk_at "gg"
  refine ls_forR (lr_2 ?_)
  walk_at "gg"
  refine ⟨_, _, rfl, by omega, ?_⟩
  refine ⟨fun i Γ S => S = [] ∧ (∀ q, 0 < q → q < 1 + i → s.length % q = 0 → ¬ Ln.Per s r q) ∧ ∃ x, Γ = [some (.d (lz s)), some (.d (.int r)), some (.d (.int s.length)), x], ⟨rfl, fun q h1 h2 => by omega, _, rfl⟩, ?_, ?_⟩
  · rintro i _ _ hi ⟨rfl, hq, x, rfl⟩
    walk_at "gg"
    refine rr_int (by omega) ?_
    walk_at "gg"
    have em : ((s.length : Int) % (1 + (i : Int))) = ((s.length % (1 + i) : Nat) : Int) := by simp
    refine ⟨fun hb => ?_, fun hb => ?_⟩
    · have h0 : s.length % (1 + i) = 0 := by have := eqI' hb; omega
      walk_at "gg"
      refine r0 (s, r, 1 + i) ⟨by simp, rfl, big, by dsimp only; omega, by dsimp only; omega⟩ ?_
      rintro _ _ ⟨b, rfl, rfl, hb2⟩
      refine ⟨_, rfl, rfl, ?_⟩
      walk_at "gg"
      refine ⟨fun hb3 => ?_, fun hb3 => ?_⟩
      · walk_at "gg"
        refine hp _ _ ⟨1 + i, by simp, rfl, by omega, by omega, h0, hb2.mp hb3, fun q h1 h2 => hq q h1 h2⟩
      · walk_at "gg"
        refine ⟨rfl, fun q h1 h2 h3 => ?_, _, rfl⟩
        by_cases e : q = 1 + i
        · subst e; intro z; rw [hb2.mpr z] at hb3; cases hb3
        · exact hq q h1 (by omega) h3
    · walk_at "gg"
      refine ⟨fun z => Bool.noConfusion z, fun _ => ?_⟩
      walk_at "gg"
      refine ⟨rfl, fun q h1 h2 h3 => ?_, _, rfl⟩
      by_cases e : q = 1 + i
      · subst e; exact absurd (by rw [em]; omega) (neI' hb)
      · exact hq q h1 (by omega) h3
  · rintro _ _ ⟨rfl, hq, x, rfl⟩
    walk_at "gg"
    refine hp _ _ ⟨s.length, rfl, rfl, hs, Nat.le_refl _, Nat.mod_self _, ⟨Int.mul_emod_left _ _, fun i h1 h2 => by omega⟩, fun q h1 h2 h3 => hq q h1 (by omega) h3⟩

def dsInit (C : Addr) : DS := ds (α := List Int × Int) (fun a es S => es = [.own 0, .d (lz a.1), .d (.int a.2)] ∧ S = [.ins C []] ∧ Ln.Ok a.1 a.2 ∧ Big a.1 a.2)
  (fun a e S' => ∃ p : Nat, e = .d .non ∧ IsLp a.1 a.2 p ∧ S' = [.ins C (lineF (a.1.take p) (a.2 * p / a.1.length))])
theorem ok_init {f C : Addr} {fd : FuncData} (F : Fun K "__init__" "Line.__init__" sLineinit f fd) (T : Blt mg) (L : LC K mg C) (dcheck_line : Df P w0 K mg base CX0 1 "check_line" 2 dsCheck) (dleast_period : Df P w0 K mg base CX0 2 "least_period" 2 dsLp) :
    FnOk P w0 K mg base CX0 3 f fd ["self", "starts", "rise"] (spD K (dsInit C)) := by
  refine fn0 F scLineinit (fun es S p e h => by obtain ⟨a, ⟨h, _⟩, _⟩ := h; rw [h]; rfl) (fun cdv A outer s H E hr w es S p e hK hA h => ?_)
  subst hK
  obtain ⟨⟨s, r⟩, ⟨rfl, rfl, ok, big⟩, hp⟩ := h
  dsimp only at ok big hp
  have hl := big.len
  have hs := ok.pos
  refine ⟨_, (pss_cons (ps_expr (pe_df dcheck_line (hr.mono (by decide)) pass0 (pa_cons (pv 1) (pa_cons (pv 2) pa_nil))))
    (pss_cons (sset 3 (pe_df dleast_period (hr.mono (by decide)) pass0 (pa_cons (pv 1) (pa_cons (pv 2) pa_nil))) scLineinit.nd)
    (pss_cons (ps_fld (pv 0) (pe_slice sl_list (pv 1) po_none (po_some (pv 3))) rfl)
    (pss_one (ps_fld (pv 0) (pe_op op_fdivW (pe_op op_mulW (pv 2) (pv 3)) (b_len T.len (pv 1))) rfl))))), ?_⟩
  try dsimp only [L2.cxOf, L2.Cx.nox]
  walk_at "gg"
  refine r0 (s, r) ⟨rfl, rfl, ok, hl⟩ ?_
  rintro _ _ ⟨rfl, rfl⟩
  refine ⟨_, rfl, rfl, ?_⟩
  walk_at "gg"
  refine r0 (s, r) ⟨rfl, rfl, big, hs⟩ ?_
  rintro _ _ ⟨d, rfl, rfl, lp⟩
  refine ⟨_, rfl, rfl, ?_⟩
  dsimp only at lp
  have hd := lp.le
  have hmul : CMulW r d := wide_mul (a := 4000) (b := 20) big.r (by omega) (by decide) (by decide) (by decide)
  walk_at "gg"
  refine ⟨_, .inl rfl, ?_⟩
  rw [cut_to hd]
  walk_at "gg"
  refine ⟨_, _, _, _, rfl, rfl, rfl, L.cls, L.nS, by decide, ?_⟩
  walk_at "gg"
  refine rr_int hmul ?_
  walk_at "gg"
  refine rr_int (wide_div (b := 30) (by omega) (by omega) (by decide) (by decide)) ?_
  walk_at "gg"
  refine ⟨_, _, _, _, rfl, rfl, rfl, L.cls, L.nR, (by show 1 < 1000; decide), ?_⟩
  refine hp _ _ ⟨d, rfl, lp, ?_⟩
  show [Own.ins C (putG "_rise" _ (putG "_starts" _ []))] = _
  rw [show putG "_starts" (D.lst ((s.take d).map D.int)) [] = [(("_starts" : Str), D.lst ((s.take d).map D.int))] from rfl, putG_rise]
end

section
abbrev lineD (C : Addr) (s : List Int) (r : Int) : D := .obj C (lineF s r)
theorem per_mul {s : List Int} {r : Int} {p : Nat} (hs : 0 < s.length) (lp : IsLp s r p) : ∃ k : Nat, 0 < k ∧ s.length = p * k ∧ r = k * (r * p / s.length) := by
  obtain ⟨k, hk⟩ : ∃ k, s.length = p * k := ⟨s.length / p, by have := Nat.div_add_mod s.length p; have := lp.dv; omega⟩
  refine ⟨k, ?_, hk, Ln.per_part lp.pos hk lp.per.1⟩
  rcases Nat.eq_zero_or_pos k with e | e
  · subst e; omega
  · exact e
theorem per_zero {s : List Int} {r : Int} {p : Nat} (o : 0 < s.length) (lp : IsLp s r p) : r * p / s.length = 0 ↔ r = 0 := by
  obtain ⟨k, _, _, h⟩ := per_mul o lp
  exact ⟨fun e => by rw [e] at h; simpa using h, fun e => by rw [e]; simp⟩
theorem take_big {s : List Int} {r : Int} {p : Nat} (b : Big s r) (hs : 0 < s.length) (lp : IsLp s r p) : Big (s.take p) (r * p / s.length) := by
  refine ⟨by rw [List.length_take]; have := b.len; omega, ?_, fun i => ?_⟩
  · obtain ⟨k, hk, _, h⟩ := per_mul hs lp
    have h2 := b.r
    generalize r * p / (s.length : Int) = q at h
    have h3 : r.natAbs = k * q.natAbs := by rw [h, Int.natAbs_mul]; simp
    have := Nat.le_mul_of_pos_left q.natAbs hk
    omega
  · rw [List.getD_eq_getElem?_getD, List.getElem?_take]
    split
    · have := b.el i; rw [List.getD_eq_getElem?_getD] at this; exact this
    · show (0 : Int).natAbs < _; exact Nat.pos_of_ne_zero (by simp)
theorem lp_ok {s : List Int} {r : Int} {p : Nat} (o : Ln.Ok s r) (lp : IsLp s r p) : Ln.Ok (s.take p) (r * p / s.length) := Ln.ok_take o lp.pos lp.dv lp.per
theorem lp_at {s : List Int} {r : Int} {p : Nat} (o : Ln.Ok s r) (lp : IsLp s r p) (n : Int) : Ln.at_ (s.take p) (r * p / s.length) n = Ln.at_ s r n := Ln.at_per lp.pos lp.dv o.pos lp.per n
theorem lp_uniq {s : List Int} {r : Int} {p q : Nat} (a : IsLp s r p) (b : IsLp s r q) : p = q := by
  rcases Nat.lt_trichotomy p q with h | h | h
  · exact absurd a.per (b.least p a.pos h a.dv)
  · exact h
  · exact absurd b.per (a.least q b.pos h b.dv)
/-! written lines, by computation -/
def perB (s : List Int) (r : Int) (d : Nat) : Bool := decide (r * d % s.length = 0) && (List.range s.length).all fun i => decide (i < d) || decide (s.getD i 0 = s.getD (i - d) 0 + r * d / s.length)
theorem perB_iff {s : List Int} {r : Int} {d : Nat} : perB s r d = true ↔ Ln.Per s r d := by
  unfold perB Ln.Per
  rw [Bool.and_eq_true, decide_eq_true_iff, List.all_eq_true]
  refine and_congr_right fun _ => ⟨fun h i h1 h2 => ?_, fun h i hi => ?_⟩
  · have := h i (List.mem_range.mpr h2)
    rw [Bool.or_eq_true, decide_eq_true_iff, decide_eq_true_iff] at this
    rcases this with z | z
    · omega
    · exact z
  · rw [Bool.or_eq_true, decide_eq_true_iff, decide_eq_true_iff]
    by_cases q : i < d
    · exact .inl q
    · exact .inr (h i (by omega) (List.mem_range.mp hi))
def lpB (s : List Int) (r : Int) (p : Nat) : Bool := decide (0 < p) && decide (p ≤ s.length) && decide (s.length % p = 0) && perB s r p && (List.range p).all fun q => decide (q = 0) || decide (s.length % q ≠ 0) || !perB s r q
theorem lp_of {s : List Int} {r : Int} {p : Nat} (h : lpB s r p = true) : IsLp s r p := by
  unfold lpB at h
  simp only [Bool.and_eq_true, decide_eq_true_iff, List.all_eq_true, List.mem_range, Bool.or_eq_true, Bool.not_eq_true'] at h
  obtain ⟨⟨⟨⟨h1, h2⟩, h3⟩, h4⟩, h5⟩ := h
  refine ⟨h1, h2, h3, perB_iff.mp h4, fun q q0 q1 q2 q3 => ?_⟩
  rcases h5 q q1 with (z | z) | z
  · omega
  · exact z q2
  · rw [perB_iff.mpr q3] at z; cases z
def okB (s : List Int) (r : Int) : Bool := decide (0 < s.length) && ((List.range s.length).all fun i => decide (i = 0) || decide (s.getD (i - 1) 0 ≤ s.getD i 0)) && decide (s.getD (s.length - 1) 0 ≤ s.getD 0 0 + r)
theorem ok_of {s : List Int} {r : Int} (h : okB s r = true) : Ln.Ok s r := by
  unfold okB at h
  simp only [Bool.and_eq_true, decide_eq_true_iff, List.all_eq_true, List.mem_range, Bool.or_eq_true] at h
  obtain ⟨⟨h1, h2⟩, h3⟩ := h
  refine ⟨h1, fun i i0 i1 => ?_, h3⟩
  rcases h2 i i1 with z | z
  · omega
  · exact z
def bigB (s : List Int) (r : Int) : Bool := decide (s.length ≤ 5000) && decide (r.natAbs < 2 ^ 200) && s.all fun x => decide (x.natAbs < 2 ^ 200)
theorem big_of {s : List Int} {r : Int} (h : bigB s r = true) : Big s r := by
  unfold bigB at h
  simp only [Bool.and_eq_true, decide_eq_true_iff, List.all_eq_true] at h
  obtain ⟨⟨h1, h2⟩, h3⟩ := h
  refine ⟨h1, by omega, fun i => ?_⟩
  rw [List.getD_eq_getElem?_getD]
  cases q : s[i]? with
  | none => show (0 : Int).natAbs < _; exact Nat.pos_of_ne_zero (by simp)
  | some x => have := h3 x (List.mem_of_getElem? q); show x.natAbs < _; omega
end
section
variable {w : Wd} {S : List Own} {E : XK} {k : KE} {C : Addr}
/-- Line([..], r) of written numbers -/
theorem mkLineC {Γ : Gm.Env} {t : TA} (s : List Int) (r : Int) (p : Nat) (h1 : okB s r = true) (h2 : bigB s r = true) (h3 : lpB s r p = true) (h : LA w t Γ S fun es S1 => es = [.d (lz s), .d (.int r)] ∧ k (.d (lineD C (s.take p) (r * p / s.length))) S1) :
    LE w (tMake C (spD w.K (dsInit C)) [] E t) Γ S k := by
  refine mk0 fun σ R H as Q rl st c => h σ R H as Q rl st fun vs es S' R' H' as' a1 a2 a3 a4 ⟨q1, q4⟩ => c vs es S' R' H' as' a1 a2 a3 a4 ?_
  subst q1
  refine ⟨rfl, (s, r), ⟨rfl, rfl, ok_of h1, big_of h2⟩, fun e S' ⟨q, h4, h5, h6⟩ => ⟨h4, _, h6, ?_⟩⟩
  have e : q = p := lp_uniq h5 (lp_of h3)
  subst e
  exact q4
theorem mkLine {Γ : Gm.Env} {t : TA} (h : LA w t Γ S fun es S1 => ∃ s r, es = [.d (lz s), .d (.int r)] ∧ Ln.Ok s r ∧ Big s r ∧ ∀ p, IsLp s r p → k (.d (lineD C (s.take p) (r * p / s.length))) S1) : LE w (tMake C (spD w.K (dsInit C)) [] E t) Γ S k := by
  refine mk0 fun σ R H as Q rl st c => h σ R H as Q rl st fun vs es S' R' H' as' a1 a2 a3 a4 ⟨s, r, q1, q2, q3, q4⟩ => c vs es S' R' H' as' a1 a2 a3 a4 ?_
  subst q1
  exact ⟨rfl, (s, r), ⟨rfl, rfl, q2, q3⟩, fun e S' ⟨p, h1, h2, h3⟩ => ⟨h1, _, h3, q4 p h2⟩⟩
end

section
variable {P : Program} {w0 : World} {K : PySem.W.Frag} {mg : Str → Option Value} {base : Heap}
def dsLAt (C : Addr) : DS := ds (α := List Int × Int × Int) (fun a es S => es = [.d (lineD C a.1 a.2.1), .d (.int a.2.2)] ∧ S = [] ∧ 0 < a.1.length ∧ a.1.length ≤ 30000 ∧ a.2.1.natAbs < 2 ^ 4000 ∧ a.2.2.natAbs < 2 ^ 9000) (fun a e S' => e = .d (.int (Ln.at_ a.1 a.2.1 a.2.2)) ∧ S' = [])
theorem ok_lat {f C : Addr} {fd : FuncData} (F : Fun K "at" "Line.at" sLineat f fd) (T : Blt mg) (L : LC K mg C) : FnOk P w0 K mg base CX0 1 f fd ["self", "n"] (spD K (dsLAt C)) := by
  refine fn0 F scLineat (fun es S p e h => by obtain ⟨a, ⟨h, _⟩, _⟩ := h; rw [h]; rfl) (fun cdv A outer s H E hr w es S p e hK hA h => ?_)
  subst hK
  obtain ⟨⟨s, r, n⟩, ⟨rfl, rfl, hs, hl, hr4, hn⟩, hp⟩ := h
  dsimp only at hs hl hr4 hn hp
  have hq := div_abs (a := n) (r := (s.length : Int)) (by omega)
  have hqb : (n / (s.length : Int)).natAbs < 2 ^ 9000 := by omega
  refine ⟨_, (pss_cons (sset 2 (b_len T.len (pe_fld (pv 0) rfl)) scLineat.nd)
    (pss_one (ps_ret (pe_op op_add (pe_ix ix_list (pe_fld (pv 0) rfl) (pe_op op_mod (pv 1) (pv 2)) (fun _ _ => rfl)) (pe_op op_mulW (pe_op op_fdivW (pv 1) (pv 2)) (pe_fld (pv 0) rfl)))))), ?_⟩
  try dsimp only [L2.cxOf, L2.Cx.nox]
  walk_at "gg"
  refine ⟨_, _, _, .inl rfl, L.cls, L.nS, lf_starts, ?_⟩
  walk_at "gg"
  refine ⟨_, _, _, .inl rfl, L.cls, L.nS, lf_starts, ?_⟩
  walk_at "gg"
  refine rr_int (by omega) ?_
  have h2 := Int.emod_nonneg n (show (s.length : Int) ≠ 0 by omega)
  have h3 := Int.emod_lt_of_pos n (show (0 : Int) < s.length by omega)
  refine rr_ixL (ixI h2 h3) ?_
  walk_at "gg"
  refine rr_int (wide_div (b := 30) (by omega) (by omega) (by decide) (by decide)) ?_
  walk_at "gg"
  refine ⟨_, _, _, .inl rfl, L.cls, L.nR, lf_rise, ?_⟩
  refine rr_int (wide_mul (a := 9000) (b := 4000) hqb hr4 (by decide) (by decide) (by decide)) ?_
  walk_at "gg"
  exact hp _ _ ⟨rfl, rfl⟩
theorem lat {C : Addr} {w : Wd} {S : List Own} {E : XK} {k : KE} {s : List Int} {r n : Int} (hs : 0 < s.length) (hl : s.length ≤ 30000) (hr : r.natAbs < 2 ^ 4000) (hn : n.natAbs < 2 ^ 9000) (h : k (.d (.int (Ln.at_ s r n))) S) : RS w (dsLAt C) E [.d (lineD C s r), .d (.int n)] S k :=
  r0 (s, r, n) ⟨rfl, rfl, hs, hl, hr, hn⟩ fun e S' ⟨h1, h2⟩ => ⟨_, h2, h1, h⟩
def dsLen (C : Addr) : DS := ds (α := List Int × Int) (fun a es S => es = [.d (lineD C a.1 a.2)] ∧ S = []) (fun a e S' => e = .d (.int a.1.length) ∧ S' = [])
theorem ok_len {f C : Addr} {fd : FuncData} (F : Fun K "__len__" "Line.__len__" sLinelen f fd) (T : Blt mg) (L : LC K mg C) : FnOk P w0 K mg base CX0 1 f fd ["self"] (spD K (dsLen C)) := by
  refine fn0 F scLinelen (fun es S p e h => by obtain ⟨a, ⟨h, _⟩, _⟩ := h; rw [h]; rfl) (fun cdv A outer s H E hr w es S p e hK hA h => ?_)
  subst hK
  obtain ⟨⟨s, r⟩, ⟨rfl, rfl⟩, hp⟩ := h
  refine ⟨_, (pss_one (ps_ret (b_len T.len (pe_fld (pv 0) rfl)))), ?_⟩
  try dsimp only [L2.cxOf, L2.Cx.nox]
  walk_at "gg"
  refine ⟨_, _, _, .inl rfl, L.cls, L.nS, lf_starts, ?_⟩
  walk_at "gg"
  exact hp _ _ ⟨rfl, rfl⟩
theorem lenL {C : Addr} {w : Wd} {S : List Own} {E : XK} {k : KE} {s : List Int} {r : Int} (hl : s.length ≤ 30000) (h : k (.d (.int s.length)) S) : RC w (gLenO C (spD w.K (dsLen C)) E) [.d (lineD C s r)] S k :=
  rc_lenOwn (.inl rfl) (r0 (s, r) ⟨rfl, rfl⟩ fun e S' ⟨h1, h2⟩ => ⟨_, h2, h1, _, rfl, by omega, by dsimp only; omega, h⟩)
def dsEq (C : Addr) : DS := ds (α := List Int × Int × List Int × Int) (fun a es S => es = [.d (lineD C a.1 a.2.1), .d (lineD C a.2.2.1 a.2.2.2)] ∧ S = []) (fun a e S' => e = .d (.bl (decide (a.2.1 = a.2.2.2 ∧ a.1 = a.2.2.1))) ∧ S' = [])
theorem ok_eq {f C : Addr} {fd : FuncData} (F : Fun K "__eq__" "Line.__eq__" sLineeq f fd) (T : Blt mg) (L : LC K mg C) (Q : EqC K C) : FnOk P w0 K mg base CX0 1 f fd ["self", "other"] (spD K (dsEq C)) := by
  refine fn0 F scLineeq (fun es S p e h => by obtain ⟨a, ⟨h, _⟩, _⟩ := h; rw [h]; rfl) (fun cdv A outer s H E hr w es S p e hK hA h => ?_)
  subst hK
  obtain ⟨⟨s, r, s', r'⟩, ⟨rfl, rfl⟩, hp⟩ := h
  have gLine := L.mg
  refine ⟨_, (pss_one (ps_ret (pe_and (b_isi T.isinstance (pv 1) (g_cls gLine)) (pe_and (pe_cmpR op_eq (pe_fld (pv 0) rfl) (pe_fld (pv 1) rfl) (nomark _)) (pe_one (pe_cmpR (op_eqD hr.units) (pe_fld (pv 0) rfl) (pe_fld (pv 1) rfl) (nomark _))))))), ?_⟩
  try dsimp only [L2.cxOf, L2.Cx.nox]
  walk_at "gg"
  refine rc_isi (t := .ref C) rfl (fun D z => by cases z; exact Q.ty) Q.own ?_
  walk_at "gg"
  refine ⟨fun _ => ?_, fun z => Bool.noConfusion z⟩
  walk_at "gg"
  refine ⟨_, _, _, .inl rfl, L.cls, L.nR, lf_rise, ?_⟩
  walk_at "gg"
  refine ⟨_, _, _, .inl rfl, L.cls, L.nR, lf_rise, ?_⟩
  walk_at "gg"
  refine ⟨fun hb => ?_, fun hb => ?_⟩
  · have e1 := eqI' hb
    subst e1
    walk_at "gg"
    refine ⟨_, _, _, .inl rfl, L.cls, L.nS, lf_starts, ?_⟩
    walk_at "gg"
    refine ⟨_, _, _, .inl rfl, L.cls, L.nS, lf_starts, ?_⟩
    refine rr_eqD (toP_lz s) (toP_lz s') (shaped_ints s) (shaped_ints s') ?_
    rw [eqv_lz]
    refine hp _ _ ⟨?_, rfl⟩
    simp
  · have e1 := neI' hb
    refine hp _ _ ⟨?_, rfl⟩
    simp [e1]
theorem eqL {C : Addr} {w : Wd} {S : List Own} {E : XK} {k : KE} {s s' : List Int} {r r' : Int} (Q : EqC w.K C) (h : k (.d (.bl (decide (r = r' ∧ s = s')))) S) : RR w (rEqO w.K C (spD w.K (dsEq C)) E) (.d (lineD C s r)) (.d (lineD C s' r')) S k :=
  rr_eqO (t := .ref C) (.inl rfl) rfl (fun D z => by cases z; exact Q.ty) Q.nf (r0 (s, r, s', r') ⟨rfl, rfl⟩ fun e S' ⟨h1, h2⟩ => ⟨_, h2, h1, _, rfl, h⟩)
end

section
variable {w : Wd} {S : List Own} {E : XK} {k : KE} {C : Addr} {f g : Int → Int} {l m l' m' : Nat} {s s' : List Int} {r r' : Int}
theorem IsLp.to {s : List Int} {r : Int} {p : Nat} (h : IsLp s r p) : Ln.Lp s r p := ⟨h.pos, h.le, h.dv, h.per, h.least⟩
theorem big_bd {s : List Int} {r : Int} {l m : Nat} (b : Ln.Bd s r l m) (hl : l ≤ 5000) (hm : m ≤ 4000) : Big s r :=
  have b' := b.mono hl hm
  ⟨b'.len, b'.r, b'.el⟩
theorem mkFm {Γ : Gm.Env} {t : TA} (h : LA w t Γ S fun es S1 => ∃ s r l m, es = [.d (lz s), .d (.int r)] ∧ Ln.Ok s r ∧ Ln.Bd s r l m ∧ l ≤ 5000 ∧ m ≤ 4000 ∧ ∀ s' r', Ln.Fm (Ln.at_ s r) l m s' r' → k (.d (lineD C s' r')) S1) : LE w (tMake C (spD w.K (dsInit C)) [] E t) Γ S k := by
  refine mk0 fun σ R H as Q rl st c => h σ R H as Q rl st fun vs es S' R' H' as' a1 a2 a3 a4 ⟨s, r, l, m, q1, q2, q3, q4, q5, q6⟩ => c vs es S' R' H' as' a1 a2 a3 a4 ?_
  subst q1
  exact ⟨rfl, (s, r), ⟨rfl, rfl, q2, big_bd q3 q4 q5⟩, fun e S' ⟨p, h1, h2, h3⟩ => ⟨h1, _, h3, q6 _ _ (Ln.fm_of q2 q3 h2.to fun _ => rfl)⟩⟩
theorem latF (F : Ln.Fm f l m s r) (hl : l ≤ 5000) (hm : m ≤ 4000) {n : Int} (hn : n.natAbs < 2 ^ 9000) (h : k (.d (.int (f n))) S) : RS w (dsLAt C) E [.d (lineD C s r), .d (.int n)] S k := by
  refine lat F.ok.pos (Nat.le_trans F.bd.len (by omega)) (F.bd.mono (Nat.le_refl _) hm).r hn ?_
  rw [F.at_]; exact h
theorem eqF (Q : EqC w.K C) (F : Ln.Fm f l m s r) (F' : Ln.Fm g l' m' s' r') (e : ∀ n, f n = g n) (h : k (.d (.bl true)) S) : RR w (rEqO w.K C (spD w.K (dsEq C)) E) (.d (lineD C s r)) (.d (lineD C s' r')) S k := by
  refine eqL Q ?_
  obtain ⟨e1, e2⟩ := Ln.fm_uniq F F' e
  rw [decide_eq_true ⟨e2, e1⟩]
  exact h
theorem Fm_big (F : Ln.Fm f l m s r) (hl : l ≤ 5000) (hm : m ≤ 4000) : Big s r := big_bd F.bd hl hm
theorem Fm_lp (F : Ln.Fm f l m s r) : IsLp s r s.length := ⟨F.lp.pos, F.lp.le, F.lp.dv, F.lp.per, F.lp.least⟩
theorem bd_of {s : List Int} {r : Int} (h : bigB s r = true) : Ln.Bd s r s.length 200 := by
  unfold bigB at h
  simp only [Bool.and_eq_true, decide_eq_true_iff, List.all_eq_true] at h
  obtain ⟨⟨h1, h2⟩, h3⟩ := h
  refine ⟨Nat.le_refl _, h2, fun i => ?_⟩
  rw [List.getD_eq_getElem?_getD]
  cases q : s[i]? with
  | none => show (0 : Int).natAbs < _; exact Nat.pow_pos (by decide)
  | some x => exact h3 x (List.mem_of_getElem? q)
end

local macro_rules | `(tactic| walk_at "om") => `(tactic| refine ⟨_, .inl rfl, lf_no (by decide +kernel) (by decide +kernel), ?_⟩)
section
variable {P : Program} {w0 : World} {K : PySem.W.Frag} {mg : Str → Option Value} {base : Heap}
def dsStarts (C : Addr) : DS := ds (α := List Int × Int) (fun a es S => es = [.d (lineD C a.1 a.2)] ∧ S = []) (fun a e S' => e = .d (lz a.1) ∧ S' = [])
theorem ok_starts {f C : Addr} {fd : FuncData} (F : Fun K "starts" "Line.starts" sLinestarts f fd) (T : Blt mg) (L : LC K mg C) : FnOk P w0 K mg base CX0 1 f fd ["self"] (spD K (dsStarts C)) := by
  refine fn0 F scLinestarts (fun es S p e h => by obtain ⟨a, ⟨h, _⟩, _⟩ := h; rw [h]; rfl) (fun cdv A outer s H E hr w es S p e hK hA h => ?_)
  subst hK
  obtain ⟨⟨s, r⟩, ⟨rfl, rfl⟩, hp⟩ := h
  refine ⟨_, (pss_one (ps_ret (b_list T.list (pe_fld (pv 0) rfl)))), ?_⟩
  try dsimp only [L2.cxOf, L2.Cx.nox]
  walk_at "gg"
  refine ⟨_, _, _, .inl rfl, L.cls, L.nS, lf_starts, ?_⟩
  walk_at "gg"
  refine rc_list rfl ?_
  exact hp _ _ ⟨rfl, rfl⟩
theorem starts {C : Addr} {w : Wd} {S : List Own} {E : XK} {k : KE} {s : List Int} {r : Int} (h : k (.d (lz s)) S) : RS w (dsStarts C) E [.d (lineD C s r)] S k :=
  r0 (s, r) ⟨rfl, rfl⟩ fun e S' ⟨h1, h2⟩ => ⟨_, h2, h1, h⟩
def dsRise (C : Addr) : DS := ds (α := List Int × Int) (fun a es S => es = [.d (lineD C a.1 a.2)] ∧ S = []) (fun a e S' => e = .d (.int a.2) ∧ S' = [])
theorem ok_rise {f C : Addr} {fd : FuncData} (F : Fun K "rise" "Line.rise" sLinerise f fd) (T : Blt mg) (L : LC K mg C) : FnOk P w0 K mg base CX0 1 f fd ["self"] (spD K (dsRise C)) := by
  refine fn0 F scLinerise (fun es S p e h => by obtain ⟨a, ⟨h, _⟩, _⟩ := h; rw [h]; rfl) (fun cdv A outer s H E hr w es S p e hK hA h => ?_)
  subst hK
  obtain ⟨⟨s, r⟩, ⟨rfl, rfl⟩, hp⟩ := h
  refine ⟨_, (pss_one (ps_ret (pe_fld (pv 0) rfl))), ?_⟩
  try dsimp only [L2.cxOf, L2.Cx.nox]
  walk_at "gg"
  refine ⟨_, _, _, .inl rfl, L.cls, L.nR, lf_rise, ?_⟩
  exact hp _ _ ⟨rfl, rfl⟩
theorem rise {C : Addr} {w : Wd} {S : List Own} {E : XK} {k : KE} {s : List Int} {r : Int} (h : k (.d (.int r)) S) : RS w (dsRise C) E [.d (lineD C s r)] S k :=
  r0 (s, r) ⟨rfl, rfl⟩ fun e S' ⟨h1, h2⟩ => ⟨_, h2, h1, h⟩
def dsAfter (C : Addr) : DS := ds (α := List Int × Int × List Int × Int × Nat × Nat × Nat × Nat)
  (fun a es S => es = [.d (lineD C a.1 a.2.1), .d (lineD C a.2.2.1 a.2.2.2.1)] ∧ S = [] ∧ Ln.Ok a.1 a.2.1 ∧ Ln.Ok a.2.2.1 a.2.2.2.1 ∧ Ln.Bd a.1 a.2.1 a.2.2.2.2.1 a.2.2.2.2.2.2.1 ∧ Ln.Bd a.2.2.1 a.2.2.2.1 a.2.2.2.2.2.1 a.2.2.2.2.2.2.2 ∧ a.2.2.2.2.1 * a.2.2.2.2.2.1 ≤ 5000 ∧ a.2.2.2.2.2.2.1 ≤ 1000 ∧ a.2.2.2.2.2.2.2 ≤ 1000)
  (fun a e S' => ∃ p, e = .d (lineD C ((Ln.aftS a.1 a.2.1 a.2.2.1 a.2.2.2.1).take p) (Ln.aftQ a.1 a.2.1 a.2.2.1 a.2.2.2.1 * p / (Ln.aftS a.1 a.2.1 a.2.2.1 a.2.2.2.1).length)) ∧ S' = [] ∧ IsLp (Ln.aftS a.1 a.2.1 a.2.2.1 a.2.2.2.1) (Ln.aftQ a.1 a.2.1 a.2.2.1 a.2.2.2.1) p)
theorem ok_after {f C : Addr} {fd : FuncData} (F : Fun K "after" "Line.after" sLineafter f fd) (T : Blt mg) (L : LC K mg C) (dLine : Ct P w0 K mg base CX0 3 "Line" C (dsInit C)) (dlen : Sm P w0 K mg base CX0 1 C "__len__" (dsLen C)) (drise : Pr P w0 K mg base CX0 1 C "rise" (dsRise C)) (dat : Mt P w0 K mg base CX0 1 C "at" (dsLAt C)) :
    FnOk P w0 K mg base CX0 5 f fd ["self", "inner"] (spD K (dsAfter C)) := by
  refine fn0 F scLineafter (fun es S p e h => by obtain ⟨a, ⟨h, _⟩, _⟩ := h; rw [h]; rfl) (fun cdv A outer s H E hr w es S p e hK hA h => ?_)
  subst hK
  obtain ⟨⟨s1, r1, s2, r2, l1, l2, m1, m2⟩, ⟨rfl, rfl, o1, o2, b1, b2, hl, hm1, hm2⟩, hp⟩ := h
  dsimp only at o1 o2 b1 b2 hl hm1 hm2 hp
  have p1 := o1.pos
  have p2 := o2.pos
  have q1 := b1.len
  have q2 := b2.len
  have hL := Nat.le_trans (Ln.aftL_le (s1 := s1) (s2 := s2) (r2 := r2)) (Nat.le_trans (Nat.mul_le_mul q1 q2) hl)
  have hL0 := Ln.aftL_pos (r2 := r2) p1 p2
  have hl1 : s1.length ≤ 5000 := Nat.le_trans (Nat.le_mul_of_pos_right _ p2) (Nat.le_trans (Nat.mul_le_mul q1 q2) hl)
  have hl2 : s2.length ≤ 5000 := Nat.le_trans (Nat.le_mul_of_pos_left _ p1) (Nat.le_trans (Nat.mul_le_mul q1 q2) hl)
  have k1 : r1.natAbs < 2 ^ 4000 := (b1.mono (Nat.le_refl _) (show m1 ≤ 4000 by omega)).r
  have k2 : r2.natAbs < 2 ^ 4000 := (b2.mono (Nat.le_refl _) (show m2 ≤ 4000 by omega)).r
  have hg := Ln.gcd_pos p1 r2.natAbs
  have hgl : Nat.gcd s1.length r2.natAbs ≤ 5000 := Nat.le_trans (Nat.le_of_dvd p1 (Nat.gcd_dvd_left _ _)) hl1
  have htl : s1.length / Nat.gcd s1.length r2.natAbs ≤ 5000 := Nat.le_trans (Nat.div_le_self _ _) hl1
  have hin : ∀ i : Nat, i ≤ 5000 → (Ln.at_ s2 r2 i).natAbs < 2 ^ 9000 := fun i hi => by
    have := (b2.mono (Nat.le_refl _) hm2).at_ p2 (n := (i : Int)) (j := 13) (by omega)
    exact Nat.lt_of_lt_of_le this (Nat.pow_le_pow_right (by decide) (by decide))
  refine ⟨_, (pss_cons (sset 2 (pe_op op_fdivW (o_len dlen (hr.mono (by decide)) pass0 T.len (pv 0)) (b_gcd T.gcd (o_len dlen (hr.mono (by decide)) pass0 T.len (pv 0)) (pe_pr drise (hr.mono (by decide)) pass0 (pv 1)))) scLineafter.nd)
    (pss_cons (sset 3 (pe_op op_mulW (pv 2) (o_len dlen (hr.mono (by decide)) pass0 T.len (pv 1))) scLineafter.nd)
    (pss_cons (ps_setLc (i := 4) (own := [("place", 5)]) (g := gName 5) rfl scLineafter.nd rfl rfl (sw_true rfl rfl rfl (by decide +kernel)) (pi_range1 (by rfl) T.range (pa_cons (pv 3) pa_nil)) (blkOk_by (own := [("place", 5)]) (N := NLineafter) (sc := defScope sLineafter) (by decide +kernel)) (fun _ _ _ _ _ => gn 5 scLineafter.nd) (fun _ _ _ _ _ => pts_nil) (fun _ _ _ _ _ => (pe_mdB dat (hr.mono (by decide)) pass0 (pv 0) (pa_cons (pe_mdB dat (hr.mono (by decide)) pass0 (pv 1) (pa_cons (pv 5) pa_nil)) pa_nil))))
    (pss_one (ps_ret (pe_mk dLine (hr.mono (by decide)) pass0 (pa_cons (pv 4) (pa_cons (pe_op op_sub (pe_md dat (hr.mono (by decide)) pass0 (pv 0) (pa_cons (pe_md dat (hr.mono (by decide)) pass0 (pv 1) (pa_cons (pv 3) pa_nil)) pa_nil)) (pe_ix ix_list (pv 4) pe_int (fun _ _ => rfl))) pa_nil)))))))), ?_⟩
  try dsimp only [L2.cxOf, L2.Cx.nox]
  walk_at "gg"
  refine lenL (s := s1) (by omega) ?_
  walk_at "gg"
  refine lenL (s := s1) (by omega) ?_
  walk_at "gg"
  refine ⟨_, .inl rfl, rise ?_⟩
  walk_at "gg"
  refine rc_gcd ?_
  walk_at "gg"
  rw [show Nat.gcd ((s1.length : Int).natAbs) (r2.natAbs) = Nat.gcd s1.length r2.natAbs from rfl]
  refine rr_int (wide_div (b := 30) (by omega) (by omega) (by decide) (by decide)) ?_
  rw [show ((s1.length : Int) / ((Nat.gcd s1.length r2.natAbs : Nat) : Int)) = ((s1.length / Nat.gcd s1.length r2.natAbs : Nat) : Int) from rfl]
  walk_at "gg"
  refine lenL (s := s2) (by omega) ?_
  walk_at "gg"
  refine rr_int (wide_mul (a := 20) (b := 20) (Nat.lt_of_le_of_lt htl (by decide)) (by omega) (by decide) (by decide) (by decide)) ?_
  rw [show ((s1.length / Nat.gcd s1.length r2.natAbs : Nat) : Int) * (s2.length : Int) = ((Ln.aftL s1 s2 r2 : Nat) : Int) by unfold Ln.aftL; simp]
  generalize hLe : Ln.aftL s1 s2 r2 = LL at *
  walk_at "gg"
  refine le_lcRI (fun i => Ln.at_ s1 r1 (Ln.at_ s2 r2 i)) (lr_1 ?_)
  walk_at "gg"
  refine ⟨by omega, by omega, by unfold sizeLine; omega, fun i acc hi => ?_, ?_⟩
  · walk_at "gg"
    walk_at "om"
    walk_at "gg"
    walk_at "om"
    walk_at "gg"
    rw [Int.zero_add]
    refine lat p2 (by omega) k2 (by omega) ?_
    walk_at "gg"
    refine lat p1 (by omega) k1 (hin i (by omega)) ?_
    exact ⟨rfl, rfl⟩
  · rw [show ((LL : Nat) : Int).toNat = LL from rfl]
    walk_at "gg"
    refine mkLine ?_
    walk_at "gg"
    walk_at "om"
    walk_at "gg"
    walk_at "om"
    walk_at "gg"
    refine lat p2 (by omega) k2 (by omega) ?_
    walk_at "gg"
    refine lat p1 (by omega) k1 (hin LL hL) ?_
    walk_at "gg"
    refine rr_ixL (ixI (by decide) (by rw [List.length_map, List.length_range]; omega)) ?_
    walk_at "gg"
    subst hLe
    have hs := Ln.aft_is o1 o2
    have hb := Ln.aft_bd2 o1 o2 b1 b2 (by omega)
    rw [Ln.getD_range (i := (0 : Int).toNat) hL0]
    refine ⟨Ln.aftS s1 r1 s2 r2, Ln.aftQ s1 r1 s2 r2, rfl, hs.1, big_bd hb hl (by omega), fun q lp => hp _ _ ⟨q, rfl, rfl, lp⟩⟩
end
section
theorem after {w : Wd} {S : List Own} {E : XK} {k : KE} {C : Addr} {f g : Int → Int} {l m l' m' : Nat} {s s' : List Int} {r r' : Int} (F : Ln.Fm f l m s r) (G : Ln.Fm g l' m' s' r') (hl : l * l' ≤ 5000) (hm : m ≤ 1000) (hm' : m' ≤ 1000)
    (h : ∀ s3 r3, Ln.Fm (fun n => f (g n)) (l * l') (m + m' + 16) s3 r3 → k (.d (lineD C s3 r3)) S) : RS w (dsAfter C) E [.d (lineD C s r), .d (lineD C s' r')] S k :=
  r0 (s, r, s', r', l, l', m, m') ⟨rfl, rfl, F.ok, G.ok, F.bd, G.bd, hl, hm, hm'⟩ fun e S' ⟨p, h1, h2, h3⟩ => by
    refine ⟨_, h2, h1, h _ _ ?_⟩
    have hs := Ln.aft_is F.ok G.ok
    exact Ln.fm_of hs.1 (Ln.aft_bd2 F.ok G.ok F.bd G.bd (by omega)) h3.to fun n => by rw [hs.2, F.at_, G.at_]
end

section
/-- the size of the row that a step makes -/
def Stp.nx (ws : List Int) : Stp → Int
  | .win r l s p => (ws.getD r.toNat 0 + 2 * p - l) / s + 1
  | .rep r t => ws.getD r.toNat 0 * t
  | .crop r a b => ws.getD r.toNat 0 - a - b
  | .pad r a b => ws.getD r.toNat 0 + a + b
  | .join r _ => ws.getD r.toNat 0
/-- the sizes of all rows -/
def rowsZ (gs : List Stp) (n : Int) : List Int := gs.foldl (fun ws x => ws ++ [x.nx ws]) [n]
theorem rowsZ_snoc (gs : List Stp) (x : Stp) (n : Int) : rowsZ (gs ++ [x]) n = rowsZ gs n ++ [x.nx (rowsZ gs n)] := by simp [rowsZ]
theorem rowsZ_len (gs : List Stp) (n : Int) : (rowsZ gs n).length = gs.length + 1 := by
  have go : ∀ (gs : List Stp) (ws : List Int), (gs.foldl (fun ws x => ws ++ [x.nx ws]) ws).length = gs.length + ws.length := fun gs => by
    induction gs with
    | nil => intro ws; simp
    | cons x gs ih => intro ws; rw [List.foldl_cons, ih]; simp; omega
  rw [rowsZ, go]; rfl
theorem take_snoc {gs : List Stp} {i : Nat} {x : Stp} (h : gs[i]? = some x) : gs.take (i + 1) = gs.take i ++ [x] := by
  rw [List.take_add_one, h]; rfl
theorem PipeOk.take {gs : List Stp} (h : PipeOk gs) (m : Nat) : PipeOk (gs.take m) := fun i x hx => by
  rw [List.getElem?_take] at hx
  split at hx
  · exact h i x hx
  · cases hx
theorem nx_bd {n : Int} {x : Stp} {ws : List Int} {b : Nat} (hx : x.ok n = true) (hs : x.small) (hb : 10 ≤ b) (hw : ∀ i, (ws.getD i 0).natAbs < 2 ^ b) : (x.nx ws).natAbs < 2 ^ (b + 4) := by
  have h10 : 2 ^ 10 ≤ 2 ^ b := Nat.pow_le_pow_right (by decide) hb
  have e : 2 ^ (b + 4) = 16 * 2 ^ b := by rw [Nat.pow_add, Nat.mul_comm]
  rw [e]
  generalize 2 ^ b = B at *
  cases x with
  | win r l s p =>
    have w := hw r.toNat
    simp [Stp.ok, Stp.nums] at hx
    obtain ⟨hs1, hs2⟩ := hs
    show ((ws.getD r.toNat 0 + 2 * p - l) / s + 1).natAbs < _
    generalize ws.getD r.toNat 0 = v at *
    have hd : ((v + 2 * p - l) / s).natAbs ≤ (v + 2 * p - l).natAbs := Ln.div_le_abs (by omega)
    omega
  | rep r t =>
    have w := hw r.toNat
    simp [Stp.ok, Stp.nums] at hx
    have hs' : t ≤ 6 := hs
    show (ws.getD r.toNat 0 * t).natAbs < _
    rw [Int.natAbs_mul]
    have : (ws.getD r.toNat 0).natAbs * t.natAbs ≤ B * 6 := Nat.mul_le_mul (by omega) (by omega)
    omega
  | crop r a c =>
    have w := hw r.toNat
    simp [Stp.ok, Stp.nums] at hx
    obtain ⟨hs1, hs2⟩ := hs
    show (ws.getD r.toNat 0 - a - c).natAbs < _
    omega
  | pad r a c =>
    have w := hw r.toNat
    simp [Stp.ok, Stp.nums] at hx
    obtain ⟨hs1, hs2⟩ := hs
    show (ws.getD r.toNat 0 + a + c).natAbs < _
    omega
  | join r o =>
    have w := hw r.toNat
    show (ws.getD r.toNat 0).natAbs < _
    omega
theorem rowsZ_bd {gs : List Stp} {n : Int} {b : Nat} (ok : PipeOk gs) (sm : ∀ x ∈ gs, x.small) (hb : 10 ≤ b) (hn : n.natAbs < 2 ^ b) : ∀ m, m ≤ gs.length → ∀ i, ((rowsZ (gs.take m) n).getD i 0).natAbs < 2 ^ (b + 4 * m)
  | 0, _, i => by
    show (([n] : List Int).getD i 0).natAbs < 2 ^ b
    cases i with
    | zero => exact hn
    | succ i => exact Nat.lt_of_lt_of_le Nat.zero_lt_one Nat.one_le_two_pow
  | m + 1, h, i => by
    have ih := rowsZ_bd ok sm hb hn m (by omega)
    have hx : gs[m]? = some gs[m] := List.getElem?_eq_getElem (by omega)
    rw [take_snoc hx, rowsZ_snoc]
    have hl : (rowsZ (gs.take m) n).length = m + 1 := by rw [rowsZ_len, List.length_take, Nat.min_eq_left (by omega)]
    have e : b + 4 * (m + 1) = b + 4 * m + 4 := by omega
    rw [e]
    have up : 2 ^ (b + 4 * m) ≤ 2 ^ (b + 4 * m + 4) := Nat.pow_le_pow_right (by decide) (by omega)
    rw [List.getD_eq_getElem?_getD]
    by_cases hi : i < m + 1
    · rw [List.getElem?_append_left (by omega), ← List.getD_eq_getElem?_getD]
      exact Nat.lt_of_lt_of_le (ih i) up
    · rw [List.getElem?_append_right (by omega), hl]
      cases q : i - (m + 1) with
      | zero => exact nx_bd (ok m _ hx) (sm _ (List.getElem_mem _)) (by omega) ih
      | succ j => simp; exact Nat.lt_of_lt_of_le Nat.zero_lt_one Nat.one_le_two_pow
end

section
def Stp.mk (v : Int) : Stp → Int
  | .win _ l s p => (v + 2 * p - l) / s + 1
  | .rep _ t => t * v
  | .crop _ a b => v - a - b
  | .pad _ a b => v + a + b
  | .join _ _ => v
def Stp.row : Stp → Int
  | .win r _ _ _ => r | .rep r _ => r | .crop r _ _ => r | .pad r _ _ => r | .join r _ => r
def Stp.gain : Stp → Int
  | .rep _ t => t | _ => 1
theorem nx_mk (x : Stp) (ws : List Int) : x.nx ws = x.mk (ws.getD x.row.toNat 0) := by
  cases x <;> simp only [Stp.nx, Stp.mk, Stp.row]
  exact Int.mul_comm _ _
theorem row_ok {n : Int} {x : Stp} (h : x.ok n = true) : 0 ≤ x.row ∧ x.row ≤ n := by
  cases x <;> simp [Stp.ok, Stp.row] at h ⊢ <;> omega
theorem str_pos {n : Int} {x : Stp} (h : x.ok n = true) : 1 ≤ x.str := by
  cases x <;> simp [Stp.ok, Stp.nums, Stp.str] at h ⊢ <;> omega
theorem gain_pos {n : Int} {x : Stp} (h : x.ok n = true) : 1 ≤ x.gain := by
  cases x <;> simp [Stp.ok, Stp.nums, Stp.gain] at h ⊢ <;> omega
theorem mk_per {n : Int} {x : Stp} (h : x.ok n = true) (v q : Int) : x.mk (v + q * x.str) = x.mk v + q * x.gain := by
  cases x with
  | win r l s p =>
    simp [Stp.ok, Stp.nums] at h
    simp only [Stp.mk, Stp.str, Stp.gain]
    rw [show ((s.toNat : Nat) : Int) = s by omega, show v + q * s + 2 * p - l = (v + 2 * p - l) + q * s by omega, Int.add_mul_ediv_right _ _ (by omega)]
    omega
  | rep r t =>
    simp only [Stp.mk, Stp.str, Stp.gain]
    rw [Int.natCast_one, Int.mul_one, Int.mul_add, Int.mul_comm q t]
  | _ =>
    simp only [Stp.mk, Stp.str, Stp.gain]
    omega
theorem mk_mono {n : Int} {x : Stp} (h : x.ok n = true) {u v : Int} (hu : u ≤ v) : x.mk u ≤ x.mk v := by
  cases x with
  | win r l s p =>
    simp [Stp.ok, Stp.nums] at h
    simp only [Stp.mk]
    have := Int.ediv_le_ediv (c := s) (by omega) (show u + 2 * p - l ≤ v + 2 * p - l by omega)
    omega
  | rep r t =>
    simp [Stp.ok, Stp.nums] at h
    simp only [Stp.mk]
    exact Int.mul_le_mul_of_nonneg_left hu (by omega)
  | _ =>
    simp only [Stp.mk]
    omega
/-- a size that goes on by rounds of L -/
structure Rw (f : Int → Int) (L : Nat) : Prop where
  per : ∃ Q, 1 ≤ Q ∧ ∀ n, f (n + L) = f n + Q
  mono : ∀ u v, u ≤ v → f u ≤ f v
def rowF (gs : List Stp) (i : Nat) (n : Int) : Int := (rowsZ gs n).getD i 0
theorem rowF_old {gs : List Stp} {x : Stp} {i : Nat} (h : i ≤ gs.length) (n : Int) : rowF (gs ++ [x]) i n = rowF gs i n := by
  unfold rowF
  rw [rowsZ_snoc, List.getD_eq_getElem?_getD, List.getD_eq_getElem?_getD, List.getElem?_append_left (by rw [rowsZ_len]; omega)]
theorem rowF_new {gs : List Stp} {x : Stp} (n : Int) : rowF (gs ++ [x]) (gs.length + 1) n = x.mk (rowF gs x.row.toNat n) := by
  unfold rowF
  rw [rowsZ_snoc, List.getD_eq_getElem?_getD, List.getElem?_append_right (by rw [rowsZ_len]; exact Nat.le_refl _), rowsZ_len, Nat.sub_self, nx_mk]
  rfl
theorem take_len {gs : List Stp} {m : Nat} (h : m ≤ gs.length) : (gs.take m).length = m := by rw [List.length_take]; omega
theorem Sp_pos {gs : List Stp} (ok : PipeOk gs) : ∀ m, m ≤ gs.length → 1 ≤ Sp (gs.take m)
  | 0, _ => by rw [List.take_zero]; exact Nat.le_refl 1
  | m + 1, h => by
    have hx : gs[m]? = some gs[m] := List.getElem?_eq_getElem (by omega)
    rw [take_snoc hx, Sp_app]
    exact Nat.mul_pos (Sp_pos ok m (by omega)) (str_pos (ok m _ hx))
theorem Sp_up {gs : List Stp} (ok : PipeOk gs) {m : Nat} (h : m < gs.length) : Sp (gs.take m) ≤ Sp (gs.take (m + 1)) := by
  have hx : gs[m]? = some gs[m] := List.getElem?_eq_getElem h
  rw [take_snoc hx, Sp_app]
  exact Nat.le_mul_of_pos_right _ (str_pos (ok m _ hx))
theorem Sp_le {gs : List Stp} (ok : PipeOk gs) : ∀ k m, m + k = gs.length → Sp (gs.take m) ≤ Sp gs
  | 0, m, h => by rw [show m = gs.length by omega, List.take_length]; exact Nat.le_refl _
  | k + 1, m, h => Nat.le_trans (Sp_up ok (by omega)) (Sp_le ok k (m + 1) (by omega))
theorem Sp_lt {gs : List Stp} (ok : PipeOk gs) {m : Nat} (h : m ≤ gs.length) : Sp (gs.take m) ≤ Sp gs := Sp_le ok (gs.length - m) m (by omega)
theorem rows_rw {gs : List Stp} (ok : PipeOk gs) : ∀ m, m ≤ gs.length → ∀ i, i ≤ m → Rw (rowF (gs.take m) i) (Sp (gs.take m))
  | 0, _, i, hi => by
    have e : i = 0 := by omega
    subst e
    rw [List.take_zero]
    exact ⟨⟨1, Int.le_refl _, fun n => rfl⟩, fun u v h => h⟩
  | m + 1, h, i, hi => by
    have hx : gs[m]? = some gs[m] := List.getElem?_eq_getElem (by omega)
    have okx := ok m _ hx
    generalize gs[m] = x at hx okx
    have hl := take_len (gs := gs) (m := m) (by omega)
    rw [take_snoc hx, Sp_app]
    have s1 := str_pos okx
    by_cases hm : i ≤ m
    · obtain ⟨⟨Q, q1, q2⟩, mo⟩ := rows_rw ok m (by omega) i hm
      have e : rowF (gs.take m ++ [x]) i = rowF (gs.take m) i := funext fun n => rowF_old (by omega) n
      rw [e]
      refine ⟨⟨x.str * Q, ?_, fun n => ?_⟩, mo⟩
      · have := Int.mul_le_mul (show (1 : Int) ≤ x.str by omega) q1 (by decide) (by omega)
        omega
      · have := Ln.IsPer.mul q2 x.str n
        rw [show ((Sp (gs.take m) * x.str : Nat) : Int) = (x.str : Int) * (Sp (gs.take m) : Nat) by rw [Int.natCast_mul, Int.mul_comm]]
        exact this
    · have ei : i = (gs.take m).length + 1 := by omega
      subst ei
      obtain ⟨r0, r1⟩ := row_ok okx
      obtain ⟨⟨Q, q1, q2⟩, mo⟩ := rows_rw ok m (by omega) x.row.toNat (by omega)
      have e : rowF (gs.take m ++ [x]) ((gs.take m).length + 1) = fun n => x.mk (rowF (gs.take m) x.row.toNat n) := funext fun n => rowF_new n
      rw [e]
      refine ⟨⟨Q * x.gain, ?_, fun n => ?_⟩, fun u v huv => mk_mono okx (mo u v huv)⟩
      · have := Int.mul_le_mul q1 (gain_pos okx) (by decide) (by omega)
        omega
      · have := Ln.IsPer.mul q2 x.str n
        rw [show ((Sp (gs.take m) * x.str : Nat) : Int) = (x.str : Int) * (Sp (gs.take m) : Nat) by rw [Int.natCast_mul, Int.mul_comm]]
        rw [this, Int.mul_comm (x.str : Int) Q, mk_per okx]
theorem row_rw {gs : List Stp} (ok : PipeOk gs) {i : Nat} (hi : i ≤ gs.length) : Rw (rowF gs i) (Sp gs) := by
  have := rows_rw ok gs.length (Nat.le_refl _) i hi
  rwa [List.take_length] at this
/-- the line of a step -/
def stS (x : Stp) : List Int := (List.range x.str).map fun i : Nat => x.mk i
theorem st_is {n : Int} {x : Stp} (h : x.ok n = true) : Ln.Ok (stS x) x.gain ∧ ∀ v, Ln.at_ (stS x) x.gain v = x.mk v :=
  Ln.of_fun (f := fun v => x.mk v) (str_pos h) (fun v => by have := mk_per h v 1; rwa [Int.one_mul, Int.one_mul] at this) (fun v => mk_mono h (by omega))
theorem mk_bd {n : Int} {x : Stp} (h : x.ok n = true) (sm : x.small) {i : Nat} (hi : i ≤ x.str) : (x.mk i).natAbs < 2 ^ 10 := by
  cases x with
  | win r l s p =>
    simp [Stp.ok, Stp.nums] at h
    obtain ⟨s1, s2⟩ := sm
    simp only [Stp.str] at hi
    simp only [Stp.mk]
    have hd : ((((i : Nat) : Int) + 2 * p - l) / s).natAbs ≤ (((i : Nat) : Int) + 2 * p - l).natAbs := Ln.div_le_abs (by omega)
    omega
  | rep r t =>
    simp [Stp.ok, Stp.nums] at h
    have s1 : t ≤ 6 := sm
    simp only [Stp.str] at hi
    simp only [Stp.mk]
    rcases Nat.lt_or_ge i 1 with q | q
    · rw [show i = 0 by omega]; simp
    · rw [show i = 1 by omega]; simp; omega
  | crop r a b =>
    simp [Stp.ok, Stp.nums] at h
    obtain ⟨s1, s2⟩ := sm
    simp only [Stp.str, Stp.mk] at hi ⊢
    omega
  | pad r a b =>
    simp [Stp.ok, Stp.nums] at h
    obtain ⟨s1, s2⟩ := sm
    simp only [Stp.str, Stp.mk] at hi ⊢
    omega
  | join r o =>
    simp only [Stp.str, Stp.mk] at hi ⊢
    omega
theorem gain_bd {n : Int} {x : Stp} (h : x.ok n = true) (sm : x.small) : x.gain.natAbs < 2 ^ 10 := by
  cases x with
  | rep r t =>
    simp [Stp.ok, Stp.nums] at h
    have s1 : t ≤ 6 := sm
    simp only [Stp.gain]; omega
  | _ => simp [Stp.gain]
theorem str_le {x : Stp} (sm : x.small) : x.str ≤ 6 := by
  cases x with
  | win r l s p => obtain ⟨s1, s2⟩ := sm; simp only [Stp.str]; omega
  | _ => simp [Stp.str]
theorem st_bd {n : Int} {x : Stp} (h : x.ok n = true) (sm : x.small) : Ln.Bd (stS x) x.gain x.str 10 :=
  ⟨by unfold stS; rw [List.length_map, List.length_range]; exact Nat.le_refl _, gain_bd h sm, Ln.el_range fun i hi => mk_bd h sm (Nat.le_of_lt hi)⟩
theorem fm_mono {f g : Int → Int} {l m l' m' : Nat} {s : List Int} {r : Int} (F : Ln.Fm f l m s r) (hl : l ≤ l') (hm : m ≤ m') (e : ∀ n, g n = f n) : Ln.Fm g l' m' s r :=
  ⟨F.ok, F.lp, fun n => by rw [F.at_, e], F.bd.mono hl hm⟩
/-- the lines of all rows -/
structure LinesOk (gs : List Stp) (ls : List (List Int × Int)) : Prop where
  len : ls.length = gs.length + 1
  fm : ∀ i p, ls[i]? = some p → Ln.Fm (rowF gs i) (Sp gs) (10 + 40 * gs.length) p.1 p.2
theorem lines_add {gs : List Stp} {ls : List (List Int × Int)} {x : Stp} {s : List Int} {r : Int} {m : Nat} (h : LinesOk gs ls) (okx : x.ok gs.length = true) (F : Ln.Fm (fun n => x.mk (rowF gs x.row.toNat n)) (Sp gs * x.str) m s r) (hm : m ≤ 50 + 40 * gs.length) : LinesOk (gs ++ [x]) (ls ++ [(s, r)]) where
  len := by rw [List.length_append, List.length_append, h.len]; rfl
  fm i p hp := by
    have e : (gs ++ [x]).length = gs.length + 1 := by rw [List.length_append]; rfl
    rw [Sp_app, e]
    by_cases hi : i < ls.length
    · rw [List.getElem?_append_left hi] at hp
      exact fm_mono (h.fm i p hp) (Nat.le_mul_of_pos_right _ (str_pos okx)) (by omega) fun n => rowF_old (by have := h.len; omega) n
    · have hl := (List.getElem?_eq_some_iff.mp hp).1
      rw [List.length_append] at hl
      have ei : i = gs.length + 1 := by have := h.len; simp only [List.length_cons, List.length_nil] at hl; omega
      rw [List.getElem?_append_right (by omega), show i - ls.length = 0 by have := h.len; omega] at hp
      cases hp
      subst ei
      exact fm_mono F (Nat.le_refl _) (by omega) fun n => rowF_new n
theorem lines_nil {s : List Int} {r : Int} (F : Ln.Fm (fun n => n) 1 10 s r) : LinesOk [] [(s, r)] := ⟨rfl, fun i p hp => by
  cases i with
  | zero => cases hp; exact F
  | succ i => simp at hp⟩
end

section
theorem ixM {α : Type} {f : α → D} {xs : List α} {i : Int} (h0 : 0 ≤ i) (h1 : i < xs.length) : ∃ x, x ∈ xs ∧ xs[i.toNat]? = some x ∧ atI (xs.map f) i = some (f x) := by
  have hl : i.toNat < xs.length := by omega
  refine ⟨xs[i.toNat], List.getElem_mem hl, List.getElem?_eq_getElem hl, ?_⟩
  unfold atI ixN
  rw [List.length_map, if_pos h0, if_pos h1]
  show (xs.map f)[i.toNat]? = _
  rw [List.getElem?_map, List.getElem?_eq_getElem hl]; rfl
end

section
variable {P : Program} {w0 : World} {K : PySem.W.Frag} {mg : Str → Option Value} {base : Heap}
def dsCells : DS := ds (α := Stp × Int × Int) (fun a es S => es = [.d a.1.d, .d (.int a.2.2)] ∧ S = [] ∧ a.1.ok a.2.1 = true ∧ a.1.small ∧ a.2.2.natAbs < 2 ^ 400) (fun a e S' => e = .d (.int (a.1.mk a.2.2)) ∧ S' = [])
theorem ok_cells {f : Addr} {fd : FuncData} (F : Fun K "cells_made" "cells_made" scells_made f fd) (T : Blt mg) : FnOk P w0 K mg base CX0 1 f fd ["step", "cells"] (spD K dsCells) := by
  refine fn0 F sccells_made (fun es S p e h => by obtain ⟨a, ⟨h, _⟩, _⟩ := h; rw [h]; rfl) (fun cdv A outer s H E hr w es S p e hK hA h => ?_)
  subst hK
  obtain ⟨⟨x, n, v⟩, ⟨rfl, rfl, hx1, hx2, hv⟩, hp⟩ := h
  dsimp only at hx1 hx2 hv hp
  refine ⟨_, (pss_cons (ps_if (pt_cmpR op_eq (pe_ix ix_tup (pv 0) pe_int (fun _ _ => rfl)) pe_str (nomark _))
      (pss_cons (ps_asg (pe_slice sl_tup (pv 0) (po_some pe_int) po_none) (pg_tup (n := 3) (by rfl) (pgs_cons (gn 2 sccells_made.nd) (pgs_cons (gn 3 sccells_made.nd) (pgs_cons (gn 4 sccells_made.nd) pgs_nil)))))
      (pss_one (ps_ret (pe_op op_add (pe_op op_fdivW (pe_op op_sub (pe_op op_add (pv 1) (pe_op op_mulW pe_int (pv 4))) (pv 2)) (pv 3)) pe_int))))
      pss_nil)
    (pss_cons (ps_if (pt_cmpR op_eq (pe_ix ix_tup (pv 0) pe_int (fun _ _ => rfl)) pe_str (nomark _))
      (pss_one (ps_ret (pe_op op_mulW (pe_ix ix_tup (pv 0) pe_int (fun _ _ => rfl)) (pv 1))))
      pss_nil)
    (pss_cons (ps_if (pt_cmpR op_eq (pe_ix ix_tup (pv 0) pe_int (fun _ _ => rfl)) pe_str (nomark _))
      (pss_one (ps_ret (pe_op op_sub (pe_op op_sub (pv 1) (pe_ix ix_tup (pv 0) pe_int (fun _ _ => rfl))) (pe_ix ix_tup (pv 0) pe_int (fun _ _ => rfl)))))
      pss_nil)
    (pss_cons (ps_if (pt_cmpR op_eq (pe_ix ix_tup (pv 0) pe_int (fun _ _ => rfl)) pe_str (nomark _))
      (pss_one (ps_ret (pe_op op_add (pe_op op_add (pv 1) (pe_ix ix_tup (pv 0) pe_int (fun _ _ => rfl))) (pe_ix ix_tup (pv 0) pe_int (fun _ _ => rfl)))))
      pss_nil)
    (pss_one (ps_ret (pv 1))))))), ?_⟩
  try dsimp only [L2.cxOf, L2.Cx.nox]
  cases x with
  | win r l s p' =>
    dsimp only [Stp.d, Stp.g, gD, List.map] at *
    simp [Stp.ok, Stp.nums] at hx1
    obtain ⟨s1, s2⟩ := hx2
    walk_at "gg"
    refine ⟨fun _ => ?_, fun hb => absurd hb (by decide +kernel)⟩
    walk_at "gg"
    refine ⟨no2, ?_⟩
    rw [cut2]
    walk_at "gg"
    refine rr_int (wide_mul (a := 2) (b := 20) (by decide) (by omega) (by decide) (by decide) (by decide)) ?_
    walk_at "gg"
    refine rr_int (wide_div (b := 30) (by omega) (by omega) (by decide) (by decide)) ?_
    walk_at "gg"
    exact hp _ _ ⟨rfl, rfl⟩
  | rep r t =>
    dsimp only [Stp.d, Stp.g, gD, List.map] at *
    simp [Stp.ok, Stp.nums] at hx1
    walk_at "gg"
    refine ⟨fun hb => absurd hb (by decide +kernel), fun _ => ?_⟩
    walk_at "gg"
    refine ⟨fun _ => ?_, fun hb => absurd hb (by decide +kernel)⟩
    walk_at "gg"
    have s1 : t ≤ 6 := hx2
    refine rr_int (wide_mul (a := 20) (b := 400) (by omega) hv (by decide) (by decide) (by decide)) ?_
    exact hp _ _ ⟨rfl, rfl⟩
  | crop r a b =>
    dsimp only [Stp.d, Stp.g, gD, List.map] at *
    walk_at "gg"
    refine ⟨fun hb => absurd hb (by decide +kernel), fun _ => ?_⟩
    walk_at "gg"
    refine ⟨fun hb => absurd hb (by decide +kernel), fun _ => ?_⟩
    walk_at "gg"
    refine ⟨fun _ => ?_, fun hb => absurd hb (by decide +kernel)⟩
    walk_at "gg"
    exact hp _ _ ⟨rfl, rfl⟩
  | pad r a b =>
    dsimp only [Stp.d, Stp.g, gD, List.map] at *
    walk_at "gg"
    refine ⟨fun hb => absurd hb (by decide +kernel), fun _ => ?_⟩
    walk_at "gg"
    refine ⟨fun hb => absurd hb (by decide +kernel), fun _ => ?_⟩
    walk_at "gg"
    refine ⟨fun hb => absurd hb (by decide +kernel), fun _ => ?_⟩
    walk_at "gg"
    refine ⟨fun _ => ?_, fun hb => absurd hb (by decide +kernel)⟩
    walk_at "gg"
    exact hp _ _ ⟨rfl, rfl⟩
  | join r o =>
    dsimp only [Stp.d, Stp.g, gD, List.map] at *
    walk_at "gg"
    refine ⟨fun hb => absurd hb (by decide +kernel), fun _ => ?_⟩
    walk_at "gg"
    refine ⟨fun hb => absurd hb (by decide +kernel), fun _ => ?_⟩
    walk_at "gg"
    refine ⟨fun hb => absurd hb (by decide +kernel), fun _ => ?_⟩
    walk_at "gg"
    refine ⟨fun hb => absurd hb (by decide +kernel), fun _ => ?_⟩
    walk_at "gg"
    exact hp _ _ ⟨rfl, rfl⟩
theorem cells {w : Wd} {S : List Own} {E : XK} {k : KE} {x : Stp} {n v : Int} (h1 : x.ok n = true) (h2 : x.small) (hv : v.natAbs < 2 ^ 400) (h : k (.d (.int (x.mk v))) S) : RS w dsCells E [.d x.d, .d (.int v)] S k :=
  r0 (x, n, v) ⟨rfl, rfl, h1, h2, hv⟩ fun e S' ⟨h1, h2⟩ => ⟨_, h2, h1, h⟩
def dsStLine (C : Addr) : DS := ds (α := Stp × Int) (fun a es S => es = [.d a.1.d] ∧ S = [] ∧ a.1.ok a.2 = true ∧ a.1.small) (fun a e S' => ∃ s r, e = .d (lineD C s r) ∧ S' = [] ∧ Ln.Fm (fun v => a.1.mk v) a.1.str 10 s r)
theorem ok_stline {f C : Addr} {fd : FuncData} (F : Fun K "step_line" "step_line" sstep_line f fd) (T : Blt mg) (dcells_made : Df P w0 K mg base CX0 1 "cells_made" 2 dsCells) (dLine : Ct P w0 K mg base CX0 3 "Line" C (dsInit C)) : FnOk P w0 K mg base CX0 5 f fd ["step"] (spD K (dsStLine C)) := by
  refine fn0 F scstep_line (fun es S p e h => by obtain ⟨a, ⟨h, _⟩, _⟩ := h; rw [h]; rfl) (fun cdv A outer s H E hr w es S p e hK hA h => ?_)
  subst hK
  obtain ⟨⟨x, n⟩, ⟨rfl, rfl, hx1, hx2⟩, hp⟩ := h
  dsimp only at hx1 hx2 hp
  have hs := str_pos hx1
  have hs6 := str_le hx2
  refine ⟨_, (pss_cons (sset 1 pe_int scstep_line.nd)
    (pss_cons (ps_if (pt_cmpR op_eq (pe_ix ix_tup (pv 0) pe_int (fun _ _ => rfl)) pe_str (nomark _))
      (pss_one (sset 1 (pe_ix ix_tup (pv 0) pe_int (fun _ _ => rfl)) scstep_line.nd))
      pss_nil)
    (pss_cons (ps_setLc (i := 2) (own := [("cells", 3)]) (g := gName 3) rfl scstep_line.nd rfl rfl (sw_true rfl rfl rfl (by decide +kernel)) (pi_range1 (by rfl) T.range (pa_cons (pv 1) pa_nil)) (blkOk_by (own := [("cells", 3)]) (N := Nstep_line) (sc := defScope sstep_line) (by decide +kernel)) (fun _ _ _ _ _ => gn 3 scstep_line.nd) (fun _ _ _ _ _ => pts_nil) (fun _ _ _ _ _ => (pe_dfB dcells_made (hr.mono (by decide)) pass0 (pa_cons (pv 0) (pa_cons (pv 3) pa_nil)))))
    (pss_one (ps_ret (pe_mk dLine (hr.mono (by decide)) pass0 (pa_cons (pv 2) (pa_cons (pe_op op_sub (pe_df dcells_made (hr.mono (by decide)) pass0 (pa_cons (pv 0) (pa_cons (pv 1) pa_nil))) (pe_ix ix_list (pv 2) pe_int (fun _ _ => rfl))) pa_nil)))))))), ?_⟩
  try dsimp only [L2.cxOf, L2.Cx.nox]
  refine ls_cut (fun Γ S => S = [] ∧ Γ = [some (.d x.d), some (.d (.int 1)), none, none]) ?_ ?_
  · walk_at "gg"
    exact ⟨rfl, rfl⟩
  · rintro _ _ ⟨rfl, rfl⟩
    refine ls_cut (fun Γ S => S = [] ∧ Γ = [some (.d x.d), some (.d (.int x.str)), none, none]) ?_ ?_
    · cases x with
      | win r l s p' =>
        dsimp only [Stp.d, Stp.g, gD, List.map] at *
        simp [Stp.ok, Stp.nums] at hx1
        walk_at "gg"
        refine ⟨fun _ => ?_, fun hb => absurd hb (by decide +kernel)⟩
        walk_at "gg"
        refine ⟨rfl, ?_⟩
        rw [show ((Stp.str (.win r l s p') : Nat) : Int) = s by show ((s.toNat : Nat) : Int) = s; omega]
        rfl
      | _ =>
        dsimp only [Stp.d, Stp.g, gD, List.map] at *
        walk_at "gg"
        refine ⟨fun hb => absurd hb (by decide +kernel), fun _ => ?_⟩
        walk_at "gg"
        exact ⟨rfl, rfl⟩
    · rintro _ _ ⟨rfl, rfl⟩
      walk_at "gg"
      refine le_lcRI (fun i => x.mk i) (lr_1 ?_)
      walk_at "gg"
      refine ⟨by omega, by omega, by unfold sizeLine; omega, fun i acc hi => ?_, ?_⟩
      · walk_at "gg"
        rw [Int.zero_add]
        refine cells hx1 hx2 (Nat.lt_of_lt_of_le (show _ < 2 ^ 10 by omega) (Nat.pow_le_pow_right (by decide) (by decide))) ?_
        exact ⟨rfl, rfl⟩
      · rw [show ((x.str : Nat) : Int).toNat = x.str from rfl]
        walk_at "gg"
        refine mkFm ?_
        walk_at "gg"
        refine cells hx1 hx2 (Nat.lt_of_lt_of_le (show _ < 2 ^ 10 by omega) (Nat.pow_le_pow_right (by decide) (by decide))) ?_
        walk_at "gg"
        refine rr_ixL (ixI (by decide) (by rw [List.length_map, List.length_range]; omega)) ?_
        walk_at "gg"
        rw [Ln.getD_range (i := (0 : Int).toNat) hs]
        have hg : x.mk (x.str : Int) - x.mk (((0 : Int).toNat : Nat) : Int) = x.gain := by
          have := mk_per hx1 0 1
          rw [Int.one_mul, Int.one_mul, Int.zero_add] at this
          show x.mk (x.str : Int) - x.mk 0 = x.gain
          omega
        rw [hg]
        have h2 := st_is hx1
        exact ⟨stS x, x.gain, x.str, 10, rfl, h2.1, st_bd hx1 hx2, by omega, by decide, fun s' r' G => hp _ _ ⟨s', r', rfl, rfl, fm_mono G (Nat.le_refl _) (Nat.le_refl _) fun n => (h2.2 n).symm⟩⟩
theorem stLine {w : Wd} {C : Addr} {S : List Own} {E : XK} {k : KE} {x : Stp} {n : Int} (h1 : x.ok n = true) (h2 : x.small) (h : ∀ s r, Ln.Fm (fun v => x.mk v) x.str 10 s r → k (.d (lineD C s r)) S) : RS w (dsStLine C) E [.d x.d] S k :=
  r0 (x, n) ⟨rfl, rfl, h1, h2⟩ fun e S' ⟨s, r, h1, h2, h3⟩ => ⟨_, h2, h1, h s r h3⟩
end

local macro_rules | `(tactic| walk_at "om") => `(tactic| refine ⟨_, .inl rfl, lf_no (by decide +kernel) (by decide +kernel), ?_⟩)
section
variable {P : Program} {w0 : World} {K : PySem.W.Frag} {mg : Str → Option Value} {base : Heap}
abbrev lnP (C : Addr) (p : List Int × Int) : D := lineD C p.1 p.2
theorem ix1 (x : Stp) : atI (.str x.g.1 :: x.g.2.map D.int) 1 = some (.int x.row) := by cases x <;> rfl
theorem id_line : Ln.Ok [0] 1 ∧ ∀ n, Ln.at_ [0] 1 n = n := Ln.of_fun (f := fun n => n) (L := 1) (Q := 1) (by decide) (fun n => rfl) (fun n => by omega)
def dsRows (C D : Addr) : DS := ds (α := List Stp) (fun a es S => es = [.d (pD D a)] ∧ S = [] ∧ PipeOk a ∧ (∀ x ∈ a, x.small) ∧ a.length ≤ 8 ∧ Sp a ≤ 60)
  (fun a e S' => ∃ ls, e = .d (.lst (ls.map (lnP C))) ∧ S' = [] ∧ LinesOk a ls)
theorem ok_rows {f C D : Addr} {fd : FuncData} (F : Fun K "row_lines" "row_lines" srow_lines f fd) (T : Blt mg) (L : LC K mg C) (dstep_line : Df P w0 K mg base CX0 5 "step_line" 1 (dsStLine C)) (dLine : Ct P w0 K mg base CX0 3 "Line" C (dsInit C)) (dsteps : Pr P w0 K mg base CX0 1 D "steps" (dsSteps D)) (dafter : Mt P w0 K mg base CX0 5 C "after" (dsAfter C)) :
    FnOk P w0 K mg base CX0 6 f fd ["pipeline"] (spD K (dsRows C D)) := by
  refine fn0 F scrow_lines (fun es S p e h => by obtain ⟨a, ⟨h, _⟩, _⟩ := h; rw [h]; rfl) (fun cdv A outer s H E hr w es S p e hK hA h => ?_)
  subst hK
  obtain ⟨gs, ⟨rfl, rfl, ok, sm, hl, hsp⟩, hp⟩ := h
  refine ⟨_, (pss_cons (sset 1 (pe_lst (pa_cons (pe_mk dLine (hr.mono (by decide)) pass0 (pa_cons (pe_lst (pa_cons pe_int pa_nil)) (pa_cons pe_int pa_nil))) pa_nil)) scrow_lines.nd)
    (pss_cons (ps_for PassesOwn.never rfl (pi_list (pe_pr dsteps (hr.mono (by decide)) pass0 (pv 0))) (gn 2 scrow_lines.nd)
      (pss_one (ps_expr (pe_bm PySem.F.plainAttrs_list PySem.F.slot_list_append PySem.F.type_list_append mt_append (pv 1) (pa_cons (pe_md dafter (hr.mono (by decide)) pass0 (pe_df dstep_line (hr.mono (by decide)) pass0 (pa_cons (pv 2) pa_nil)) (pa_cons (pe_ix ix_list (pv 1) (pe_ix ix_tup (pv 2) pe_int (fun _ _ => rfl)) (fun _ _ => rfl)) pa_nil)) pa_nil)))))
    (pss_one (ps_ret (pv 1))))), ?_⟩
  try dsimp only [L2.cxOf, L2.Cx.nox]
  refine ls_seq (ls_set (le_lstO ?_))
  walk_at "gg"
  refine mkFm ?_
  walk_at "gg"
  refine ⟨[0], 1, 1, 10, rfl, id_line.1, ⟨Nat.le_refl _, by decide, fun i => by cases i with | zero => decide | succ i => exact (show (0 : Int).natAbs < 2 ^ 10 by decide)⟩, by decide, by decide, fun s1 r1 F1 => ?_⟩
  have L0 : LinesOk [] [(s1, r1)] := lines_nil (fm_mono F1 (Nat.le_refl _) (Nat.le_refl _) fun n => (id_line.2 n).symm)
  walk_at "gg"
  refine ls_forL ?_
  walk_at "gg"
  refine ⟨_, .inl rfl, stepsP ?_⟩
  refine ⟨gs.map Stp.d, rfl, ?_⟩
  refine ⟨fun i Γ S => ∃ (x2 : Option Ent) (ls : List (List Int × Int)), S = [.lst (ls.map (lnP C))] ∧ i ≤ gs.length ∧ LinesOk (gs.take i) ls ∧ Γ = [some (.d (pD D gs)), some (.own 0), x2], ⟨_, [(s1, r1)], rfl, Nat.zero_le _, by rw [List.take_zero]; exact L0, rfl⟩, ?_, ?_⟩
  · rintro i d _ _ hd ⟨x2, ls, rfl, hi, LO, rfl⟩
    rw [List.getElem?_map, Option.map_eq_some_iff] at hd
    obtain ⟨x, hx, rfl⟩ := hd
    have hx2 := sm x (List.mem_of_getElem? hx)
    have hx1 := ok i x hx
    have hil := (List.getElem?_eq_some_iff.mp hx).1
    have htl := take_len (gs := gs) (m := i) (by omega)
    have hq := Sp_lt ok hi
    have hq1 := Sp_lt ok (m := i + 1) hil
    have e1 : Sp (gs.take (i + 1)) = Sp (gs.take i) * x.str := by rw [take_snoc hx, Sp_app]
    obtain ⟨hr0, hr1⟩ := row_ok hx1
    have hll := LO.len
    obtain ⟨q, hq2, hq3, hq4⟩ := ixM (f := lnP C) (xs := ls) hr0 (by omega)
    have Fq := LO.fm _ q hq3
    walk_at "gg"
    refine ⟨⟨_, .inr ⟨0, rfl, rfl⟩⟩, ?_⟩
    walk_at "gg"
    refine stLine hx1 hx2 fun s2 r2 F2 => ?_
    walk_at "om"
    walk_at "gg"
    refine rr_ixT (ix1 x) ?_
    refine rr_ixO rfl hq4 ?_
    walk_at "gg"
    refine after F2 Fq (by rw [Nat.mul_comm, ← e1]; omega) (by decide) (by omega) fun s3 r3 F3 => ?_
    walk_at "gg"
    refine rm_append (ds := ls.map (lnP C)) rfl (by rw [List.length_map]; unfold sizeLine; omega) ?_
    refine ⟨_, ls ++ [(s3, r3)], by rw [List.map_append]; rfl, by omega, ?_, rfl⟩
    rw [take_snoc hx]
    exact lines_add LO (by rw [htl]; exact hx1) (fm_mono F3 (by rw [Nat.mul_comm]; exact Nat.le_refl _) (Nat.le_refl _) fun n => rfl) (by omega)
  · rintro _ _ ⟨x2, ls, rfl, hi, LO, rfl⟩
    rw [List.length_map, List.take_length] at *
    refine frzL (S := []) (xs := ls.map (lnP C)) (Γ' := [none, some (.d (.lst (ls.map (lnP C)))), none]) 1 rfl ?_ (by walk_at "envle") (by rw [hA]; exact Nat.le_refl _)
    walk_at "gg"
    exact hp _ _ ⟨ls, rfl, rfl, LO⟩
theorem rows {w : Wd} {C D : Addr} {S : List Own} {E : XK} {k : KE} {gs : List Stp} (ok : PipeOk gs) (sm : ∀ x ∈ gs, x.small) (hl : gs.length ≤ 8) (hs : Sp gs ≤ 60) (h : ∀ ls, LinesOk gs ls → k (.d (.lst (ls.map (lnP C)))) S) : RS w (dsRows C D) E [.d (pD D gs)] S k :=
  r0 gs ⟨rfl, rfl, ok, sm, hl, hs⟩ fun e S' ⟨ls, h1, h2, h3⟩ => ⟨_, h2, h1, h ls h3⟩
end

section
variable {P : Program} {w0 : World} {K : PySem.W.Frag} {mg : Str → Option Value} {base : Heap}
def dsFal : DS := ds (α := List Int × Int) (fun a es S => es = [.d (lz a.1), .d (.int a.2)] ∧ S = [] ∧ a.1.length ≤ 5000 ∧ 0 < a.1.length ∧ (∀ i j, i ≤ j → j < a.1.length → a.1.getD i 0 ≤ a.1.getD j 0) ∧ a.2 ≤ a.1.getD (a.1.length - 1) 0)
  (fun a e S' => ∃ j : Nat, e = .d (.int j) ∧ S' = [] ∧ j < a.1.length ∧ (∀ i, i < j → a.1.getD i 0 < a.2) ∧ a.2 ≤ a.1.getD j 0)
theorem ok_fal {f : Addr} {fd : FuncData} (F : Fun K "first_at_least" "first_at_least" sfirst_at_least f fd) (T : Blt mg) : FnOk P w0 K mg base CX0 1 f fd ["starts", "value"] (spD K dsFal) := by
  refine fn0 F scfirst_at_least (fun es S p e h => by obtain ⟨a, ⟨h, _⟩, _⟩ := h; rw [h]; rfl) (fun cdv A outer s H E hr w es S p e hK hA h => ?_)
  subst hK
  obtain ⟨⟨s, v⟩, ⟨rfl, rfl, hl, hs, up, hv⟩, hp⟩ := h
  dsimp only at hl hs up hv hp
  refine ⟨_, (pss_cons (sset 2 pe_int scfirst_at_least.nd)
    (pss_cons (sset 3 (pe_op op_sub (b_len T.len (pv 0)) pe_int) scfirst_at_least.nd)
    (pss_cons (ps_while PassesOwn.never (pt_cmpR op_lt (pv 2) (pv 3) (nomark _))
      (pss_cons (sset 4 (pe_op op_fdivW (pe_op op_add (pv 2) (pv 3)) pe_int) scfirst_at_least.nd)
      (pss_one (ps_if (pt_cmpR op_lt (pe_ix ix_list (pv 0) (pv 4) (fun _ _ => rfl)) (pv 1) (nomark _))
        (pss_one (sset 2 (pe_op op_add (pv 4) pe_int) scfirst_at_least.nd))
        (pss_one (sset 3 (pv 4) scfirst_at_least.nd))))))
    (pss_one (ps_ret (pv 2)))))), ?_⟩
  try dsimp only [L2.cxOf, L2.Cx.nox]
  walk_at "gg"
  refine ls_while (fun m Γ S => S = [] ∧ ∃ (lo hi : Nat) (x : Option Ent), m = hi - lo ∧ lo ≤ hi ∧ hi < s.length ∧ (∀ i, i < lo → s.getD i 0 < v) ∧ v ≤ s.getD hi 0 ∧ Γ = [some (.d (lz s)), some (.d (.int v)), some (.d (.int lo)), some (.d (.int hi)), x])
    (s.length - 1) ⟨rfl, 0, s.length - 1, none, rfl, by omega, by omega, fun i h => by omega, hv, ?_⟩ ?_
  · have e : ((s.length : Int) - 1) = ((s.length - 1 : Nat) : Int) := by omega
    show [some (Ent.d (lz s)), some (Ent.d (.int v)), some (Ent.d (.int 0)), some (Ent.d (.int ((s.length : Int) - 1))), none] = _
    rw [e]; rfl
  · rintro m _ _ ⟨rfl, lo, hi, x, rfl, h1, h2, h3, h4, rfl⟩
    walk_at "gg"
    refine ⟨fun hb => ?_, fun hb => ?_⟩
    · have hlt := of_decide_eq_true hb
      walk_at "gg"
      refine rr_int (wide_div (b := 30) (by decide) (by decide) (by decide) (by decide)) ?_
      walk_at "gg"
      have em : ((lo : Int) + hi) / 2 = ((lo + hi) / 2 : Nat) := by simp
      rw [em]
      refine rr_ixL (ixI (by omega) (by omega)) ?_
      walk_at "gg"
      have e1 : (((lo + hi) / 2 : Nat) : Int).toNat = (lo + hi) / 2 := by omega
      rw [e1]
      refine ⟨fun hb2 => ?_, fun hb2 => ?_⟩
      · have h5 := of_decide_eq_true hb2
        walk_at "gg"
        refine ⟨hi - ((lo + hi) / 2 + 1), by omega, rfl, (lo + hi) / 2 + 1, hi, _, rfl, by omega, h2, fun i hi2 => ?_, h4, rfl⟩
        have := up i ((lo + hi) / 2) (by omega) (by omega)
        omega
      · have h5 : ¬ _ := of_decide_eq_false hb2
        walk_at "gg"
        refine ⟨(lo + hi) / 2 - lo, by omega, rfl, lo, (lo + hi) / 2, _, rfl, by omega, by omega, h3, by omega, rfl⟩
    · have hge : ¬ _ := of_decide_eq_false hb
      have e : lo = hi := by omega
      subst e
      walk_at "gg"
      exact hp _ _ ⟨lo, rfl, rfl, h2, h3, h4⟩
/-- the least place, as the program tells it -/
def leastD (s : List Int) (r v : Int) : D :=
  if r = 0 then .non else .int (-((s.getD (s.length - 1) 0 - v) / r) * s.length + (s.findIdx fun x => decide (v - -((s.getD (s.length - 1) 0 - v) / r) * r ≤ x) : Nat))
theorem findIdx_is {s : List Int} {u : Int} {j : Nat} (hj : j < s.length) (h1 : ∀ i, i < j → s.getD i 0 < u) (h2 : u ≤ s.getD j 0) : (s.findIdx fun x => decide (u ≤ x)) = j := by
  rw [List.findIdx_eq hj]
  rw [List.getD_eq_getElem?_getD, List.getElem?_eq_getElem hj] at h2
  refine ⟨decide_eq_true h2, fun i hi => ?_⟩
  have := h1 i hi
  rw [List.getD_eq_getElem?_getD, List.getElem?_eq_getElem (by omega)] at this
  exact decide_eq_false (by simpa using this)
def dsLeast (C : Addr) : DS := ds (α := List Int × Int × Int) (fun a es S => es = [.d (.obj C (lineF a.1 a.2.1)), .d (.int a.2.2)] ∧ S = [] ∧ Ln.Ok a.1 a.2.1 ∧ Big a.1 a.2.1 ∧ a.2.2.natAbs < 2 ^ 4000)
  (fun a e S' => e = .d (leastD a.1 a.2.1 a.2.2) ∧ S' = [])
theorem ok_least {f C : Addr} {fd : FuncData} (F : Fun K "least_at" "Line.least_at" sLineleast_at f fd) (T : Blt mg) (L : LC K mg C) (dfirst_at_least : Df P w0 K mg base CX0 1 "first_at_least" 2 dsFal) :
    FnOk P w0 K mg base CX0 2 f fd ["self", "value"] (spD K (dsLeast C)) := by
  refine fn0 F scLineleast_at (fun es S p e h => by obtain ⟨a, ⟨h, _⟩, _⟩ := h; rw [h]; rfl) (fun cdv A outer s H E hr w es S p e hK hA h => ?_)
  subst hK
  obtain ⟨⟨s, r, v⟩, ⟨rfl, rfl, ok, big, hv⟩, hp⟩ := h
  dsimp only at ok big hv hp
  have hl := big.len
  have hs := ok.pos
  have hr0 := ok.rise
  refine ⟨_, (pss_cons (ps_if (pt_cmpR op_eq (pe_fld (pv 0) rfl) pe_int (nomark _))
      (pss_one (ps_ret pe_non))
      pss_nil)
    (pss_cons (sset 2 (pe_un un_neg (pe_op op_fdivW (pe_op op_sub (pe_ix ix_list (pe_fld (pv 0) rfl) (pe_un un_neg pe_int) (fun _ _ => rfl)) (pv 1)) (pe_fld (pv 0) rfl))) scLineleast_at.nd)
    (pss_cons (sset 3 (pe_df dfirst_at_least (hr.mono (by decide)) pass0 (pa_cons (pe_fld (pv 0) rfl) (pa_cons (pe_op op_sub (pv 1) (pe_op op_mulW (pv 2) (pe_fld (pv 0) rfl))) pa_nil))) scLineleast_at.nd)
    (pss_one (ps_ret (pe_op op_add (pe_op op_mulW (pv 2) (b_len T.len (pe_fld (pv 0) rfl))) (pv 3))))))), ?_⟩
  try dsimp only [L2.cxOf, L2.Cx.nox]
  walk_at "gg"
  refine ⟨_, _, _, .inl rfl, L.cls, L.nR, lf_rise, ?_⟩
  walk_at "gg"
  refine ⟨fun hb => ?_, fun hb => ?_⟩
  · have e := eqI' hb
    subst e
    walk_at "gg"
    refine hp _ _ ⟨?_, rfl⟩
    show _ = Ent.d (leastD s 0 v)
    unfold leastD
    rw [if_pos rfl]
  · have hr1 : 0 < r := by have := neI' hb; omega
    have hla := big.el (s.length - 1)
    walk_at "gg"
    refine ⟨_, _, _, .inl rfl, L.cls, L.nS, lf_starts, ?_⟩
    walk_at "gg"
    refine rr_ixL (ixL hs) ?_
    walk_at "gg"
    refine ⟨_, _, _, .inl rfl, L.cls, L.nR, lf_rise, ?_⟩
    refine rr_int (wide_div (b := 4000) hr1 big.r (by decide) (by decide)) ?_
    walk_at "gg"
    have hq := div_abs (a := s.getD (s.length - 1) 0 - v) hr1
    have hqb : (-((s.getD (s.length - 1) 0 - v) / r)).natAbs < 2 ^ 4001 := by
      rw [Int.natAbs_neg]
      have : (2 : Nat) ^ 4001 = 2 ^ 4000 + 2 ^ 4000 := by rw [Nat.pow_succ] <;> omega
      omega
    refine ⟨_, _, _, .inl rfl, L.cls, L.nS, lf_starts, ?_⟩
    walk_at "gg"
    refine ⟨_, _, _, .inl rfl, L.cls, L.nR, lf_rise, ?_⟩
    refine rr_int (wide_mul (a := 4001) (b := 4000) hqb big.r (by decide) (by decide) (by decide)) ?_
    walk_at "gg"
    have hlast : v - -((s.getD (s.length - 1) 0 - v) / r) * r ≤ s.getD (s.length - 1) 0 := by
      have h1 := Int.mul_ediv_add_emod (s.getD (s.length - 1) 0 - v) r
      have h2 := Int.emod_nonneg (s.getD (s.length - 1) 0 - v) (show r ≠ 0 by omega)
      rw [Int.neg_mul, Int.mul_comm]
      omega
    refine r0 (s, v - -((s.getD (s.length - 1) 0 - v) / r) * r) ⟨rfl, rfl, hl, hs, fun i j h1 h2 => ok.le h1 h2, hlast⟩ ?_
    rintro _ _ ⟨j, rfl, rfl, hj, h1, h2⟩
    refine ⟨_, rfl, rfl, ?_⟩
    dsimp only at hj h1 h2
    walk_at "gg"
    refine ⟨_, _, _, .inl rfl, L.cls, L.nS, lf_starts, ?_⟩
    walk_at "gg"
    refine rr_int (wide_mul (a := 4001) (b := 20) hqb (by omega) (by decide) (by decide) (by decide)) ?_
    walk_at "gg"
    refine hp _ _ ⟨?_, rfl⟩
    show _ = Ent.d (leastD s r v)
    unfold leastD
    rw [if_neg (by omega), findIdx_is hj h1 h2]
end

section
/-- what least_at gives, in short -/
theorem leastD_is {s : List Int} {r v : Int} (o : Ln.Ok s r) (b : Big s r) (hv : v.natAbs < 2 ^ 4000) : (leastD s r v = .non ∧ r = 0) ∨ ∃ n : Int, leastD s r v = .int n ∧ r ≠ 0 ∧ v ≤ Ln.at_ s r n ∧ Ln.at_ s r (n - 1) < v ∧ n.natAbs < 2 ^ 8000 := by
  unfold leastD
  by_cases hr : r = 0
  · exact .inl ⟨if_pos hr, hr⟩
  · refine .inr ⟨_, if_neg hr, hr, ?_⟩
    have hr1 : 0 < r := by have := o.rise; omega
    have hs := o.pos
    have hlast : v - -((s.getD (s.length - 1) 0 - v) / r) * r ≤ s.getD (s.length - 1) 0 := by
      have h1 := Int.mul_ediv_add_emod (s.getD (s.length - 1) 0 - v) r
      have h2 := Int.emod_nonneg (s.getD (s.length - 1) 0 - v) (show r ≠ 0 by omega)
      rw [Int.neg_mul, Int.mul_comm]
      omega
    have hq := div_abs (a := s.getD (s.length - 1) 0 - v) hr1
    generalize hu : v - -((s.getD (s.length - 1) 0 - v) / r) * r = u at hlast ⊢
    have hj : (s.findIdx fun x => decide (u ≤ x)) < s.length := by
      rw [List.findIdx_lt_length]
      refine ⟨s.getD (s.length - 1) 0, ?_, decide_eq_true hlast⟩
      rw [List.getD_eq_getElem?_getD, List.getElem?_eq_getElem (show s.length - 1 < s.length by omega)]
      exact List.getElem_mem _
    have h1 : ∀ i, i < (s.findIdx fun x => decide (u ≤ x)) → s.getD i 0 < u := fun i hi => by
      have := List.not_of_lt_findIdx hi
      rw [List.getD_eq_getElem?_getD, List.getElem?_eq_getElem (show i < s.length by omega)]
      simpa using this
    have h2 : u ≤ s.getD (s.findIdx fun x => decide (u ≤ x)) 0 := by
      rw [List.getD_eq_getElem?_getD, List.getElem?_eq_getElem hj]
      have := List.findIdx_getElem (w := hj)
      simpa using this
    generalize (s.findIdx fun x => decide (u ≤ x)) = j at *
    subst hu
    have hl := Ln.least o hr1 j hj h1 h2
    refine ⟨hl.1, hl.2, ?_⟩
    have hla := b.el (s.length - 1)
    have hln := b.len
    have e1 : (2 : Nat) ^ 4001 = 2 ^ 4000 + 2 ^ 4000 := by rw [Nat.pow_succ] <;> omega
    have e2 : (-((s.getD (s.length - 1) 0 - v) / r)).natAbs < 2 ^ 4001 := by rw [Int.natAbs_neg]; omega
    have e3 : (-((s.getD (s.length - 1) 0 - v) / r) * s.length).natAbs < 2 ^ (4001 + 20) := wide_lt e2 (by omega)
    have e4 : (2 : Nat) ^ 8000 = 2 ^ (4001 + 20) * 2 ^ 3979 := by rw [← Nat.pow_add]
    have e5 : (2 : Nat) ^ (4001 + 20) * 2 ≤ 2 ^ (4001 + 20) * 2 ^ 3979 := Nat.mul_le_mul_left _ (by decide)
    have e6 : 6000 ≤ 2 ^ (4001 + 20) := by decide
    omega
end
section
variable {w : Wd} {S : List Own} {E : XK} {k : KE} {C : Addr}
theorem least {s : List Int} {r v : Int} (o : Ln.Ok s r) (b : Big s r) (hv : v.natAbs < 2 ^ 4000) (h : k (.d (leastD s r v)) S) : RS w (dsLeast C) E [.d (lineD C s r), .d (.int v)] S k :=
  r0 (s, r, v) ⟨rfl, rfl, o, b, hv⟩ fun e S' ⟨h1, h2⟩ => ⟨_, h2, h1, h⟩
end

section
variable {P : Program} {w0 : World} {K : PySem.W.Frag} {mg : Str → Option Value} {base : Heap}
/-- a line as it is kept, within bounds -/
structure Sm (s : List Int) (r : Int) : Prop where
  fm : Ln.Fm (Ln.at_ s r) 60 330 s r
  sl : ∀ n : Nat, n ≤ 60 → (Ln.at_ s r n - Ln.at_ s r 0).natAbs < 2 ^ 28
abbrev optI : Option Int → D | none => .non | some i => .int i
abbrev lh (s1 : List Int) (r1 : Int) (s2 : List Int) (r2 n : Int) : Int := Ln.at_ s1 r1 n - Ln.at_ s2 r2 n
def dsLead (C : Addr) : DS := ds (α := List Int × Int × List Int × Int × Int) (fun a es S => es = [.d (lineD C a.1 a.2.1), .d (lineD C a.2.2.1 a.2.2.2.1), .d (.int a.2.2.2.2)] ∧ S = [] ∧ Sm a.1 a.2.1 ∧ Sm a.2.2.1 a.2.2.2.1 ∧ a.2.2.2.2.natAbs < 2 ^ 120)
  (fun a e S' => e = .d (.int (lh a.1 a.2.1 a.2.2.1 a.2.2.2.1 a.2.2.2.2)) ∧ S' = [])
theorem ok_lead {f C : Addr} {fd : FuncData} (F : Fun K "lead_at" "lead_at" slead_at f fd) (T : Blt mg) (dat : Mt P w0 K mg base CX0 1 C "at" (dsLAt C)) : FnOk P w0 K mg base CX0 2 f fd ["first", "second", "place"] (spD K (dsLead C)) := by
  refine fn0 F sclead_at (fun es S p e h => by obtain ⟨a, ⟨h, _⟩, _⟩ := h; rw [h]; rfl) (fun cdv A outer s H E hr w es S p e hK hA h => ?_)
  subst hK
  obtain ⟨⟨s1, r1, s2, r2, n⟩, ⟨rfl, rfl, m1, m2, hn⟩, hp⟩ := h
  dsimp only at m1 m2 hn hp
  have hn' : n.natAbs < 2 ^ 9000 := Nat.lt_of_lt_of_le hn (Nat.pow_le_pow_right (by decide) (by decide))
  refine ⟨_, (pss_one (ps_ret (pe_op op_sub (pe_md dat (hr.mono (by decide)) pass0 (pv 0) (pa_cons (pv 2) pa_nil)) (pe_md dat (hr.mono (by decide)) pass0 (pv 1) (pa_cons (pv 2) pa_nil))))), ?_⟩
  try dsimp only [L2.cxOf, L2.Cx.nox]
  walk_at "gg"
  refine ⟨_, .inl rfl, lf_no (by decide +kernel) (by decide +kernel), ?_⟩
  walk_at "gg"
  refine latF m1.fm (by decide) (by decide) hn' ?_
  walk_at "gg"
  refine ⟨_, .inl rfl, lf_no (by decide +kernel) (by decide +kernel), ?_⟩
  walk_at "gg"
  refine latF m2.fm (by decide) (by decide) hn' ?_
  walk_at "gg"
  exact hp _ _ ⟨rfl, rfl⟩
theorem lead {C : Addr} {w : Wd} {S : List Own} {E : XK} {k : KE} {s1 s2 : List Int} {r1 r2 n : Int} (m1 : Sm s1 r1) (m2 : Sm s2 r2) (hn : n.natAbs < 2 ^ 120) (h : k (.d (.int (lh s1 r1 s2 r2 n))) S) : RS w (dsLead C) E [.d (lineD C s1 r1), .d (lineD C s2 r2), .d (.int n)] S k :=
  r0 (s1, r1, s2, r2, n) ⟨rfl, rfl, m1, m2, hn⟩ fun e S' ⟨h1, h2⟩ => ⟨_, h2, h1, h⟩
/-- the common round of two lines -/
theorem round_ {s1 s2 : List Int} {r1 r2 : Int} (m1 : Sm s1 r1) (m2 : Sm s2 r2) (hlc : Nat.lcm s1.length s2.length ≤ 60) : 0 < Nat.lcm s1.length s2.length ∧ Nat.lcm s1.length s2.length ≤ 60 ∧ (∀ n, lh s1 r1 s2 r2 (n + (Nat.lcm s1.length s2.length : Nat)) = lh s1 r1 s2 r2 n + (lh s1 r1 s2 r2 (Nat.lcm s1.length s2.length : Nat) - lh s1 r1 s2 r2 0)) ∧
    (lh s1 r1 s2 r2 (Nat.lcm s1.length s2.length : Nat) - lh s1 r1 s2 r2 0).natAbs < 2 ^ 29 := by
  have p1 := m1.fm.ok.pos
  have p2 := m2.fm.ok.pos
  have l1 := m1.fm.bd.len
  have l2 := m2.fm.bd.len
  have hle := Nat.le_of_dvd (Nat.mul_pos p1 p2) (Nat.lcm_dvd_mul s1.length s2.length)
  have hmul := Nat.mul_le_mul l1 l2
  obtain ⟨q1, e1⟩ := Nat.dvd_lcm_left s1.length s2.length
  obtain ⟨q2, e2⟩ := Nat.dvd_lcm_right s1.length s2.length
  have hpos := Nat.lcm_pos p1 p2
  generalize Nat.lcm s1.length s2.length = L at *
  have gain : ∀ (s : List Int) (r : Int) (q : Nat), 0 < s.length → L = s.length * q → ∀ n, Ln.at_ s r (n + (L : Nat)) = Ln.at_ s r n + q * r := fun s r q hs e n => by
    have := Ln.at_mul (r := r) hs q n
    rw [← this, e, Int.natCast_mul, Int.mul_comm]
  have g1 := gain s1 r1 q1 p1 e1
  have g2 := gain s2 r2 q2 p2 e2
  have z1 := g1 0
  have z2 := g2 0
  rw [Int.zero_add] at z1 z2
  have b1 := m1.sl L hlc
  have b2 := m2.sl L hlc
  refine ⟨hpos, by omega, fun n => ?_, ?_⟩
  · have := g1 n
    have := g2 n
    unfold lh
    omega
  · unfold lh
    omega
end

section
/-- the least period divides every period -/
theorem lp_dvd {s : List Int} {r : Int} {p d : Nat} (h : Ln.Lp s r p) (hd : 0 < d) (q : Ln.IsPer (Ln.at_ s r) d) : p ∣ d := by
  have hs : 0 < s.length := Nat.lt_of_lt_of_le h.pos h.le
  have ip := Ln.isPer_of h.pos h.dv hs h.per
  have g := Ln.IsPer.gcd d p q ip
  have g0 : 0 < Nat.gcd d p := Nat.gcd_pos_of_pos_left _ hd
  have l1 := h.le_of g0 g
  have l2 := Nat.gcd_le_right d h.pos
  have e : Nat.gcd d p = p := by omega
  rw [← e]; exact Nat.gcd_dvd_left _ _
theorem mk_slope {n : Int} {x : Stp} (h : x.ok n = true) (sm : x.small) {u v : Int} (hu : u ≤ v) : x.mk v - x.mk u ≤ 6 * (v - u) := by
  cases x with
  | win r l s p =>
    simp [Stp.ok, Stp.nums] at h
    simp only [Stp.mk]
    have h1 := Int.mul_ediv_add_emod (v + 2 * p - l) s
    have h2 := Int.mul_ediv_add_emod (u + 2 * p - l) s
    have h3 := Int.emod_nonneg (v + 2 * p - l) (show s ≠ 0 by omega)
    have h4 := Int.emod_lt_of_pos (u + 2 * p - l) (show 0 < s by omega)
    generalize (v + 2 * p - l) / s = a at *
    generalize (u + 2 * p - l) / s = b at *
    have h5 : s * (a - b) < (v - u) + s := by rw [Int.mul_sub]; omega
    have h6 : s * (a - b - 1) < v - u := by rw [Int.mul_sub, Int.mul_one]; omega
    rcases Int.lt_or_le (a - b - 1) 0 with q | q
    · omega
    · have h7 := Int.mul_le_mul_of_nonneg_right (show 1 ≤ s by omega) q
      omega
  | rep r t =>
    simp [Stp.ok, Stp.nums] at h
    have s1 : t ≤ 6 := sm
    simp only [Stp.mk]
    rw [← Int.mul_sub]
    exact Int.mul_le_mul_of_nonneg_right s1 (by omega)
  | _ =>
    simp only [Stp.mk]
    omega
theorem rows_slope {gs : List Stp} (ok : PipeOk gs) (sm : ∀ x ∈ gs, x.small) : ∀ m, m ≤ gs.length → ∀ i, i ≤ m → ∀ u v, u ≤ v → rowF (gs.take m) i v - rowF (gs.take m) i u ≤ 6 ^ m * (v - u)
  | 0, _, i, hi => by
    have e : i = 0 := by omega
    subst e
    rw [List.take_zero]
    intro u v huv
    show v - u ≤ 6 ^ 0 * (v - u)
    omega
  | m + 1, h, i, hi => by
    intro u v huv
    have hx : gs[m]? = some gs[m] := List.getElem?_eq_getElem (by omega)
    have okx := ok m _ hx
    have smx := sm _ (List.mem_of_getElem? hx)
    generalize gs[m] = x at hx okx smx
    have hl := take_len (gs := gs) (m := m) (by omega)
    rw [take_snoc hx]
    have e6 : (6 : Int) ^ (m + 1) * (v - u) = 6 * (6 ^ m * (v - u)) := by rw [Int.pow_succ, Int.mul_comm ((6 : Int) ^ m) 6, Int.mul_assoc]
    have hp : 0 ≤ (6 : Int) ^ m * (v - u) := Int.mul_nonneg (Int.pow_nonneg (by decide)) (by omega)
    by_cases hm : i ≤ m
    · have ih := rows_slope ok sm m (by omega) i hm u v huv
      rw [rowF_old (by omega), rowF_old (by omega), e6]
      omega
    · have ei : i = (gs.take m).length + 1 := by omega
      subst ei
      obtain ⟨r0, r1⟩ := row_ok okx
      have ih := rows_slope ok sm m (by omega) x.row.toNat (by omega) u v huv
      have mo := (rows_rw ok m (by omega) x.row.toNat (by omega)).mono u v huv
      rw [rowF_new, rowF_new, e6]
      have := mk_slope okx smx mo
      omega
theorem row_slope {gs : List Stp} (ok : PipeOk gs) (sm : ∀ x ∈ gs, x.small) (hl : gs.length ≤ 8) {i : Nat} (hi : i ≤ gs.length) {n : Nat} (hn : n ≤ 60) : (rowF gs i n - rowF gs i 0).natAbs < 2 ^ 28 := by
  have h1 := rows_slope ok sm gs.length (Nat.le_refl _) i hi 0 n (by omega)
  rw [List.take_length] at h1
  have h2 := (row_rw ok hi).mono 0 n (by omega)
  have h3 : (6 : Int) ^ gs.length * ((n : Int) - 0) ≤ 6 ^ 8 * 60 := by
    refine Int.mul_le_mul ?_ (by omega) (by omega) (by decide)
    have := Nat.pow_le_pow_right (show 0 < 6 by decide) hl
    have e : ((6 ^ gs.length : Nat) : Int) ≤ ((6 ^ 8 : Nat) : Int) := Int.ofNat_le.mpr this
    simpa using e
  have e : (6 : Int) ^ 8 * 60 = 100776960 := by decide
  omega
/-- the line of a row of a pipeline -/
structure RowL (gs : List Stp) (i : Nat) (s : List Int) (r : Int) : Prop where
  fm : Ln.Fm (rowF gs i) 60 330 s r
  dv : s.length ∣ Sp gs
  sm : Sm s r
theorem rowL {gs : List Stp} (ok : PipeOk gs) (sm : ∀ x ∈ gs, x.small) (hl : gs.length ≤ 8) {i : Nat} (hi : i ≤ gs.length) {s : List Int} {r : Int} (F : Ln.Fm (rowF gs i) 60 330 s r) : RowL gs i s r where
  fm := F
  dv := by
    obtain ⟨Q, q1, q2⟩ := (row_rw ok hi).per
    have hp : 0 < Sp gs := by have := Sp_pos ok gs.length (Nat.le_refl _); rwa [List.take_length] at this
    exact lp_dvd F.lp hp ⟨Q, fun n => by rw [F.at_, F.at_]; exact q2 n⟩
  sm := ⟨fm_mono F (Nat.le_refl _) (Nat.le_refl _) F.at_, fun n hn => by rw [F.at_, F.at_]; exact row_slope ok sm hl hi hn⟩
theorem RowL.lcm {gs : List Stp} (ok : PipeOk gs) (hs : Sp gs ≤ 60) {i j : Nat} {s s' : List Int} {r r' : Int} (R : RowL gs i s r) (R' : RowL gs j s' r') : Nat.lcm s.length s'.length ≤ 60 := by
  have hp : 0 < Sp gs := by have := Sp_pos ok gs.length (Nat.le_refl _); rwa [List.take_length] at this
  have := Nat.le_of_dvd hp (Nat.lcm_dvd R.dv R'.dv)
  omega
/-- the first of so many places with P -/
def UpTo (P : Int → Prop) (b : Int) (n : Nat) : Option Int → Prop
  | some p => b ≤ p ∧ P p ∧ ∀ m, b ≤ m → m < p → ¬ P m
  | none => ∀ m, b ≤ m → m < b + n → ¬ P m
theorem UpTo.some_ {P : Int → Prop} {b p : Int} {n : Nat} {o : Option Int} (h : UpTo P b n (some p)) (l : Ln.LeastAt P b o) : o = some p := Ln.LeastAt.uniq l (u := some p) h
theorem UpTo.none_ {P : Int → Prop} {b m : Int} {n : Nat} (h : UpTo P b n none) (l : Ln.LeastAt P b (some m)) : b + n ≤ m := by
  obtain ⟨l1, l2, _⟩ := l
  rcases Int.lt_or_le m (b + n) with q | q
  · exact absurd l2 (h m l1 q)
  · exact q
end

section
theorem ixR {gs : List Stp} {i : Nat} {n r : Int} (h0 : 0 ≤ r) (h1 : r ≤ i) (hi : i ≤ gs.length) : atI ((rowsZ (gs.take i) n).map D.int) r = some (.int ((rowsZ (gs.take i) n).getD r.toNat 0)) :=
  ixI h0 (by rw [rowsZ_len, List.length_take, Nat.min_eq_left hi]; omega)
variable {P : Program} {w0 : World} {K : PySem.W.Frag} {mg : Str → Option Value} {base : Heap}
/-- what is wrong -/
inductive Flt where | ok | small (r v : Int) | join (r a b : Int)
deriving DecidableEq
def Flt.d : Flt → D
  | .ok => .non
  | .small r v => .tup [.str "small", .int r, .int v]
  | .join r a b => .tup [.str "join", .int r, .int a, .int b]
def Flt.p : Flt → PyData
  | .ok => .none
  | .small r v => .tuple [.str "small", .int r, .int v]
  | .join r a b => .tuple [.str "join", .int r, .int a, .int b]
def Stp.flt (ws : List Int) (i : Nat) (x : Stp) : Option Flt :=
  if ws.getD (i + 1) 0 < 1 then some (.small ((i + 1 : Nat) : Int) (ws.getD (i + 1) 0)) else
  match x with
  | .join r o => if ws.getD r.toNat 0 = ws.getD o.toNat 0 then none else some (.join ((i + 1 : Nat) : Int) (ws.getD r.toNat 0) (ws.getD o.toNat 0))
  | _ => none
def fltFrom (ws : List Int) : Nat → List Stp → Flt
  | _, [] => .ok
  | i, x :: xs => match x.flt ws i with
    | some f => f
    | none => fltFrom ws (i + 1) xs
def faultZ (gs : List Stp) (n : Int) : Flt := fltFrom (rowsZ gs n) 0 gs
theorem flt_yes {ws : List Int} {gs : List Stp} {i : Nat} {x : Stp} {f : Flt} (hx : gs[i]? = some x) (h : x.flt ws i = some f) : fltFrom ws i (gs.drop i) = f := by
  obtain ⟨hi, rfl⟩ := List.getElem?_eq_some_iff.mp hx
  rw [List.drop_eq_getElem_cons hi, fltFrom, h]
theorem flt_no {ws : List Int} {gs : List Stp} {i : Nat} {x : Stp} (hx : gs[i]? = some x) (h : x.flt ws i = none) : fltFrom ws i (gs.drop i) = fltFrom ws (i + 1) (gs.drop (i + 1)) := by
  obtain ⟨hi, rfl⟩ := List.getElem?_eq_some_iff.mp hx
  rw [List.drop_eq_getElem_cons hi, fltFrom, h]
def dsChkSize : DS := ds (α := Int) (fun a es S => es = [.d (.int a)] ∧ S = [] ∧ 1 ≤ a) (fun a e S' => e = .d .non ∧ S' = [])
theorem chkSize {w : Wd} {S : List Own} {E : XK} {k : KE} {n : Int} (hn : 1 ≤ n) (h : k (.d .non) S) : RS w dsChkSize E [.d (.int n)] S k := r0 n ⟨rfl, rfl, hn⟩ fun e S' ⟨h1, h2⟩ => ⟨_, h2, h1, h⟩
def SzPre (a : List Stp × Int) : Prop := PipeOk a.1 ∧ (∀ x ∈ a.1, x.small) ∧ a.1.length ≤ 30 ∧ a.2.natAbs < 2 ^ 200 ∧ 1 ≤ a.2
def dsSizesAt (D : Addr) : DS := ds (α := List Stp × Int) (fun a es S => es = [.d (pD D a.1), .d (.int a.2)] ∧ S = [] ∧ SzPre a) (fun a e S' => e = .d (lz (rowsZ a.1 a.2)) ∧ S' = [])
def dsSizesAtO (D : Addr) : DS := ds (α := List Stp × Int) (fun a es S => es = [.d (pD D a.1), .d (.int a.2)] ∧ S = [] ∧ SzPre a) (fun a e S' => e = .own 0 ∧ S' = [.lst ((rowsZ a.1 a.2).map Gm.D.int)])
theorem szAt {w : Wd} {D : Addr} {S : List Own} {E : XK} {k : KE} {gs : List Stp} {n : Int} (h0 : SzPre (gs, n)) (h : k (.d (lz (rowsZ gs n))) S) : RS w (dsSizesAt D) E [.d (pD D gs), .d (.int n)] S k :=
  r0 (gs, n) ⟨rfl, rfl, h0⟩ fun e S' ⟨h1, h2⟩ => ⟨_, h2, h1, h⟩
theorem szAtO {w : Wd} {D : Addr} {S : List Own} {E : XK} {k : KE} {gs : List Stp} {n : Int} (h0 : SzPre (gs, n)) (h : k (.own S.length) (S ++ [.lst ((rowsZ gs n).map Gm.D.int)])) : RS w (dsSizesAtO D) E [.d (pD D gs), .d (.int n)] S k :=
  r0O (gs, n) ⟨rfl, rfl, h0⟩ fun e S' ⟨h1, h2⟩ => ⟨_, h2, h1, h⟩
def dsWhy (D : Addr) : DS := ds (α := List Stp × Int) (fun a es S => es = [.d (pD D a.1), .d (.int a.2)] ∧ S = [] ∧ SzPre a) (fun a e S' => e = .d (faultZ a.1 a.2).d ∧ S' = [])
theorem why {w : Wd} {D : Addr} {S : List Own} {E : XK} {k : KE} {gs : List Stp} {n : Int} (h0 : SzPre (gs, n)) (h : k (.d (faultZ gs n).d) S) : RS w (dsWhy D) E [.d (pD D gs), .d (.int n)] S k :=
  r0 (gs, n) ⟨rfl, rfl, h0⟩ fun e S' ⟨h1, h2⟩ => ⟨_, h2, h1, h⟩
def Flt.no : Flt → Bool | .ok => true | _ => false
def dsFits (D : Addr) : DS := ds (α := List Stp × Int) (fun a es S => es = [.d (pD D a.1), .d (.int a.2)] ∧ S = [] ∧ SzPre a) (fun a e S' => e = .d (.bl (faultZ a.1 a.2).no) ∧ S' = [])
theorem fitsP {w : Wd} {D : Addr} {S : List Own} {E : XK} {k : KE} {gs : List Stp} {n : Int} (h0 : SzPre (gs, n)) (h : k (.d (.bl (faultZ gs n).no)) S) : RS w (dsFits D) E [.d (pD D gs), .d (.int n)] S k :=
  r0 (gs, n) ⟨rfl, rfl, h0⟩ fun e S' ⟨h1, h2⟩ => ⟨_, h2, h1, h⟩
end

section
/-- a size goes through -/
def FitP (gs : List Stp) (n : Int) : Prop := (∀ i, i ≤ gs.length → 1 ≤ rowF gs i n) ∧ ∀ r o, Stp.join r o ∈ gs → rowF gs r.toNat n = rowF gs o.toNat n
theorem rowF_zero_ (gs : List Stp) (n : Int) : ∀ m, m ≤ gs.length → rowF (gs.take m) 0 n = n
  | 0, _ => by rw [List.take_zero]; rfl
  | m + 1, h => by
    rw [take_snoc (List.getElem?_eq_getElem (show m < gs.length by omega)), rowF_old (Nat.zero_le _)]
    exact rowF_zero_ gs n m (by omega)
theorem rowF_zero (gs : List Stp) (n : Int) : rowF gs 0 n = n := by
  have := rowF_zero_ gs n gs.length (Nat.le_refl _)
  rwa [List.take_length] at this
theorem flt_bad {ws : List Int} {x : Stp} {i : Nat} {f : Flt} (h : x.flt ws i = some f) : f.no = false := by
  unfold Stp.flt at h
  split at h
  · cases h; rfl
  · cases x with
    | join r o =>
      dsimp only at h
      split at h
      · cases h
      · cases h; rfl
    | _ => cases h
theorem flt_all {ws : List Int} : ∀ (xs : List Stp) (i : Nat), (fltFrom ws i xs).no = true ↔ ∀ (j : Nat) (x : Stp), xs[j]? = some x → x.flt ws (i + j) = none
  | [], i => ⟨fun _ j x h => (by simp at h), fun _ => rfl⟩
  | x :: xs, i => by
    unfold fltFrom
    cases hx : x.flt ws i with
    | some f =>
      dsimp only
      rw [flt_bad hx]
      refine ⟨fun h => Bool.noConfusion h, fun h => ?_⟩
      have := h 0 x rfl
      rw [Nat.add_zero, hx] at this
      cases this
    | none =>
      dsimp only
      rw [flt_all xs (i + 1)]
      constructor
      · intro h j y hy
        cases j with
        | zero => cases hy; exact hx
        | succ j =>
          have := h j y (by simpa using hy)
          rwa [show i + 1 + j = i + (j + 1) by omega] at this
      · intro h j y hy
        have := h (j + 1) y (by simpa using hy)
        rwa [show i + (j + 1) = i + 1 + j by omega] at this
theorem flt_none {gs : List Stp} {n : Int} {i : Nat} {x : Stp} : x.flt (rowsZ gs n) i = none ↔ 1 ≤ rowF gs (i + 1) n ∧ ∀ r o, x = Stp.join r o → rowF gs r.toNat n = rowF gs o.toNat n := by
  unfold Stp.flt
  show (if rowF gs (i + 1) n < 1 then _ else _) = none ↔ _
  by_cases h : rowF gs (i + 1) n < 1
  · rw [if_pos h]
    exact ⟨fun z => (by cases z), fun z => (by omega)⟩
  · rw [if_neg h]
    cases x with
    | join r o =>
      dsimp only
      show (if rowF gs r.toNat n = rowF gs o.toNat n then _ else _) = none ↔ _
      by_cases e : rowF gs r.toNat n = rowF gs o.toNat n
      · rw [if_pos e]
        exact ⟨fun _ => ⟨by omega, fun r' o' z => by cases z; exact e⟩, fun _ => rfl⟩
      · rw [if_neg e]
        exact ⟨fun z => (by cases z), fun z => absurd (z.2 r o rfl) e⟩
    | _ => exact ⟨fun _ => ⟨by omega, fun r' o' z => by cases z⟩, fun _ => rfl⟩
theorem fault_fit {gs : List Stp} {n : Int} (hn : 1 ≤ n) : (faultZ gs n).no = true ↔ FitP gs n := by
  unfold faultZ
  rw [flt_all]
  constructor
  · intro h
    refine ⟨fun i hi => ?_, fun r o hm => ?_⟩
    · cases i with
      | zero => rw [rowF_zero]; exact hn
      | succ i =>
        have := h i _ (List.getElem?_eq_getElem (by omega))
        rw [Nat.zero_add] at this
        exact (flt_none.mp this).1
    · obtain ⟨j, hj⟩ := List.getElem?_of_mem hm
      have := h j _ hj
      exact (flt_none.mp this).2 r o rfl
  · rintro ⟨h1, h2⟩ j x hx
    rw [Nat.zero_add]
    have hjl := (List.getElem?_eq_some_iff.mp hx).1
    refine flt_none.mpr ⟨h1 (j + 1) (by omega), fun r o e => h2 r o ?_⟩
    rw [← e]; exact List.mem_of_getElem? hx
theorem FitP.pos {gs : List Stp} {n : Int} (h : FitP gs n) : 1 ≤ n := by have := h.1 0 (Nat.zero_le _); rwa [rowF_zero] at this
/-- the rows that joins put together -/
def Stp.jn2 : Stp → Option (Int × Int) | .join r o => some (r, o) | _ => none
def jns (gs : List Stp) : List (Int × Int) := gs.filterMap Stp.jn2
theorem jns_mem {gs : List Stp} {p : Int × Int} : p ∈ jns gs ↔ Stp.join p.1 p.2 ∈ gs := by
  unfold jns
  rw [List.mem_filterMap]
  constructor
  · rintro ⟨x, hx, e⟩
    cases x with
    | join r o => cases e; exact hx
    | _ => cases e
  · intro h
    exact ⟨_, h, rfl⟩
abbrev Lp2 := (List Int × Int) × (List Int × Int)
abbrev lnAt (ls : List (List Int × Int)) (i : Int) : List Int × Int := ls.getD i.toNat ([], 0)
def prs (gs : List Stp) (ls : List (List Int × Int)) : List Lp2 := (jns gs).map fun p => (lnAt ls p.1, lnAt ls p.2)
/-- a pair of lines of rows -/
structure PrOk (gs : List Stp) (q : Lp2) : Prop where
  ex : ∃ i j : Nat, i ≤ gs.length ∧ j ≤ gs.length ∧ RowL gs i q.1.1 q.1.2 ∧ RowL gs j q.2.1 q.2.2
theorem lines_at {gs : List Stp} {ls : List (List Int × Int)} (ok : PipeOk gs) (sm : ∀ x ∈ gs, x.small) (hl : gs.length ≤ 8) (hs : Sp gs ≤ 60) (h : LinesOk gs ls) {i : Nat} (hi : i ≤ gs.length) : RowL gs i (ls.getD i ([], 0)).1 (ls.getD i ([], 0)).2 := by
  have hil : i < ls.length := by rw [h.len]; omega
  have e : ls[i]? = some (ls.getD i ([], 0)) := by rw [List.getD_eq_getElem?_getD, List.getElem?_eq_getElem hil]; rfl
  exact rowL ok sm hl hi (fm_mono (h.fm i _ e) hs (by omega) fun _ => rfl)
theorem prs_ok {gs : List Stp} {ls : List (List Int × Int)} (ok : PipeOk gs) (sm : ∀ x ∈ gs, x.small) (hl : gs.length ≤ 8) (hs : Sp gs ≤ 60) (h : LinesOk gs ls) {q : Lp2} (hq : q ∈ prs gs ls) : PrOk gs q := by
  unfold prs at hq
  obtain ⟨p, hp, rfl⟩ := List.mem_map.mp hq
  obtain ⟨i0, hi0⟩ := List.getElem?_of_mem (jns_mem.mp hp)
  have hx1 := ok i0 _ hi0
  have hi0l := (List.getElem?_eq_some_iff.mp hi0).1
  simp [Stp.ok] at hx1
  exact ⟨p.1.toNat, p.2.toNat, by omega, by omega, lines_at ok sm hl hs h (by omega), lines_at ok sm hl hs h (by omega)⟩
/-- by the lines: a size goes through -/
theorem fit_prs {gs : List Stp} {ls : List (List Int × Int)} (ok : PipeOk gs) (sm : ∀ x ∈ gs, x.small) (hl : gs.length ≤ 8) (hs : Sp gs ≤ 60) (h : LinesOk gs ls) {n : Int} : (∀ r o, Stp.join r o ∈ gs → rowF gs r.toNat n = rowF gs o.toNat n) ↔ ∀ q ∈ prs gs ls, lh q.1.1 q.1.2 q.2.1 q.2.2 n = 0 := by
  have key : ∀ r o, Stp.join r o ∈ gs → (lh (lnAt ls r).1 (lnAt ls r).2 (lnAt ls o).1 (lnAt ls o).2 n = rowF gs r.toNat n - rowF gs o.toNat n) := fun r o hm => by
    obtain ⟨i0, hi0⟩ := List.getElem?_of_mem hm
    have hx1 := ok i0 _ hi0
    have hi0l := (List.getElem?_eq_some_iff.mp hi0).1
    simp [Stp.ok] at hx1
    have f1 := (lines_at ok sm hl hs h (i := r.toNat) (by omega)).fm.at_ n
    have f2 := (lines_at ok sm hl hs h (i := o.toNat) (by omega)).fm.at_ n
    unfold lh
    rw [f1, f2]
  unfold prs
  constructor
  · intro z q hq
    obtain ⟨p, hp, rfl⟩ := List.mem_map.mp hq
    have hm := jns_mem.mp hp
    have := z _ _ hm
    have := key _ _ hm
    dsimp only at this ⊢
    omega
  · intro z r o hm
    have := z _ (List.mem_map.mpr ⟨(r, o), jns_mem.mpr hm, rfl⟩)
    have := key r o hm
    dsimp only at *
    omega
/-- lines that rise alike go on alike -/
theorem alike_per {s1 s2 : List Int} {r1 r2 : Int} (p1 : 0 < s1.length) (p2 : 0 < s2.length) (ha : r1 * s2.length = r2 * s1.length) {L : Nat} (d1 : s1.length ∣ L) (d2 : s2.length ∣ L) (n : Int) : lh s1 r1 s2 r2 (n + L) = lh s1 r1 s2 r2 n := by
  obtain ⟨k1, e1⟩ := d1
  obtain ⟨k2, e2⟩ := d2
  have g1 := Ln.at_mul (r := r1) p1 k1 n
  have g2 := Ln.at_mul (r := r2) p2 k2 n
  have e1' : (L : Int) = (k1 : Int) * s1.length := by rw [e1, Int.natCast_mul, Int.mul_comm]
  have e2' : (L : Int) = (k2 : Int) * s2.length := by rw [e2, Int.natCast_mul, Int.mul_comm]
  rw [← e1'] at g1
  rw [← e2'] at g2
  -- k1 r1 = k2 r2
  have h3 : ((k1 : Int) * r1) * ((s1.length : Int) * s2.length) = ((k2 : Int) * r2) * ((s1.length : Int) * s2.length) := by
    have a1 : ((k1 : Int) * r1) * ((s1.length : Int) * s2.length) = ((k1 : Int) * s1.length) * (r1 * s2.length) := by ac_rfl
    have a2 : ((k2 : Int) * r2) * ((s1.length : Int) * s2.length) = ((k2 : Int) * s2.length) * (r2 * s1.length) := by ac_rfl
    rw [a1, a2, ← e1', ← e2', ha]
  have h4 : (k1 : Int) * r1 = (k2 : Int) * r2 := Int.eq_of_mul_eq_mul_right (Int.mul_ne_zero (by omega) (by omega)) h3
  unfold lh
  omega
theorem apart_gain {s1 s2 : List Int} {r1 r2 : Int} (p1 : 0 < s1.length) (p2 : 0 < s2.length) (ha : r1 * s2.length ≠ r2 * s1.length) : lh s1 r1 s2 r2 (Nat.lcm s1.length s2.length : Nat) - lh s1 r1 s2 r2 0 ≠ 0 := by
  obtain ⟨k1, e1⟩ := Nat.dvd_lcm_left s1.length s2.length
  obtain ⟨k2, e2⟩ := Nat.dvd_lcm_right s1.length s2.length
  have hpos := Nat.lcm_pos p1 p2
  generalize Nat.lcm s1.length s2.length = L at *
  have g1 := Ln.at_mul (r := r1) p1 k1 0
  have g2 := Ln.at_mul (r := r2) p2 k2 0
  have e1' : (L : Int) = (k1 : Int) * s1.length := by rw [e1, Int.natCast_mul, Int.mul_comm]
  have e2' : (L : Int) = (k2 : Int) * s2.length := by rw [e2, Int.natCast_mul, Int.mul_comm]
  rw [← e1', Int.zero_add] at g1
  rw [← e2', Int.zero_add] at g2
  intro z
  unfold lh at z
  have h4 : (k1 : Int) * r1 = (k2 : Int) * r2 := by omega
  have a1 : (r1 * s2.length) * ((k1 : Int) * k2) = ((k1 : Int) * r1) * ((k2 : Int) * s2.length) := by ac_rfl
  have a2 : (r2 * s1.length) * ((k1 : Int) * k2) = ((k2 : Int) * r2) * ((k1 : Int) * s1.length) := by ac_rfl
  have h5 : (r1 * s2.length) * ((k1 : Int) * k2) = (r2 * s1.length) * ((k1 : Int) * k2) := by rw [a1, a2, ← e1', ← e2', h4]
  have k1' : k1 ≠ 0 := fun z => by subst z; omega
  have k2' : k2 ≠ 0 := fun z => by subst z; omega
  exact ha (Int.eq_of_mul_eq_mul_right (Int.mul_ne_zero (by omega) (by omega)) h5)
end

local macro_rules | `(tactic| walk_at "go") => `(tactic| (first
  | ((with_reducible refine le_var (e := ?e) ?h ?_); (case h => rfl))
  | with_reducible refine le_int ?_
  | with_reducible refine le_op ?_
  | with_reducible refine rr_int0 ?_
  | with_reducible refine rr_bl0 ?_
  | with_reducible refine le_sortSet ?_
  | with_reducible refine le_cb ?_
  | with_reducible refine la_cons ?_
  | with_reducible refine la_nil ?_
  | with_reducible refine rc_int ?_
  | with_reducible refine ls_seq ?_
  | with_reducible refine ls_set ?_
  | with_reducible refine ls_ret ?_
  | with_reducible refine ls_next ?_
  | with_reducible refine ls_drop ?_
  | with_reducible refine ls_fld ?_
  | with_reducible refine le_methK ?_
  | with_reducible refine le_callK ?_
  | with_reducible refine ls_if ?_
  | with_reducible refine lt_test ?_
  | ((with_reducible refine rr_ixO (ds := ?ds) (d := ?d) ?h1 ?h2 ?_); (case h1 => rfl); (case h2 => rfl))
  | ((with_reducible refine rr_ixT (ds := ?ds) (d := ?d) ?h ?_); (case h => rfl))
  | with_reducible refine le_un ?_
  | with_reducible refine r1_int ?_
  | with_reducible refine ls_asg ?_
  | with_reducible refine lg_name ?_
  | with_reducible refine lg_tup2 ?_
  | with_reducible refine lg_tup3 ?_
  | with_reducible refine lg_tup4 ?_
  | with_reducible refine lg_tup5 ?_
  | with_reducible refine lg_sub ?_
  | with_reducible refine le_tup ?_
  | with_reducible refine le_lst ?_
  | with_reducible refine le_bl ?_
  | with_reducible refine le_str ?_
  | with_reducible refine le_non ?_
  | with_reducible refine le_cls ?_
  | with_reducible refine le_ty ?_
  | with_reducible refine la_perm ?_
  | with_reducible refine le_chain ?_
  | with_reducible refine le_call ?_
  | with_reducible refine le_bmL ?_
  | with_reducible refine le_bmL0 ?_
  | with_reducible refine le_if ?_
  | with_reducible refine lt_and ?_
  | with_reducible refine lt_or ?_
  | with_reducible refine lt_not ?_
  | with_reducible refine lt_tb ?_
  | with_reducible refine le_andV ?_
  | with_reducible refine le_orV ?_
  | with_reducible refine le_notV ?_
  | with_reducible refine le_fld ?_
  | with_reducible refine le_meth ?_
  | with_reducible refine le_prop ?_
  | with_reducible refine le_slL ?_
  | with_reducible refine le_slT ?_
  | with_reducible refine lo_none ?_
  | with_reducible refine lo_some ?_
  | with_reducible refine le_listRg2 ?_
  | with_reducible refine lt_yes ?_
  | with_reducible refine lcd_yes ?_
  | with_reducible refine ls_par ?_
  | with_reducible refine ls_par3 ?_
  | with_reducible refine ls_retN ?_
  | with_reducible refine ls_brk ?_
  | with_reducible refine ls_cont ?_
  | with_reducible refine rc_len (len_lz _) ?_
  | ((with_reducible refine rc_len (n := ?n) ?h ?_); (case h => rfl))
  | ((with_reducible refine rc_lenO (ds := ?ds) ?h ?_); (case h => rfl))
  | with_reducible refine rc_abs ?_
  | with_reducible refine rc_max2 ?_
  | with_reducible refine rc_min2 ?_
  | ((with_reducible refine rr_eq (u := ?u) (v := ?v) ?h1 ?h2 ?h3 ?_); (case h1 => rfl); (case h2 => rfl); (case h3 => rfl))
  | ((with_reducible refine rr_ne (u := ?u) (v := ?v) ?h1 ?h2 ?h3 ?_); (case h1 => rfl); (case h2 => rfl); (case h3 => rfl))
  | with_reducible refine rr_isN ?_
  | with_reducible refine rr_notN ?_
  | refine ⟨_, rfl, sz rfl, ?_⟩
  | refine ⟨_, rfl, ?_⟩
  ))

local macro_rules | `(tactic| walk_at "gg") => `(tactic| repeat walk_at "go")
local macro_rules | `(tactic| walk_at "envle") => `(tactic| repeat (first | exact EnvLe.nil | refine EnvLe.same rfl ?_ | refine EnvLe.none ?_))

section
variable {P : Program} {w0 : World} {K : PySem.W.Frag} {mg : Str → Option Value} {base : Heap}
abbrev prD (C : Addr) (q : Lp2) : D := .tup [lnP C q.1, lnP C q.2]
theorem ixA {C : Addr} {ls : List (List Int × Int)} {i : Int} (h0 : 0 ≤ i) (h1 : i < ls.length) : atI (ls.map (lnP C)) i = some (lnP C (lnAt ls i)) := by
  obtain ⟨q, h2, h3, h4⟩ := ixM (f := lnP C) (xs := ls) h0 h1
  rw [h4]
  unfold lnAt
  rw [List.getD_eq_getElem?_getD, h3]; rfl
theorem prs_snoc {gs : List Stp} {x : Stp} {ls : List (List Int × Int)} : prs (gs ++ [x]) ls = prs gs ls ++ (match x.jn2 with | some p => [(lnAt ls p.1, lnAt ls p.2)] | none => []) := by
  unfold prs jns
  rw [List.filterMap_append, List.map_append]
  congr 1
  cases h : x.jn2 with
  | none => simp [h]
  | some p => simp [h]
theorem prs_len (gs : List Stp) (ls : List (List Int × Int)) : (prs gs ls).length ≤ gs.length := by
  unfold prs jns
  rw [List.length_map]
  exact List.length_filterMap_le _ _
def dsJoinL (C D : Addr) : DS := ds (α := List Stp × List (List Int × Int)) (fun a es S => es = [.d (pD D a.1), .d (.lst (a.2.map (lnP C)))] ∧ S = [] ∧ PipeOk a.1 ∧ a.1.length ≤ 8 ∧ a.2.length = a.1.length + 1) (fun a e S' => e = .d (.lst ((prs a.1 a.2).map (prD C))) ∧ S' = [])
theorem ok_joinL {f C D : Addr} {fd : FuncData} (F : Fun K "joined_lines" "joined_lines" sjoined_lines f fd) (T : Blt mg) (dsteps : Pr P w0 K mg base CX0 1 D "steps" (dsSteps D)) : FnOk P w0 K mg base CX0 3 f fd ["pipeline", "lines"] (spD K (dsJoinL C D)) := by
  refine fn0 F scjoined_lines (fun es S p e h => by obtain ⟨a, ⟨h, _⟩, _⟩ := h; rw [h]; rfl) (fun cdv A outer s H E hr w es S p e hK hA h => ?_)
  subst hK
  obtain ⟨⟨gs, ls⟩, ⟨rfl, rfl, ok, hl, hls⟩, hp⟩ := h
  dsimp only at ok hl hls hp
  refine ⟨_, (pss_one (ps_ret (pe_lc (own := [("step", 2)]) (g := gName 2) rfl scjoined_lines.nd (pi_list (pe_pr dsteps (hr.mono (by decide)) pass0 (pv 0))) (blkOk_by (own := [("step", 2)]) (N := Njoined_lines) (sc := defScope sjoined_lines) (by decide +kernel)) (fun _ _ _ _ _ => gn 2 scjoined_lines.nd) (fun _ _ _ _ _ => (pts_one (pt_cmpR op_eq (pe_ix (ix_tupB w.K) (pv 2) pe_int (fun _ _ => rfl)) pe_str (nomark _)))) (fun _ _ _ _ _ => (pe_tup (pa_cons (pe_ix (ix_listB w.K) (pv 1) (pe_ix (ix_tupB w.K) (pv 2) pe_int (fun _ _ => rfl)) (fun _ _ => rfl)) (pa_cons (pe_ix (ix_listB w.K) (pv 1) (pe_ix (ix_tupB w.K) (pv 2) pe_int (fun _ _ => rfl)) (fun _ _ => rfl)) pa_nil))))))), ?_⟩
  try dsimp only [L2.cxOf, L2.Cx.nox]
  walk_at "gg"
  refine le_lcL ?_
  walk_at "gg"
  refine ⟨_, .inl rfl, stepsP ?_⟩
  refine ⟨gs.map Stp.d, rfl, fun i acc S => S = [] ∧ i ≤ gs.length ∧ acc = (prs (gs.take i) ls).map (prD C), ⟨rfl, Nat.zero_le _, rfl⟩, ?_, ?_⟩
  · rintro i d _ _ hd _ ⟨rfl, hi, rfl⟩
    rw [List.getElem?_map, Option.map_eq_some_iff] at hd
    obtain ⟨x, hx, rfl⟩ := hd
    have hil := (List.getElem?_eq_some_iff.mp hx).1
    have hx1 := ok i x hx
    have hz : ((prs (gs.take i) ls).map (prD C)).length < sizeLine := by
      have := prs_len (gs.take i) ls
      rw [List.length_take] at this
      rw [List.length_map]; unfold sizeLine; omega
    have et := take_snoc hx
    unfold LcT
    cases x with
    | join r o =>
      simp [Stp.ok] at hx1
      dsimp only [Stp.d, Stp.g, gD, List.map] at *
      walk_at "gg"
      refine ⟨fun _ => ?_, fun hb => absurd hb (by decide +kernel)⟩
      walk_at "gg"
      refine rr_ixL (ixA (by omega) (by omega)) ?_
      walk_at "gg"
      refine rr_ixL (ixA (by omega) (by omega)) ?_
      walk_at "gg"
      refine ⟨_, [], rfl, rfl, rfl, hz, rfl, by omega, ?_⟩
      rw [et, prs_snoc, List.map_append]; rfl
    | _ =>
      dsimp only [Stp.d, Stp.g, gD, List.map] at *
      walk_at "gg"
      refine ⟨fun hb => absurd hb (by decide +kernel), fun _ => ?_⟩
      refine ⟨[], rfl, rfl, rfl, by omega, ?_⟩
      rw [et, prs_snoc, List.map_append]
      show _ = _ ++ []
      rw [List.append_nil]
  · rintro acc _ ⟨rfl, _, rfl⟩
    rw [List.length_map, List.take_length]
    walk_at "gg"
    exact hp _ _ ⟨rfl, rfl⟩
theorem joinL {w : Wd} {C D : Addr} {S : List Own} {E : XK} {k : KE} {gs : List Stp} {ls : List (List Int × Int)} (ok : PipeOk gs) (hl : gs.length ≤ 8) (hls : ls.length = gs.length + 1) (h : k (.d (.lst ((prs gs ls).map (prD C)))) S) : RS w (dsJoinL C D) E [.d (pD D gs), .d (.lst (ls.map (lnP C)))] S k :=
  r0 (gs, ls) ⟨rfl, rfl, ok, hl, hls⟩ fun e S' ⟨h1, h2⟩ => ⟨_, h2, h1, h⟩
def dsAlike (C : Addr) : DS := ds (α := Lp2) (fun a es S => es = [.d (lnP C a.1), .d (lnP C a.2)] ∧ S = [] ∧ Sm a.1.1 a.1.2 ∧ Sm a.2.1 a.2.2) (fun a e S' => e = .d (.bl (decide (a.1.2 * a.2.1.length = a.2.2 * a.1.1.length))) ∧ S' = [])
theorem ok_alike {f C : Addr} {fd : FuncData} (F : Fun K "rise_alike" "rise_alike" srise_alike f fd) (T : Blt mg) (dlen : Gm.Sm P w0 K mg base CX0 1 C "__len__" (dsLen C)) (drise : Pr P w0 K mg base CX0 1 C "rise" (dsRise C)) : FnOk P w0 K mg base CX0 3 f fd ["first", "second"] (spD K (dsAlike C)) := by
  refine fn0 F scrise_alike (fun es S p e h => by obtain ⟨a, ⟨h, _⟩, _⟩ := h; rw [h]; rfl) (fun cdv A outer s H E hr w es S p e hK hA h => ?_)
  subst hK
  obtain ⟨⟨⟨s1, r1⟩, s2, r2⟩, ⟨rfl, rfl, m1, m2⟩, hp⟩ := h
  dsimp only at m1 m2 hp
  have l1 := m1.fm.bd.len
  have l2 := m2.fm.bd.len
  have b1 := m1.fm.bd.r
  have b2 := m2.fm.bd.r
  refine ⟨_, (pss_one (ps_ret (pe_cmpR op_eq (pe_op op_mulW (pe_pr drise (hr.mono (by decide)) pass0 (pv 0)) (o_len dlen (hr.mono (by decide)) pass0 T.len (pv 1))) (pe_op op_mulW (pe_pr drise (hr.mono (by decide)) pass0 (pv 1)) (o_len dlen (hr.mono (by decide)) pass0 T.len (pv 0))) (nomark _)))), ?_⟩
  try dsimp only [L2.cxOf, L2.Cx.nox]
  walk_at "gg"
  refine ⟨_, .inl rfl, rise ?_⟩
  walk_at "gg"
  refine lenL (s := s2) (by omega) ?_
  walk_at "gg"
  refine rr_int (wide_mul (a := 330) (b := 20) b1 (by omega) (by decide) (by decide) (by decide)) ?_
  walk_at "gg"
  refine ⟨_, .inl rfl, rise ?_⟩
  walk_at "gg"
  refine lenL (s := s1) (by omega) ?_
  walk_at "gg"
  refine rr_int (wide_mul (a := 330) (b := 20) b2 (by omega) (by decide) (by decide) (by decide)) ?_
  walk_at "gg"
  refine hp _ _ ⟨?_, rfl⟩
  simp
theorem alike {w : Wd} {C : Addr} {S : List Own} {E : XK} {k : KE} {q : Lp2} (m1 : Sm q.1.1 q.1.2) (m2 : Sm q.2.1 q.2.2) (h : k (.d (.bl (decide (q.1.2 * q.2.1.length = q.2.2 * q.1.1.length)))) S) : RS w (dsAlike C) E [.d (lnP C q.1), .d (lnP C q.2)] S k :=
  r0 q ⟨rfl, rfl, m1, m2⟩ fun e S' ⟨h1, h2⟩ => ⟨_, h2, h1, h⟩
/-- all pairs are equal at a place -/
def eqAll (qs : List Lp2) (n : Int) : Bool := qs.all fun q => decide (lh q.1.1 q.1.2 q.2.1 q.2.2 n = 0)
theorem eqAll_iff {qs : List Lp2} {n : Int} : eqAll qs n = true ↔ ∀ q ∈ qs, lh q.1.1 q.1.2 q.2.1 q.2.2 n = 0 := by
  unfold eqAll
  rw [List.all_eq_true]
  exact ⟨fun h q hq => of_decide_eq_true (h q hq), fun h q hq => decide_eq_true (h q hq)⟩
def dsEqAt (C : Addr) : DS := ds (α := List Lp2 × Int) (fun a es S => es = [.d (.lst (a.1.map (prD C))), .d (.int a.2)] ∧ S = [] ∧ (∀ q ∈ a.1, Sm q.1.1 q.1.2 ∧ Sm q.2.1 q.2.2) ∧ a.2.natAbs < 2 ^ 120) (fun a e S' => e = .d (.bl (eqAll a.1 a.2)) ∧ S' = [])
theorem ok_eqat {f C : Addr} {fd : FuncData} (F : Fun K "are_equal_at" "are_equal_at" sare_equal_at f fd) (T : Blt mg) (dat : Mt P w0 K mg base CX0 1 C "at" (dsLAt C)) : FnOk P w0 K mg base CX0 2 f fd ["pairs", "place"] (spD K (dsEqAt C)) := by
  refine fn0 F scare_equal_at (fun es S p e h => by obtain ⟨a, ⟨h, _⟩, _⟩ := h; rw [h]; rfl) (fun cdv A outer s H E hr w es S p e hK hA h => ?_)
  subst hK
  obtain ⟨⟨qs, n⟩, ⟨rfl, rfl, sm, hn⟩, hp⟩ := h
  dsimp only at sm hn hp
  have hn' : n.natAbs < 2 ^ 9000 := Nat.lt_of_lt_of_le hn (Nat.pow_le_pow_right (by decide) (by decide))
  refine ⟨_, (pss_cons (ps_for PassesOwn.never rfl (pi_list (pv 0)) (pg_tup (n := 2) (by rfl) (pgs_cons (gn 2 scare_equal_at.nd) (pgs_cons (gn 3 scare_equal_at.nd) pgs_nil)))
      (pss_one (ps_if (pt_cmpR op_ne (pe_md dat (hr.mono (by decide)) pass0 (pv 2) (pa_cons (pv 1) pa_nil)) (pe_md dat (hr.mono (by decide)) pass0 (pv 3) (pa_cons (pv 1) pa_nil)) (nomark _))
        (pss_one (ps_ret pe_bl))
        pss_nil)))
    (pss_one (ps_ret pe_bl))), ?_⟩
  try dsimp only [L2.cxOf, L2.Cx.nox]
  walk_at "gg"
  refine ls_forL ?_
  walk_at "gg"
  refine ⟨fun i Γ S => S = [] ∧ (∀ q ∈ qs.take i, lh q.1.1 q.1.2 q.2.1 q.2.2 n = 0) ∧ ∃ x2 x3 : Option Ent, Γ = [some (.d (.lst (qs.map (prD C)))), some (.d (.int n)), x2, x3], ⟨rfl, fun q hq => (by rw [List.take_zero] at hq; cases hq), _, _, rfl⟩, ?_, ?_⟩
  · rintro i d _ _ hd ⟨rfl, hz, x2, x3, rfl⟩
    rw [List.getElem?_map, Option.map_eq_some_iff] at hd
    obtain ⟨q, hq, rfl⟩ := hd
    obtain ⟨m1, m2⟩ := sm q (List.mem_of_getElem? hq)
    have hil := (List.getElem?_eq_some_iff.mp hq).1
    walk_at "gg"
    refine ⟨_, .inl rfl, lf_no (by decide +kernel) (by decide +kernel), ?_⟩
    walk_at "gg"
    refine latF m1.fm (by decide) (by decide) hn' ?_
    walk_at "gg"
    refine ⟨_, .inl rfl, lf_no (by decide +kernel) (by decide +kernel), ?_⟩
    walk_at "gg"
    refine latF m2.fm (by decide) (by decide) hn' ?_
    walk_at "gg"
    refine ⟨fun hb => ?_, fun hb => ?_⟩
    · have e1 := neI hb
      walk_at "gg"
      refine hp _ _ ⟨?_, rfl⟩
      have : eqAll qs n = false := by
        rw [← Bool.not_eq_true, eqAll_iff]
        intro z
        have := z q (List.mem_of_getElem? hq)
        unfold lh at this
        omega
      rw [this]
    · have e1 := eqI hb
      walk_at "gg"
      refine ⟨rfl, fun q' hq' => ?_, _, _, rfl⟩
      rw [List.take_add_one, hq] at hq'
      rcases List.mem_append.mp hq' with z | z
      · exact hz q' z
      · have e2 : q' = q := by simpa using z
        subst e2
        unfold lh
        omega
  · rintro _ _ ⟨rfl, hz, x2, x3, rfl⟩
    rw [List.length_map, List.take_length] at hz
    walk_at "gg"
    refine hp _ _ ⟨?_, rfl⟩
    rw [eqAll_iff.mpr hz]
theorem eqAt {w : Wd} {C : Addr} {S : List Own} {E : XK} {k : KE} {qs : List Lp2} {n : Int} (sm : ∀ q ∈ qs, Sm q.1.1 q.1.2 ∧ Sm q.2.1 q.2.2) (hn : n.natAbs < 2 ^ 120) (h : k (.d (.bl (eqAll qs n))) S) : RS w (dsEqAt C) E [.d (.lst (qs.map (prD C))), .d (.int n)] S k :=
  r0 (qs, n) ⟨rfl, rfl, sm, hn⟩ fun e S' ⟨h1, h2⟩ => ⟨_, h2, h1, h⟩
def dsRem : DS := ds (α := List Int × Nat) (fun a es S => es = [.d (lz a.1), .d (.int a.2)] ∧ S = [] ∧ a.1.length < 64 ∧ 0 < a.2) (fun a e S' => ∃ o, e = .d (lz o) ∧ S' = [] ∧ Nf.Res a.1 a.2 o)
theorem ok_rem {f : Addr} {fd : FuncData} (F : Fun K "remainders" "remainders" sremainders f fd) (T : Blt mg) : FnOk P w0 K mg base CX0 1 f fd ["sizes", "period"] (spD K dsRem) := by
  refine fn0 F scremainders (fun es S p e h => by obtain ⟨a, ⟨h, _⟩, _⟩ := h; rw [h]; rfl) (fun cdv A outer s H E hr w es S p e hK hA h => ?_)
  subst hK
  obtain ⟨⟨xs, q⟩, ⟨rfl, rfl, hl, hq⟩, hp⟩ := h
  dsimp only at hl hq hp
  refine ⟨_, (pss_one (ps_ret (b_sortSc T.sorted (pe_sci (own := [("size", 2)]) (g := gName 2) rfl scremainders.nd (pi_list (pv 0)) (blkOk_by (own := [("size", 2)]) (N := Nremainders) (sc := defScope sremainders) (by decide +kernel)) (fun _ _ _ _ _ => gn 2 scremainders.nd) (fun _ _ _ _ _ => pts_nil) (fun _ _ _ _ _ => (pe_op op_mod (pv 2) (pv 1))))))), ?_⟩
  try dsimp only [L2.cxOf, L2.Cx.nox]
  refine ls_ret ?_
  refine le_sortSc (fun x => x % (q : Int)) ?_
  walk_at "gg"
  refine ⟨hl, fun x hx => pure_mod rfl rfl (by omega), fun o h1 h2 => ?_⟩
  exact hp _ _ ⟨o, rfl, rfl, h1, h2⟩
theorem remd {w : Wd} {S : List Own} {E : XK} {k : KE} {xs : List Int} {q : Nat} (hl : xs.length < 64) (hq : 0 < q) (h : ∀ o, Nf.Res xs q o → k (.d (lz o)) S) : RS w dsRem E [.d (lz xs), .d (.int q)] S k :=
  r0 (xs, q) ⟨rfl, rfl, hl, hq⟩ fun e S' ⟨o, h1, h2, h3⟩ => ⟨_, h2, h1, h o h3⟩
def dsShort : DS := ds (α := List Int × Nat) (fun a es S => es = [.d (lz a.1), .d (.int a.2)] ∧ S = [] ∧ a.1.length < 64 ∧ 0 < a.2 ∧ a.2 ≤ 60)
  (fun a e S' => ∃ q : Nat, e = .d (.int q) ∧ S' = [] ∧ 0 < q ∧ q ∣ a.2 ∧ (q = a.2 ∨ ∃ o, Nf.Res a.1 q o ∧ o.length * (a.2 / q) = a.1.length) ∧ ∀ r : Nat, 0 < r → r < q → r ∣ a.2 → ∀ o, Nf.Res a.1 r o → o.length * (a.2 / r) ≠ a.1.length)
theorem ok_short {f : Addr} {fd : FuncData} (F : Fun K "shortest_period" "shortest_period" sshortest_period f fd) (T : Blt mg) (dremainders : Df P w0 K mg base CX0 1 "remainders" 2 dsRem) : FnOk P w0 K mg base CX0 2 f fd ["sizes", "span"] (spD K dsShort) := by
  refine fn0 F scshortest_period (fun es S p e h => by obtain ⟨a, ⟨h, _⟩, _⟩ := h; rw [h]; rfl) (fun cdv A outer s H E hr w es S p e hK hA h => ?_)
  subst hK
  obtain ⟨⟨xs, L⟩, ⟨rfl, rfl, hl, hL0, hL⟩, hp⟩ := h
  dsimp only at hl hL0 hL hp
  refine ⟨_, (pss_cons (ps_for PassesOwn.never rfl (pi_range2 (by rfl) T.range (pa_cons pe_int (pa_cons (pv 1) pa_nil))) (gn 2 scshortest_period.nd)
      (pss_one (ps_if (PW.pt (pw_and (pt_cmpR op_eq (pe_op op_mod (pv 1) (pv 2)) pe_int (nomark _)) (pw_and1 (pt_cmpR op_eq (pe_op op_mulW (b_len T.len (pe_df dremainders (hr.mono (by decide)) pass0 (pa_cons (pv 0) (pa_cons (pv 2) pa_nil)))) (pe_op op_fdivW (pv 1) (pv 2))) (b_len T.len (pv 0)) (nomark _)))))
        (pss_one (ps_ret (pv 2)))
        pss_nil)))
    (pss_one (ps_ret (pv 1)))), ?_⟩
  try dsimp only [L2.cxOf, L2.Cx.nox]
  walk_at "gg"
  refine ls_forR (lr_2 ?_)
  walk_at "gg"
  refine ⟨_, _, rfl, by omega, ?_⟩
  have en : ((L : Int) - 1).toNat = L - 1 := by omega
  rw [en]
  refine ⟨fun i Γ S => S = [] ∧ (∀ r : Nat, 0 < r → r < i + 1 → r ∣ L → ∀ o, Nf.Res xs r o → o.length * (L / r) ≠ xs.length) ∧ ∃ x2 : Option Ent, Γ = [some (.d (lz xs)), some (.d (.int L)), x2], ⟨rfl, fun r h1 h2 => by omega, _, rfl⟩, ?_, ?_⟩
  · rintro i _ _ hi ⟨rfl, hz, x2, rfl⟩
    have hiL : i + 1 ≤ 60 := Nat.le_trans (Nat.succ_le_of_lt (Nat.lt_of_lt_of_le hi (Nat.sub_le L 1))) hL
    have ei : (1 : Int) + (i : Int) = ((i + 1 : Nat) : Int) := by omega
    rw [ei]
    walk_at "gg"
    refine rr_int (by omega) ?_
    walk_at "gg"
    have step : ∀ h : ¬ (i + 1 ∣ L ∧ ∃ o, Nf.Res xs (i + 1) o ∧ o.length * (L / (i + 1)) = xs.length), (∀ r : Nat, 0 < r → r < i + 1 + 1 → r ∣ L → ∀ o, Nf.Res xs r o → o.length * (L / r) ≠ xs.length) := fun h r h1 h2 h3 o h4 h5 => by
      by_cases e : r = i + 1
      · subst e; exact h ⟨h3, o, h4, h5⟩
      · exact hz r h1 (by omega) h3 o h4 h5
    have dv : (L : Int) % ((i + 1 : Nat) : Int) = 0 ↔ i + 1 ∣ L := by
      rw [← Int.natCast_emod]
      constructor
      · intro z; exact Nat.dvd_of_mod_eq_zero (by omega)
      · intro z; have := Nat.mod_eq_zero_of_dvd z; omega
    refine ⟨fun hb1 => ?_, fun hb1 => ?_⟩
    · have h1 := dv.mp (eqI' hb1)
      walk_at "gg"
      refine remd hl (by omega) fun o ho => ?_
      walk_at "gg"
      have hol : o.length ≤ i + 1 := by
        have c := Nf.cnt_res ho.up fun y hy => ho.range (by omega) hy
        have := Nf.cnt_le (F := fun _ => true) (G := fun n => decide (n % ((i + 1 : Nat) : Int) ∈ o)) (b := 0) (n := i + 1) fun _ _ _ => rfl
        have all : ∀ n, Nf.cnt (fun _ => true) 0 n = n := fun n => by
          induction n with
          | zero => rfl
          | succ n ih => show Nf.cnt _ 0 n + 1 = _; rw [ih]
        rw [all, c] at this
        exact this
      refine rr_int (wide_div (b := 30) (by omega) (by omega) (by decide) (by decide)) ?_
      walk_at "gg"
      have hdv : ((L : Int) / ((i + 1 : Nat) : Int)).natAbs ≤ (L : Int).natAbs := Ln.div_le_abs (by omega)
      have hb1 : ((o.length : Nat) : Int).natAbs < 2 ^ 20 := by rw [Int.natAbs_natCast]; exact Nat.lt_of_le_of_lt (Nat.le_trans hol hiL) (by decide)
      have hb2 : ((L : Int) / ((i + 1 : Nat) : Int)).natAbs < 2 ^ 20 := by rw [Int.natAbs_natCast] at hdv; omega
      refine rr_int (wide_mul (a := 20) (b := 20) hb1 hb2 (by decide) (by decide) (by decide)) ?_
      walk_at "gg"
      have ec : (o.length : Int) * ((L : Int) / ((i + 1 : Nat) : Int)) = ((o.length * (L / (i + 1)) : Nat) : Int) := by rw [Int.natCast_mul, Int.natCast_ediv]
      refine ⟨fun hb2 => ?_, fun hb2 => ?_⟩
      · have h2 := eqI' hb2
        rw [ec] at h2
        walk_at "gg"
        exact hp _ _ ⟨i + 1, rfl, rfl, by omega, h1, .inr ⟨o, ho, Int.ofNat.inj h2⟩, fun r r1 r2 => hz r r1 r2⟩
      · have h2 := neI' hb2
        rw [ec] at h2
        walk_at "gg"
        refine ⟨rfl, step fun ⟨_, o', q1, q2⟩ => h2 ?_, _, rfl⟩
        rw [ho.uniq q1, q2]
    · have h1 := neI' hb1
      walk_at "gg"
      refine ⟨fun z => Bool.noConfusion z, fun _ => ?_⟩
      walk_at "gg"
      exact ⟨rfl, step fun z => h1 (dv.mpr z.1), _, rfl⟩
  · rintro _ _ ⟨rfl, hz, x2, rfl⟩
    walk_at "gg"
    exact hp _ _ ⟨L, rfl, rfl, hL0, Nat.dvd_refl _, .inl rfl, fun r h1 h2 => hz r h1 (by omega)⟩
theorem short {w : Wd} {S : List Own} {E : XK} {k : KE} {xs : List Int} {L : Nat} (hl : xs.length < 64) (h1 : 0 < L) (h2 : L ≤ 60)
    (h : ∀ q : Nat, 0 < q → q ∣ L → (q = L ∨ ∃ o, Nf.Res xs q o ∧ o.length * (L / q) = xs.length) → (∀ r : Nat, 0 < r → r < q → r ∣ L → ∀ o, Nf.Res xs r o → o.length * (L / r) ≠ xs.length) → k (.d (.int q)) S) : RS w dsShort E [.d (lz xs), .d (.int L)] S k :=
  r0 (xs, L) ⟨rfl, rfl, hl, h1, h2⟩ fun e S' ⟨q, z1, z2, z3, z4, z5, z6⟩ => ⟨_, z2, z1, h q z3 z4 z5 z6⟩
end

section
theorem rows_pos {gs : List Stp} (ok : PipeOk gs) (sm : ∀ x ∈ gs, x.small) (hl : gs.length ≤ 8) (hs : Sp gs ≤ 60) {n : Int} (hn : 2 ^ 48 ≤ n) {v : Int} (hv : v ∈ rowsZ gs n) : 1 ≤ v := by
  obtain ⟨i, hi⟩ := List.getElem?_of_mem hv
  have hil := (List.getElem?_eq_some_iff.mp hi).1
  rw [rowsZ_len] at hil
  have e : rowF gs i n = v := by unfold rowF; rw [List.getD_eq_getElem?_getD, hi]; rfl
  obtain ⟨⟨Q, q1, q2⟩, mo⟩ := row_rw ok (i := i) (by omega)
  have hb := rowsZ_bd ok sm (show 10 ≤ 10 by decide) (n := 0) (by decide) gs.length (Nat.le_refl _) i
  rw [List.take_length] at hb
  have hb2 : (rowF gs i 0).natAbs < 2 ^ 42 := Nat.lt_of_lt_of_le hb (Nat.pow_le_pow_right (by decide) (by omega))
  have h1 := Ln.IsPer.mul q2 (2 ^ 42) 0
  have h2 := mo (0 + ((2 ^ 42 : Nat) : Int) * (Sp gs : Nat)) n (by omega)
  have h3 : ((2 ^ 42 : Nat) : Int) * 1 ≤ ((2 ^ 42 : Nat) : Int) * Q := Int.mul_le_mul_of_nonneg_left q1 (by decide)
  rw [h1, e] at h2
  omega

/-! places where two lines that rise apart meet -/
def meetC (f : Int → Int) (N : Nat) (G low : Int) (t : Nat) : Option Int :=
  if (f (low + t)).fmod G = 0 ∧ (f (low + t)).fdiv G ≤ 0 then some (low + t - (f (low + t)).fdiv G * N) else none
def meets (f : Int → Int) (N : Nat) (G low : Int) (m : Nat) : List Int := (List.range m).filterMap (meetC f N G low)
theorem meets_succ (f : Int → Int) (N : Nat) (G low : Int) (m : Nat) : meets f N G low (m + 1) = meets f N G low m ++ (match meetC f N G low m with | some x => [x] | none => []) := by
  unfold meets
  rw [List.range_succ, List.filterMap_append]
  congr 1
  cases h : meetC f N G low m with
  | none => simp [h]
  | some x => simp [h]
theorem meets_len (f : Int → Int) (N : Nat) (G low : Int) (m : Nat) : (meets f N G low m).length ≤ m := by
  unfold meets
  have := List.length_filterMap_le (meetC f N G low) (List.range m)
  rwa [List.length_range] at this
theorem meetC_is {f : Int → Int} {N : Nat} {G low : Int} {t : Nat} {x : Int} (per : ∀ n, f (n + N) = f n + G) (h : meetC f N G low t = some x) : low + t ≤ x ∧ f x = 0 ∧ x % (N : Int) = (low + t) % (N : Int) ∧ (x.natAbs ≤ (low + t).natAbs + (f (low + t)).natAbs * N) := by
  unfold meetC at h
  split at h
  · rename_i c
    cases h
    obtain ⟨c1, c2⟩ := c
    have e := Int.mul_fdiv_add_fmod (f (low + t)) G
    rw [c1, Int.add_zero] at e
    generalize hz : (f (low + t)).fdiv G = z at *
    have hk := Ln.IsPer.mul per (-z).toNat (low + t)
    rw [Int.toNat_of_nonneg (by omega), Int.neg_mul, Int.neg_mul, Int.mul_comm z G, e] at hk
    have hn : z * (N : Int) ≤ 0 := by
      have := Int.mul_nonneg (show 0 ≤ -z by omega) (show (0 : Int) ≤ N by omega)
      rw [Int.neg_mul] at this
      omega
    refine ⟨by omega, ?_, ?_, ?_⟩
    · rw [show low + (t : Int) - z * N = low + t + -(z * N) by omega, hk]; omega
    · rw [show low + (t : Int) - z * N = low + t + -z * N by rw [Int.neg_mul]; omega, Int.add_mul_emod_self_right]
    · have h1 : (z * (N : Int)).natAbs = z.natAbs * N := by rw [Int.natAbs_mul, Int.natAbs_natCast]
      have h2 : z.natAbs * N ≤ (f (low + t)).natAbs * N := by
        refine Nat.mul_le_mul_right _ ?_
        by_cases hG : G = 0
        · subst hG
          rw [Int.fdiv_zero] at hz
          omega
        · rw [← e, Int.natAbs_mul]
          exact Nat.le_mul_of_pos_left _ (by omega)
      omega
  · cases h
theorem meets_mem {f : Int → Int} {N : Nat} {G low : Int} (per : ∀ n, f (n + N) = f n + G) (hG : G ≠ 0) (hN : 0 < N) {x : Int} : x ∈ meets f N G low N ↔ low ≤ x ∧ f x = 0 := by
  unfold meets
  rw [List.mem_filterMap]
  constructor
  · rintro ⟨t, ht, e⟩
    obtain ⟨h1, h2, _⟩ := meetC_is per e
    exact ⟨by omega, h2⟩
  · rintro ⟨h1, h2⟩
    have m0 := Int.emod_nonneg (x - low) (show (N : Int) ≠ 0 by omega)
    have m1 := Int.emod_lt_of_pos (x - low) (show 0 < (N : Int) by omega)
    have m2 := Int.mul_ediv_add_emod (x - low) N
    have m3 : 0 ≤ (x - low) / (N : Int) := Int.ediv_nonneg (by omega) (by omega)
    refine ⟨((x - low) % (N : Int)).toNat, List.mem_range.mpr (by omega), ?_⟩
    have ht : (((x - low) % (N : Int)).toNat : Int) = (x - low) % (N : Int) := Int.toNat_of_nonneg m0
    unfold meetC
    rw [ht]
    generalize hk : (x - low) / (N : Int) = k at *
    have hper := Ln.IsPer.mul per k.toNat (low + (x - low) % (N : Int))
    rw [Int.toNat_of_nonneg m3] at hper
    rw [show low + (x - low) % (N : Int) + k * N = x by rw [Int.mul_comm]; omega, h2] at hper
    have hq : f (low + (x - low) % (N : Int)) = -k * G := by rw [Int.neg_mul]; omega
    rw [hq, Int.mul_fmod_left, Int.mul_fdiv_cancel _ hG, if_pos ⟨rfl, by omega⟩]
    congr 1
    rw [Int.neg_mul, Int.mul_comm k]
    omega
theorem meets_nodup {f : Int → Int} {N : Nat} {G low : Int} (per : ∀ n, f (n + N) = f n + G) (hN : 0 < N) {m : Nat} (hm : m ≤ N) : (meets f N G low m).Nodup := by
  unfold meets List.Nodup
  rw [List.pairwise_filterMap]
  refine List.Pairwise.imp_of_mem (R := fun a b : Nat => a < b) ?_ List.pairwise_lt_range
  intro a b ha hb hab x hx y hy e
  subst e
  have h1 := (meetC_is per hx).2.2.1
  have h2 := (meetC_is per hy).2.2.1
  rw [h1] at h2
  have ha := List.mem_range.mp ha
  have hb := List.mem_range.mp hb
  have d := Int.emod_emod_of_dvd
  have h3 : ((low + (b : Int)) - (low + a)) % (N : Int) = 0 := by
    rw [Int.sub_emod, h2, Int.sub_self, Int.zero_emod]
  rw [show low + (b : Int) - (low + a) = ((b - a : Nat) : Int) by omega, Int.emod_eq_of_lt (by omega) (by omega)] at h3
  omega
/-- a form of sizes with p, its sizes below N -/
def FormB (N : Nat) (p : Int → Prop) (d : D) : Prop :=
  (∃ xs : List Int, d = .tup [.str "some", lz xs] ∧ xs.Pairwise (· < ·) ∧ (∀ n, n ∈ xs ↔ p n) ∧ xs.length ≤ 60 ∧ ∀ x ∈ xs, x.natAbs < N) ∨
  ∃ (l : Int) (q : Nat) (o : List Int), d = .tup [.str "classes", .int l, .int q, lz o] ∧ Nf.Cls p l q o ∧ q ≤ 60 ∧ l.natAbs < N ∧ o.length ≤ 60
/-- a form of sizes with p -/
abbrev FormD (p : Int → Prop) (d : D) : Prop := FormB (2 ^ 100) p d
theorem FormB.congr {N : Nat} {p p' : Int → Prop} {d : D} (h : FormB N p d) (e : ∀ n, p n ↔ p' n) : FormB N p' d := by
  have : p = p' := funext fun n => propext (e n)
  rwa [← this]
theorem FormB.mono {N N' : Nat} {p : Int → Prop} {d : D} (h : FormB N p d) (e : N ≤ N') : FormB N' p d := by
  rcases h with ⟨xs, rfl, h1, h2, h3, h4⟩ | ⟨l, q, o, rfl, h1, h2, h3, h4⟩
  · exact .inl ⟨xs, rfl, h1, h2, h3, fun x hx => Nat.lt_of_lt_of_le (h4 x hx) e⟩
  · exact .inr ⟨l, q, o, rfl, h1, h2, Nat.lt_of_lt_of_le h3 e, h4⟩
theorem FormD.congr {p p' : Int → Prop} {d : D} (h : FormD p d) (e : ∀ n, p n ↔ p' n) : FormD p' d := by
  have : p = p' := funext fun n => propext (e n)
  rwa [← this]
theorem FormD.uniq {p : Int → Prop} {d d' : D} (h : FormD p d) (h' : FormD p d') : d = d' := by
  rcases h with ⟨xs, rfl, h1, h2, _⟩ | ⟨l, q, o, rfl, h1, _⟩
  · rcases h' with ⟨ys, rfl, g1, g2, _⟩ | ⟨l, q, o, rfl, g1, _⟩
    · rw [Nf.up_uniq h1 g1 fun n => (h2 n).trans (g2 n).symm]
    · exact (g1.not_list h2).elim
  · rcases h' with ⟨ys, rfl, g1, g2, _⟩ | ⟨l', q', o', rfl, g1, _⟩
    · exact (h1.not_list g2).elim
    · obtain ⟨rfl, rfl, rfl⟩ := h1.uniq g1
      rfl
/-- the least size with which a row has a cell -/
def lowI (p : List Int × Int) : Int := match leastD p.1 p.2 1 with | .int n => n | _ => 0
theorem low_is {gs : List Stp} (ok : PipeOk gs) (sm : ∀ x ∈ gs, x.small) (hl : gs.length ≤ 8) (hs : Sp gs ≤ 60) {i : Nat} (hi : i ≤ gs.length) {p : List Int × Int} (R : RowL gs i p.1 p.2) : leastD p.1 p.2 1 = .int (lowI p) ∧ (∀ m, 1 ≤ rowF gs i m ↔ lowI p ≤ m) ∧ lowI p ≤ 2 ^ 48 := by
  have F := R.fm
  obtain ⟨⟨Q, q1, q2⟩, mo⟩ := row_rw ok hi
  have hL0 : 0 < Sp gs := by have := Sp_pos ok gs.length (Nat.le_refl _); rwa [List.take_length] at this
  have hpos : 1 ≤ rowF gs i (2 ^ 48) := by
    refine rows_pos ok sm hl hs (n := 2 ^ 48) (Int.le_refl _) ?_
    unfold rowF
    rw [List.getD_eq_getElem?_getD, List.getElem?_eq_getElem (show i < (rowsZ gs (2 ^ 48)).length by rw [rowsZ_len]; omega)]
    exact List.getElem_mem _
  rcases leastD_is F.ok (Fm_big F (by decide) (by decide)) (v := 1) (by decide +kernel) with ⟨_, e⟩ | ⟨m, em, _, l1, l2, l3⟩
  · exfalso
    have := Ln.at_mul (r := p.2) F.ok.pos 1 0
    rw [F.at_, F.at_, e] at this
    -- a line that does not rise is the same everywhere
    have c : ∀ k : Nat, rowF gs i (0 + (k : Int) * p.1.length) = rowF gs i 0 := fun k => by
      have z := Ln.at_mul (r := p.2) F.ok.pos k 0
      rw [F.at_, F.at_, e, Int.mul_zero, Int.add_zero] at z
      exact z
    have h1 := c (Sp gs)
    have h2 := Ln.IsPer.mul q2 p.1.length 0
    rw [show 0 + (p.1.length : Int) * (Sp gs : Nat) = 0 + (Sp gs : Int) * p.1.length by rw [Int.mul_comm], h1] at h2
    have h3 : (p.1.length : Int) * 1 ≤ (p.1.length : Int) * Q := Int.mul_le_mul_of_nonneg_left q1 (by omega)
    have h4 := F.ok.pos
    omega
  · have el : lowI p = m := by unfold lowI; rw [em]
    rw [F.at_] at l1 l2
    have iff : ∀ u, 1 ≤ rowF gs i u ↔ m ≤ u := fun u => by
      constructor
      · intro z
        rcases Int.lt_or_le u m with y | y
        · have := mo u (m - 1) (by omega)
          omega
        · exact y
      · intro z
        have := mo m u z
        omega
    rw [el]
    exact ⟨em, iff, (iff _).mp hpos⟩
end

section
variable {P : Program} {w0 : World} {K : PySem.W.Frag} {mg : Str → Option Value} {base : Heap}
def dsMeets (C : Addr) : DS := ds (α := Lp2 × Int) (fun a es S => es = [.d (lnP C a.1.1), .d (lnP C a.1.2), .d (.int a.2)] ∧ S = [] ∧ Sm a.1.1.1 a.1.1.2 ∧ Sm a.1.2.1 a.1.2.2 ∧ a.2.natAbs < 2 ^ 100 ∧ Nat.lcm a.1.1.1.length a.1.2.1.length ≤ 60 ∧ a.1.1.2 * a.1.2.1.length ≠ a.1.2.2 * a.1.1.1.length)
  (fun a e S' => ∃ xs, e = .d (lz xs) ∧ S' = [] ∧ xs.Pairwise (· < ·) ∧ xs.length ≤ 60 ∧ (∀ n, n ∈ xs ↔ a.2 ≤ n ∧ lh a.1.1.1 a.1.1.2 a.1.2.1 a.1.2.2 n = 0) ∧ ∀ n ∈ xs, ∃ t : Nat, t < 60 ∧ n.natAbs ≤ (a.2 + t).natAbs + (lh a.1.1.1 a.1.1.2 a.1.2.1 a.1.2.2 (a.2 + t)).natAbs * 60)
theorem ok_meets {f C : Addr} {fd : FuncData} (F : Fun K "all_meetings" "all_meetings" sall_meetings f fd) (T : Blt mg) (dlen : Gm.Sm P w0 K mg base CX0 1 C "__len__" (dsLen C)) (dlead_at : Df P w0 K mg base CX0 2 "lead_at" 3 (dsLead C)) : FnOk P w0 K mg base CX0 3 f fd ["first", "second", "low"] (spD K (dsMeets C)) := by
  refine fn0 F scall_meetings (fun es S p e h => by obtain ⟨a, ⟨h, _⟩, _⟩ := h; rw [h]; rfl) (fun cdv A outer s H E hr w es S p e hK hA h => ?_)
  subst hK
  obtain ⟨⟨⟨⟨s1, r1⟩, s2, r2⟩, b⟩, ⟨rfl, rfl, m1, m2, hb, hlc, hap⟩, hp⟩ := h
  dsimp only at m1 m2 hb hlc hap hp
  obtain ⟨hL0, hL1, per, hG⟩ := round_ m1 m2 hlc
  have hG0 := apart_gain m1.fm.ok.pos m2.fm.ok.pos hap
  have l1 := m1.fm.bd.len
  have l2 := m2.fm.bd.len
  refine ⟨_, (pss_cons (sset 3 (b_lcm T.lcm (o_len dlen (hr.mono (by decide)) pass0 T.len (pv 0)) (o_len dlen (hr.mono (by decide)) pass0 T.len (pv 1))) scall_meetings.nd)
    (pss_cons (sset 4 (pe_op op_sub (pe_df dlead_at (hr.mono (by decide)) pass0 (pa_cons (pv 0) (pa_cons (pv 1) (pa_cons (pv 3) pa_nil)))) (pe_df dlead_at (hr.mono (by decide)) pass0 (pa_cons (pv 0) (pa_cons (pv 1) (pa_cons pe_int pa_nil))))) scall_meetings.nd)
    (pss_cons (sset 5 (pe_lst pa_nil) scall_meetings.nd)
    (pss_cons (ps_for PassesOwn.never rfl (pi_rangeL (by rfl) T.range (pa_cons (pv 2) (pa_cons (pe_op op_add (pv 2) (pv 3)) pa_nil))) (gn 6 scall_meetings.nd)
      (pss_cons (sset 7 (pe_df dlead_at (hr.mono (by decide)) pass0 (pa_cons (pv 0) (pa_cons (pv 1) (pa_cons (pv 6) pa_nil)))) scall_meetings.nd)
      (pss_one (ps_if (PW.pt (pw_and (pt_cmpR op_eq (pe_op op_modN (pv 7) (pv 4)) pe_int (nomark _)) (pw_and1 (pt_cmpR op_le (pe_op op_fdivN (pv 7) (pv 4)) pe_int (nomark _)))))
        (pss_one (ps_expr (pe_bm PySem.F.plainAttrs_list PySem.F.slot_list_append PySem.F.type_list_append mt_append (pv 5) (pa_cons (pe_op op_sub (pv 6) (pe_op op_mulW (pe_op op_fdivN (pv 7) (pv 4)) (pv 3))) pa_nil))))
        pss_nil))))
    (pss_one (ps_ret (b_sortI T.sorted (pv 5)))))))), ?_⟩
  try dsimp only [L2.cxOf, L2.Cx.nox]
  walk_at "gg"
  refine lenL (s := s1) (by omega) ?_
  walk_at "gg"
  refine lenL (s := s2) (by omega) ?_
  walk_at "gg"
  refine rc_lcm (by omega) (by omega) ?_
  rw [Int.natAbs_natCast, Int.natAbs_natCast]
  generalize Nat.lcm s1.length s2.length = N at *
  walk_at "gg"
  refine lead m1 m2 (by omega) ?_
  walk_at "gg"
  refine lead m1 m2 (by decide) ?_
  repeat (first | (refine ls_seq (ls_set (le_lstO ?_))) | walk_at "go")
  generalize hGe : lh s1 r1 s2 r2 N - lh s1 r1 s2 r2 0 = G at *
  refine ls_forR (lr_L ?_)
  walk_at "gg"
  have bd : ∀ n : Int, n.natAbs < 2 ^ 116 → (lh s1 r1 s2 r2 n).natAbs < 2 ^ 448 := fun n hn => by
    have h1 := m1.fm.bd.at_ m1.fm.ok.pos hn
    have h2 := m2.fm.bd.at_ m2.fm.ok.pos hn
    unfold lh
    omega
  have en : (b + (N : Int) - b).toNat = N := by omega
  refine ⟨b, b + N, rfl, ?_⟩
  rw [en]
  refine ⟨fun i Γ S => S = [.lst ((meets (lh s1 r1 s2 r2) N G b i).map Gm.D.int)] ∧ ∃ (x6 x7 : Option Ent), Γ = [some (.d (lineD C s1 r1)), some (.d (lineD C s2 r2)), some (.d (.int b)), some (.d (.int N)), some (.d (.int G)), some (.own 0), x6, x7], ⟨rfl, none, none, rfl⟩, ?_, ?_⟩
  · rintro i _ _ hi ⟨rfl, x6, x7, rfl⟩
    have hzl : (meets (lh s1 r1 s2 r2) N G b i).length < sizeLine := by
      have := meets_len (lh s1 r1 s2 r2) N G b i
      unfold sizeLine; omega
    have hs := meets_succ (lh s1 r1 s2 r2) N G b i
    walk_at "gg"
    refine lead m1 m2 (by omega) ?_
    walk_at "gg"
    have hbd := bd (b + i) (by omega)
    have ec : meetC (lh s1 r1 s2 r2) N G b i = if (lh s1 r1 s2 r2 (b + i)).fmod G = 0 ∧ (lh s1 r1 s2 r2 (b + i)).fdiv G ≤ 0 then some (b + i - (lh s1 r1 s2 r2 (b + i)).fdiv G * N) else none := rfl
    generalize lh s1 r1 s2 r2 (b + i) = q at hbd ec ⊢
    refine rr_int hG0 ?_
    walk_at "gg"
    refine ⟨fun hb1 => ?_, fun hb1 => ?_⟩
    · have h1 : q.fmod G = 0 := eqI' hb1
      have hfd : (q.fdiv G).natAbs ≤ q.natAbs := by
        have := Int.mul_fdiv_add_fmod q G
        rw [h1, Int.add_zero] at this
        generalize q.fdiv G = z at this ⊢
        rw [← this, Int.natAbs_mul]
        exact Nat.le_mul_of_pos_left _ (by omega)
      walk_at "gg"
      refine rr_int ⟨hG0, by omega⟩ ?_
      walk_at "gg"
      refine ⟨fun hb2 => ?_, fun hb2 => ?_⟩
      · have h2 : q.fdiv G ≤ 0 := of_decide_eq_true hb2
        rw [if_pos ⟨h1, h2⟩] at ec
        walk_at "gg"
        refine ⟨⟨_, .inr ⟨0, rfl, rfl⟩⟩, ?_⟩
        walk_at "gg"
        refine rr_int ⟨hG0, by omega⟩ ?_
        walk_at "gg"
        refine rr_int (wide_mul (a := 448) (b := 20) (by omega) (by omega) (by decide) (by decide) (by decide)) ?_
        walk_at "gg"
        refine rm_append (ds := (meets (lh s1 r1 s2 r2) N G b i).map Gm.D.int) rfl (by rw [List.length_map]; exact hzl) ?_
        refine ⟨?_, _, _, rfl⟩
        rw [hs, ec, List.map_append]; rfl
      · have h2 : ¬ q.fdiv G ≤ 0 := of_decide_eq_false hb2
        rw [if_neg (fun z => h2 z.2)] at ec
        walk_at "gg"
        refine ⟨?_, _, _, rfl⟩
        rw [hs, ec]
        show _ = [Own.lst ((meets (lh s1 r1 s2 r2) N G b i ++ []).map Gm.D.int)]
        rw [List.append_nil]
    · have h1 : q.fmod G ≠ 0 := neI' hb1
      rw [if_neg (fun z => h1 z.1)] at ec
      walk_at "gg"
      refine ⟨fun z => Bool.noConfusion z, fun _ => ?_⟩
      walk_at "gg"
      refine ⟨?_, _, _, rfl⟩
      rw [hs, ec]
      show _ = [Own.lst ((meets (lh s1 r1 s2 r2) N G b i ++ []).map Gm.D.int)]
      rw [List.append_nil]
  · rintro _ _ ⟨rfl, x6, x7, rfl⟩
    refine frzL (S := []) (xs := (meets (lh s1 r1 s2 r2) N G b N).map Gm.D.int) (Γ' := [none, none, none, none, none, some (.d (lz (meets (lh s1 r1 s2 r2) N G b N))), none, none]) 5 rfl ?_ (by walk_at "envle") (by rw [hA]; exact Nat.le_refl _)
    walk_at "gg"
    refine rc_sortI (.inl rfl) fun out hperm hsrt => ?_
    have nd := meets_nodup (f := lh s1 r1 s2 r2) (G := G) (low := b) per hL0 (Nat.le_refl N)
    have lt : out.Pairwise (· < ·) := by
      have nd2 : out.Nodup := hperm.nodup_iff.mpr nd
      refine (List.Pairwise.and hsrt nd2).imp ?_
      rintro x y ⟨z1, z2⟩
      have z1 : x ≤ y := z1
      have z2 : x ≠ y := z2
      omega
    refine hp _ _ ⟨out, rfl, rfl, lt, ?_, fun n => ?_, fun n hn => ?_⟩
    · have := meets_len (lh s1 r1 s2 r2) N G b N
      rw [hperm.length_eq]; omega
    · rw [hperm.mem_iff]; exact meets_mem per hG0 hL0
    · have hn := hperm.mem_iff.mp hn
      unfold meets at hn
      obtain ⟨t, ht, e⟩ := List.mem_filterMap.mp hn
      have ht := List.mem_range.mp ht
      have := (meetC_is per e).2.2.2
      refine ⟨t, by omega, Nat.le_trans this (Nat.add_le_add_left (Nat.mul_le_mul_left _ hL1) _)⟩
end

section
variable {P : Program} {w0 : World} {K : PySem.W.Frag} {mg : Str → Option Value} {base : Heap}
theorem meetsP {w : Wd} {C : Addr} {S : List Own} {E : XK} {k : KE} {q : Lp2} {b : Int} (m1 : Sm q.1.1 q.1.2) (m2 : Sm q.2.1 q.2.2) (hb : b.natAbs < 2 ^ 100) (hlc : Nat.lcm q.1.1.length q.2.1.length ≤ 60) (hap : q.1.2 * q.2.1.length ≠ q.2.2 * q.1.1.length)
    (h : ∀ xs : List Int, xs.Pairwise (· < ·) → xs.length ≤ 60 → (∀ n, n ∈ xs ↔ b ≤ n ∧ lh q.1.1 q.1.2 q.2.1 q.2.2 n = 0) → (∀ n ∈ xs, ∃ t : Nat, t < 60 ∧ n.natAbs ≤ (b + t).natAbs + (lh q.1.1 q.1.2 q.2.1 q.2.2 (b + t)).natAbs * 60) → k (.d (lz xs)) S) : RS w (dsMeets C) E [.d (lnP C q.1), .d (lnP C q.2), .d (.int b)] S k :=
  r0 (q, b) ⟨rfl, rfl, m1, m2, hb, hlc, hap⟩ fun e S' ⟨xs, h1, h2, h3, h4, h5, h6⟩ => ⟨_, h2, h1, h xs h3 h4 h5 h6⟩
/-- pairs whose lines rise alike, within one round M -/
structure Alk (M : Nat) (qs : List Lp2) : Prop where
  m0 : 0 < M
  m1 : M ≤ 60
  sm : ∀ q ∈ qs, Sm q.1.1 q.1.2 ∧ Sm q.2.1 q.2.2
  dv : ∀ q ∈ qs, q.1.1.length ∣ M ∧ q.2.1.length ∣ M
  al : ∀ q ∈ qs, q.1.2 * q.2.1.length = q.2.2 * q.1.1.length
theorem Alk.per {M : Nat} {qs : List Lp2} (A : Alk M qs) {L : Nat} (hd : ∀ q ∈ qs, q.1.1.length ∣ L ∧ q.2.1.length ∣ L) (n : Int) : eqAll qs (n + L) = eqAll qs n := by
  rw [Bool.eq_iff_iff, eqAll_iff, eqAll_iff]
  have e : ∀ q ∈ qs, lh q.1.1 q.1.2 q.2.1 q.2.2 (n + L) = lh q.1.1 q.1.2 q.2.1 q.2.2 n := fun q hq => by
    obtain ⟨d1, d2⟩ := hd q hq
    obtain ⟨s1, s2⟩ := A.sm q hq
    exact alike_per s1.fm.ok.pos s2.fm.ok.pos (A.al q hq) d1 d2 n
  exact ⟨fun h q hq => by rw [← e q hq]; exact h q hq, fun h q hq => by rw [e q hq]; exact h q hq⟩
theorem nat_bd {b l : Int} {L : Nat} (h1 : b ≤ l) (h2 : l < b + L) (h3 : L ≤ 60) (hb : b.natAbs < 2 ^ 99) : l.natAbs < 2 ^ 100 := by omega
/-- the form of one round -/
theorem form_some {qs : List Lp2} {b : Int} {M L : Nat} (A : Alk M qs) (hL : 0 < L) (hd : ∀ q ∈ qs, q.1.1.length ∣ L ∧ q.2.1.length ∣ L) (h0 : Nf.lst (eqAll qs) b L = []) : FormD (fun n => b ≤ n ∧ ∀ q ∈ qs, lh q.1.1 q.1.2 q.2.1 q.2.2 n = 0) (.tup [.str "some", lz []]) := by
  refine .inl ⟨[], rfl, List.Pairwise.nil, fun n => ⟨fun h => (by cases h), fun h => ?_⟩, by decide, fun x hx => (by cases hx)⟩
  exfalso
  have hp : Nf.Per (eqAll qs) b L := fun n hn => A.per hd n
  have m0 := Int.emod_nonneg (n - b) (show (L : Int) ≠ 0 by omega)
  have m1 := Int.emod_lt_of_pos (n - b) (show 0 < (L : Int) by omega)
  have e : (b + (n - b) % (L : Int)) % (L : Int) = n % (L : Int) := by
    rw [Int.add_emod_emod]; congr 1; omega
  have hm : b + (n - b) % (L : Int) ∈ Nf.lst (eqAll qs) b L := Nf.lst_mem.mpr ⟨by omega, by omega, by rw [hp.same hL (by omega) h.1 e]; exact eqAll_iff.mpr h.2⟩
  rw [h0] at hm
  cases hm
theorem form_cls {qs : List Lp2} {b l : Int} {M L q : Nat} {xs o : List Int} (A : Alk M qs) (hb : b.natAbs < 2 ^ 99) (hL : 0 < L) (hL6 : L ≤ 60) (hd : ∀ q ∈ qs, q.1.1.length ∣ L ∧ q.2.1.length ∣ L) (hl : Nf.lst (eqAll qs) b L = l :: xs) (hq : 0 < q) (hdq : q ∣ L)
    (hc : q = L ∨ ∃ o, Nf.Res (Nf.lst (eqAll qs) b L) q o ∧ o.length * (L / q) = (Nf.lst (eqAll qs) b L).length) (hmin : ∀ r : Nat, 0 < r → r < q → r ∣ L → ∀ o, Nf.Res (Nf.lst (eqAll qs) b L) r o → o.length * (L / r) ≠ (Nf.lst (eqAll qs) b L).length) (ho : Nf.Res (Nf.lst (eqAll qs) b L) q o) :
    FormD (fun n => b ≤ n ∧ ∀ q ∈ qs, lh q.1.1 q.1.2 q.2.1 q.2.2 n = 0) (.tup [.str "classes", .int l, .int q, lz o]) := by
  have hp : Nf.Per (eqAll qs) b L := fun n hn => A.per hd n
  have hcc : o.length * (L / q) = (Nf.lst (eqAll qs) b L).length := by
    rcases hc with e | ⟨o', h1, h2⟩
    · subst e; exact hp.count hL (Nat.dvd_refl _) hL ho
    · rw [ho.uniq h1]; exact h2
  have hql := Nat.le_of_dvd hL hdq
  have ml := Nf.lst_mem.mp (show l ∈ Nf.lst (eqAll qs) b L by rw [hl]; exact List.mem_cons_self)
  refine .inr ⟨l, q, o, rfl, Nf.cls_of (G := eqAll qs) (b := b) (L := L) (fun n => by rw [eqAll_iff]) hp hL hl hq hdq ho hcc hmin (Nf.res_ex _), Nat.le_trans hql hL6, nat_bd ml.1 ml.2.1 hL6 hb, ?_⟩
  have c := Nf.cnt_res ho.up fun y hy => ho.range hq hy
  have h2 := Nf.cnt_le (F := fun _ => true) (G := fun n => decide (n % (q : Int) ∈ o)) (b := 0) (n := q) fun _ _ _ => rfl
  have all : ∀ n, Nf.cnt (fun _ => true) 0 n = n := fun n => by
    induction n with
    | zero => rfl
    | succ n ih => show Nf.cnt _ 0 n + 1 = _; rw [ih]
  rw [all, c] at h2
  omega
def dsFoc (C : Addr) : DS := ds (α := List Lp2 × Int × Nat) (fun a es S => es = [.d (.lst (a.1.map (prD C))), .d (.int a.2.1)] ∧ S = [] ∧ Alk a.2.2 a.1 ∧ a.2.1.natAbs < 2 ^ 99) (fun a e S' => ∃ d, e = .d d ∧ S' = [] ∧ FormD (fun n => a.2.1 ≤ n ∧ ∀ q ∈ a.1, lh q.1.1 q.1.2 q.2.1 q.2.2 n = 0) d)
theorem ok_foc {f C : Addr} {fd : FuncData} (F : Fun K "form_of_classes" "form_of_classes" sform_of_classes f fd) (T : Blt mg) (dlen : Gm.Sm P w0 K mg base CX0 1 C "__len__" (dsLen C)) (dare_equal_at : Df P w0 K mg base CX0 2 "are_equal_at" 2 (dsEqAt C)) (dshortest_period : Df P w0 K mg base CX0 2 "shortest_period" 2 dsShort) (dremainders : Df P w0 K mg base CX0 1 "remainders" 2 dsRem) : FnOk P w0 K mg base CX0 4 f fd ["pairs", "low"] (spD K (dsFoc C)) := by
  refine fn0 F scform_of_classes (fun es S p e h => by obtain ⟨a, ⟨h, _⟩, _⟩ := h; rw [h]; rfl) (fun cdv A outer s H E hr w es S p e hK hA h => ?_)
  subst hK
  obtain ⟨⟨qs, b, M⟩, ⟨rfl, rfl, AL, hb⟩, hp⟩ := h
  dsimp only at AL hb hp
  have hM := AL.m1
  have hM0 := AL.m0
  refine ⟨_, (pss_cons (sset 2 pe_int scform_of_classes.nd)
    (pss_cons (ps_for PassesOwn.never rfl (pi_list (pv 0)) (pg_tup (n := 2) (by rfl) (pgs_cons (gn 3 scform_of_classes.nd) (pgs_cons (gn 4 scform_of_classes.nd) pgs_nil)))
      (pss_one (sset 2 (b_lcm T.lcm (pv 2) (b_lcm T.lcm (o_len dlen (hr.mono (by decide)) pass0 T.len (pv 3)) (o_len dlen (hr.mono (by decide)) pass0 T.len (pv 4)))) scform_of_classes.nd)))
    (pss_cons (ps_setLc (i := 5) (own := [("size", 6)]) (g := gName 6) rfl scform_of_classes.nd rfl rfl (sw_true rfl rfl rfl (by decide +kernel)) (pi_rangeL (by rfl) T.range (pa_cons (pv 1) (pa_cons (pe_op op_add (pv 1) (pv 2)) pa_nil))) (blkOk_by (own := [("size", 6)]) (N := Nform_of_classes) (sc := defScope sform_of_classes) (by decide +kernel)) (fun _ _ _ _ _ => gn 6 scform_of_classes.nd) (fun _ _ _ _ _ => (pts_one (pt_val (pe_dfB dare_equal_at (hr.mono (by decide)) pass0 (pa_cons (pv 0) (pa_cons (pv 6) pa_nil)))))) (fun _ _ _ _ _ => (pv 6)))
    (pss_cons (ps_if (pt_cmpR op_eq (b_len T.len (pv 5)) pe_int (nomark _))
      (pss_one (ps_ret (pe_tup (pa_cons pe_str (pa_cons (pe_lst pa_nil) pa_nil)))))
      pss_nil)
    (pss_cons (sset 7 (pe_df dshortest_period (hr.mono (by decide)) pass0 (pa_cons (pv 5) (pa_cons (pv 2) pa_nil))) scform_of_classes.nd)
    (pss_one (ps_ret (pe_tup (pa_cons pe_str (pa_cons (pe_ix ix_list (pv 5) pe_int (fun _ _ => rfl)) (pa_cons (pv 7) (pa_cons (pe_df dremainders (hr.mono (by decide)) pass0 (pa_cons (pv 5) (pa_cons (pv 7) pa_nil))) pa_nil)))))))))))), ?_⟩
  try dsimp only [L2.cxOf, L2.Cx.nox]
  walk_at "gg"
  refine ls_forL ?_
  walk_at "gg"
  refine ⟨fun i Γ S => S = [] ∧ ∃ (L : Nat) (x3 x4 : Option Ent), 0 < L ∧ L ∣ M ∧ (∀ q ∈ qs.take i, q.1.1.length ∣ L ∧ q.2.1.length ∣ L) ∧ Γ = [some (.d (.lst (qs.map (prD C)))), some (.d (.int b)), some (.d (.int L)), x3, x4, none, none, none], ⟨rfl, 1, none, none, Nat.one_pos, Nat.one_dvd _, fun q hq => (by rw [List.take_zero] at hq; cases hq), rfl⟩, ?_, ?_⟩
  · rintro i d _ _ hd ⟨rfl, L, x3, x4, hL0, hLM, hdv, rfl⟩
    rw [List.getElem?_map, Option.map_eq_some_iff] at hd
    obtain ⟨q, hq, rfl⟩ := hd
    have hqm := List.mem_of_getElem? hq
    obtain ⟨m1, m2⟩ := AL.sm q hqm
    obtain ⟨d1, d2⟩ := AL.dv q hqm
    have l1 := m1.fm.bd.len
    have l2 := m2.fm.bd.len
    have p1 := m1.fm.ok.pos
    have p2 := m2.fm.ok.pos
    have hLle := Nat.le_of_dvd hM0 hLM
    walk_at "gg"
    refine lenL (s := q.1.1) (by omega) ?_
    walk_at "gg"
    refine lenL (s := q.2.1) (by omega) ?_
    walk_at "gg"
    refine rc_lcm (by omega) (by omega) ?_
    rw [Int.natAbs_natCast, Int.natAbs_natCast]
    have hlm := Nat.lcm_dvd d1 d2
    have hlle := Nat.le_of_dvd hM0 hlm
    have e1 := Nat.dvd_lcm_left q.1.1.length q.2.1.length
    have e2 := Nat.dvd_lcm_right q.1.1.length q.2.1.length
    have lp := Nat.lcm_pos p1 p2
    generalize Nat.lcm q.1.1.length q.2.1.length = c at *
    walk_at "gg"
    refine rc_lcm (by omega) (by omega) ?_
    rw [Int.natAbs_natCast, Int.natAbs_natCast]
    walk_at "gg"
    refine ⟨rfl, Nat.lcm L c, _, _, Nat.lcm_pos hL0 lp, Nat.lcm_dvd hLM hlm, fun q' hq' => ?_, rfl⟩
    rw [List.take_add_one, hq] at hq'
    rcases List.mem_append.mp hq' with z | z
    · obtain ⟨z1, z2⟩ := hdv q' z
      exact ⟨Nat.dvd_trans z1 (Nat.dvd_lcm_left _ _), Nat.dvd_trans z2 (Nat.dvd_lcm_left _ _)⟩
    · have e3 : q' = q := by simpa using z
      subst e3
      exact ⟨Nat.dvd_trans e1 (Nat.dvd_lcm_right _ _), Nat.dvd_trans e2 (Nat.dvd_lcm_right _ _)⟩
  · rintro _ _ ⟨rfl, L, x3, x4, hL0, hLM, hdv, rfl⟩
    rw [List.length_map, List.take_length] at hdv
    have hLle := Nat.le_of_dvd hM0 hLM
    have hL6 : L ≤ 60 := by omega
    walk_at "gg"
    refine le_lcR (lr_L ?_)
    walk_at "gg"
    refine ⟨_, _, rfl, ?_⟩
    have en : (b + (L : Int) - b).toNat = L := by omega
    rw [en]
    refine ⟨fun i acc S => S = [] ∧ acc = (Nf.lst (eqAll qs) b i).map D.int, ⟨rfl, rfl⟩, ?_, ?_⟩
    · rintro i acc _ hi _ ⟨rfl, rfl⟩
      have hzl : ((Nf.lst (eqAll qs) b i).map D.int).length < sizeLine := by
        have c := Nf.cnt_le (F := fun _ => true) (G := eqAll qs) (b := b) (n := i) fun _ _ _ => rfl
        have all : ∀ n, Nf.cnt (fun _ => true) b n = n := fun n => by
          induction n with
          | zero => rfl
          | succ n ih => show Nf.cnt _ b n + 1 = _; rw [ih]
        rw [all] at c
        rw [List.length_map, Nf.lst_len]; unfold sizeLine; omega
      unfold LcT
      walk_at "gg"
      refine eqAt AL.sm (Nat.lt_of_lt_of_le (show (b + (i : Int)).natAbs < 2 ^ 100 by omega) (Nat.pow_le_pow_right (by decide) (by decide))) ?_
      walk_at "gg"
      refine ⟨fun hb1 => ?_, fun hb1 => ?_⟩
      · walk_at "gg"
        refine ⟨_, [], rfl, rfl, rfl, hzl, rfl, ?_⟩
        show _ = (Nf.lst (eqAll qs) b i ++ (if eqAll qs (b + i) = true then [b + (i : Int)] else [])).map D.int
        rw [if_pos hb1, List.map_append]; rfl
      · refine ⟨[], rfl, rfl, rfl, ?_⟩
        show _ = (Nf.lst (eqAll qs) b i ++ (if eqAll qs (b + i) = true then [b + (i : Int)] else [])).map D.int
        rw [if_neg (by rw [hb1]; exact Bool.false_ne_true), List.append_nil]
    · rintro acc _ ⟨rfl, rfl⟩
      have hzl : (Nf.lst (eqAll qs) b L).length ≤ 60 := by
        have c := Nf.cnt_le (F := fun _ => true) (G := eqAll qs) (b := b) (n := L) fun _ _ _ => rfl
        have all : ∀ n, Nf.cnt (fun _ => true) b n = n := fun n => by
          induction n with
          | zero => rfl
          | succ n ih => show Nf.cnt _ b n + 1 = _; rw [ih]
        rw [all] at c
        rw [Nf.lst_len]; omega
      walk_at "gg"
      refine ⟨fun hb1 => ?_, fun hb1 => ?_⟩
      · have e0 := eqI' hb1
        have e1 : Nf.lst (eqAll qs) b L = [] := List.eq_nil_of_length_eq_zero (by omega)
        walk_at "gg"
        exact hp _ _ ⟨_, rfl, rfl, form_some AL hL0 hdv e1⟩
      · have e0 := neI' hb1
        obtain ⟨l, xs, e1⟩ : ∃ l xs, Nf.lst (eqAll qs) b L = l :: xs := by
          cases h : Nf.lst (eqAll qs) b L with
          | nil => rw [h] at e0; exact absurd rfl e0
          | cons l xs => exact ⟨l, xs, rfl⟩
        walk_at "gg"
        refine short (by omega) hL0 hL6 fun q hq0 hqd hq1 hq2 => ?_
        walk_at "gg"
        refine rr_ixL (ixI (by decide) (by rw [e1]; simp)) ?_
        walk_at "gg"
        refine remd (by omega) hq0 fun o ho => ?_
        walk_at "gg"
        have e2 : (Nf.lst (eqAll qs) b L).getD (0 : Int).toNat 0 = l := by rw [e1]; rfl
        rw [e2]
        exact hp _ _ ⟨_, rfl, rfl, form_cls AL hb hL0 hL6 hdv e1 hq0 hqd hq1 hq2 ho⟩
theorem foc {w : Wd} {C : Addr} {S : List Own} {E : XK} {k : KE} {qs : List Lp2} {b : Int} {M : Nat} (A : Alk M qs) (hb : b.natAbs < 2 ^ 99) (h : ∀ d, FormD (fun n => b ≤ n ∧ ∀ q ∈ qs, lh q.1.1 q.1.2 q.2.1 q.2.2 n = 0) d → k (.d d) S) : RS w (dsFoc C) E [.d (.lst (qs.map (prD C))), .d (.int b)] S k :=
  r0 (qs, b, M) ⟨rfl, rfl, A, hb⟩ fun e S' ⟨d, h1, h2, h3⟩ => ⟨_, h2, h1, h d h3⟩
end

section
variable {P : Program} {w0 : World} {K : PySem.W.Frag} {mg : Str → Option Value} {base : Heap}
/-- the least size with which all rows have a cell -/
structure Low (gs : List Stp) (m : Int) : Prop where
  iff : ∀ n, (∀ i, i ≤ gs.length → 1 ≤ rowF gs i n) ↔ m ≤ n
  lo : 1 ≤ m
  hi : m ≤ 2 ^ 48
theorem low_max {gs : List Stp} {ls : List (List Int × Int)} (ok : PipeOk gs) (sm : ∀ x ∈ gs, x.small) (hl : gs.length ≤ 8) (hs : Sp gs ≤ 60) (LO : LinesOk gs ls) {m : Int} (h1 : m ∈ ls.map lowI) (h2 : ∀ y ∈ ls.map lowI, y ≤ m) : Low gs m := by
  have key : ∀ i (hi : i ≤ gs.length), (∀ u, 1 ≤ rowF gs i u ↔ lowI (ls.getD i ([], 0)) ≤ u) ∧ lowI (ls.getD i ([], 0)) ≤ 2 ^ 48 := fun i hi => (low_is ok sm hl hs hi (lines_at ok sm hl hs LO hi)).2
  have mem : ∀ i, i ≤ gs.length → lowI (ls.getD i ([], 0)) ∈ ls.map lowI := fun i hi => by
    have hil : i < ls.length := by rw [LO.len]; omega
    rw [List.getD_eq_getElem?_getD, List.getElem?_eq_getElem hil]
    exact List.mem_map_of_mem (List.getElem_mem hil)
  obtain ⟨p, hp, rfl⟩ := List.mem_map.mp h1
  obtain ⟨i0, hi0⟩ := List.getElem?_of_mem hp
  have hil := (List.getElem?_eq_some_iff.mp hi0).1
  rw [LO.len] at hil
  have e0 : ls.getD i0 ([], 0) = p := by rw [List.getD_eq_getElem?_getD, hi0]; rfl
  have k0 := key i0 (by omega)
  rw [e0] at k0
  refine ⟨fun n => ⟨fun h => (k0.1 n).mp (h i0 (by omega)), fun h i hi => ?_⟩, ?_, k0.2⟩
  · have := h2 _ (mem i hi)
    exact ((key i hi).1 n).mpr (by omega)
  · have h3 := (key 0 (Nat.zero_le _)).1 0
    rw [rowF_zero] at h3
    have h4 := h2 _ (mem 0 (Nat.zero_le _))
    omega
theorem fit_low {gs : List Stp} {ls : List (List Int × Int)} (ok : PipeOk gs) (sm : ∀ x ∈ gs, x.small) (hl : gs.length ≤ 8) (hs : Sp gs ≤ 60) (LO : LinesOk gs ls) {m : Int} (lw : Low gs m) (n : Int) : FitP gs n ↔ m ≤ n ∧ ∀ q ∈ prs gs ls, lh q.1.1 q.1.2 q.2.1 q.2.2 n = 0 := by
  unfold FitP
  rw [lw.iff, fit_prs ok sm hl hs LO]
theorem row_small {gs : List Stp} (ok : PipeOk gs) (sm : ∀ x ∈ gs, x.small) (hl : gs.length ≤ 8) {n : Int} (hn : n.natAbs < 2 ^ 50) (i : Nat) : (rowF gs i n).natAbs < 2 ^ 82 := by
  have h := rowsZ_bd ok sm (show 10 ≤ 50 by decide) hn gs.length (Nat.le_refl _) i
  rw [List.take_length] at h
  exact Nat.lt_of_lt_of_le h (Nat.pow_le_pow_right (by decide) (by omega))
theorem bd_meet {m n v : Int} {t : Nat} (h1 : 1 ≤ m) (h2 : m ≤ 2 ^ 48) (ht : t < 60) (hv : v.natAbs < 2 ^ 83) (h : n.natAbs ≤ (m + t).natAbs + v.natAbs * 60) : n.natAbs < 2 ^ 90 := by
  have h5 : v.natAbs * 60 ≤ 2 ^ 83 * 60 := Nat.mul_le_mul_right _ (Nat.le_of_lt hv)
  have h6 : (m + (t : Int)).natAbs ≤ 2 ^ 49 := by omega
  omega
theorem prOk_bd {gs : List Stp} (ok : PipeOk gs) (sm : ∀ x ∈ gs, x.small) (hl : gs.length ≤ 8) {q : Lp2} (h : PrOk gs q) {n : Int} (hn : n.natAbs < 2 ^ 50) : (lh q.1.1 q.1.2 q.2.1 q.2.2 n).natAbs < 2 ^ 83 := by
  obtain ⟨i, j, hi, hj, R1, R2⟩ := h.ex
  have b1 := row_small ok sm hl hn i
  have b2 := row_small ok sm hl hn j
  unfold lh
  rw [R1.fm.at_, R2.fm.at_]
  omega
theorem at_level {p : List Int × Int} (o : Ln.Ok p.1 p.2) (h : p.2 ≤ 0) (n : Int) : Ln.at_ p.1 p.2 n = Ln.at_ p.1 p.2 0 := by
  have hs := o.pos
  have c : ∀ k : Int, Ln.at_ p.1 p.2 (0 + k * p.1.length) = Ln.at_ p.1 p.2 0 := fun k => by
    have e : p.2 = 0 := by have := o.rise; omega
    rw [Ln.at_mul hs, e, Int.mul_zero, Int.add_zero]
  have e1 := Int.mul_ediv_add_emod n p.1.length
  have m0 := Int.emod_nonneg n (show (p.1.length : Int) ≠ 0 by omega)
  have m1 := Int.emod_lt_of_pos n (show 0 < (p.1.length : Int) by omega)
  have c1 := c (n / p.1.length)
  have c2 := c (n / p.1.length + 1)
  rw [Int.mul_comm] at c1
  rw [Int.add_mul, Int.one_mul, Int.mul_comm] at c2
  have a1 := Ln.at_le o (show 0 + (p.1.length : Int) * (n / p.1.length) ≤ n by omega)
  have a2 := Ln.at_le o (show n ≤ 0 + ((p.1.length : Int) * (n / p.1.length) + p.1.length) by omega)
  omega
theorem low_ok {p : List Int × Int} (m : Sm p.1 p.2) (h : 0 < p.2) : leastD p.1 p.2 1 = .int (lowI p) ∧ ∀ n, 1 ≤ Ln.at_ p.1 p.2 n ↔ lowI p ≤ n := by
  rcases leastD_is m.fm.ok (Fm_big m.fm (by decide) (by decide)) (v := 1) (by decide +kernel) with ⟨_, e⟩ | ⟨k, em, _, l1, l2, l3⟩
  · omega
  · have el : lowI p = k := by unfold lowI; rw [em]
    rw [el]
    refine ⟨em, fun n => ⟨fun z => ?_, fun z => ?_⟩⟩
    · rcases Int.lt_or_le n k with y | y
      · have := Ln.at_le m.fm.ok (show n ≤ k - 1 by omega)
        omega
      · exact y
    · have := Ln.at_le m.fm.ok z
      omega
/-- lines and pairs within one round M -/
structure Whr (N M : Nat) (ps : List (List Int × Int)) (qs : List Lp2) (b : Int) : Prop where
  m0 : 0 < M
  m1 : M ≤ 60
  sm : ∀ p ∈ ps, Sm p.1 p.2
  hi : ∀ p ∈ ps, 0 < p.2 → lowI p ≤ 2 ^ 48
  b0 : 0 ≤ b
  b1 : b ≤ 2 ^ 48
  qsm : ∀ q ∈ qs, Sm q.1.1 q.1.2 ∧ Sm q.2.1 q.2.2
  dv : ∀ q ∈ qs, q.1.1.length ∣ M ∧ q.2.1.length ∣ M
  bd : ∀ q ∈ qs, ∀ n : Int, n.natAbs < 2 ^ 50 → (lh q.1.1 q.1.2 q.2.1 q.2.2 n).natAbs * 60 + 2 ^ 50 ≤ N
  n1 : 2 ^ 100 ≤ N
  n2 : N ≤ 2 ^ 120
def WhrP (ps : List (List Int × Int)) (qs : List Lp2) (b : Int) (n : Int) : Prop := b ≤ n ∧ (∀ p ∈ ps, 1 ≤ Ln.at_ p.1 p.2 n) ∧ ∀ q ∈ qs, lh q.1.1 q.1.2 q.2.1 q.2.2 n = 0
theorem bd_meetW {m n v : Int} {t : Nat} (h1 : 0 ≤ m) (h2 : m ≤ 2 ^ 48) (ht : t < 60) {N : Nat} (hv : v.natAbs * 60 + 2 ^ 50 ≤ N) (h : n.natAbs ≤ (m + t).natAbs + v.natAbs * 60) : n.natAbs < N := by
  have h6 : (m + (t : Int)).natAbs ≤ 2 ^ 49 := by omega
  omega
theorem Whr.lcm {N M : Nat} {ps : List (List Int × Int)} {qs : List Lp2} {b : Int} (W : Whr N M ps qs b) {q : Lp2} (hq : q ∈ qs) : Nat.lcm q.1.1.length q.2.1.length ≤ 60 := by
  obtain ⟨d1, d2⟩ := W.dv q hq
  have := Nat.le_of_dvd W.m0 (Nat.lcm_dvd d1 d2)
  have := W.m1
  omega
/-- lines up to the i-th have a cell from m on -/
def LowAt (ps : List (List Int × Int)) (b : Int) (i : Nat) (m : Int) : Prop := b ≤ m ∧ m ≤ 2 ^ 48 ∧ ∀ n, (b ≤ n ∧ ∀ p ∈ ps.take i, 1 ≤ Ln.at_ p.1 p.2 n) ↔ m ≤ n
theorem LowAt.zero {ps : List (List Int × Int)} {b : Int} (h : b ≤ 2 ^ 48) : LowAt ps b 0 b := ⟨Int.le_refl _, h, fun n => ⟨fun z => z.1, fun z => ⟨z, fun p hp => by rw [List.take_zero] at hp; cases hp⟩⟩⟩
theorem LowAt.up {ps : List (List Int × Int)} {b : Int} {i : Nat} {m : Int} {p : List Int × Int} (h : LowAt ps b i m) (hp : ps[i]? = some p) (k : Int) (hk : k ≤ 2 ^ 48) (e : ∀ n, 1 ≤ Ln.at_ p.1 p.2 n ↔ k ≤ n) : LowAt ps b (i + 1) (if k > m then k else m) := by
  rw [show (if k > m then k else m) = max m k by split <;> omega]
  obtain ⟨h1, h2, h3⟩ := h
  refine ⟨by omega, by omega, fun n => ?_⟩
  rw [List.take_add_one, hp]
  have h3 := h3 n
  have e := e n
  constructor
  · rintro ⟨a, c⟩
    have c1 := h3.mp ⟨a, fun p' hp' => c p' (List.mem_append_left _ hp')⟩
    have c2 := e.mp (c p (List.mem_append_right _ (by simp)))
    omega
  · intro z
    obtain ⟨a, c⟩ := h3.mpr (by omega)
    refine ⟨a, fun p' hp' => ?_⟩
    rcases List.mem_append.mp hp' with y | y
    · exact c p' y
    · have y : p' = p := by simpa using y
      subst y
      exact e.mpr (by omega)
theorem LowAt.flat {ps : List (List Int × Int)} {b : Int} {i : Nat} {m : Int} {p : List Int × Int} (h : LowAt ps b i m) (hp : ps[i]? = some p) (e : ∀ n, 1 ≤ Ln.at_ p.1 p.2 n) : LowAt ps b (i + 1) m := by
  obtain ⟨h1, h2, h3⟩ := h
  refine ⟨h1, h2, fun n => ?_⟩
  rw [List.take_add_one, hp, ← h3 n]
  constructor
  · rintro ⟨a, c⟩
    exact ⟨a, fun p' hp' => c p' (List.mem_append_left _ hp')⟩
  · rintro ⟨a, c⟩
    refine ⟨a, fun p' hp' => ?_⟩
    rcases List.mem_append.mp hp' with y | y
    · exact c p' y
    · have y : p' = p := by simpa using y
      subst y
      exact e n
theorem whr_low {ps : List (List Int × Int)} {qs : List Lp2} {b m : Int} (h : LowAt ps b ps.length m) (n : Int) : WhrP ps qs b n ↔ m ≤ n ∧ ∀ q ∈ qs, lh q.1.1 q.1.2 q.2.1 q.2.2 n = 0 := by
  have := h.2.2 n
  rw [List.take_length] at this
  unfold WhrP
  rw [← this, and_assoc]
theorem whr_none {N M : Nat} {ps : List (List Int × Int)} {qs : List Lp2} {b : Int} (W : Whr N M ps qs b) {p : List Int × Int} (hp : p ∈ ps) (h1 : ¬ 0 < p.2) (h2 : Ln.at_ p.1 p.2 0 < 1) : FormB N (WhrP ps qs b) (.tup [.str "some", lz []]) := by
  refine .inl ⟨[], rfl, List.Pairwise.nil, fun n => ⟨fun h => (by cases h), fun h => ?_⟩, by decide, fun x hx => (by cases hx)⟩
  exfalso
  have a := h.2.1 p hp
  rw [at_level (W.sm p hp).fm.ok (by omega)] at a
  omega
def dsWhr (C : Addr) : DS := ds (α := List (List Int × Int) × List Lp2 × Int × Nat × Nat) (fun a es S => es = [.d (.lst (a.1.map (lnP C))), .d (.lst (a.2.1.map (prD C))), .d (.int a.2.2.1)] ∧ S = [] ∧ Whr a.2.2.2.1 a.2.2.2.2 a.1 a.2.1 a.2.2.1) (fun a e S' => ∃ d, e = .d d ∧ S' = [] ∧ FormB a.2.2.2.1 (WhrP a.1 a.2.1 a.2.2.1) d)
theorem ok_whr {f C : Addr} {fd : FuncData} (F : Fun K "form_where" "form_where" sform_where f fd) (T : Blt mg) (drise : Pr P w0 K mg base CX0 1 C "rise" (dsRise C)) (dleast_at : Mt P w0 K mg base CX0 2 C "least_at" (dsLeast C)) (dat : Mt P w0 K mg base CX0 1 C "at" (dsLAt C)) (drise_alike : Df P w0 K mg base CX0 3 "rise_alike" 2 (dsAlike C)) (dall_meetings : Df P w0 K mg base CX0 3 "all_meetings" 3 (dsMeets C)) (dare_equal_at : Df P w0 K mg base CX0 2 "are_equal_at" 2 (dsEqAt C)) (dform_of_classes : Df P w0 K mg base CX0 4 "form_of_classes" 2 (dsFoc C)) :
    FnOk P w0 K mg base CX0 5 f fd ["lines", "pairs", "low"] (spD K (dsWhr C)) := by
  refine fn0 F scform_where (fun es S p e h => by obtain ⟨a, ⟨h, _⟩, _⟩ := h; rw [h]; rfl) (fun cdv A outer s H E hr w es S p e hK hA h => ?_)
  subst hK
  obtain ⟨⟨ps, qs, b, N, M⟩, ⟨rfl, rfl, W⟩, hp⟩ := h
  dsimp only at W hp
  refine ⟨_, (pss_cons (ps_for PassesOwn.never rfl (pi_list (pv 0)) (gn 3 scform_where.nd)
      (pss_one (ps_if (pt_cmpR op_gt (pe_pr drise (hr.mono (by decide)) pass0 (pv 3)) pe_int (nomark _))
        (pss_one (sset 2 (b_max2 T.max (pv 2) (pe_md dleast_at (hr.mono (by decide)) pass0 (pv 3) (pa_cons pe_int pa_nil))) scform_where.nd))
        (pss_one (ps_if (pt_cmpR op_lt (pe_md dat (hr.mono (by decide)) pass0 (pv 3) (pa_cons pe_int pa_nil)) pe_int (nomark _))
          (pss_one (ps_ret (pe_tup (pa_cons pe_str (pa_cons (pe_lst pa_nil) pa_nil)))))
          pss_nil)))))
    (pss_cons (ps_for PassesOwn.never rfl (pi_list (pv 1)) (pg_tup (n := 2) (by rfl) (pgs_cons (gn 4 scform_where.nd) (pgs_cons (gn 5 scform_where.nd) pgs_nil)))
      (pss_one (ps_if (pt_not (pt_val (pe_df drise_alike (hr.mono (by decide)) pass0 (pa_cons (pv 4) (pa_cons (pv 5) pa_nil)))))
        (pss_one (ps_ret (pe_tup (pa_cons pe_str (pa_cons (pe_lc (own := [("place", 6)]) (g := gName 6) rfl scform_where.nd (pi_list (pe_df dall_meetings (hr.mono (by decide)) pass0 (pa_cons (pv 4) (pa_cons (pv 5) (pa_cons (pv 2) pa_nil))))) (blkOk_by (own := [("place", 6)]) (N := Nform_where) (sc := defScope sform_where) (by decide +kernel)) (fun _ _ _ _ _ => gn 6 scform_where.nd) (fun _ _ _ _ _ => (pts_one (pt_val (pe_dfB dare_equal_at (hr.mono (by decide)) pass0 (pa_cons (pv 1) (pa_cons (pv 6) pa_nil)))))) (fun _ _ _ _ _ => (pv 6))) pa_nil)))))
        pss_nil)))
    (pss_one (ps_ret (pe_df dform_of_classes (hr.mono (by decide)) pass0 (pa_cons (pv 1) (pa_cons (pv 2) pa_nil))))))), ?_⟩
  try dsimp only [L2.cxOf, L2.Cx.nox]
  walk_at "gg"
  refine ls_forL ?_
  walk_at "gg"
  refine ⟨fun i Γ S => S = [] ∧ ∃ (m : Int) (x3 : Option Ent), LowAt ps b i m ∧ Γ = [some (.d (.lst (ps.map (lnP C)))), some (.d (.lst (qs.map (prD C)))), some (.d (.int m)), x3, none, none, none], ⟨rfl, b, none, .zero W.b1, rfl⟩, ?_, ?_⟩
  · rintro i d _ _ hd ⟨rfl, m, x3, LA, rfl⟩
    rw [List.getElem?_map, Option.map_eq_some_iff] at hd
    obtain ⟨p, hpi, rfl⟩ := hd
    have hpm := List.mem_of_getElem? hpi
    have PS := W.sm p hpm
    walk_at "gg"
    refine ⟨_, .inl rfl, rise ?_⟩
    walk_at "gg"
    refine ⟨fun hb => ?_, fun hb => ?_⟩
    · have h0 : 0 < p.2 := of_decide_eq_true hb
      obtain ⟨l1, l2⟩ := low_ok PS h0
      walk_at "gg"
      refine ⟨_, .inl rfl, lf_no (by decide +kernel) (by decide +kernel), ?_⟩
      walk_at "gg"
      refine least PS.fm.ok (Fm_big PS.fm (by decide) (by decide)) (by decide +kernel) ?_
      rw [l1]
      walk_at "gg"
      exact ⟨rfl, _, _, LA.up hpi (lowI p) (W.hi p hpm h0) l2, rfl⟩
    · have h0 : ¬ 0 < p.2 := of_decide_eq_false hb
      walk_at "gg"
      refine ⟨_, .inl rfl, lf_no (by decide +kernel) (by decide +kernel), ?_⟩
      walk_at "gg"
      refine latF PS.fm (by decide) (by decide) (by decide +kernel) ?_
      walk_at "gg"
      refine ⟨fun hb1 => ?_, fun hb1 => ?_⟩
      · have h1 : Ln.at_ p.1 p.2 0 < 1 := of_decide_eq_true hb1
        walk_at "gg"
        exact hp _ _ ⟨_, rfl, rfl, whr_none W hpm h0 h1⟩
      · have h1 : ¬ Ln.at_ p.1 p.2 0 < 1 := of_decide_eq_false hb1
        walk_at "gg"
        refine ⟨rfl, _, _, LA.flat hpi fun n => ?_, rfl⟩
        rw [at_level PS.fm.ok (by omega)]
        omega
  · rintro _ _ ⟨rfl, m, x3, LA, rfl⟩
    rw [List.length_map] at LA
    have hm1 : 0 ≤ m := Int.le_trans W.b0 LA.1
    have hm2 := LA.2.1
    have hmn : m.natAbs < 2 ^ 49 := by omega
    walk_at "gg"
    refine ls_forL ?_
    walk_at "gg"
    refine ⟨fun i Γ S => S = [] ∧ (∀ q ∈ qs.take i, q.1.2 * q.2.1.length = q.2.2 * q.1.1.length) ∧ ∃ x4 x5 : Option Ent, Γ = [some (.d (.lst (ps.map (lnP C)))), some (.d (.lst (qs.map (prD C)))), some (.d (.int m)), x3, x4, x5, none], ⟨rfl, fun q hq => (by rw [List.take_zero] at hq; cases hq), _, _, rfl⟩, ?_, ?_⟩
    · rintro i d _ _ hd ⟨rfl, hal, x4, x5, rfl⟩
      rw [List.getElem?_map, Option.map_eq_some_iff] at hd
      obtain ⟨q, hq, rfl⟩ := hd
      have hqm := List.mem_of_getElem? hq
      obtain ⟨R1, R2⟩ := W.qsm q hqm
      walk_at "gg"
      refine alike R1 R2 ?_
      walk_at "gg"
      refine ⟨fun hb => ?_, fun hb => ?_⟩
      · have hne : q.1.2 * q.2.1.length ≠ q.2.2 * q.1.1.length := fun z => by rw [decide_eq_true z] at hb; cases hb
        walk_at "gg"
        refine le_lcL ?_
        walk_at "gg"
        refine meetsP R1 R2 (Nat.lt_of_lt_of_le hmn (Nat.pow_le_pow_right (by decide) (by decide))) (W.lcm hqm) hne fun xs hx1 hx2 hx3 hx4 => ?_
        have hx5 : ∀ n ∈ xs, n.natAbs < N := fun n hn => by
          obtain ⟨t, ht, h⟩ := hx4 n hn
          exact bd_meetW hm1 hm2 ht (W.bd q hqm _ (by omega)) h
        refine ⟨xs.map Gm.D.int, rfl, fun i acc S => S = [] ∧ i ≤ xs.length ∧ acc = ((xs.take i).filter fun n => eqAll qs n).map Gm.D.int, ⟨rfl, Nat.zero_le _, rfl⟩, ?_, ?_⟩
        · rintro j d _ _ hd _ ⟨rfl, hj, rfl⟩
          rw [List.getElem?_map, Option.map_eq_some_iff] at hd
          obtain ⟨n, hn, rfl⟩ := hd
          have hjl := (List.getElem?_eq_some_iff.mp hn).1
          have hzl : (((xs.take j).filter fun n => eqAll qs n).map Gm.D.int).length < sizeLine := by
            have := List.length_filter_le (fun n => eqAll qs n) (xs.take j)
            rw [List.length_take] at this
            rw [List.length_map]; unfold sizeLine; omega
          unfold LcT
          walk_at "gg"
          refine eqAt W.qsm (Nat.lt_of_lt_of_le (hx5 n (List.mem_of_getElem? hn)) W.n2) ?_
          walk_at "gg"
          refine ⟨fun hb1 => ?_, fun hb1 => ?_⟩
          · walk_at "gg"
            refine ⟨_, [], rfl, rfl, rfl, hzl, rfl, by omega, ?_⟩
            rw [List.take_add_one, hn, List.filter_append, List.map_append]
            show _ = _ ++ (List.filter _ [n]).map Gm.D.int
            have ef : List.filter (fun n => eqAll qs n) [n] = [n] := by rw [List.filter_cons, if_pos hb1]; rfl
            rw [ef]; rfl
          · refine ⟨[], rfl, rfl, rfl, by omega, ?_⟩
            rw [List.take_add_one, hn, List.filter_append, List.map_append]
            show _ = _ ++ (List.filter _ [n]).map Gm.D.int
            have ef : List.filter (fun n => eqAll qs n) [n] = [] := by rw [List.filter_cons, if_neg (by rw [hb1]; exact Bool.false_ne_true)]; rfl
            rw [ef]
            show _ = _ ++ []
            rw [List.append_nil]
        · rintro acc _ ⟨rfl, _, rfl⟩
          rw [List.length_map, List.take_length]
          walk_at "gg"
          refine hp _ _ ⟨_, rfl, rfl, .inl ⟨_, rfl, hx1.filter _, fun n => ?_, Nat.le_trans (List.length_filter_le _ _) hx2, fun n hn => ?_⟩⟩
          · rw [List.mem_filter]
            show n ∈ xs ∧ eqAll qs n = true ↔ _
            rw [hx3, eqAll_iff, whr_low LA]
            exact ⟨fun z => ⟨z.1.1, z.2⟩, fun z => ⟨⟨z.1, z.2 q hqm⟩, z.2⟩⟩
          · exact hx5 n (List.mem_filter.mp hn).1
      · have hal' : q.1.2 * q.2.1.length = q.2.2 * q.1.1.length := by
          rcases Classical.em (q.1.2 * q.2.1.length = q.2.2 * q.1.1.length) with z | z
          · exact z
          · rw [decide_eq_false z] at hb; cases hb
        walk_at "gg"
        refine ⟨rfl, fun q' hq' => ?_, _, _, rfl⟩
        rw [List.take_add_one, hq] at hq'
        rcases List.mem_append.mp hq' with z | z
        · exact hal q' z
        · have e2 : q' = q := by simpa using z
          subst e2
          exact hal'
    · rintro _ _ ⟨rfl, hal, x4, x5, rfl⟩
      rw [List.length_map, List.take_length] at hal
      walk_at "gg"
      have AL : Alk M qs := ⟨W.m0, W.m1, W.qsm, W.dv, hal⟩
      refine foc AL (Nat.lt_of_lt_of_le hmn (Nat.pow_le_pow_right (by decide) (by decide))) fun d hd => ?_
      exact hp _ _ ⟨d, rfl, rfl, (FormB.congr hd fun n => (whr_low LA n).symm).mono W.n1⟩
theorem whr {w : Wd} {C : Addr} {S : List Own} {E : XK} {k : KE} {N M : Nat} {ps : List (List Int × Int)} {qs : List Lp2} {b : Int} (W : Whr N M ps qs b) (h : ∀ d, FormB N (WhrP ps qs b) d → k (.d d) S) : RS w (dsWhr C) E [.d (.lst (ps.map (lnP C))), .d (.lst (qs.map (prD C))), .d (.int b)] S k :=
  r0 (ps, qs, b, N, M) ⟨rfl, rfl, W⟩ fun e S' ⟨d, h1, h2, h3⟩ => ⟨_, h2, h1, h d h3⟩
theorem fit_whr {gs : List Stp} {ls : List (List Int × Int)} (ok : PipeOk gs) (sm : ∀ x ∈ gs, x.small) (hl : gs.length ≤ 8) (hs : Sp gs ≤ 60) (LO : LinesOk gs ls) : Whr (2 ^ 100) (Sp gs) ls (prs gs ls) 1 where
  m0 := by have := Sp_pos ok gs.length (Nat.le_refl _); rwa [List.take_length] at this
  m1 := hs
  sm p hp := by
    obtain ⟨i0, hi0⟩ := List.getElem?_of_mem hp
    have hil := (List.getElem?_eq_some_iff.mp hi0).1
    have hll := LO.len
    have e0 : ls.getD i0 ([], 0) = p := by rw [List.getD_eq_getElem?_getD, hi0]; rfl
    have R := lines_at ok sm hl hs LO (i := i0) (by omega)
    rw [e0] at R
    exact R.sm
  hi p hp _ := by
    obtain ⟨i0, hi0⟩ := List.getElem?_of_mem hp
    have hil := (List.getElem?_eq_some_iff.mp hi0).1
    have hll := LO.len
    have e0 : ls.getD i0 ([], 0) = p := by rw [List.getD_eq_getElem?_getD, hi0]; rfl
    have R := lines_at ok sm hl hs LO (i := i0) (by omega)
    rw [e0] at R
    exact (low_is ok sm hl hs (i := i0) (by omega) R).2.2
  b0 := by decide
  b1 := by decide
  qsm q hq := by
    obtain ⟨i1, j1, hi1, hj1, R1, R2⟩ := (prs_ok ok sm hl hs LO hq).ex
    exact ⟨R1.sm, R2.sm⟩
  dv q hq := by
    obtain ⟨i1, j1, hi1, hj1, R1, R2⟩ := (prs_ok ok sm hl hs LO hq).ex
    exact ⟨R1.dv, R2.dv⟩
  bd q hq n hn := by
    have := prOk_bd ok sm hl (prs_ok ok sm hl hs LO hq) hn
    have h5 := Nat.mul_le_mul_right 60 (Nat.le_of_lt this)
    omega
  n1 := Nat.le_refl _
  n2 := Nat.pow_le_pow_right (by decide) (by decide)
theorem whr_fit {gs : List Stp} {ls : List (List Int × Int)} (ok : PipeOk gs) (sm : ∀ x ∈ gs, x.small) (hl : gs.length ≤ 8) (hs : Sp gs ≤ 60) (LO : LinesOk gs ls) (n : Int) : WhrP ls (prs gs ls) 1 n ↔ FitP gs n := by
  unfold WhrP FitP
  rw [fit_prs ok sm hl hs LO]
  have hll := LO.len
  have key : ∀ i, i ≤ gs.length → Ln.at_ (ls.getD i ([], 0)).1 (ls.getD i ([], 0)).2 n = rowF gs i n := fun i hi => (lines_at ok sm hl hs LO hi).fm.at_ n
  constructor
  · rintro ⟨h1, h2, h3⟩
    refine ⟨fun i hi => ?_, h3⟩
    rw [← key i hi]
    refine h2 _ ?_
    rw [List.getD_eq_getElem?_getD, List.getElem?_eq_getElem (show i < ls.length by omega)]
    exact List.getElem_mem _
  · rintro ⟨h2, h3⟩
    refine ⟨?_, fun p hp => ?_, h3⟩
    · have := h2 0 (Nat.zero_le _)
      rwa [rowF_zero] at this
    · obtain ⟨i0, hi0⟩ := List.getElem?_of_mem hp
      have hil := (List.getElem?_eq_some_iff.mp hi0).1
      have e0 : ls.getD i0 ([], 0) = p := by rw [List.getD_eq_getElem?_getD, hi0]; rfl
      rw [← e0, key i0 (by omega)]
      exact h2 i0 (by omega)
def dsFit (C D : Addr) : DS := ds (α := List Stp) (fun a es S => es = [.d (pD D a)] ∧ S = [] ∧ PipeOk a ∧ (∀ x ∈ a, x.small) ∧ a.length ≤ 8 ∧ Sp a ≤ 60) (fun a e S' => ∃ d, e = .d d ∧ S' = [] ∧ FormD (FitP a) d)
theorem ok_fit {f C D : Addr} {fd : FuncData} (F : Fun K "fitting_sizes" "fitting_sizes" sfitting_sizes f fd) (T : Blt mg) (drow_lines : Df P w0 K mg base CX0 6 "row_lines" 1 (dsRows C D)) (djoined_lines : Df P w0 K mg base CX0 3 "joined_lines" 2 (dsJoinL C D)) (dform_where : Df P w0 K mg base CX0 5 "form_where" 3 (dsWhr C)) :
    FnOk P w0 K mg base CX0 8 f fd ["pipeline"] (spD K (dsFit C D)) := by
  refine fn0 F scfitting_sizes (fun es S p e h => by obtain ⟨a, ⟨h, _⟩, _⟩ := h; rw [h]; rfl) (fun cdv A outer s H E hr w es S p e hK hA h => ?_)
  subst hK
  obtain ⟨gs, ⟨rfl, rfl, ok, sm, hl, hs⟩, hp⟩ := h
  refine ⟨_, (pss_cons (sset 1 (pe_df drow_lines (hr.mono (by decide)) pass0 (pa_cons (pv 0) pa_nil)) scfitting_sizes.nd)
    (pss_one (ps_ret (pe_df dform_where (hr.mono (by decide)) pass0 (pa_cons (pv 1) (pa_cons (pe_df djoined_lines (hr.mono (by decide)) pass0 (pa_cons (pv 0) (pa_cons (pv 1) pa_nil))) (pa_cons pe_int pa_nil))))))), ?_⟩
  try dsimp only [L2.cxOf, L2.Cx.nox]
  walk_at "gg"
  refine rows ok sm hl hs fun ls LO => ?_
  walk_at "gg"
  refine joinL ok hl LO.len ?_
  walk_at "gg"
  refine whr (fit_whr ok sm hl hs LO) fun d hd => ?_
  exact hp _ _ ⟨d, rfl, rfl, hd.congr (whr_fit ok sm hl hs LO)⟩
theorem fit_ {w : Wd} {C D : Addr} {S : List Own} {E : XK} {k : KE} {gs : List Stp} (ok : PipeOk gs) (sm : ∀ x ∈ gs, x.small) (hl : gs.length ≤ 8) (hs : Sp gs ≤ 60) (h : ∀ d, FormD (FitP gs) d → k (.d d) S) : RS w (dsFit C D) E [.d (pD D gs)] S k :=
  r0 gs ⟨rfl, rfl, ok, sm, hl, hs⟩ fun e S' ⟨d, h1, h2, h3⟩ => ⟨_, h2, h1, h d h3⟩
end

local macro_rules | `(tactic| walk_at "go") => `(tactic| (first
  | ((with_reducible refine le_var (e := ?e) ?h ?_); (case h => rfl))
  | with_reducible refine le_int ?_
  | with_reducible refine le_op ?_
  | with_reducible refine rr_int0 ?_
  | with_reducible refine rr_bl0 ?_
  | with_reducible refine le_cb ?_
  | with_reducible refine la_cons ?_
  | with_reducible refine la_nil ?_
  | with_reducible refine rc_int ?_
  | with_reducible refine ls_seq ?_
  | with_reducible refine ls_set ?_
  | with_reducible refine ls_ret ?_
  | with_reducible refine ls_next ?_
  | with_reducible refine ls_drop ?_
  | with_reducible refine ls_fld ?_
  | with_reducible refine le_methK ?_
  | with_reducible refine le_callK ?_
  | with_reducible refine ls_if ?_
  | with_reducible refine lt_test ?_
  | ((with_reducible refine rr_ixO (ds := ?ds) (d := ?d) ?h1 ?h2 ?_); (case h1 => rfl); (case h2 => rfl))
  | ((with_reducible refine rr_ixT (ds := ?ds) (d := ?d) ?h ?_); (case h => rfl))
  | with_reducible refine le_un ?_
  | with_reducible refine r1_int ?_
  | with_reducible refine ls_asg ?_
  | with_reducible refine lg_name ?_
  | with_reducible refine lg_tup2 ?_
  | with_reducible refine lg_tup3 ?_
  | with_reducible refine lg_tup4 ?_
  | with_reducible refine lg_tup5 ?_
  | with_reducible refine lg_sub ?_
  | with_reducible refine le_tup ?_
  | with_reducible refine le_lst ?_
  | with_reducible refine le_bl ?_
  | with_reducible refine le_str ?_
  | with_reducible refine le_non ?_
  | with_reducible refine le_cls ?_
  | with_reducible refine le_ty ?_
  | with_reducible refine la_perm ?_
  | with_reducible refine le_chain ?_
  | with_reducible refine le_call ?_
  | with_reducible refine le_bmLat (r := rPopAt) ?_
  | with_reducible refine le_bmL ?_
  | with_reducible refine le_bmL0 ?_
  | with_reducible refine le_if ?_
  | with_reducible refine lt_and ?_
  | with_reducible refine lt_or ?_
  | with_reducible refine lt_not ?_
  | with_reducible refine lt_tb ?_
  | with_reducible refine le_andV ?_
  | with_reducible refine le_orV ?_
  | with_reducible refine le_notV ?_
  | with_reducible refine le_fld ?_
  | with_reducible refine le_meth ?_
  | with_reducible refine le_prop ?_
  | with_reducible refine le_slL ?_
  | with_reducible refine le_slT ?_
  | with_reducible refine lo_none ?_
  | with_reducible refine lo_some ?_
  | with_reducible refine le_listRg2 ?_
  | with_reducible refine lt_yes ?_
  | with_reducible refine lcd_yes ?_
  | with_reducible refine ls_par ?_
  | with_reducible refine ls_par3 ?_
  | with_reducible refine le_dget ?_
  | with_reducible refine rr_ipI ?_
  | with_reducible refine ls_dput ?_
  | with_reducible refine ls_daug ?_
  | with_reducible refine lp_nil ?_
  | with_reducible refine lp_cons ?_
  | with_reducible refine ls_retN ?_
  | with_reducible refine ls_brk ?_
  | with_reducible refine ls_cont ?_
  | with_reducible refine rc_len (len_lz _) ?_
  | ((with_reducible refine rc_len (n := ?n) ?h ?_); (case h => rfl))
  | ((with_reducible refine rc_lenO (ds := ?ds) ?h ?_); (case h => rfl))
  | with_reducible refine rc_abs ?_
  | with_reducible refine rc_max2 ?_
  | with_reducible refine rc_min2 ?_
  | ((with_reducible refine rr_eq (u := ?u) (v := ?v) ?h1 ?h2 ?h3 ?_); (case h1 => rfl); (case h2 => rfl); (case h3 => rfl))
  | ((with_reducible refine rr_ne (u := ?u) (v := ?v) ?h1 ?h2 ?h3 ?_); (case h1 => rfl); (case h2 => rfl); (case h3 => rfl))
  | with_reducible refine rr_isN ?_
  | with_reducible refine rr_notN ?_
  | refine ⟨_, _, _, _, _, rfl, rfl, rfl, rfl, rfl, lt_ble rfl, ?_⟩
  | refine ⟨_, _, _, rfl, rfl, rfl, lt_ble rfl, ?_⟩
  | refine ⟨_, _, _, _, rfl, rfl, rfl, rfl, ?_⟩
  | refine ⟨_, rfl, sz rfl, ?_⟩
  | refine ⟨_, rfl, ?_⟩
  ))

local macro_rules | `(tactic| walk_at "gg") => `(tactic| repeat walk_at "go")
local macro_rules | `(tactic| walk_at "envle") => `(tactic| repeat (first | exact EnvLe.nil | refine EnvLe.same rfl ?_ | refine EnvLe.none ?_))

/-! ### the draws of a law -/
section
variable {P : Program} {w0 : World} {K : PySem.W.Frag} {mg : Str → Option Value} {base : Heap}
def Rng (n : Nat) (o : Own) : Prop := ∃ x y z : Int, o = .lst [.int x, .int y, .int z] ∧ 0 ≤ x ∧ 0 ≤ y ∧ y < 2 ^ 62 ∧ 0 ≤ z ∧ z ≤ n
theorem Rng.ng {n : Nat} {o : Own} (h : Rng n o) : o ≠ .gone := by obtain ⟨x, y, z, rfl, _⟩ := h; intro z; cases z
theorem Rng.mono {n m : Nat} {o : Own} (h : Rng n o) (l : n ≤ m) : Rng m o := by obtain ⟨x, y, z, h0, h1, h2, h3, h4, h5⟩ := h; exact ⟨x, y, z, h0, h1, h2, h3, h4, by omega⟩
def dsRng : DS := ds (α := List Int) (fun a es S => es = [.d (.scr a)] ∧ S = [] ∧ a.length ≤ 63) (fun a e S' => ∃ o, e = .own 0 ∧ S' = [o] ∧ Rng 0 o)
theorem ok_rng {f : Addr} {fd : FuncData} (F : Fun K "_law_rng" "_law_rng" s_law_rng f fd) (T : Blt mg) : FnOk P w0 K mg base CX0 1 f fd ["script"] (spD K dsRng) := by
  refine fn0 F sc_law_rng (fun es S p e h => by obtain ⟨a, ⟨h, _⟩, _⟩ := h; rw [h]; rfl) (fun cdv A outer s H E hr w es S p e hK hA h => ?_)
  subst hK
  obtain ⟨ns, ⟨rfl, rfl, hns⟩, hp⟩ := h
  refine ⟨_, (pss_cons (ps_asg (pe_tup (pa_cons pe_int (pa_cons pe_int pa_nil))) (pg_tup (n := 2) (by rfl) (pgs_cons (gn 1 sc_law_rng.nd) (pgs_cons (gn 2 sc_law_rng.nd) pgs_nil))))
    (pss_cons (ps_for PassesOwn.never rfl (pi_list (pe_slice sl_list (pv 0) po_none (po_some pe_int))) (gn 3 sc_law_rng.nd)
      (pss_cons (sset 4 (b_abs T.abs (pv 3)) sc_law_rng.nd)
      (pss_cons (ps_if (pt_cmpR op_ge (pv 4) (pe_op op_powW pe_int pe_int) (nomark _))
        (pss_one (sset 1 (pe_op op_add (pe_op op_mulW (pv 1) (pe_op op_powW pe_int pe_int)) (pe_op op_mod (b_int T.int (pv 4)) (pe_op op_powW pe_int pe_int))) sc_law_rng.nd))
        pss_nil)
      (pss_one (sset 2 (pe_op op_mod (b_int T.int (pe_op op_add (pe_op op_add (pe_op op_mulW (pv 2) pe_int) (pe_op op_mod (b_int T.int (pv 3)) pe_int)) pe_int)) pe_int) sc_law_rng.nd)))))
    (pss_one (ps_ret (pe_lst (pa_cons (pv 1) (pa_cons (pv 2) (pa_cons pe_int pa_nil)))))))), ?_⟩
  try dsimp only [L2.cxOf, L2.Cx.nox]
  walk_at "gg"
  refine ls_forL (le_slS ?_)
  walk_at "gg"
  have hmem : ∀ {i : Nat} {d : D}, (cutD (ns.map D.int) none (some 63))[i]? = some d → i < 63 ∧ ∃ n, d = .int n := fun {i d} h => by
    have h1 := List.mem_of_getElem? h
    have h2 := (List.getElem?_eq_some_iff.mp h).1
    have h3 : (cutD (ns.map D.int) none (some 63)).length ≤ 63 := by
      unfold cutD
      refine Nat.le_trans (List.length_take_le' _ _) ?_
      rw [List.length_drop, List.length_map]; omega
    refine ⟨by omega, ?_⟩
    unfold cutD at h1
    obtain ⟨n, _, hn⟩ := List.mem_map.mp (List.mem_of_mem_drop (List.mem_of_mem_take h1))
    exact ⟨n, hn.symm⟩
  refine ⟨fun i Γ S => ∃ (x y : Int) (c d : Option Ent), Γ = [some (.d (.scr ns)), some (.d (.int x)), some (.d (.int y)), c, d] ∧ S = [] ∧ i ≤ 63 ∧ 0 ≤ x ∧ x.natAbs < 2 ^ (201 * i + 1) ∧ 0 ≤ y ∧ y < 2 ^ 62, ⟨0, 88675123, none, none, rfl, rfl, by decide, by decide, by decide, by decide, by decide⟩, ?_, ?_⟩
  · rintro i d _ _ hi ⟨x, y, c, c2, rfl, rfl, hi63, hx0, hx, hy0, hy⟩
    obtain ⟨hi1, n, rfl⟩ := hmem hi
    walk_at "gg"
    refine rr_int (powW (b := 10) (by decide) (by decide) (by decide)) ?_
    walk_at "gg"
    have b1 := Int.emod_nonneg (y * 1000003 + n % 2305843009213693921 + 7) (show (2305843009213693951 : Int) ≠ 0 by decide)
    have b2 := Int.emod_lt_of_pos (y * 1000003 + n % 2305843009213693921 + 7) (show (0 : Int) < 2305843009213693951 by decide)
    have hp2 : x.natAbs < 2 ^ 12700 := Nat.lt_of_lt_of_le hx (Nat.pow_le_pow_right (by decide) (by omega))
    refine ⟨fun hb => ?_, fun hb => ?_⟩
    · walk_at "gg"
      refine rr_int (powW (b := 10) (by decide) (by decide) (by decide)) ?_
      walk_at "gg"
      refine rr_int (wide_mul (a := 12700) (b := 200) hp2 (by decide +kernel) (by decide) (by decide) (by decide)) ?_
      walk_at "gg"
      refine rr_int (powW (b := 10) (by decide) (by decide) (by decide)) ?_
      walk_at "gg"
      refine rr_int (by decide +kernel) ?_
      walk_at "gg"
      have hT0 : (0 : Int) < 10 ^ (60 : Int).toNat := by decide +kernel
      have hT2 : ((10 : Int) ^ (60 : Int).toNat).natAbs ≤ 2 ^ 200 := by decide +kernel
      generalize hT : (10 : Int) ^ (60 : Int).toNat = T at hT0 hT2
      have r1 := Int.emod_nonneg (if n < 0 then -n else n) (show T ≠ 0 by omega)
      have r2 := Int.emod_lt_of_pos (if n < 0 then -n else n) hT0
      have h1 : 0 ≤ x * T := Int.mul_nonneg hx0 (by omega)
      have h2 : (x * T + T).natAbs ≤ 2 ^ (201 * i + 1) * 2 ^ 200 := by
        have e : x * T + T = (x + 1) * T := by rw [Int.add_mul, Int.one_mul]
        rw [e, Int.natAbs_mul]
        exact Nat.mul_le_mul (by omega) hT2
      have h3 : 2 ^ (201 * i + 1) * 2 ^ 200 ≤ 2 ^ (201 * (i + 1) + 1) := by
        rw [← Nat.pow_add]
        exact Nat.pow_le_pow_right (by decide) (by omega)
      walk_at "gg"
      refine rr_int (wide_mul (a := 62) (b := 20) (by omega) (by decide) (by decide) (by decide) (by decide)) ?_
      walk_at "gg"
      refine rr_int (by decide) ?_
      walk_at "gg"
      refine rr_int (by decide) ?_
      exact ⟨_, _, _, _, rfl, rfl, by omega, by omega, by omega, b1, by omega⟩
    · walk_at "gg"
      refine rr_int (wide_mul (a := 62) (b := 20) (by omega) (by decide) (by decide) (by decide) (by decide)) ?_
      walk_at "gg"
      refine rr_int (by decide) ?_
      walk_at "gg"
      refine rr_int (by decide) ?_
      exact ⟨_, _, _, _, rfl, rfl, by omega, hx0, Nat.lt_of_lt_of_le hx (Nat.pow_le_pow_right (by decide) (by omega)), b1, by omega⟩
  · rintro _ _ ⟨x, y, c, c2, rfl, rfl, hi63, hx0, hx, hy0, hy⟩
    refine ls_ret (le_lstO ?_)
    walk_at "gg"
    exact hp _ _ ⟨_, rfl, rfl, x, y, 0, rfl, hx0, hy0, hy, Int.le_refl _, Int.le_refl _⟩
def dsDraw : DS := ds (α := Int × Nat) (fun a es S => ∃ o, es = [.own 0, .d (.int a.1)] ∧ S = [o] ∧ Rng a.2 o ∧ a.2 < 2 ^ 60 ∧ 0 < a.1 ∧ a.1 < 2 ^ 200) (fun a e S' => ∃ (d : Int) (o' : Own), e = .d (.int d) ∧ S' = [o'] ∧ 0 ≤ d ∧ d < a.1 ∧ Rng (a.2 + 1) o')
theorem ok_draw {f : Addr} {fd : FuncData} (F : Fun K "_law_draw" "_law_draw" s_law_draw f fd) (T : Blt mg) : FnOk P w0 K mg base CX0 1 f fd ["rng", "limit"] (spD K dsDraw) := by
  refine fn0 F sc_law_draw (fun es S p e h => by obtain ⟨a, ⟨o, h, _⟩, _⟩ := h; rw [h]; rfl) (fun cdv A outer s H E hr w es S p e hK hA h => ?_)
  subst hK
  obtain ⟨⟨m, n⟩, ⟨o, rfl, rfl, ⟨x, y, z, rfl, hx, hy, hy2, hz, hzn⟩, hn, hm, hm2⟩, hp⟩ := h
  dsimp only at hzn hn hm hm2 hp
  refine ⟨_, (pss_cons (ps_if (pt_cmpR op_gt (pe_ix ix_list (pv 0) pe_int (fun _ _ => rfl)) pe_int (nomark _))
      (pss_cons (sset 2 (pe_op op_mod (b_int T.int (pe_ix ix_list (pv 0) pe_int (fun _ _ => rfl))) (pv 1)) sc_law_draw.nd)
      (pss_cons (ps_asg (pe_op op_fdivW (pe_ix ix_list (pv 0) pe_int (fun _ _ => rfl)) (pv 1)) (pg_sub (pv 0) pe_int set_list))
      (pss_one (ps_ret (pv 2)))))
      pss_nil)
    (pss_cons (ps_asg (pe_op op_add (pe_ix ix_list (pv 0) pe_int (fun _ _ => rfl)) pe_int) (pg_sub (pv 0) pe_int set_list))
    (pss_cons (sset 3 (pe_op op_mod (b_int T.int (pe_op op_powW (pe_op op_add (pe_ix ix_list (pv 0) pe_int (fun _ _ => rfl)) (pe_op op_mulW pe_int (pe_ix ix_list (pv 0) pe_int (fun _ _ => rfl)))) pe_int)) pe_int) sc_law_draw.nd)
    (pss_cons (sset 3 (pe_op op_mod (b_int T.int (pe_op op_powW (pe_op op_add (pv 3) (pe_op op_mulW pe_int (pe_ix ix_list (pv 0) pe_int (fun _ _ => rfl)))) pe_int)) pe_int) sc_law_draw.nd)
    (pss_one (ps_ret (pe_op op_mod (b_int T.int (pe_op op_fdivW (pv 3) pe_int)) (pv 1)))))))), ?_⟩
  try dsimp only [L2.cxOf, L2.Cx.nox]
  walk_at "gg"
  refine ⟨fun hb => ?_, fun hb => ?_⟩
  · have hx0 : 0 < x := of_decide_eq_true hb
    walk_at "gg"
    refine rr_int hm ?_
    walk_at "gg"
    refine rr_int (wide_div (b := 200) hm (by omega) (by decide) (by decide)) ?_
    walk_at "gg"
    exact hp _ _ ⟨_, _, rfl, rfl, Int.emod_nonneg _ (by omega), Int.emod_lt_of_pos _ hm, x / m, y, z, rfl, Int.ediv_nonneg hx (by omega), hy, hy2, hz, by omega⟩
  · walk_at "gg"
    refine rr_int (wide_mul (a := 30) (b := 62) (by decide) (by omega) (by decide) (by decide) (by decide)) ?_
    walk_at "gg"
    refine rr_int (powW (b := 100) (by decide) (by omega) (by decide)) ?_
    walk_at "gg"
    refine rr_int (by decide) ?_
    walk_at "gg"
    generalize hm1 : (y + 998244353 * (z + 1)) ^ (3 : Int).toNat % 162259276829213363391578010288127 = m1
    have m1a : 0 ≤ m1 := by rw [← hm1]; exact Int.emod_nonneg _ (by decide)
    have m1b : m1 < 162259276829213363391578010288127 := by rw [← hm1]; exact Int.emod_lt_of_pos _ (by decide)
    refine rr_int (wide_mul (a := 30) (b := 62) (by decide) (by omega) (by decide) (by decide) (by decide)) ?_
    walk_at "gg"
    refine rr_int (powW (b := 130) (by decide) (by omega) (by decide)) ?_
    walk_at "gg"
    refine rr_int (by decide) ?_
    walk_at "gg"
    refine rr_int (wide_div (b := 30) (by decide) (by decide) (by decide) (by decide)) ?_
    walk_at "gg"
    refine rr_int hm ?_
    exact hp _ _ ⟨_, _, rfl, rfl, Int.emod_nonneg _ (by omega), Int.emod_lt_of_pos _ hm, x, y, z + 1, rfl, hx, hy, hy2, by omega, by omega⟩
/-- a draw, as its callers have it -/
theorem draw {w : Wd} {E : XK} {o : Own} {rest : List Own} {k : KE} {m : Int} (n : Nat) (ho : Rng n o) (hn : n < 2 ^ 60) (hm : 0 < m) (hm2 : m < 2 ^ 200)
    (h : ∀ (d : Int) (o' : Own), 0 ≤ d → d < m → Rng (n + 1) o' → k (.d (.int d)) (o' :: rest)) : RS w dsDraw E [.own 0, .d (.int m)] (o :: rest) k :=
  rp (m, n) ⟨o, rfl, rfl, ho, hn, hm, hm2⟩ (fun e S' ⟨d, o', h1, h2, h3, h4, h5⟩ => ⟨o', _, h2, h5.ng, h1, h d o' h3 h4 h5⟩) ho.ng
theorem rng {w : Wd} {E : XK} {S : List Own} {k : KE} {ns : List Int} (hl : ns.length ≤ 63) (h : ∀ o, Rng 0 o → k (.own S.length) (S ++ [o])) : RS w dsRng E [.d (.scr ns)] S k :=
  r0O ns ⟨rfl, rfl, hl⟩ fun e S' ⟨o, h1, h2, h3⟩ => ⟨o, h2, h1, h o h3⟩
end

section
variable {P : Program} {w0 : World} {K : PySem.W.Frag} {mg : Str → Option Value} {base : Heap}
abbrev whole (a b c : Nat) : Own := .lst [.int a, .int b, .int c]
/-- a draw that is handed the first thing of the store and the third -/
theorem rp02 {w : Wd} {α : Type} {pre : α → List Ent → List Own → Prop} {post : α → Ent → List Own → Prop} {E : XK} {o m u : Own} {rest : List Own} {k : KE} {es es' : List Ent} (a : α) (he : es = es'.map (Ent.ren [0, 2])) (hpre : pre a es' [o, u])
    (h : ∀ e S', post a e S' → ∃ o' u' d, S' = [o', u'] ∧ o' ≠ .gone ∧ u' ≠ .gone ∧ e = .d d ∧ k (.d d) (o' :: m :: u' :: rest)) (hn : o ≠ .gone) (hu : u ≠ .gone) (hw : es'.all (Ent.wf 2) = true := by rfl) : RS w (ds pre post) E es (o :: m :: u :: rest) k := by
  refine rs_call (ex0 (w := w) (E := E)) [0, 2] (Pick.two (by decide) (o := o) (u := u) rfl hn rfl hu) he hw ⟨a, hpre, fun e S' q => ?_⟩
  obtain ⟨o', u', d, rfl, h1, h2, rfl, h3⟩ := h e S' q
  refine ⟨[o', u'], [], rfl, rfl, ?_, ?_⟩
  · intro x hx
    rcases List.mem_cons.mp hx with rfl | hx
    · exact h1
    · rw [List.mem_singleton.mp hx]; exact h2
  · show k (.d d) ((o' :: m :: u' :: rest) ++ [])
    rw [List.append_nil]; exact h3
def dsRWindow : DS := ds (α := Nat × Nat × Nat × Nat × Nat) (fun a es S => ∃ o, es = [.own 0, .d (.int a.1), .own 1] ∧ S = [o, whole a.2.1 a.2.2.1 a.2.2.2.1] ∧ Rng a.2.2.2.2 o ∧ a.2.2.2.2 < 2 ^ 50 ∧ 0 < a.2.1 ∧ a.2.1 ≤ 60)
  (fun a e S' => ∃ (l s p : Nat) (o' : Own), e = .d (Stp.win a.1 l s p).d ∧ S' = [o', whole (a.2.1 * s) a.2.2.1 a.2.2.2.1] ∧ 1 ≤ s ∧ s ≤ 6 ∧ s ≤ l ∧ l ≤ 9 ∧ p < l ∧ a.2.1 * s ≤ 60 ∧ Rng (a.2.2.2.2 + 5) o')
theorem ok_window {f : Addr} {fd : FuncData} (F : Fun K "_law_window" "_law_window" s_law_window f fd) (T : Blt mg) (d_law_draw : Df P w0 K mg base CX0 1 "_law_draw" 2 dsDraw) : FnOk P w0 K mg base CX0 2 f fd ["rng", "row", "whole"] (spD K dsRWindow) := by
  refine fn0 F sc_law_window (fun es S p e h => by obtain ⟨a, ⟨o, h, _⟩, _⟩ := h; rw [h]; rfl) (fun cdv A outer s H E hr w es S p e hK hA h => ?_)
  subst hK
  obtain ⟨⟨row, a, b, c, n⟩, ⟨o, rfl, rfl, ho, hn, ha, ha2⟩, hp⟩ := h
  dsimp only at ho hn ha ha2 hp
  refine ⟨_, (pss_cons (sset 3 (pe_ix ix_list (pe_lst (pa_cons pe_int (pa_cons pe_int (pa_cons pe_int (pa_cons (pe_op op_add pe_int (pe_df d_law_draw (hr.mono (by decide)) pass0 (pa_cons (pv 0) (pa_cons pe_int pa_nil)))) pa_nil))))) (pe_df d_law_draw (hr.mono (by decide)) pass0 (pa_cons (pv 0) (pa_cons pe_int pa_nil))) (fun _ _ => rfl)) sc_law_window.nd)
    (pss_cons (sset 4 (pe_op op_add pe_int (pe_op op_mulW (pe_df d_law_draw (hr.mono (by decide)) pass0 (pa_cons (pv 0) (pa_cons (b_min2 T.min (pv 3) pe_int) pa_nil))) (pe_df d_law_draw (hr.mono (by decide)) pass0 (pa_cons (pv 0) (pa_cons pe_int pa_nil))))) sc_law_window.nd)
    (pss_cons (ps_if (pt_cmpR op_gt (pe_op op_mulW (pe_ix ix_list (pv 2) pe_int (fun _ _ => rfl)) (pv 4)) pe_int (nomark _))
      (pss_one (sset 4 pe_int sc_law_window.nd))
      pss_nil)
    (pss_cons (ps_asg (pe_op op_mulW (pe_ix ix_list (pv 2) pe_int (fun _ _ => rfl)) (pv 4)) (pg_sub (pv 2) pe_int set_list))
    (pss_one (ps_ret (pe_tup (pa_cons pe_str (pa_cons (pv 1) (pa_cons (pv 3) (pa_cons (pv 4) (pa_cons (pe_df d_law_draw (hr.mono (by decide)) pass0 (pa_cons (pv 0) (pa_cons (pv 3) pa_nil))) pa_nil)))))))))))), ?_⟩
  try dsimp only [L2.cxOf, L2.Cx.nox]
  walk_at "gg"
  refine draw n ho (by omega) (by decide) (by decide) fun d1 o1 b0 b1 ho1 => ?_
  walk_at "gg"
  refine draw _ ho1 (by omega) (by decide) (by decide) fun d2 o2 c0 c1 ho2 => ?_
  obtain ⟨y, hy, l, rfl, hl0, hl1⟩ := ix_any (ds := [D.int 3, D.int 2, D.int 5, D.int (1 + d1)]) (i := d2) (fun x => ∃ z : Nat, x = .int z ∧ 1 ≤ z ∧ z ≤ 9) c0 (by simpa using c1) (by
    intro x hx
    simp only [List.mem_cons, List.not_mem_nil, or_false] at hx
    rcases hx with rfl | rfl | rfl | rfl
    · exact ⟨3, rfl, by omega, by omega⟩
    · exact ⟨2, rfl, by omega, by omega⟩
    · exact ⟨5, rfl, by omega, by omega⟩
    · exact ⟨(1 + d1).toNat, by congr 1; omega, by omega, by omega⟩)
  refine rr_ixL hy ?_
  walk_at "gg"
  refine draw _ ho2 (by omega) (by split <;> omega) (by split <;> omega) fun d3 o3 e0 e1 ho3 => ?_
  walk_at "gg"
  refine draw _ ho3 (by omega) (by decide) (by decide) fun d4 o4 f0 f1 ho4 => ?_
  have hst : ∃ st : Nat, 1 + d3 * d4 = st ∧ 1 ≤ st ∧ st ≤ 6 ∧ st ≤ l := by
    have h3 : d3 < 6 ∧ d3 < l := by split at e1 <;> omega
    rcases (show d4 = 0 ∨ d4 = 1 by omega) with rfl | rfl
    · exact ⟨1, by omega, by omega, by omega, by omega⟩
    · exact ⟨(1 + d3).toNat, by omega, by omega, by omega, by omega⟩
  obtain ⟨st, hst, hs1, hs2, hs3⟩ := hst
  refine rr_int (wide_mul (a := 20) (b := 20) (by split at e1 <;> omega) (by omega) (by decide) (by decide) (by decide)) ?_
  walk_at "gg"
  rw [hst]
  walk_at "gg"
  refine rr_int (wide_mul (a := 20) (b := 20) (by omega) (by omega) (by decide) (by decide) (by decide)) ?_
  walk_at "gg"
  refine if_join (fun Γ S => S = [o4, whole a b c] ∧ ∃ st : Nat, 1 ≤ st ∧ st ≤ 6 ∧ st ≤ l ∧ a * st ≤ 60 ∧ Γ = [some (.own 0), some (.d (.int row)), some (.own 1), some (.d (.int l)), some (.d (.int st))]) (fun hb => ?_) (fun hb => ?_) ?_
  · walk_at "gg"
    exact ⟨rfl, 1, by omega, by omega, by omega, by omega, rfl⟩
  · walk_at "gg"
    have := of_decide_eq_false hb
    refine ⟨rfl, st, by omega, by omega, by omega, ?_, rfl⟩
    have e : (((a * st : Nat)) : Int) = (a : Int) * st := Int.natCast_mul a st
    omega
  rintro _ _ ⟨rfl, st, hs1, hs2, hs3, hs4, rfl⟩
  walk_at "gg"
  refine rr_int (wide_mul (a := 20) (b := 20) (by omega) (by omega) (by decide) (by decide) (by decide)) ?_
  walk_at "gg"
  rw [← Int.natCast_mul]
  walk_at "gg"
  refine draw _ ho4 (by omega) (by omega) (by omega) fun d5 o5 i0 i1 ho5 => ?_
  walk_at "gg"
  exact hp _ _ ⟨l, st, d5.toNat, o5, by rw [Int.toNat_of_nonneg i0]; rfl, rfl, hs1, hs2, hs3, hl1, by omega, hs4, ho5⟩
theorem window {w : Wd} {E : XK} {o u : Own} {rest : List Own} {k : KE} {row a b c : Nat} (n : Nat) (ho : Rng n o) (hn : n < 2 ^ 50) (ha : 0 < a) (ha2 : a ≤ 60)
    (h : ∀ (l s p : Nat) (o' : Own), 1 ≤ s → s ≤ 6 → s ≤ l → l ≤ 9 → p < l → a * s ≤ 60 → Rng (n + 5) o' → k (.d (Stp.win row l s p).d) (o' :: u :: whole (a * s) b c :: rest)) : RS w dsRWindow E [.own 0, .d (.int row), .own 2] (o :: u :: whole a b c :: rest) k :=
  rp02 (es' := [.own 0, .d (.int row), .own 1]) (row, a, b, c, n) rfl ⟨o, rfl, rfl, ho, hn, ha, ha2⟩ (fun e S' ⟨l, s, p, o', h1, h2, q1, q2, q3, q4, q5, q6, q7⟩ => ⟨o', _, _, h2, q7.ng, (by intro z; cases z), h1, h l s p o' q1 q2 q3 q4 q5 q6 q7⟩) ho.ng (by intro z; cases z)
end

section
variable {P : Program} {w0 : World} {K : PySem.W.Frag} {mg : Str → Option Value} {base : Heap}
/-- what a level is -/
def Lev (row many a b a' b' : Nat) (xs : List Stp) : Prop :=
  (xs = [.win row 3 1 1, .join many row] ∧ a' = a ∧ b' = b) ∨
  ∃ (z p : Nat) (r : Stp), xs = [.win row z z p, .rep many z, r] ∧ 2 ≤ z ∧ z ≤ 4 ∧ p < z ∧ a' = a * z ∧ b' = b * z ∧ a' ≤ 60 ∧ b' ≤ 24 ∧ (r = .join (many + 1) row ∨ r = .join row (many + 1))
def dsLevel : DS := ds (α := Nat × Nat × Nat × Nat × Nat × Nat) (fun a es S => ∃ o, es = [.own 0, .d (.int a.1), .d (.int a.2.1), .own 1] ∧ S = [o, whole a.2.2.1 a.2.2.2.1 a.2.2.2.2.1] ∧ Rng a.2.2.2.2.2 o ∧ a.2.2.2.2.2 < 2 ^ 50 ∧ 0 < a.2.2.1 ∧ a.2.2.1 ≤ 60 ∧ 0 < a.2.2.2.1 ∧ a.2.2.2.1 ≤ 24 ∧ a.2.1 < 2 ^ 40)
  (fun a e S' => ∃ (xs : List Stp) (a' b' : Nat) (o' : Own), e = .d (.lst (xs.map Stp.d)) ∧ S' = [o', whole a' b' a.2.2.2.2.1] ∧ Lev a.1 a.2.1 a.2.2.1 a.2.2.2.1 a' b' xs ∧ Rng (a.2.2.2.2.2 + 5) o')
theorem ok_level {f : Addr} {fd : FuncData} (F : Fun K "_law_level" "_law_level" s_law_level f fd) (T : Blt mg) (d_law_draw : Df P w0 K mg base CX0 1 "_law_draw" 2 dsDraw) : FnOk P w0 K mg base CX0 2 f fd ["rng", "row", "many", "whole"] (spD K dsLevel) := by
  refine fn0 F sc_law_level (fun es S p e h => by obtain ⟨a, ⟨o, h, _⟩, _⟩ := h; rw [h]; rfl) (fun cdv A outer s H E hr w es S p e hK hA h => ?_)
  subst hK
  obtain ⟨⟨row, many, a, b, c, n⟩, ⟨o, rfl, rfl, ho, hn, ha, ha2, hb, hb2, hm⟩, hp⟩ := h
  dsimp only at ho hn ha ha2 hb hb2 hm hp
  refine ⟨_, (pss_cons (sset 4 (pe_op op_add pe_int (pe_df d_law_draw (hr.mono (by decide)) pass0 (pa_cons (pv 0) (pa_cons pe_int pa_nil)))) sc_law_level.nd)
    (pss_cons (ps_if (PW.pt (pw_or (pt_cmpR op_gt (pe_op op_mulW (pe_ix ix_list (pv 3) pe_int (fun _ _ => rfl)) (pv 4)) pe_int (nomark _)) (pw_or (pt_cmpR op_gt (pe_op op_mulW (pe_ix ix_list (pv 3) pe_int (fun _ _ => rfl)) (pv 4)) pe_int (nomark _)) (pw_or1 (pt_cmpR op_eq (pe_df d_law_draw (hr.mono (by decide)) pass0 (pa_cons (pv 0) (pa_cons pe_int pa_nil))) pe_int (nomark _))))))
      (pss_one (ps_ret (pe_lst (pa_cons (pe_tup (pa_cons pe_str (pa_cons (pv 1) (pa_cons pe_int (pa_cons pe_int (pa_cons pe_int pa_nil)))))) (pa_cons (pe_tup (pa_cons pe_str (pa_cons (pv 2) (pa_cons (pv 1) pa_nil)))) pa_nil)))))
      pss_nil)
    (pss_cons (ps_asg (pe_tup (pa_cons (pe_op op_mulW (pe_ix ix_list (pv 3) pe_int (fun _ _ => rfl)) (pv 4)) (pa_cons (pe_op op_mulW (pe_ix ix_list (pv 3) pe_int (fun _ _ => rfl)) (pv 4)) pa_nil))) (pg_tup (n := 2) (by rfl) (pgs_cons (pg_sub (pv 3) pe_int set_list) (pgs_cons (pg_sub (pv 3) pe_int set_list) pgs_nil))))
    (pss_cons (sset 5 (pe_tup (pa_cons pe_str (pa_cons (pv 1) (pa_cons (pv 4) (pa_cons (pv 4) (pa_cons (pe_op op_mulW (pe_df d_law_draw (hr.mono (by decide)) pass0 (pa_cons (pv 0) (pa_cons pe_int pa_nil))) (pe_df d_law_draw (hr.mono (by decide)) pass0 (pa_cons (pv 0) (pa_cons (pv 4) pa_nil)))) pa_nil)))))) sc_law_level.nd)
    (pss_cons (sset 6 (pe_ix ix_list (pe_lst (pa_cons (pe_tup (pa_cons pe_str (pa_cons (pe_op op_add (pv 2) pe_int) (pa_cons (pv 1) pa_nil)))) (pa_cons (pe_tup (pa_cons pe_str (pa_cons (pv 1) (pa_cons (pe_op op_add (pv 2) pe_int) pa_nil)))) pa_nil))) (pe_df d_law_draw (hr.mono (by decide)) pass0 (pa_cons (pv 0) (pa_cons pe_int pa_nil))) (fun _ _ => rfl)) sc_law_level.nd)
    (pss_one (ps_ret (pe_lst (pa_cons (pv 5) (pa_cons (pe_tup (pa_cons pe_str (pa_cons (pv 2) (pa_cons (pv 4) pa_nil)))) (pa_cons (pv 6) pa_nil))))))))))), ?_⟩
  try dsimp only [L2.cxOf, L2.Cx.nox]
  walk_at "gg"
  refine draw n ho (by omega) (by decide) (by decide) fun d1 o1 b0 b1 ho1 => ?_
  refine rr_int0 ?_
  obtain ⟨z, hz⟩ : ∃ z : Nat, 2 + d1 = z := ⟨(2 + d1).toNat, by omega⟩
  rw [hz]
  have eA : (((a * z : Nat)) : Int) = (a : Int) * z := Int.natCast_mul a z
  have eB : (((b * z : Nat)) : Int) = (b : Int) * z := Int.natCast_mul b z
  refine ls_cut (fun Γ S => ∃ o', S = [o', whole a b c] ∧ Rng (n + 2) o' ∧ a * z ≤ 60 ∧ b * z ≤ 24 ∧ Γ = [some (.own 0), some (.d (.int row)), some (.d (.int many)), some (.own 1), some (.d (.int z)), none, none]) ?_ ?_
  · walk_at "gg"
    refine rr_int (wide_mul (a := 20) (b := 20) (by omega) (by omega) (by decide) (by decide) (by decide)) ?_
    walk_at "gg"
    refine ⟨fun _ => ⟨fun _ => ?_, fun z => Bool.noConfusion z⟩, fun q1 => ?_⟩
    · walk_at "gg"
      exact hp _ _ ⟨[.win row 3 1 1, .join many row], a, b, o1, rfl, rfl, .inl ⟨rfl, rfl, rfl⟩, ho1.mono (by omega)⟩
    have g1 := of_decide_eq_false q1
    walk_at "gg"
    refine rr_int (wide_mul (a := 20) (b := 20) (by omega) (by omega) (by decide) (by decide) (by decide)) ?_
    walk_at "gg"
    refine ⟨fun _ => ⟨fun _ => ?_, fun z => Bool.noConfusion z⟩, fun q2 => ?_⟩
    · walk_at "gg"
      exact hp _ _ ⟨[.win row 3 1 1, .join many row], a, b, o1, rfl, rfl, .inl ⟨rfl, rfl, rfl⟩, ho1.mono (by omega)⟩
    have g2 := of_decide_eq_false q2
    walk_at "gg"
    refine draw _ ho1 (by omega) (by decide) (by decide) fun d2 o2 c0 c1 ho2 => ?_
    walk_at "gg"
    refine ⟨fun _ => ?_, fun _ => ?_⟩
    · walk_at "gg"
      exact hp _ _ ⟨[.win row 3 1 1, .join many row], a, b, o2, rfl, rfl, .inl ⟨rfl, rfl, rfl⟩, ho2.mono (by omega)⟩
    · walk_at "gg"
      exact ⟨ho2, by omega, by omega, rfl⟩
  rintro _ _ ⟨o2, rfl, ho2, h60, h24, rfl⟩
  walk_at "gg"
  refine rr_int (wide_mul (a := 20) (b := 20) (by omega) (by omega) (by decide) (by decide) (by decide)) ?_
  walk_at "gg"
  refine rr_int (wide_mul (a := 20) (b := 20) (by omega) (by omega) (by decide) (by decide) (by decide)) ?_
  walk_at "gg"
  rw [← eA, ← eB]
  refine lg_tup rfl (lgs_cons (lg_sub ?_))
  walk_at "gg"
  refine lgs_cons (lg_sub ?_)
  walk_at "gg"
  refine lgs_nil ?_
  walk_at "gg"
  refine draw (rest := [whole (a * z) (b * z) c]) _ ho2 (by omega) (by decide) (by decide) fun d3 o3 e0 e1 ho3 => ?_
  walk_at "gg"
  refine draw _ ho3 (by omega) (by omega) (by omega) fun d4 o4 f0 f1 ho4 => ?_
  have hpd : ∃ q : Nat, d3 * d4 = q ∧ q < z := by
    rcases (show d3 = 0 ∨ d3 = 1 by omega) with rfl | rfl
    · exact ⟨0, by omega, by omega⟩
    · exact ⟨d4.toNat, by omega, by omega⟩
  obtain ⟨q, hq, hqz⟩ := hpd
  refine rr_int (wide_mul (a := 20) (b := 20) (by omega) (by omega) (by decide) (by decide) (by decide)) ?_
  rw [hq]
  walk_at "gg"
  refine draw _ ho4 (by omega) (by decide) (by decide) fun d5 o5 i0 i1 ho5 => ?_
  obtain ⟨y, hy, r, hr1, hr2⟩ := ix_any (ds := [D.tup [.str "join", .int (many + 1), .int row], D.tup [.str "join", .int row, .int (many + 1)]]) (i := d5) (fun x => ∃ r : Stp, x = r.d ∧ (r = .join (many + 1) row ∨ r = .join row (many + 1))) i0 (by simpa using i1) (by
    intro x hx
    simp only [List.mem_cons, List.not_mem_nil, or_false] at hx
    rcases hx with rfl | rfl
    · exact ⟨.join (many + 1) row, rfl, .inl rfl⟩
    · exact ⟨.join row (many + 1), rfl, .inr rfl⟩)
  subst hr1
  refine rr_ixL hy ?_
  walk_at "gg"
  exact hp _ _ ⟨[.win row z z q, .rep many z, r], a * z, b * z, o5, rfl, rfl, .inr ⟨z, q, r, rfl, by omega, by omega, hqz, rfl, rfl, h60, h24, hr2⟩, ho5.mono (by omega)⟩
theorem level {w : Wd} {E : XK} {o u : Own} {rest : List Own} {k : KE} {row many a b c : Nat} (n : Nat) (ho : Rng n o) (hn : n < 2 ^ 50) (ha : 0 < a) (ha2 : a ≤ 60) (hb : 0 < b) (hb2 : b ≤ 24) (hm : many < 2 ^ 40)
    (h : ∀ (xs : List Stp) (a' b' : Nat) (o' : Own), Lev row many a b a' b' xs → Rng (n + 5) o' → k (.d (.lst (xs.map Stp.d))) (o' :: u :: whole a' b' c :: rest)) : RS w dsLevel E [.own 0, .d (.int row), .d (.int many), .own 2] (o :: u :: whole a b c :: rest) k :=
  rp02 (es' := [.own 0, .d (.int row), .d (.int many), .own 1]) (row, many, a, b, c, n) rfl ⟨o, rfl, rfl, ho, hn, ha, ha2, hb, hb2, hm⟩ (fun e S' ⟨xs, a', b', o', h1, h2, q1, q2⟩ => ⟨o', _, _, h2, q2.ng, (by intro z; cases z), h1, h xs a' b' o' q1 q2⟩) ho.ng (by intro z; cases z)
end

section
variable {P : Program} {w0 : World} {K : PySem.W.Frag} {mg : Str → Option Value} {base : Heap}
theorem sp_le : ∀ {gs : List Stp} {f : Stp → Nat} (a b : Nat), a ≤ b → (∀ x ∈ gs, 1 ≤ f x) → ∀ m, (gs.take m).foldl (fun a x => a * f x) a ≤ gs.foldl (fun a x => a * f x) b
  | [], _, a, b, h, _, m => by rw [List.take_nil]; exact h
  | x :: gs, f, a, b, h, hf, 0 => by
    have h1 := sp_le (gs := gs) (f := f) a (b * f x) (Nat.le_trans h (Nat.le_mul_of_pos_right _ (hf x (List.mem_cons_self ..)))) (fun y hy => hf y (List.mem_cons_of_mem _ hy)) 0
    exact h1
  | x :: gs, f, a, b, h, hf, m + 1 => sp_le (gs := gs) (f := f) (a * f x) (b * f x) (Nat.mul_le_mul_right _ h) (fun y hy => hf y (List.mem_cons_of_mem _ hy)) m
theorem jp_le : ∀ {gs : List Stp} {f : Stp → Nat} (a b : Nat), a ≤ b → ∀ m, (gs.take m).foldl (fun a x => a + f x) a ≤ gs.foldl (fun a x => a + f x) b
  | [], _, a, b, h, m => by rw [List.take_nil]; exact h
  | x :: gs, f, a, b, h, 0 => jp_le (gs := gs) (f := f) a (b + f x) (by omega) 0
  | x :: gs, f, a, b, h, m + 1 => jp_le (gs := gs) (f := f) (a + f x) (b + f x) (by omega) m
theorem cut_up (xs : List D) (m : Nat) : cutD xs none (some (m : Int)) = xs.take m := by
  unfold cutD
  rw [HT.sIx_none, HT.sIx_nat, List.drop_zero, Nat.sub_zero]
  by_cases h : m ≤ xs.length
  · rw [Nat.min_eq_left h]
  · rw [Nat.min_eq_right (by omega), List.take_of_length_le (Nat.le_refl _), List.take_of_length_le (by omega)]
theorem str_pos2 {n : Int} {x : Stp} (h : x.ok n = true) : 1 ≤ x.str ∧ 1 ≤ x.tms := by
  cases x <;> simp [Stp.ok, Stp.nums, Stp.str, Stp.tms] at h ⊢ <;> omega
/-- what stands between the turns -/
structure RgI (gs : List Stp) (a b c : Nat) : Prop where
  ok : PipeOk gs
  small : ∀ x ∈ gs, x.small
  st : Sp gs = a
  ti : Tp gs = b
  jo : Jp gs = c
  a1 : 0 < a
  a2 : a ≤ 60
  b1 : 0 < b
  b2 : b ≤ 24
  c1 : c ≤ 3
theorem RgI.add {gs : List Stp} {a b c a' b' c' : Nat} {x : Stp} (h : RgI gs a b c) (hx : x.ok gs.length = true) (hs : x.small) (ha : a' = a * x.str) (hb : b' = b * x.tms) (hc : c' = c + x.jn) (q2 : a' ≤ 60) (q4 : b' ≤ 24) (q5 : c' ≤ 3) : RgI (gs ++ [x]) a' b' c' := by
  obtain ⟨p1, p2⟩ := str_pos2 hx
  exact ⟨pipe_app h.ok hx, mem_app1 h.small hs, by rw [Sp_app, h.st, ha], by rw [Tp_app, h.ti, hb], by rw [Jp_app, h.jo, hc], by rw [ha]; exact Nat.mul_pos h.a1 p1, q2, by rw [hb]; exact Nat.mul_pos h.b1 p2, q4, q5⟩
theorem PipeOk.pos {gs : List Stp} (h : PipeOk gs) : ∀ x ∈ gs, 1 ≤ x.str ∧ 1 ≤ x.tms := fun x hx => by
  obtain ⟨i, hi⟩ := List.mem_iff_getElem?.mp hx
  exact str_pos2 (h i x hi)
theorem RgI.drawn {gs : List Stp} {a b c : Nat} (h : RgI gs a b c) (m : Nat) : Drawn m (gs.take m) where
  ok := fun i x hx => by
    rw [List.getElem?_take] at hx
    split at hx
    · exact h.ok i x hx
    · cases hx
  len := List.length_take_le ..
  small := fun x hx => h.small x (List.mem_of_mem_take hx)
  st := Nat.le_trans (sp_le 1 1 (Nat.le_refl _) (fun x hx => (h.ok.pos x hx).1) m) (by have := h.st; have := h.a2; unfold Sp at *; omega)
  ti := Nat.le_trans (sp_le 1 1 (Nat.le_refl _) (fun x hx => (h.ok.pos x hx).2) m) (by have := h.ti; have := h.b2; unfold Tp at *; omega)
  jo := Nat.le_trans (jp_le 0 0 (Nat.le_refl _) m) (by have := h.jo; have := h.c1; unfold Jp at *; omega)
theorem RgI.lev {gs : List Stp} {a b c a' b' row : Nat} {xs : List Stp} (h : RgI gs a b c) (hr : row ≤ gs.length) (hc : c < 3) (l : Lev row (gs.length + 1) a b a' b' xs) : RgI (gs ++ xs) a' b' (c + 1) ∧ xs.length ≤ 3 := by
  rcases l with ⟨rfl, rfl, rfl⟩ | ⟨z, p, r, rfl, z2, z4, hp, rfl, rfl, h60, h24, hrr⟩
  · refine ⟨?_, by simp⟩
    have h1 : RgI (gs ++ [.win row 3 1 1]) a' b' c := h.add (by simp [Stp.ok, Stp.nums]; omega) ⟨by decide, by decide⟩ (by simp [Stp.str]) (by simp [Stp.tms]) rfl h.a2 h.b2 h.c1
    have h2 : RgI ((gs ++ [.win row 3 1 1]) ++ [.join ((gs.length + 1 : Nat) : Int) row]) a' b' (c + 1) := h1.add (by simp [Stp.ok]; omega) trivial (by simp [Stp.str]) (by simp [Stp.tms]) rfl h.a2 h.b2 (by omega)
    rw [List.append_assoc] at h2
    exact h2
  · refine ⟨?_, by simp⟩
    have h1 : RgI (gs ++ [.win row z z p]) (a * z) b c := h.add (by simp [Stp.ok, Stp.nums]; omega) ⟨by omega, by omega⟩ (by simp [Stp.str]) (by simp [Stp.tms]) rfl h60 h.b2 h.c1
    have h2 : RgI ((gs ++ [.win row z z p]) ++ [.rep ((gs.length + 1 : Nat) : Int) z]) (a * z) (b * z) c := h1.add (by simp [Stp.ok, Stp.nums]; omega) (show (z : Int) ≤ 6 by omega) (by simp [Stp.str]) (by simp [Stp.tms]) rfl h60 h24 h.c1
    have h3 : RgI (((gs ++ [.win row z z p]) ++ [.rep ((gs.length + 1 : Nat) : Int) z]) ++ [r]) (a * z) (b * z) (c + 1) := by
      rcases hrr with rfl | rfl
      · exact h2.add (by simp [Stp.ok]; omega) trivial (by simp [Stp.str]) (by simp [Stp.tms]) rfl h60 h24 (by omega)
      · exact h2.add (by simp [Stp.ok]; omega) trivial (by simp [Stp.str]) (by simp [Stp.tms]) rfl h60 h24 (by omega)
    simpa using h3
def dsRSteps : DS := ds (α := Nat × Nat) (fun a es S => ∃ o, es = [.own 0, .d (.int a.1)] ∧ S = [o] ∧ Rng a.2 o ∧ a.2 < 2 ^ 49 ∧ a.1 ≤ 8)
  (fun a e S' => ∃ (gs : List Stp) (o' : Own), e = .d (.lst (gs.map Stp.d)) ∧ S' = [o'] ∧ Drawn a.1 gs ∧ Rng (a.2 + 130) o')
theorem ok_rsteps {f : Addr} {fd : FuncData} (F : Fun K "_law_steps" "_law_steps" s_law_steps f fd) (T : Blt mg) (d_law_draw : Df P w0 K mg base CX0 1 "_law_draw" 2 dsDraw) (d_law_window : Df P w0 K mg base CX0 2 "_law_window" 3 dsRWindow) (d_law_level : Df P w0 K mg base CX0 2 "_law_level" 4 dsLevel) :
    FnOk P w0 K mg base CX0 3 f fd ["rng", "most"] (spD K dsRSteps) := by
  refine fn0 F sc_law_steps (fun es S p e h => by obtain ⟨a, ⟨o, h, _⟩, _⟩ := h; rw [h]; rfl) (fun cdv A outer s H E hr w es S p e hK hA h => ?_)
  subst hK
  obtain ⟨⟨m, n⟩, ⟨o, rfl, rfl, ho, hn, hm⟩, hp⟩ := h
  dsimp only at ho hn hm hp
  refine ⟨_, (pss_cons (ps_par (i := 2) (j := 3) (by rfl) sc_law_steps.nd rfl rfl (by decide) rfl rfl (pa_cons (pe_lst pa_nil) (pa_cons (pe_lst (pa_cons pe_int (pa_cons pe_int (pa_cons pe_int pa_nil)))) pa_nil)) (by rfl))
    (pss_cons (ps_for PassesOwn.never rfl (pi_range1 (by rfl) T.range (pa_cons (pe_df d_law_draw (hr.mono (by decide)) pass0 (pa_cons (pv 0) (pa_cons (pe_op op_add (pv 1) pe_int) pa_nil))) pa_nil)) (gn 4 sc_law_steps.nd)
      (pss_cons (sset 5 (b_len T.len (pv 2)) sc_law_steps.nd)
      (pss_cons (ps_par (i := 6) (j := 7) (by rfl) sc_law_steps.nd rfl rfl (by decide) rfl rfl (pa_cons (pe_ix ix_list (pe_lst (pa_cons (pv 5) (pa_cons (pe_df d_law_draw (hr.mono (by decide)) pass0 (pa_cons (pv 0) (pa_cons (pe_op op_add (pv 5) pe_int) pa_nil))) pa_nil))) (pe_df d_law_draw (hr.mono (by decide)) pass0 (pa_cons (pv 0) (pa_cons pe_int pa_nil))) (fun _ _ => rfl)) (pa_cons (pe_df d_law_draw (hr.mono (by decide)) pass0 (pa_cons (pv 0) (pa_cons pe_int pa_nil))) pa_nil)) (by rfl))
      (pss_cons (sset 8 (pe_ix ix_list (pe_lst (pa_cons pe_int (pa_cons pe_int pa_nil))) (b_int T.int (pe_cmpR op_eq (pe_df d_law_draw (hr.mono (by decide)) pass0 (pa_cons (pv 0) (pa_cons pe_int pa_nil))) pe_int (nomark _))) (fun _ _ => rfl)) sc_law_steps.nd)
      (pss_one (ps_if (pt_cmpR op_lt (pv 7) pe_int (nomark _))
        (pss_one (ps_expr (pe_bm PySem.F.plainAttrs_list PySem.F.slot_list_append PySem.F.type_list_append mt_append (pv 2) (pa_cons (pe_df d_law_window (hr.mono (by decide)) pass0 (pa_cons (pv 0) (pa_cons (pv 6) (pa_cons (pv 3) pa_nil)))) pa_nil))))
        (pss_one (ps_if (pt_cmpR op_eq (pv 7) pe_int (nomark _))
          (pss_cons (sset 9 (pe_op op_add pe_int (pe_df d_law_draw (hr.mono (by decide)) pass0 (pa_cons (pv 0) (pa_cons pe_int pa_nil)))) sc_law_steps.nd)
          (pss_cons (sset 9 (pe_ifExp (pt_cmpR op_le (pe_op op_mulW (pe_ix ix_list (pv 3) pe_int (fun _ _ => rfl)) (pv 9)) pe_int (nomark _)) (pv 9) pe_int) sc_law_steps.nd)
          (pss_cons (ps_asg (pe_op op_mulW (pe_ix ix_list (pv 3) pe_int (fun _ _ => rfl)) (pv 9)) (pg_sub (pv 3) pe_int set_list))
          (pss_one (ps_expr (pe_bm PySem.F.plainAttrs_list PySem.F.slot_list_append PySem.F.type_list_append mt_append (pv 2) (pa_cons (pe_tup (pa_cons pe_str (pa_cons (pv 6) (pa_cons (pv 9) pa_nil)))) pa_nil)))))))
          (pss_one (ps_if (pt_cmpR op_lt (pv 7) pe_int (nomark _))
            (pss_one (ps_expr (pe_bm PySem.F.plainAttrs_list PySem.F.slot_list_append PySem.F.type_list_append mt_append (pv 2) (pa_cons (pe_tup (pa_cons (pe_ix ix_list (pe_lst (pa_cons pe_str (pa_cons pe_str pa_nil))) (pe_op op_sub (pv 7) pe_int) (fun _ _ => rfl)) (pa_cons (pv 6) (pa_cons (pe_df d_law_draw (hr.mono (by decide)) pass0 (pa_cons (pv 0) (pa_cons (pv 8) pa_nil))) (pa_cons (pe_df d_law_draw (hr.mono (by decide)) pass0 (pa_cons (pv 0) (pa_cons (pv 8) pa_nil))) pa_nil))))) pa_nil))))
            (pss_one (ps_if (PW.pt (pw_and (pt_cmpR op_lt (pe_ix ix_list (pv 3) pe_int (fun _ _ => rfl)) pe_int (nomark _)) (pw_and (pt_cmpR op_eq (pv 7) pe_int (nomark _)) (pw_and1 (pt_cmpR op_gt (pv 5) pe_int (nomark _))))))
              (pss_cons (sset 10 (pe_df d_law_draw (hr.mono (by decide)) pass0 (pa_cons (pv 0) (pa_cons (pv 5) pa_nil))) sc_law_steps.nd)
              (pss_cons (ps_expr (pe_bm PySem.F.plainAttrs_list PySem.F.slot_list_append PySem.F.type_list_append mt_append (pv 2) (pa_cons (pe_tup (pa_cons pe_str (pa_cons (pv 6) (pa_cons (pe_ifExp (pt_cmpR op_lt (pv 10) (pv 6) (nomark _)) (pv 10) (pe_op op_add (pv 10) pe_int)) pa_nil)))) pa_nil)))
              (pss_one (ps_asg (pe_op op_add (pe_ix ix_list (pv 3) pe_int (fun _ _ => rfl)) pe_int) (pg_sub (pv 3) pe_int set_list)))))
              (pss_one (ps_if (pt_cmpR op_lt (pe_ix ix_list (pv 3) pe_int (fun _ _ => rfl)) pe_int (nomark _))
                (pss_cons (ps_expr (pe_bm PySem.F.plainAttrs_list PySem.F.slot_list_extend PySem.F.type_list_extend mt_extend (pv 2) (pa_cons (pe_df d_law_level (hr.mono (by decide)) pass0 (pa_cons (pv 0) (pa_cons (pv 6) (pa_cons (pe_op op_add (pv 5) pe_int) (pa_cons (pv 3) pa_nil))))) pa_nil)))
                (pss_one (ps_asg (pe_op op_add (pe_ix ix_list (pv 3) pe_int (fun _ _ => rfl)) pe_int) (pg_sub (pv 3) pe_int set_list))))
                pss_nil))))))))))))))
    (pss_one (ps_ret (pe_slice sl_list (pv 2) po_none (po_some (pv 1))))))), ?_⟩
  try dsimp only [L2.cxOf, L2.Cx.nox]
  refine ls_seq (ls_par (la_cons (le_lstO (la_nil ⟨_, rfl, sz rfl, la_cons (le_lstO ?_)⟩))))
  walk_at "gg"
  refine ⟨_, _, rfl, ?_⟩
  walk_at "gg"
  refine ls_forR (lr_1 ?_)
  walk_at "gg"
  refine draw (rest := [.lst [], whole 1 1 0]) n ho (by omega) (by omega) (by omega) fun d0 o1 a0 a1 ho1 => ?_
  walk_at "gg"
  refine ⟨by omega, by omega, ?_⟩
  refine ⟨fun i Γ S => ∃ (oi : Own) (gs : List Stp) (a b c : Nat) (x4 x5 x6 x7 x8 x9 x10 : Option Ent), S = [oi, .lst (gs.map Stp.d), whole a b c] ∧ Rng (n + 1 + 14 * i) oi ∧ RgI gs a b c ∧ gs.length ≤ 3 * i ∧
    Γ = [some (.own 0), some (.d (.int m)), some (.own 1), some (.own 2), x4, x5, x6, x7, x8, x9, x10],
    ⟨o1, [], 1, 1, 0, _, _, _, _, _, _, _, rfl, ho1, ⟨fun i x h => by simp at h, fun x h => (List.not_mem_nil h).elim, rfl, rfl, rfl, by decide, by decide, by decide, by decide, by decide⟩, Nat.le_refl _, rfl⟩, ?_, ?_⟩
  · rintro i _ _ hi ⟨oi, gs, a, b, c, x4, x5, x6, x7, x8, x9, x10, rfl, hoi, I, hgl, rfl⟩
    have hb2 := I.b2
    have ha2 := I.a2
    have hb1 := I.b1
    have ha1 := I.a1
    have hc1 := I.c1
    walk_at "gg"
    rw [List.length_map]
    refine draw _ hoi (by omega) (by omega) (by omega) fun d1 o2 b0 b1 ho2 => ?_
    walk_at "gg"
    refine draw _ ho2 (by omega) (by decide) (by decide) fun d2 o3 c0 c1 ho3 => ?_
    obtain ⟨y, hy, row, rfl, hrow⟩ := ix_any (ds := [D.int gs.length, D.int d1]) (i := d2) (fun x => ∃ r : Nat, x = .int r ∧ r ≤ gs.length) c0 (by simpa using c1) (by
      intro x hx
      simp only [List.mem_cons, List.not_mem_nil, or_false] at hx
      rcases hx with rfl | rfl
      · exact ⟨gs.length, rfl, Nat.le_refl _⟩
      · exact ⟨d1.toNat, by congr 1; omega, by omega⟩)
    refine rr_ixL hy ?_
    walk_at "gg"
    refine draw _ ho3 (by omega) (by decide) (by decide) fun d3 o4 e0 e1 ho4 => ?_
    walk_at "gg"
    refine ⟨_, _, rfl, ?_⟩
    walk_at "gg"
    refine draw _ ho4 (by omega) (by decide) (by decide) fun d4 o5 f0 f1 ho5 => ?_
    walk_at "gg"
    refine rc_intB ?_
    obtain ⟨y, hy, wd, rfl, hw0, hw1⟩ := ix_any (ds := [D.int 3, D.int 21]) (i := if decide (V.int d4 = V.int 0) then 1 else 0) (fun x => ∃ z : Int, x = .int z ∧ 0 < z ∧ z ≤ 21) (by split <;> decide) (by split <;> decide) (by
      intro x hx
      simp only [List.mem_cons, List.not_mem_nil, or_false] at hx
      rcases hx with rfl | rfl
      · exact ⟨_, rfl, by decide, by decide⟩
      · exact ⟨_, rfl, by decide, by decide⟩)
    refine rr_ixL hy ?_
    walk_at "gg"
    refine ⟨fun q1 => ?_, fun q1 => ?_⟩
    · walk_at "gg"
      refine ⟨⟨_, .inr ⟨1, rfl, rfl⟩⟩, ?_⟩
      walk_at "gg"
      refine window _ ho5 (by omega) ha1 ha2 fun l s' p' o6 w1 w2 w3 w4 w5 w6 ho6 => ?_
      walk_at "gg"
      refine rm_append (ds := gs.map Stp.d) rfl (by rw [List.length_map]; unfold sizeLine; omega) ?_
      walk_at "gg"
      refine ⟨o6, gs ++ [.win row l s' p'], a * s', b, c, _, _, _, _, _, _, _, by rw [List.map_append]; rfl, ho6.mono (by omega), ?_, by rw [List.length_append]; simp; omega, rfl⟩
      exact I.add (by simp [Stp.ok, Stp.nums]; omega) ⟨by omega, by omega⟩ (by simp [Stp.str]) (by simp [Stp.tms]) rfl w6 hb2 hc1
    walk_at "gg"
    refine ⟨fun q2 => ?_, fun q2 => ?_⟩
    · walk_at "gg"
      refine draw _ ho5 (by omega) (by decide) (by decide) fun d5 o6 i0 i1 ho6 => ?_
      walk_at "gg"
      obtain ⟨t, ht⟩ : ∃ t : Nat, 1 + d5 = t := ⟨(1 + d5).toNat, by omega⟩
      rw [ht]
      refine rr_int (wide_mul (a := 20) (b := 20) (by omega) (by omega) (by decide) (by decide) (by decide)) ?_
      walk_at "gg"
      have eB : (((b * t : Nat)) : Int) = (b : Int) * t := Int.natCast_mul b t
      refine ⟨fun q3 => ?_, fun q3 => ?_⟩
      · have q4 := of_decide_eq_true q3
        walk_at "gg"
        refine rr_int (wide_mul (a := 20) (b := 20) (by omega) (by omega) (by decide) (by decide) (by decide)) ?_
        rw [← eB]
        walk_at "gg"
        refine ⟨⟨_, .inr ⟨1, rfl, rfl⟩⟩, ?_⟩
        walk_at "gg"
        refine rm_append (ds := gs.map Stp.d) rfl (by rw [List.length_map]; unfold sizeLine; omega) ?_
        refine ⟨o6, gs ++ [.rep row t], a, b * t, c, _, _, _, _, _, _, _, by rw [List.map_append]; rfl, ho6.mono (by omega), ?_, by rw [List.length_append]; simp; omega, rfl⟩
        exact I.add (by simp [Stp.ok, Stp.nums]; omega) (show (t : Int) ≤ 6 by omega) (by simp [Stp.str]) (by simp [Stp.tms]) rfl ha2 (by omega) hc1
      · walk_at "gg"
        refine rr_int (wide_mul (a := 20) (b := 20) (by omega) (by omega) (by decide) (by decide) (by decide)) ?_
        rw [show (b : Int) * 1 = ((b : Nat) : Int) from Int.mul_one _]
        walk_at "gg"
        refine ⟨⟨_, .inr ⟨1, rfl, rfl⟩⟩, ?_⟩
        walk_at "gg"
        refine rm_append (ds := gs.map Stp.d) rfl (by rw [List.length_map]; unfold sizeLine; omega) ?_
        refine ⟨o6, gs ++ [.rep row 1], a, b, c, _, _, _, _, _, _, _, by rw [List.map_append]; rfl, ho6.mono (by omega), ?_, by rw [List.length_append]; simp; omega, rfl⟩
        exact I.add (by simp [Stp.ok, Stp.nums]; omega) (show (1 : Int) ≤ 6 by omega) (by simp [Stp.str]) (by simp [Stp.tms]) rfl ha2 hb2 hc1
    walk_at "gg"
    refine ⟨fun q3 => ?_, fun q3 => ?_⟩
    · have q4 := of_decide_eq_true q3
      have q5 := of_decide_eq_false q1
      have q6 := neI' q2
      walk_at "gg"
      refine ⟨⟨_, .inr ⟨1, rfl, rfl⟩⟩, ?_⟩
      walk_at "gg"
      have fin : ∀ (x : Stp) (o' : Own), x.ok gs.length = true → x.small → x.str = 1 → x.tms = 1 → x.jn = 0 → Rng (n + 1 + 14 * i + 12) o' → ∃ oi gs' a' b' c', [o', Own.lst (gs.map Stp.d ++ [x.d]), whole a b c] = [oi, .lst (gs'.map Stp.d), whole a' b' c'] ∧ Rng (n + 1 + 14 * (i + 1)) oi ∧ RgI gs' a' b' c' ∧ gs'.length ≤ 3 * (i + 1) := fun x o' e1 e2 e3 e4 e5 ho' =>
        ⟨o', gs ++ [x], a, b, c, by rw [List.map_append]; rfl, ho'.mono (by omega), I.add e1 e2 (by rw [e3, Nat.mul_one]) (by rw [e4, Nat.mul_one]) (by rw [e5]; rfl) ha2 hb2 hc1, by rw [List.length_append]; simp; omega⟩
      rcases (show d3 = 3 ∨ d3 = 4 by omega) with rfl | rfl
      · refine rr_ixL (d := .str "crop") rfl ?_
        walk_at "gg"
        refine draw _ ho5 (by omega) hw0 (by omega) fun d5 o6 i0 i1 ho6 => ?_
        walk_at "gg"
        refine draw _ ho6 (by omega) hw0 (by omega) fun d6 o7 j0 j1 ho7 => ?_
        walk_at "gg"
        refine rm_append (ds := gs.map Stp.d) rfl (by rw [List.length_map]; unfold sizeLine; omega) ?_
        obtain ⟨oi, gs', a', b', c', f1, f2, f3, f4⟩ := fin (.crop row d5 d6) o7 (by simp [Stp.ok, Stp.nums]; omega) ⟨by omega, by omega⟩ rfl rfl rfl (ho7.mono (by omega))
        exact ⟨oi, gs', a', b', c', _, _, _, _, _, _, _, f1, f2, f3, f4, rfl⟩
      · refine rr_ixL (d := .str "pad") rfl ?_
        walk_at "gg"
        refine draw _ ho5 (by omega) hw0 (by omega) fun d5 o6 i0 i1 ho6 => ?_
        walk_at "gg"
        refine draw _ ho6 (by omega) hw0 (by omega) fun d6 o7 j0 j1 ho7 => ?_
        walk_at "gg"
        refine rm_append (ds := gs.map Stp.d) rfl (by rw [List.length_map]; unfold sizeLine; omega) ?_
        obtain ⟨oi, gs', a', b', c', f1, f2, f3, f4⟩ := fin (.pad row d5 d6) o7 (by simp [Stp.ok, Stp.nums]; omega) ⟨by omega, by omega⟩ rfl rfl rfl (ho7.mono (by omega))
        exact ⟨oi, gs', a', b', c', _, _, _, _, _, _, _, f1, f2, f3, f4, rfl⟩
    refine ls_ifB (decide ((c : Int) < 3) && (decide (d3 = 5) && decide (0 < (gs.length : Int)))) ?_ (fun hc => ?_) (fun hc => ?_)
    · walk_at "gg"
      refine ⟨fun r1 => ?_, fun r1 => ?_⟩
      · walk_at "gg"
        refine ⟨fun r2 => ?_, fun r2 => ?_⟩
        · have := eqI' r2
          walk_at "gg"
          exact ⟨by rw [r1, decide_eq_true this, Bool.true_and, Bool.true_and], rfl⟩
        · have := neI' r2
          exact ⟨by rw [decide_eq_false this, Bool.false_and, Bool.and_false], rfl⟩
      · exact ⟨by rw [r1, Bool.false_and], rfl⟩
    · rw [Bool.and_eq_true, Bool.and_eq_true] at hc
      have h3 := of_decide_eq_true hc.1
      have h4 := of_decide_eq_true hc.2.2
      walk_at "gg"
      refine draw _ ho5 (by omega) h4 (by omega) fun d5 o6 i0 i1 ho6 => ?_
      walk_at "gg"
      refine ⟨⟨_, .inr ⟨1, rfl, rfl⟩⟩, ?_⟩
      walk_at "gg"
      refine ⟨fun r1 => ?_, fun r1 => ?_⟩
      · have r2 := of_decide_eq_true r1
        walk_at "gg"
        refine rm_append (ds := gs.map Stp.d) rfl (by rw [List.length_map]; unfold sizeLine; omega) ?_
        walk_at "gg"
        refine ⟨o6, gs ++ [.join row d5], a, b, c + 1, _, _, _, _, _, _, _, by rw [List.map_append]; rfl, ho6.mono (by omega), ?_, by rw [List.length_append]; simp; omega, rfl⟩
        exact I.add (by simp [Stp.ok]; omega) trivial (by simp [Stp.str]) (by simp [Stp.tms]) rfl ha2 hb2 (by omega)
      · have r2 := of_decide_eq_false r1
        walk_at "gg"
        refine rm_append (ds := gs.map Stp.d) rfl (by rw [List.length_map]; unfold sizeLine; omega) ?_
        walk_at "gg"
        refine ⟨o6, gs ++ [.join row (d5 + 1)], a, b, c + 1, _, _, _, _, _, _, _, by rw [List.map_append]; rfl, ho6.mono (by omega), ?_, by rw [List.length_append]; simp; omega, rfl⟩
        exact I.add (by simp [Stp.ok]; omega) trivial (by simp [Stp.str]) (by simp [Stp.tms]) rfl ha2 hb2 (by omega)
    refine ls_ifB (decide ((c : Int) < 3)) ?_ (fun hc2 => ?_) (fun hc2 => ?_)
    · walk_at "gg"
      exact ⟨rfl, rfl⟩
    · have h3 := of_decide_eq_true hc2
      walk_at "gg"
      refine ⟨⟨_, .inr ⟨1, rfl, rfl⟩⟩, ?_⟩
      walk_at "gg"
      rw [show ((gs.length : Int) + 1) = ((gs.length + 1 : Nat) : Int) from rfl]
      refine level _ ho5 (by omega) ha1 ha2 hb1 hb2 (by omega) fun xs a' b' o6 lv ho6 => ?_
      obtain ⟨I2, hx3⟩ := I.lev hrow (by omega) lv
      walk_at "gg"
      refine rm_extend (ds := gs.map Stp.d) (es := xs.map Stp.d) rfl (by rw [List.length_map, List.length_map]; unfold sizeLine; omega) ?_
      walk_at "gg"
      exact ⟨o6, gs ++ xs, a', b', c + 1, _, _, _, _, _, _, _, by rw [List.map_append]; rfl, ho6.mono (by omega), I2, by rw [List.length_append]; omega, rfl⟩
    · walk_at "gg"
      exact ⟨o5, gs, a, b, c, _, _, _, _, _, _, _, rfl, ho5.mono (by omega), I, by omega, rfl⟩
  · rintro _ _ ⟨oi, gs, a, b, c, x4, x5, x6, x7, x8, x9, x10, rfl, hoi, I, hgl, rfl⟩
    have hE : EnvLe 2 [none, some (.d (.int m)), some (.own 1), none, none, none, none, none, none, none, none] [some (.own 0), some (.d (.int m)), some (.own 1), some (.own 2), x4, x5, x6, x7, x8, x9, x10] := by walk_at "envle"
    refine ls_forget (S := [oi, .lst (gs.map Stp.d)]) (by rw [hA]; exact Nat.le_succ 1) hE.len hE.at_ ?_
    refine frzL (S := [oi]) (xs := gs.map Stp.d) (Γ' := [none, some (.d (.int m)), some (.d (.lst (gs.map Stp.d))), none, none, none, none, none, none, none, none]) 2 rfl ?_ (by walk_at "envle") (by rw [hA]; exact Nat.le_refl _)
    walk_at "gg"
    refine ⟨_, .inl rfl, ?_⟩
    rw [cut_up, ← List.map_take]
    exact hp _ _ ⟨gs.take m, oi, rfl, rfl, I.drawn m, hoi.mono (by omega)⟩
theorem rsteps {w : Wd} {E : XK} {o : Own} {rest : List Own} {k : KE} {m : Nat} (n : Nat) (ho : Rng n o) (hn : n < 2 ^ 49) (hm : m ≤ 8)
    (h : ∀ (gs : List Stp) (o' : Own), Drawn m gs → Rng (n + 130) o' → k (.d (.lst (gs.map Stp.d))) (o' :: rest)) : RS w dsRSteps E [.own 0, .d (.int m)] (o :: rest) k :=
  rp (m, n) ⟨o, rfl, rfl, ho, hn, hm⟩ (fun e S' ⟨gs, o', h1, h2, h3, h4⟩ => ⟨o', _, h2, h4.ng, h1, h gs o' h3 h4⟩) ho.ng
end

local macro_rules | `(tactic| walk_at "go") => `(tactic| (first
  | ((with_reducible refine le_var (e := ?e) ?h ?_); (case h => rfl))
  | with_reducible refine le_int ?_
  | with_reducible refine le_op ?_
  | with_reducible refine rr_int0 ?_
  | with_reducible refine rr_bl0 ?_
  | with_reducible refine le_cb ?_
  | with_reducible refine la_cons ?_
  | with_reducible refine la_nil ?_
  | with_reducible refine rc_int ?_
  | with_reducible refine ls_seq ?_
  | with_reducible refine ls_set ?_
  | with_reducible refine ls_ret ?_
  | with_reducible refine ls_next ?_
  | with_reducible refine ls_drop ?_
  | with_reducible refine ls_fld ?_
  | with_reducible refine le_methK ?_
  | with_reducible refine le_callK ?_
  | with_reducible refine ls_if ?_
  | with_reducible refine lt_test ?_
  | ((with_reducible refine rr_ixO (ds := ?ds) (d := ?d) ?h1 ?h2 ?_); (case h1 => rfl); (case h2 => rfl))
  | ((with_reducible refine rr_ixT (ds := ?ds) (d := ?d) ?h ?_); (case h => rfl))
  | with_reducible refine le_un ?_
  | with_reducible refine r1_int ?_
  | with_reducible refine ls_asg ?_
  | with_reducible refine lg_name ?_
  | with_reducible refine lg_tup2 ?_
  | with_reducible refine lg_tup3 ?_
  | with_reducible refine lg_tup4 ?_
  | with_reducible refine lg_tup5 ?_
  | with_reducible refine lg_sub ?_
  | with_reducible refine le_tup ?_
  | with_reducible refine le_lst ?_
  | with_reducible refine le_bl ?_
  | with_reducible refine le_str ?_
  | with_reducible refine le_non ?_
  | with_reducible refine le_cls ?_
  | with_reducible refine le_ty ?_
  | with_reducible refine la_perm ?_
  | with_reducible refine le_chain ?_
  | with_reducible refine le_call ?_
  | with_reducible refine le_bmL ?_
  | with_reducible refine le_bmL0 ?_
  | with_reducible refine le_if ?_
  | with_reducible refine lt_and ?_
  | with_reducible refine lt_or ?_
  | with_reducible refine lt_not ?_
  | with_reducible refine lt_tb ?_
  | with_reducible refine le_andV ?_
  | with_reducible refine le_orV ?_
  | with_reducible refine le_notV ?_
  | with_reducible refine le_fld ?_
  | with_reducible refine le_meth ?_
  | with_reducible refine le_prop ?_
  | with_reducible refine le_slL ?_
  | with_reducible refine le_slT ?_
  | with_reducible refine lo_none ?_
  | with_reducible refine lo_some ?_
  | with_reducible refine le_listRg2 ?_
  | with_reducible refine lt_yes ?_
  | with_reducible refine lcd_yes ?_
  | with_reducible refine ls_par ?_
  | with_reducible refine ls_par3 ?_
  | with_reducible refine ls_retN ?_
  | with_reducible refine ls_brk ?_
  | with_reducible refine ls_cont ?_
  | with_reducible refine rc_len (len_lz _) ?_
  | ((with_reducible refine rc_len (n := ?n) ?h ?_); (case h => rfl))
  | ((with_reducible refine rc_lenO (ds := ?ds) ?h ?_); (case h => rfl))
  | with_reducible refine rc_abs ?_
  | with_reducible refine rc_max2 ?_
  | with_reducible refine rc_min2 ?_
  | ((with_reducible refine rr_eq (u := ?u) (v := ?v) ?h1 ?h2 ?h3 ?_); (case h1 => rfl); (case h2 => rfl); (case h3 => rfl))
  | ((with_reducible refine rr_ne (u := ?u) (v := ?v) ?h1 ?h2 ?h3 ?_); (case h1 => rfl); (case h2 => rfl); (case h3 => rfl))
  | with_reducible refine rr_isN ?_
  | with_reducible refine rr_notN ?_
  | refine ⟨_, rfl, sz rfl, ?_⟩
  | refine ⟨_, rfl, ?_⟩
  ))

local macro_rules | `(tactic| walk_at "gg") => `(tactic| repeat walk_at "go")
local macro_rules | `(tactic| walk_at "envle") => `(tactic| repeat (first | exact EnvLe.nil | refine EnvLe.same rfl ?_ | refine EnvLe.none ?_))

local macro_rules | `(tactic| walk_at "go") => `(tactic| (first
  | ((with_reducible refine le_var (e := ?e) ?h ?_); (case h => rfl))
  | with_reducible refine le_int ?_
  | with_reducible refine le_op ?_
  | with_reducible refine rr_int0 ?_
  | with_reducible refine rr_bl0 ?_
  | with_reducible refine le_cb ?_
  | with_reducible refine la_cons ?_
  | with_reducible refine la_nil ?_
  | with_reducible refine rc_int ?_
  | with_reducible refine ls_seq ?_
  | with_reducible refine ls_set ?_
  | with_reducible refine ls_ret ?_
  | with_reducible refine ls_next ?_
  | with_reducible refine ls_drop ?_
  | with_reducible refine ls_fld ?_
  | with_reducible refine le_methK ?_
  | with_reducible refine le_callK ?_
  | with_reducible refine ls_if ?_
  | with_reducible refine lt_test ?_
  | ((with_reducible refine rr_ixO (ds := ?ds) (d := ?d) ?h1 ?h2 ?_); (case h1 => rfl); (case h2 => rfl))
  | ((with_reducible refine rr_ixT (ds := ?ds) (d := ?d) ?h ?_); (case h => rfl))
  | with_reducible refine le_un ?_
  | with_reducible refine r1_int ?_
  | with_reducible refine ls_asg ?_
  | with_reducible refine lg_name ?_
  | with_reducible refine lg_tup2 ?_
  | with_reducible refine lg_tup3 ?_
  | with_reducible refine lg_tup4 ?_
  | with_reducible refine lg_tup5 ?_
  | with_reducible refine lg_sub ?_
  | with_reducible refine le_tup ?_
  | with_reducible refine le_lst ?_
  | with_reducible refine le_bl ?_
  | with_reducible refine le_str ?_
  | with_reducible refine le_non ?_
  | with_reducible refine le_cls ?_
  | with_reducible refine le_ty ?_
  | with_reducible refine la_perm ?_
  | with_reducible refine le_chain ?_
  | with_reducible refine le_call ?_
  | with_reducible refine le_bmLat (r := rPopAt) ?_
  | with_reducible refine le_bmL ?_
  | with_reducible refine le_bmL0 ?_
  | with_reducible refine le_if ?_
  | with_reducible refine lt_and ?_
  | with_reducible refine lt_or ?_
  | with_reducible refine lt_not ?_
  | with_reducible refine lt_tb ?_
  | with_reducible refine le_andV ?_
  | with_reducible refine le_orV ?_
  | with_reducible refine le_notV ?_
  | with_reducible refine le_fld ?_
  | with_reducible refine le_meth ?_
  | with_reducible refine le_prop ?_
  | with_reducible refine le_slL ?_
  | with_reducible refine le_slT ?_
  | with_reducible refine lo_none ?_
  | with_reducible refine lo_some ?_
  | with_reducible refine le_listRg2 ?_
  | with_reducible refine lt_yes ?_
  | with_reducible refine lcd_yes ?_
  | with_reducible refine ls_par ?_
  | with_reducible refine ls_par3 ?_
  | with_reducible refine le_dget ?_
  | with_reducible refine rr_ipI ?_
  | with_reducible refine ls_dput ?_
  | with_reducible refine ls_daug ?_
  | with_reducible refine lp_nil ?_
  | with_reducible refine lp_cons ?_
  | with_reducible refine ls_retN ?_
  | with_reducible refine ls_brk ?_
  | with_reducible refine ls_cont ?_
  | with_reducible refine rc_len (len_lz _) ?_
  | ((with_reducible refine rc_len (n := ?n) ?h ?_); (case h => rfl))
  | ((with_reducible refine rc_lenO (ds := ?ds) ?h ?_); (case h => rfl))
  | with_reducible refine rc_abs ?_
  | with_reducible refine rc_max2 ?_
  | with_reducible refine rc_min2 ?_
  | ((with_reducible refine rr_eq (u := ?u) (v := ?v) ?h1 ?h2 ?h3 ?_); (case h1 => rfl); (case h2 => rfl); (case h3 => rfl))
  | ((with_reducible refine rr_ne (u := ?u) (v := ?v) ?h1 ?h2 ?h3 ?_); (case h1 => rfl); (case h2 => rfl); (case h3 => rfl))
  | with_reducible refine rr_isN ?_
  | with_reducible refine rr_notN ?_
  | refine ⟨_, _, _, _, _, rfl, rfl, rfl, rfl, rfl, lt_ble rfl, ?_⟩
  | refine ⟨_, _, _, rfl, rfl, rfl, lt_ble rfl, ?_⟩
  | refine ⟨_, _, _, _, rfl, rfl, rfl, rfl, ?_⟩
  | refine ⟨_, rfl, sz rfl, ?_⟩
  | refine ⟨_, rfl, ?_⟩
  ))

local macro_rules | `(tactic| walk_at "gg") => `(tactic| repeat walk_at "go")
local macro_rules | `(tactic| walk_at "envle") => `(tactic| repeat (first | exact EnvLe.nil | refine EnvLe.same rfl ?_ | refine EnvLe.none ?_))

section
variable {P : Program} {w0 : World} {K : PySem.W.Frag} {mg : Str → Option Value} {base : Heap}
theorem at_stp {gs : List Stp} {q : Int} {x : Stp} (h0 : 0 ≤ q) (h : gs[q.toNat]? = some x) : atI (gs.map Stp.d) q = some x.d := by
  have hl := (List.getElem?_eq_some_iff.mp h).1
  refine atI_map (ys := gs.map Stp.d) rfl (j := q.toNat) ?_ (by rw [List.getElem?_map, h]; rfl)
  unfold ixN; rw [List.length_map]; split <;> split <;> first | rfl | omega
def hasW (gs : List Stp) (p : Int) (ws : List Str) : Bool := (decide (0 ≤ p) && decide (p < (gs.length : Int))) && (match gs[p.toNat]? with | some x => decide (x.g.1 ∈ ws) | none => false)
def dsHas : DS := ds (α := List Stp × Int × List Str) (fun a es S => es = [.d (sL a.1), .d (.int a.2.1), .d (.tup (a.2.2.map D.str))] ∧ S = []) (fun a e S' => e = .d (.bl (hasW a.1 a.2.1 a.2.2)) ∧ S' = [])
theorem ok_has {f : Addr} {fd : FuncData} (F : Fun K "has_word" "has_word" shas_word f fd) (T : Blt mg) : FnOk P w0 K mg base CX0 1 f fd ["steps", "place", "words"] (spD K dsHas) := by
  refine fn0 F schas_word (fun es S p e h => by obtain ⟨a, ⟨h, _⟩, _⟩ := h; rw [h]; rfl) (fun cdv A outer s H E hr w es S p e hK hA h => ?_)
  subst hK
  obtain ⟨⟨gs, q, ws⟩, ⟨rfl, rfl⟩, hp⟩ := h
  dsimp only at hp
  refine ⟨_, (pss_one (ps_ret (pe_and (pe_chain op_le op_lt pe_int (pv 1) (b_len T.len (pv 0))) (pe_one (pe_cmpR op_in_seq (pe_ix ix_tup (pe_ix ix_list (pv 0) (pv 1) (fun _ _ => rfl)) pe_int (fun _ _ => rfl)) (pv 2) (by with_unfolding_all rfl)))))), ?_⟩
  try dsimp only [L2.cxOf, L2.Cx.nox]
  walk_at "gg"
  refine ⟨fun h0 => ?_, fun h0 => ⟨_, rfl, fun z => Bool.noConfusion z, fun _ => hp _ _ ⟨?_, rfl⟩⟩⟩
  · walk_at "gg"
    rw [List.length_map]
    refine ⟨fun h1 => ?_, fun h1 => hp _ _ ⟨?_, rfl⟩⟩
    · have g0 := of_decide_eq_true h0
      have g1 := of_decide_eq_true h1
      have hx : gs[q.toNat]? = some (gs[q.toNat]'(by omega)) := List.getElem?_eq_getElem _
      generalize gs[q.toNat]'(by omega) = x at hx
      walk_at "gg"
      refine rr_ixL (at_stp g0 hx) ?_
      walk_at "gg"
      refine rr_ixT ix0 ?_
      walk_at "gg"
      refine rr_inStr (as := ws) ?_
      refine hp _ _ ⟨?_, rfl⟩
      simp only [hasW, h0, h1, hx]; rfl
    · simp only [hasW, h0, h1]; rfl
  · simp only [hasW, h0]; rfl
theorem has {w : Wd} {S : List Own} {E : XK} {k : KE} {gs : List Stp} {q : Int} {t : Gm.D} (ws : List Str) (ht : t = .tup (ws.map D.str)) (h : k (.d (.bl (hasW gs q ws))) S) : RS w dsHas E [.d (sL gs), .d (.int q), .d t] S k :=
  r0 (gs, q, ws) ⟨by rw [ht], rfl⟩ fun e S' ⟨h1, h2⟩ => ⟨_, h2, h1, h⟩
def Stp.right : Stp → Option Int
  | .crop _ _ b => some b
  | .pad _ _ b => some b
  | _ => none
def Stp.withR (c : Int) : Stp → Stp
  | .crop r a b => .crop r a (b + c)
  | .pad r a b => .pad r a (b + c)
  | x => x
/-- places of crops and pads -/
structure PlcOk (gs : List Stp) (ps : List Int) : Prop where
  pos : 0 < ps.length
  two : ps.length ≤ 2
  asc : ps.Pairwise (· < ·)
  at_ : ∀ p ∈ ps, 0 ≤ p ∧ ∃ x b, gs[p.toNat]? = some x ∧ x.right = some b
theorem PlcOk.has {gs : List Stp} {ps : List Int} (h : PlcOk gs ps) {p : Int} (hp : p ∈ ps) : hasW gs p ["crop", "pad"] = true := by
  obtain ⟨h0, x, b, h1, h2⟩ := h.at_ p hp
  have hl := (List.getElem?_eq_some_iff.mp h1).1
  have e1 : decide (0 ≤ p) = true := decide_eq_true h0
  have e2 : decide (p < (gs.length : Int)) = true := decide_eq_true (by omega)
  simp only [hasW, e1, e2, h1]
  match x, h2 with
  | .crop r a b, _ => show (true && true && decide (("crop" : Str) ∈ (["crop", "pad"] : List Str))) = true; decide +kernel
  | .pad r a b, _ => show (true && true && decide (("pad" : Str) ∈ (["crop", "pad"] : List Str))) = true; decide +kernel
def dsPlc (U : Addr) : DS := ds (α := List Stp × List Int) (fun a es S => es = [.d (pD U a.1), .d (lz a.2)] ∧ S = [] ∧ PlcOk a.1 a.2) (fun a e S' => e = .d .non ∧ S' = [])
theorem ok_plc {f U : Addr} {fd : FuncData} (F : Fun K "check_places" "check_places" scheck_places f fd) (T : Blt mg) (dsteps : Pr P w0 K mg base CX0 1 U "steps" (dsSteps U)) (dhas_word : Df P w0 K mg base CX0 1 "has_word" 3 dsHas) : FnOk P w0 K mg base CX0 3 f fd ["pipeline", "places"] (spD K (dsPlc U)) := by
  refine fn0 F sccheck_places (fun es S p e h => by obtain ⟨a, ⟨h, _⟩, _⟩ := h; rw [h]; rfl) (fun cdv A outer s H E hr w es S p e hK hA h => ?_)
  subst hK
  obtain ⟨⟨gs, ps⟩, ⟨rfl, rfl, hpl⟩, hp⟩ := h
  dsimp only at hpl hp
  refine ⟨_, (pss_cons (ps_if (PW.pt (pw_or (pt_cmpR op_eq (b_len T.len (pv 1)) pe_int (nomark _)) (pw_or1 (pt_cmpR op_gt (b_len T.len (pv 1)) pe_int (nomark _)))))
      (pss_one ps_never)
      pss_nil)
    (pss_cons (ps_if (PW.pt (pw_and (pt_cmpR op_eq (b_len T.len (pv 1)) pe_int (nomark _)) (pw_and1 (pt_cmpR op_ge (pe_ix ix_list (pv 1) pe_int (fun _ _ => rfl)) (pe_ix ix_list (pv 1) pe_int (fun _ _ => rfl)) (nomark _)))))
      (pss_one ps_never)
      pss_nil)
    (pss_cons (sset 2 (pe_pr dsteps (hr.mono (by decide)) pass0 (pv 0)) sccheck_places.nd)
    (pss_one (ps_for PassesOwn.never rfl (pi_list (pv 1)) (gn 3 sccheck_places.nd)
      (pss_one (ps_if (pt_not (pt_val (pe_df dhas_word (hr.mono (by decide)) pass0 (pa_cons (pv 2) (pa_cons (pv 3) (pa_cons (pe_tup (pa_cons pe_str (pa_cons pe_str pa_nil))) pa_nil))))))
        (pss_one ps_never)
        pss_nil))))))), ?_⟩
  try dsimp only [L2.cxOf, L2.Cx.nox]
  walk_at "gg"
  have hl : ps.length = 1 ∨ ps.length = 2 := by have := hpl.pos; have := hpl.two; omega
  refine ⟨fun hb => absurd (eqI' hb) (by have := hpl.pos; omega), fun _ => ?_⟩
  walk_at "gg"
  refine ⟨fun hb => absurd (of_decide_eq_true hb) (by have := hpl.two; omega), fun _ => ?_⟩
  walk_at "gg"
  refine ⟨fun hb => ?_, fun hb => ?_⟩
  · have h2 := eqI' hb
    walk_at "gg"
    refine rr_ixL (ixI (by omega) (by omega)) ?_
    walk_at "gg"
    refine rr_ixL (ixI (by omega) (by omega)) ?_
    walk_at "gg"
    refine ⟨fun hb => absurd (of_decide_eq_true hb) (by
      have h3 := List.pairwise_iff_getElem.mp hpl.asc 0 1 (by omega) (by omega) (by omega)
      show ¬ ps.getD 1 0 ≤ ps.getD 0 0
      rw [List.getD_eq_getElem?_getD, List.getD_eq_getElem?_getD, List.getElem?_eq_getElem (show 1 < ps.length by omega), List.getElem?_eq_getElem (show 0 < ps.length by omega)]
      show ¬ ps[1] ≤ ps[0]
      omega), fun _ => ?_⟩
    walk_at "gg"
    refine ⟨_, .inl rfl, stepsP ?_⟩
    walk_at "gg"
    refine ls_forL ?_
    walk_at "gg"
    refine ⟨fun i Γ S => ∃ (x3 : Option Ent), S = [] ∧ Γ = [some (.d (pD U gs)), some (.d (lz ps)), some (.d (sL gs)), x3], ⟨none, rfl, rfl⟩, ?_, ?_⟩
    · rintro i d _ _ hd ⟨x3, rfl, rfl⟩
      rw [List.getElem?_map, Option.map_eq_some_iff] at hd
      obtain ⟨q, hq, rfl⟩ := hd
      have hh := hpl.has (List.mem_of_getElem? hq)
      walk_at "gg"
      refine has ["crop", "pad"] rfl ?_
      rw [hh]
      walk_at "gg"
      refine ⟨fun z => Bool.noConfusion z, fun _ => ?_⟩
      walk_at "gg"
      exact ⟨_, rfl, rfl⟩
    · rintro _ _ ⟨x3, rfl, rfl⟩
      walk_at "gg"
      exact hp _ _ ⟨rfl, rfl⟩
  · walk_at "gg"
    refine ⟨fun z => Bool.noConfusion z, fun _ => ?_⟩
    walk_at "gg"
    refine ⟨_, .inl rfl, stepsP ?_⟩
    walk_at "gg"
    refine ls_forL ?_
    walk_at "gg"
    refine ⟨fun i Γ S => ∃ (x3 : Option Ent), S = [] ∧ Γ = [some (.d (pD U gs)), some (.d (lz ps)), some (.d (sL gs)), x3], ⟨none, rfl, rfl⟩, ?_, ?_⟩
    · rintro i d _ _ hd ⟨x3, rfl, rfl⟩
      rw [List.getElem?_map, Option.map_eq_some_iff] at hd
      obtain ⟨q, hq, rfl⟩ := hd
      have hh := hpl.has (List.mem_of_getElem? hq)
      walk_at "gg"
      refine has ["crop", "pad"] rfl ?_
      rw [hh]
      walk_at "gg"
      refine ⟨fun z => Bool.noConfusion z, fun _ => ?_⟩
      walk_at "gg"
      exact ⟨_, rfl, rfl⟩
    · rintro _ _ ⟨x3, rfl, rfl⟩
      walk_at "gg"
      exact hp _ _ ⟨rfl, rfl⟩
theorem plc {w : Wd} {S : List Own} {U : Addr} {E : XK} {k : KE} {gs : List Stp} {ps : List Int} (hpl : PlcOk gs ps) (h : k (.d .non) S) : RS w (dsPlc U) E [.d (pD U gs), .d (lz ps)] S k :=
  r0 (gs, ps) ⟨rfl, rfl, hpl⟩ fun e S' ⟨h1, h2⟩ => ⟨_, h2, h1, h⟩
def chg (gs : List Stp) (pcs : List (Int × Int)) : List Stp := pcs.foldl (fun m pc => match gs[pc.1.toNat]? with | some x => m.set pc.1.toNat (x.withR pc.2) | none => m) gs
theorem chg_snoc (gs : List Stp) (pcs : List (Int × Int)) (pc : Int × Int) : chg gs (pcs ++ [pc]) = (match gs[pc.1.toNat]? with | some x => (chg gs pcs).set pc.1.toNat (x.withR pc.2) | none => chg gs pcs) := by
  unfold chg; rw [List.foldl_append]; rfl
/-- changes that make no number negative -/
structure ChgOk (gs : List Stp) (ps cs : List Int) : Prop extends PlcOk gs ps where
  len : ps.length = cs.length
  nn : ∀ (i : Nat) (p c : Int) (x : Stp) (b : Int), ps[i]? = some p → cs[i]? = some c → gs[p.toNat]? = some x → x.right = some b → 0 ≤ b + c
theorem withR_ok {x : Stp} {n b c : Int} (h : x.ok n = true) (hb : x.right = some b) (hc : 0 ≤ b + c) : (x.withR c).ok n = true := by
  match x, hb with
  | .crop r a b', e => cases e; simp [Stp.withR, Stp.ok, Stp.nums] at h ⊢; omega
  | .pad r a b', e => cases e; simp [Stp.withR, Stp.ok, Stp.nums] at h ⊢; omega
theorem chg_ok {gs : List Stp} {ps cs : List Int} (ok : PipeOk gs) (h : ChgOk gs ps cs) : ∀ i, i ≤ ps.length → PipeOk (chg gs ((ps.zip cs).take i)) ∧ (chg gs ((ps.zip cs).take i)).length = gs.length
  | 0, _ => ⟨by rw [List.take_zero]; exact ok, by rw [List.take_zero]; rfl⟩
  | i + 1, hi => by
    obtain ⟨h1, h2⟩ := chg_ok ok h i (by omega)
    have hz : (ps.zip cs)[i]? = some (ps[i]'(by omega), cs[i]'(by have := h.len; omega)) := by
      rw [List.getElem?_eq_getElem (by rw [List.length_zip]; have := h.len; omega), List.getElem_zip]
    obtain ⟨p0, x, b, hx, hb⟩ := h.at_ ps[i] (List.getElem_mem _)
    rw [Gm.take_snoc' hz, chg_snoc]
    dsimp only
    rw [hx]
    dsimp only
    have hcc := h.nn i ps[i] (cs[i]'(by have := h.len; omega)) x b (List.getElem?_eq_getElem _) (List.getElem?_eq_getElem _) hx hb
    refine ⟨fun j y hy => ?_, by rw [List.length_set]; exact h2⟩
    rw [List.getElem?_set] at hy
    split at hy
    · rename_i e
      split at hy
      · cases hy
        rw [← e]
        exact withR_ok (ok _ x hx) hb hcc
      · cases hy
    · exact h1 j y hy
theorem right_d {x : Stp} {b : Int} (hb : x.right = some b) : ∃ (s : Str) (r a : Int), x.d = .tup [.str s, .int r, .int a, .int b] ∧ ∀ c, (x.withR c).d = .tup [.str s, .int r, .int a, .int (b + c)] := by
  match x, hb with
  | .crop r a b', e => cases e; exact ⟨"crop", r, a, rfl, fun c => rfl⟩
  | .pad r a b', e => cases e; exact ⟨"pad", r, a, rfl, fun c => rfl⟩
def dsChg (U : Addr) : DS := ds (α := List Stp × List Int × List Int) (fun a es S => es = [.d (sL a.1), .d (lz a.2.1), .d (.tup (a.2.2.map D.int))] ∧ S = [] ∧ PipeOk a.1 ∧ a.1.length ≤ 1000 ∧ ChgOk a.1 a.2.1 a.2.2) (fun a e S' => e = .d (pD U (chg a.1 (a.2.1.zip a.2.2))) ∧ S' = [])
theorem ok_chg {f U : Addr} {fd : FuncData} (F : Fun K "changed" "changed" schanged f fd) (T : Blt mg) (hzip : mg "zip" = none) (dPipeline : Ct P w0 K mg base CX0 4 "Pipeline" U (dsPInit U)) : FnOk P w0 K mg base CX0 6 f fd ["steps", "places", "changes"] (spD K (dsChg U)) := by
  refine fn0 F scchanged (fun es S p e h => by obtain ⟨a, ⟨h, _⟩, _⟩ := h; rw [h]; rfl) (fun cdv A outer s H E hr w es S p e hK hA h => ?_)
  subst hK
  obtain ⟨⟨gs, ps, cs⟩, ⟨rfl, rfl, ok, hl, hc⟩, hp⟩ := h
  dsimp only at ok hl hc hp
  have hlen := hc.len
  refine ⟨_, (pss_cons (sset 3 (b_list T.list (pv 0)) scchanged.nd)
    (pss_cons (ps_for PassesOwn.never rfl (pi_zipM w.K hzip (pa_cons (pv 1) (pa_cons (pv 2) pa_nil))) (pg_tup (n := 2) (by rfl) (pgs_cons (gn 4 scchanged.nd) (pgs_cons (gn 5 scchanged.nd) pgs_nil)))
      (pss_cons (ps_asg (pe_ix ix_list (pv 0) (pv 4) (fun _ _ => rfl)) (pg_tup (n := 4) (by rfl) (pgs_cons (gn 6 scchanged.nd) (pgs_cons (gn 7 scchanged.nd) (pgs_cons (gn 8 scchanged.nd) (pgs_cons (gn 9 scchanged.nd) pgs_nil))))))
      (pss_one (ps_asg (pe_tup (pa_cons (pv 6) (pa_cons (pv 7) (pa_cons (pv 8) (pa_cons (pe_op op_add (pv 9) (pv 5)) pa_nil))))) (pg_sub (pv 3) (pv 4) set_list)))))
    (pss_one (ps_ret (pe_mk dPipeline (hr.mono (by decide)) pass0 (pa_cons (pv 3) pa_nil)))))), ?_⟩
  try dsimp only [L2.cxOf, L2.Cx.nox]
  walk_at "gg"
  refine rc_listN (ds := gs.map Stp.d) rfl ?_
  walk_at "gg"
  refine ls_forZip ?_
  walk_at "gg"
  refine ⟨ps.map D.int, cs.map D.int, rfl, by rw [List.length_map, List.length_map]; exact hlen, fun i Γ S => ∃ (x4 x5 x6 x7 x8 x9 : Option Ent), S = [.lst ((chg gs ((ps.zip cs).take i)).map Stp.d)] ∧ i ≤ ps.length ∧ Γ = [some (.d (sL gs)), some (.d (lz ps)), some (.d (.tup (cs.map D.int))), some (.own 0), x4, x5, x6, x7, x8, x9], ⟨none, none, none, none, none, none, by rw [List.take_zero]; rfl, Nat.zero_le _, rfl⟩, ?_, ?_⟩
  · rintro i d1 d2 _ _ hd1 hd2 ⟨x4, x5, x6, x7, x8, x9, rfl, hi, rfl⟩
    rw [List.getElem?_map, Option.map_eq_some_iff] at hd1 hd2
    obtain ⟨q, hq, rfl⟩ := hd1
    obtain ⟨c, hcq, rfl⟩ := hd2
    obtain ⟨p0, x, b, hx, hb⟩ := hc.at_ q (List.mem_of_getElem? hq)
    have hx0 := (List.getElem?_eq_some_iff.mp hx).1
    have hi1 := (List.getElem?_eq_some_iff.mp hq).1
    have hz : (ps.zip cs)[i]? = some (q, c) := List.getElem?_zip_eq_some.mpr ⟨hq, hcq⟩
    obtain ⟨g1, g2⟩ := chg_ok ok hc i (by omega)
    obtain ⟨sw, r, a, e1, e2⟩ := right_d hb
    walk_at "gg"
    refine rr_ixL (at_stp p0 hx) ?_
    rw [e1]
    walk_at "gg"
    refine ⟨0, _, q, q.toNat, rfl, rfl, rfl, ?_, _, _, _, _, _, _, ?_, hi1, rfl⟩
    · rw [List.length_map, g2]; unfold ixN; rw [if_pos p0, if_pos (by omega)]
    · rw [Gm.take_snoc' hz, chg_snoc]
      dsimp only
      rw [hx]
      dsimp only
      rw [List.map_set, e2]
      rfl
  · rintro _ _ ⟨x4, x5, x6, x7, x8, x9, rfl, hi, rfl⟩
    have eT : (ps.zip cs).take (ps.map Gm.D.int).length = ps.zip cs := by rw [List.length_map]; exact List.take_of_length_le (by rw [List.length_zip]; omega)
    have hok := (chg_ok ok hc ps.length (Nat.le_refl _)).1
    rw [List.take_of_length_le (by rw [List.length_zip]; omega)] at hok
    rw [eT]
    refine frzL (S := []) (xs := (chg gs (ps.zip cs)).map Stp.d) (Γ' := [some (.d (sL gs)), some (.d (lz ps)), some (.d (.tup (cs.map Gm.D.int))), some (.d (sL (chg gs (ps.zip cs)))), none, none, none, none, none, none]) 3 rfl ?_ (by walk_at "envle") (by rw [hA]; exact Nat.le_refl _)
    walk_at "gg"
    refine mkP ?_
    walk_at "gg"
    refine ⟨_, chg gs (ps.zip cs), rfl, .inl rfl, hok, ?_⟩
    exact hp _ _ ⟨rfl, rfl⟩
theorem chg_ {w : Wd} {S : List Own} {U : Addr} {E : XK} {k : KE} {gs : List Stp} {ps cs : List Int} (ok : PipeOk gs) (hl : gs.length ≤ 1000) (hc : ChgOk gs ps cs) (h : k (.d (pD U (chg gs (ps.zip cs)))) S) : RS w (dsChg U) E [.d (sL gs), .d (lz ps), .d (.tup (cs.map Gm.D.int))] S k :=
  r0 (gs, ps, cs) ⟨rfl, rfl, ok, hl, hc⟩ fun e S' ⟨h1, h2⟩ => ⟨_, h2, h1, h⟩
def dsWith (U : Addr) : DS := ds (α := List Stp × List Int × List Int) (fun a es S => es = [.d (pD U a.1), .d (lz a.2.1), .d (.tup (a.2.2.map D.int))] ∧ S = [] ∧ PipeOk a.1 ∧ a.1.length ≤ 1000 ∧ ChgOk a.1 a.2.1 a.2.2) (fun a e S' => e = .d (pD U (chg a.1 (a.2.1.zip a.2.2))) ∧ S' = [])
theorem ok_with {f U : Addr} {fd : FuncData} (F : Fun K "with_changes" "with_changes" swith_changes f fd) (T : Blt mg) (hzip : mg "zip" = none) (dsteps : Pr P w0 K mg base CX0 1 U "steps" (dsSteps U)) (dcheck_places : Df P w0 K mg base CX0 3 "check_places" 2 (dsPlc U)) (dchanged : Df P w0 K mg base CX0 6 "changed" 3 (dsChg U)) : FnOk P w0 K mg base CX0 7 f fd ["pipeline", "places", "changes"] (spD K (dsWith U)) := by
  refine fn0 F scwith_changes (fun es S p e h => by obtain ⟨a, ⟨h, _⟩, _⟩ := h; rw [h]; rfl) (fun cdv A outer s H E hr w es S p e hK hA h => ?_)
  subst hK
  obtain ⟨⟨gs, ps, cs⟩, ⟨rfl, rfl, ok, hl, hc⟩, hp⟩ := h
  dsimp only at ok hl hc hp
  have hlen := hc.len
  refine ⟨_, (pss_cons (ps_expr (pe_df dcheck_places (hr.mono (by decide)) pass0 (pa_cons (pv 0) (pa_cons (pv 1) pa_nil))))
    (pss_cons (sset 3 (pe_pr dsteps (hr.mono (by decide)) pass0 (pv 0)) scwith_changes.nd)
    (pss_cons (ps_for PassesOwn.never rfl (pi_zipM w.K hzip (pa_cons (pv 1) (pa_cons (pv 2) pa_nil))) (pg_tup (n := 2) (by rfl) (pgs_cons (gn 4 scwith_changes.nd) (pgs_cons (gn 5 scwith_changes.nd) pgs_nil)))
      (pss_one (ps_if (pt_cmpR op_lt (pe_op op_add (pe_ix ix_tup (pe_ix ix_list (pv 3) (pv 4) (fun _ _ => rfl)) pe_int (fun _ _ => rfl)) (pv 5)) pe_int (nomark _))
        (pss_one ps_never)
        pss_nil)))
    (pss_one (ps_ret (pe_df dchanged (hr.mono (by decide)) pass0 (pa_cons (pv 3) (pa_cons (pv 1) (pa_cons (pv 2) pa_nil))))))))), ?_⟩
  try dsimp only [L2.cxOf, L2.Cx.nox]
  walk_at "gg"
  refine plc hc.toPlcOk ?_
  walk_at "gg"
  refine ⟨_, .inl rfl, stepsP ?_⟩
  walk_at "gg"
  refine ls_forZip ?_
  walk_at "gg"
  refine ⟨ps.map D.int, cs.map D.int, rfl, by rw [List.length_map, List.length_map]; exact hlen, fun i Γ S => ∃ (x4 x5 : Option Ent), S = [] ∧ Γ = [some (.d (pD U gs)), some (.d (lz ps)), some (.d (.tup (cs.map D.int))), some (.d (sL gs)), x4, x5], ⟨none, none, rfl, rfl⟩, ?_, ?_⟩
  · rintro i d1 d2 _ _ hd1 hd2 ⟨x4, x5, rfl, rfl⟩
    rw [List.getElem?_map, Option.map_eq_some_iff] at hd1 hd2
    obtain ⟨q, hq, rfl⟩ := hd1
    obtain ⟨c, hcq, rfl⟩ := hd2
    obtain ⟨p0, x, b, hx, hb⟩ := hc.at_ q (List.mem_of_getElem? hq)
    have hnn := hc.nn i q c x b hq hcq hx hb
    obtain ⟨sw, r, a, e1, e2⟩ := right_d hb
    walk_at "gg"
    refine rr_ixL (at_stp p0 hx) ?_
    rw [e1]
    walk_at "gg"
    refine ⟨fun hb => absurd (of_decide_eq_true hb) (by omega), fun _ => ?_⟩
    walk_at "gg"
    exact ⟨_, _, rfl, rfl⟩
  · rintro _ _ ⟨x4, x5, rfl, rfl⟩
    walk_at "gg"
    refine chg_ ok hl hc ?_
    exact hp _ _ ⟨rfl, rfl⟩
theorem with_ {w : Wd} {S : List Own} {U : Addr} {E : XK} {k : KE} {gs : List Stp} {ps cs : List Int} (ok : PipeOk gs) (hl : gs.length ≤ 1000) (hc : ChgOk gs ps cs) (h : k (.d (pD U (chg gs (ps.zip cs)))) S) : RS w (dsWith U) E [.d (pD U gs), .d (lz ps), .d (.tup (cs.map Gm.D.int))] S k :=
  r0 (gs, ps, cs) ⟨rfl, rfl, ok, hl, hc⟩ fun e S' ⟨h1, h2⟩ => ⟨_, h2, h1, h⟩
end

section
variable {P : Program} {w0 : World} {K : PySem.W.Frag} {mg : Str → Option Value} {base : Heap}
def isCP (gs : List Stp) (i : Nat) : Bool := match gs[i]? with | some x => x.right.isSome | none => false
def plN (gs : List Stp) (n : Nat) : List Int := ((List.range n).filter (isCP gs)).map fun i : Nat => (i : Int)
theorem plN_snoc (gs : List Stp) (n : Nat) : plN gs (n + 1) = plN gs n ++ (if isCP gs n = true then [(n : Int)] else []) := by
  unfold plN
  rw [List.range_succ, List.filter_append, List.map_append]
  congr 1
  by_cases h : isCP gs n = true
  · rw [if_pos h, List.filter_cons_of_pos h]; rfl
  · rw [if_neg h, List.filter_cons_of_neg h]; rfl
theorem plN_mem {gs : List Stp} {n : Nat} {p : Int} (h : p ∈ plN gs n) : 0 ≤ p ∧ p < n ∧ ∃ x b, gs[p.toNat]? = some x ∧ x.right = some b := by
  obtain ⟨i, hi, rfl⟩ := List.mem_map.mp h
  obtain ⟨h1, h2⟩ := List.mem_filter.mp hi
  have h3 := List.mem_range.mp h1
  refine ⟨by omega, by omega, ?_⟩
  rw [Int.toNat_natCast]
  unfold isCP at h2
  match hx : gs[i]?, h2 with
  | some x, h2 => obtain ⟨b, hb⟩ := Option.isSome_iff_exists.mp h2; exact ⟨x, b, rfl, hb⟩
theorem plN_len (gs : List Stp) (n : Nat) : (plN gs n).length ≤ n := by
  unfold plN
  rw [List.length_map]
  have := List.length_filter_le (isCP gs) (List.range n)
  rwa [List.length_range] at this
theorem right_word {x : Stp} : decide (x.g.1 ∈ (["crop", "pad"] : List Str)) = x.right.isSome := by
  match x with
  | .crop r a b => show decide (("crop" : Str) ∈ (["crop", "pad"] : List Str)) = true; decide +kernel
  | .pad r a b => show decide (("pad" : Str) ∈ (["crop", "pad"] : List Str)) = true; decide +kernel
  | .win r l s p => show decide (("window" : Str) ∈ (["crop", "pad"] : List Str)) = false; decide +kernel
  | .rep r t => show decide (("repeat" : Str) ∈ (["crop", "pad"] : List Str)) = false; decide +kernel
  | .join r o => show decide (("join" : Str) ∈ (["crop", "pad"] : List Str)) = false; decide +kernel
def dsPls : DS := ds (α := List Stp) (fun a es S => es = [.d (sL a)] ∧ S = [] ∧ a.length ≤ 1000) (fun a e S' => e = .d (lz (plN a a.length)) ∧ S' = [])
theorem ok_pls {f : Addr} {fd : FuncData} (F : Fun K "_law_places" "_law_places" s_law_places f fd) (T : Blt mg) : FnOk P w0 K mg base CX0 1 f fd ["some"] (spD K dsPls) := by
  refine fn0 F sc_law_places (fun es S p e h => by obtain ⟨a, ⟨h, _⟩, _⟩ := h; rw [h]; rfl) (fun cdv A outer s H E hr w es S p e hK hA h => ?_)
  subst hK
  obtain ⟨gs, ⟨rfl, rfl, hl⟩, hp⟩ := h
  have sl : 100000 ≤ sizeLine := by unfold sizeLine; omega
  refine ⟨_, (pss_one (ps_ret (pe_lc (own := [("spot", 1), ("step", 2)]) (g := (gTup w.K 2 (gCons (gName 1) (gCons (gName 2) gNil)))) rfl sc_law_places.nd (pi_enum (by rfl) T.enumerate (pa_cons (pv 0) pa_nil)) (blkOk_by (own := [("spot", 1), ("step", 2)]) (N := N_law_places) (sc := defScope s_law_places) (by decide +kernel)) (fun _ _ _ _ _ => (pg_tup (n := 2) (by rfl) (pgs_cons (gn 1 sc_law_places.nd) (pgs_cons (gn 2 sc_law_places.nd) pgs_nil)))) (fun _ _ _ _ _ => (pts_one (pt_cmpR (op_in_seqB w.K) (pe_ix (ix_tupB w.K) (pv 2) pe_int (fun _ _ => rfl)) (pe_tup (pa_cons pe_str (pa_cons pe_str pa_nil))) (by with_unfolding_all rfl)))) (fun _ _ _ _ _ => (pv 1))))), ?_⟩
  try dsimp only [L2.cxOf, L2.Cx.nox]
  walk_at "gg"
  refine le_lcEnum ?_
  walk_at "gg"
  refine ⟨fun i acc S => S = [] ∧ i ≤ gs.length ∧ acc = (plN gs i).map D.int, ⟨rfl, Nat.zero_le _, rfl⟩, ?_, ?_⟩
  · rintro i d acc _ hd _ ⟨rfl, hi, rfl⟩
    rw [List.getElem?_map, Option.map_eq_some_iff] at hd
    obtain ⟨x, hx, rfl⟩ := hd
    have hil := (List.getElem?_eq_some_iff.mp hx).1
    refine ⟨_, tg_pair (by simp) (by simp), ?_⟩
    unfold LcG
    walk_at "gg"
    refine rr_ixT ix0 ?_
    walk_at "gg"
    refine rr_inStr (as := ["crop", "pad"]) ?_
    rw [right_word]
    walk_at "gg"
    have hcp : isCP gs i = x.right.isSome := by unfold isCP; rw [hx]
    refine ⟨fun hb => ?_, fun hb => ?_⟩
    · walk_at "gg"
      have := plN_len gs i
      refine ⟨_, [], rfl, rfl, rfl, by rw [List.length_map]; omega, rfl, by omega, ?_⟩
      rw [plN_snoc, hcp, if_pos hb, List.map_append]; rfl
    · refine ⟨[], rfl, rfl, rfl, by omega, ?_⟩
      rw [plN_snoc, hcp, hb, if_neg Bool.false_ne_true, List.append_nil]
  · rintro acc _ ⟨rfl, hi, rfl⟩
    rw [List.length_map]
    exact hp _ _ ⟨rfl, rfl⟩
theorem pls {w : Wd} {S : List Own} {E : XK} {k : KE} {gs : List Stp} (hl : gs.length ≤ 1000) (h : k (.d (lz (plN gs gs.length))) S) : RS w dsPls E [.d (sL gs)] S k :=
  r0 gs ⟨rfl, rfl, hl⟩ fun e S' ⟨h1, h2⟩ => ⟨_, h2, h1, h⟩
end

section
variable {P : Program} {w0 : World} {K : PySem.W.Frag} {mg : Str → Option Value} {base : Heap}
def okPC (gs : List Stp) (pc : Int × Int) : Bool := match gs[pc.1.toNat]? with | some x => (match x.right with | some b => decide (0 ≤ b + pc.2) | none => false) | none => false
def nnB (gs : List Stp) (pcs : List (Int × Int)) : Bool := pcs.all (okPC gs)
theorem chg_old {gs : List Stp} {ps cs : List Int} (h : PlcOk gs ps) (hl : ps.length = cs.length) {j : Nat} {q : Int} (hq : ps[j]? = some q) : ∀ i, i ≤ j → (chg gs ((ps.zip cs).take i))[q.toNat]? = gs[q.toNat]?
  | 0, _ => by rw [List.take_zero]; rfl
  | i + 1, hi => by
    have hj := (List.getElem?_eq_some_iff.mp hq)
    obtain ⟨hj1, hj2⟩ := hj
    have hz : (ps.zip cs)[i]? = some (ps[i]'(by omega), cs[i]'(by omega)) := by
      rw [List.getElem?_eq_getElem (by rw [List.length_zip]; omega), List.getElem_zip]
    have h1 := chg_old h hl hq i (by omega)
    have h2 := List.pairwise_iff_getElem.mp h.asc i j (by omega) hj1 (by omega)
    rw [hj2] at h2
    have h3 := (h.at_ ps[i] (List.getElem_mem _)).1
    rw [Gm.take_snoc' hz, chg_snoc]
    dsimp only
    split
    · rw [List.getElem?_set_ne (by omega)]; exact h1
    · exact h1
theorem nnB_snoc (gs : List Stp) (pcs : List (Int × Int)) (pc : Int × Int) : nnB gs (pcs ++ [pc]) = (nnB gs pcs && okPC gs pc) := by
  unfold nnB; rw [List.all_append]; simp
theorem nnB_not {gs : List Stp} {pcs : List (Int × Int)} {pc : Int × Int} (h : pc ∈ pcs) (hn : okPC gs pc = false) : nnB gs pcs = false := by
  unfold nnB
  rw [List.all_eq_false]
  exact ⟨pc, h, by rw [hn]; exact Bool.false_ne_true⟩
theorem nn_chgOk {gs : List Stp} {ps cs : List Int} (h : PlcOk gs ps) (hl : ps.length = cs.length) (hn : nnB gs (ps.zip cs) = true) : ChgOk gs ps cs :=
  { toPlcOk := h, len := hl, nn := fun i p c x b hp hc hx hb => by
      have hm : (p, c) ∈ ps.zip cs := List.mem_of_getElem? (i := i) (List.getElem?_zip_eq_some.mpr ⟨hp, hc⟩)
      have h1 := List.all_eq_true.mp hn (p, c) hm
      simp only [okPC, hx, hb] at h1
      exact of_decide_eq_true h1 }
def resC (gs : List Stp) (pcs : List (Int × Int)) : Gm.D := if nnB gs pcs = true then sL (chg gs pcs) else .non
def dsLChg : DS := ds (α := List Stp × List Int × List Int) (fun a es S => es = [.d (sL a.1), .d (lz a.2.1), .d (.tup (a.2.2.map D.int))] ∧ S = [] ∧ a.1.length ≤ 1000 ∧ PlcOk a.1 a.2.1 ∧ a.2.1.length = a.2.2.length) (fun a e S' => e = .d (resC a.1 (a.2.1.zip a.2.2)) ∧ S' = [])
theorem ok_lchg {f : Addr} {fd : FuncData} (F : Fun K "_law_changed" "_law_changed" s_law_changed f fd) (T : Blt mg) (hzip : mg "zip" = none) : FnOk P w0 K mg base CX0 1 f fd ["some", "spots", "changes"] (spD K dsLChg) := by
  refine fn0 F sc_law_changed (fun es S p e h => by obtain ⟨a, ⟨h, _⟩, _⟩ := h; rw [h]; rfl) (fun cdv A outer s H E hr w es S p e hK hA h => ?_)
  subst hK
  obtain ⟨⟨gs, ps, cs⟩, ⟨rfl, rfl, hl, hpl, hlen⟩, hp⟩ := h
  dsimp only at hl hpl hlen hp
  have sl : 100000 ≤ sizeLine := by unfold sizeLine; omega
  refine ⟨_, (pss_cons (sset 3 (b_list T.list (pv 0)) sc_law_changed.nd)
    (pss_cons (ps_for PassesOwn.never rfl (pi_zipM w.K hzip (pa_cons (pv 1) (pa_cons (pv 2) pa_nil))) (pg_tup (n := 2) (by rfl) (pgs_cons (gn 4 sc_law_changed.nd) (pgs_cons (gn 5 sc_law_changed.nd) pgs_nil)))
      (pss_cons (sset 6 (pe_ix ix_list (pv 3) (pv 4) (fun _ _ => rfl)) sc_law_changed.nd)
      (pss_cons (ps_if (pt_cmpR op_lt (pe_op op_add (pe_ix ix_tup (pv 6) pe_int (fun _ _ => rfl)) (pv 5)) pe_int (nomark _))
        (pss_one (ps_ret pe_non))
        pss_nil)
      (pss_one (ps_asg (pe_op op_catT (pe_slice sl_tup (pv 6) po_none (po_some pe_int)) (pe_tup (pa_cons (pe_op op_add (pe_ix ix_tup (pv 6) pe_int (fun _ _ => rfl)) (pv 5)) pa_nil))) (pg_sub (pv 3) (pv 4) set_list))))))
    (pss_one (ps_ret (pv 3))))), ?_⟩
  try dsimp only [L2.cxOf, L2.Cx.nox]
  walk_at "gg"
  refine rc_listN (ds := gs.map Stp.d) rfl ?_
  walk_at "gg"
  refine ls_forZip ?_
  walk_at "gg"
  refine ⟨ps.map D.int, cs.map D.int, rfl, by rw [List.length_map, List.length_map]; exact hlen, fun i Γ S => ∃ (x4 x5 x6 : Option Ent), S = [.lst ((chg gs ((ps.zip cs).take i)).map Stp.d)] ∧ i ≤ ps.length ∧ nnB gs ((ps.zip cs).take i) = true ∧ Γ = [some (.d (sL gs)), some (.d (lz ps)), some (.d (.tup (cs.map D.int))), some (.own 0), x4, x5, x6], ⟨none, none, none, by rw [List.take_zero]; rfl, Nat.zero_le _, by rw [List.take_zero]; rfl, rfl⟩, ?_, ?_⟩
  · rintro i d1 d2 _ _ hd1 hd2 ⟨x4, x5, x6, rfl, hi, hnn, rfl⟩
    rw [List.getElem?_map, Option.map_eq_some_iff] at hd1 hd2
    obtain ⟨q, hq, rfl⟩ := hd1
    obtain ⟨c, hcq, rfl⟩ := hd2
    obtain ⟨p0, x, b, hx, hb⟩ := hpl.at_ q (List.mem_of_getElem? hq)
    have hx0 := (List.getElem?_eq_some_iff.mp hx).1
    have hi1 := (List.getElem?_eq_some_iff.mp hq).1
    have hz : (ps.zip cs)[i]? = some (q, c) := List.getElem?_zip_eq_some.mpr ⟨hq, hcq⟩
    have ho := chg_old hpl hlen hq i (Nat.le_refl _)
    rw [hx] at ho
    have hol := (List.getElem?_eq_some_iff.mp ho).1
    obtain ⟨sw, r, a, e1, e2⟩ := right_d hb
    have hpc : okPC gs (q, c) = decide (0 ≤ b + c) := by simp only [okPC, hx, hb]
    walk_at "gg"
    refine rr_ixO (ds := (chg gs ((ps.zip cs).take i)).map Stp.d) rfl (at_stp p0 ho) ?_
    rw [e1]
    walk_at "gg"
    refine ⟨fun hb1 => ?_, fun hb1 => ?_⟩
    · have g1 := of_decide_eq_true hb1
      refine forget (S := []) (Γ' := [none, none, none, none, none, none, none]) ?_ (by walk_at "envle") (by rw [hA]; exact Nat.le_refl _)
      walk_at "gg"
      have hf : nnB gs (ps.zip cs) = false := nnB_not (List.mem_of_getElem? hz) (by rw [hpc]; exact decide_eq_false (by omega))
      exact hp _ _ ⟨by unfold resC; rw [hf]; rfl, rfl⟩
    · have g1 := of_decide_eq_false hb1
      walk_at "gg"
      refine ⟨fun z => absurd z.2 (show ¬ (3 : Nat) = 4 by decide), ?_⟩
      walk_at "gg"
      refine rr_catT (by show ([.str sw, .int r, .int a] : List Gm.D) ≠ []; exact List.cons_ne_nil _ _) (by show 3 + 1 ≤ sizeLine; omega) ?_
      walk_at "gg"
      refine ⟨0, _, q, q.toNat, rfl, rfl, rfl, ?_, _, _, _, ?_, hi1, ?_, rfl⟩
      · unfold ixN; rw [List.length_map, if_pos p0, if_pos (by omega)]
      · rw [Gm.take_snoc' hz, chg_snoc]
        dsimp only
        rw [hx]
        dsimp only
        rw [List.map_set, e2]
        rfl
      · rw [Gm.take_snoc' hz, nnB_snoc, hnn, hpc]
        exact decide_eq_true (by omega)
  · rintro _ _ ⟨x4, x5, x6, rfl, hi, hnn, rfl⟩
    have eT : (ps.zip cs).take (ps.map Gm.D.int).length = ps.zip cs := by rw [List.length_map]; exact List.take_of_length_le (by rw [List.length_zip]; omega)
    rw [eT] at hnn ⊢
    refine frzL (S := []) (xs := (chg gs (ps.zip cs)).map Stp.d) (Γ' := [some (.d (sL gs)), some (.d (lz ps)), some (.d (.tup (cs.map Gm.D.int))), some (.d (sL (chg gs (ps.zip cs)))), none, none, none]) 3 rfl ?_ (by walk_at "envle") (by rw [hA]; exact Nat.le_refl _)
    walk_at "gg"
    exact hp _ _ ⟨by unfold resC; rw [if_pos hnn], rfl⟩
theorem lchg {w : Wd} {S : List Own} {E : XK} {k : KE} {gs : List Stp} {ps cs : List Int} (hl : gs.length ≤ 1000) (hpl : PlcOk gs ps) (hlen : ps.length = cs.length) (h : k (.d (resC gs (ps.zip cs))) S) : RS w dsLChg E [.d (sL gs), .d (lz ps), .d (.tup (cs.map Gm.D.int))] S k :=
  r0 (gs, ps, cs) ⟨rfl, rfl, hl, hpl, hlen⟩ fun e S' ⟨h1, h2⟩ => ⟨_, h2, h1, h⟩
end

local macro_rules | `(tactic| walk_at "go") => `(tactic| (first
  | ((with_reducible refine le_var (e := ?e) ?h ?_); (case h => rfl))
  | with_reducible refine le_int ?_
  | with_reducible refine le_op ?_
  | with_reducible refine rr_int0 ?_
  | with_reducible refine rr_bl0 ?_
  | with_reducible refine le_sortSet ?_
  | with_reducible refine le_cb ?_
  | with_reducible refine la_cons ?_
  | with_reducible refine la_nil ?_
  | with_reducible refine rc_int ?_
  | with_reducible refine ls_seq ?_
  | with_reducible refine ls_set ?_
  | with_reducible refine ls_ret ?_
  | with_reducible refine ls_next ?_
  | with_reducible refine ls_drop ?_
  | with_reducible refine ls_fld ?_
  | with_reducible refine le_methK ?_
  | with_reducible refine le_callK ?_
  | with_reducible refine ls_if ?_
  | with_reducible refine lt_test ?_
  | ((with_reducible refine rr_ixO (ds := ?ds) (d := ?d) ?h1 ?h2 ?_); (case h1 => rfl); (case h2 => rfl))
  | ((with_reducible refine rr_ixT (ds := ?ds) (d := ?d) ?h ?_); (case h => rfl))
  | with_reducible refine le_un ?_
  | with_reducible refine r1_int ?_
  | with_reducible refine ls_asg ?_
  | with_reducible refine lg_name ?_
  | with_reducible refine lg_tup2 ?_
  | with_reducible refine lg_tup3 ?_
  | with_reducible refine lg_tup4 ?_
  | with_reducible refine lg_tup5 ?_
  | with_reducible refine lg_sub ?_
  | with_reducible refine le_tup ?_
  | with_reducible refine le_lst ?_
  | with_reducible refine le_bl ?_
  | with_reducible refine le_str ?_
  | with_reducible refine le_non ?_
  | with_reducible refine le_cls ?_
  | with_reducible refine le_ty ?_
  | with_reducible refine la_perm ?_
  | with_reducible refine le_chain ?_
  | with_reducible refine le_call ?_
  | with_reducible refine le_bmL ?_
  | with_reducible refine le_bmL0 ?_
  | with_reducible refine le_if ?_
  | with_reducible refine lt_and ?_
  | with_reducible refine lt_or ?_
  | with_reducible refine lt_not ?_
  | with_reducible refine lt_tb ?_
  | with_reducible refine le_andV ?_
  | with_reducible refine le_orV ?_
  | with_reducible refine le_notV ?_
  | with_reducible refine le_fld ?_
  | with_reducible refine le_meth ?_
  | with_reducible refine le_prop ?_
  | with_reducible refine le_slL ?_
  | with_reducible refine le_slT ?_
  | with_reducible refine lo_none ?_
  | with_reducible refine lo_some ?_
  | with_reducible refine le_listRg2 ?_
  | with_reducible refine lt_yes ?_
  | with_reducible refine lcd_yes ?_
  | with_reducible refine ls_par ?_
  | with_reducible refine ls_par3 ?_
  | with_reducible refine ls_retN ?_
  | with_reducible refine ls_brk ?_
  | with_reducible refine ls_cont ?_
  | with_reducible refine rc_len (len_lz _) ?_
  | ((with_reducible refine rc_len (n := ?n) ?h ?_); (case h => rfl))
  | ((with_reducible refine rc_lenO (ds := ?ds) ?h ?_); (case h => rfl))
  | with_reducible refine rc_abs ?_
  | with_reducible refine rc_max2 ?_
  | with_reducible refine rc_min2 ?_
  | ((with_reducible refine rr_eq (u := ?u) (v := ?v) ?h1 ?h2 ?h3 ?_); (case h1 => rfl); (case h2 => rfl); (case h3 => rfl))
  | ((with_reducible refine rr_ne (u := ?u) (v := ?v) ?h1 ?h2 ?h3 ?_); (case h1 => rfl); (case h2 => rfl); (case h3 => rfl))
  | with_reducible refine rr_isN ?_
  | with_reducible refine rr_notN ?_
  | refine ⟨_, rfl, sz rfl, ?_⟩
  | refine ⟨_, rfl, ?_⟩
  ))

local macro_rules | `(tactic| walk_at "gg") => `(tactic| repeat walk_at "go")
local macro_rules | `(tactic| walk_at "envle") => `(tactic| repeat (first | exact EnvLe.nil | refine EnvLe.same rfl ?_ | refine EnvLe.none ?_))

section
variable {P : Program} {w0 : World} {K : PySem.W.Frag} {mg : Str → Option Value} {base : Heap}
theorem rr_eqZ3 {w : Wd} {S : List Own} {k : KE} {ps qs : List Int} (q : k (.d (.bl (decide (ps = qs)))) S) : RR w (rEqD w.K) (.d (lz ps)) (.d (lz qs)) S k := by
  refine rr_eqD (toP_lz ps) (toP_lz qs) (shaped_ints ps) (shaped_ints qs) ?_
  rw [eqv_lz]; exact q
def dsDrw : DS := ds (α := List Stp × Nat) (fun a es S => ∃ o, es = [.own 0, .d (sL a.1)] ∧ S = [o] ∧ Rng a.2 o ∧ a.2 < 2 ^ 49 ∧ a.1.length ≤ 1000 ∧ plN a.1 a.1.length ≠ []) (fun a e S' => ∃ (ps : List Int) (o' : Own), e = .d (lz ps) ∧ S' = [o'] ∧ PlcOk a.1 ps ∧ Rng (a.2 + 3) o')
theorem PlcOk.one {gs : List Stp} {p : Int} (h : p ∈ plN gs gs.length) : PlcOk gs [p] :=
  ⟨by show 0 < 1; omega, by show 1 ≤ 2; omega, List.pairwise_singleton _ _, fun q hq => by rw [List.mem_singleton.mp hq]; obtain ⟨h1, _, h3⟩ := plN_mem h; exact ⟨h1, h3⟩⟩
theorem ok_drw {f : Addr} {fd : FuncData} (F : Fun K "_law_drawn_places" "_law_drawn_places" s_law_drawn_places f fd) (T : Blt mg) (d_law_places : Df P w0 K mg base CX0 1 "_law_places" 1 dsPls) (d_law_draw : Df P w0 K mg base CX0 1 "_law_draw" 2 dsDraw) : FnOk P w0 K mg base CX0 2 f fd ["rng", "some"] (spD K dsDrw) := by
  refine fn0 F sc_law_drawn_places (fun es S p e h => by obtain ⟨a, ⟨o, h, _⟩, _⟩ := h; rw [h]; rfl) (fun cdv A outer s H E hr w es S p e hK hA h => ?_)
  subst hK
  obtain ⟨⟨gs, n⟩, ⟨o, rfl, rfl, ho, hn, hl, hne⟩, hp⟩ := h
  dsimp only at ho hn hl hne hp
  have hpos : 0 < (plN gs gs.length).length := List.length_pos_iff.mpr hne
  have hple := plN_len gs gs.length
  refine ⟨_, (pss_cons (sset 2 (pe_df d_law_places (hr.mono (by decide)) pass0 (pa_cons (pv 1) pa_nil)) sc_law_drawn_places.nd)
    (pss_cons (ps_if (pt_cmpR (op_eqD hr.units) (pv 2) (pe_lst pa_nil) (nomark _))
      (pss_one (ps_ret (pe_lst pa_nil)))
      pss_nil)
    (pss_cons (sset 3 (pe_ix ix_list (pv 2) (pe_df d_law_draw (hr.mono (by decide)) pass0 (pa_cons (pv 0) (pa_cons (b_len T.len (pv 2)) pa_nil))) (fun _ _ => rfl)) sc_law_drawn_places.nd)
    (pss_cons (sset 4 (pe_ix ix_list (pv 2) (pe_df d_law_draw (hr.mono (by decide)) pass0 (pa_cons (pv 0) (pa_cons (b_len T.len (pv 2)) pa_nil))) (fun _ _ => rfl)) sc_law_drawn_places.nd)
    (pss_one (ps_ret (pe_ifExp (pt_cmpR op_eq (pe_df d_law_draw (hr.mono (by decide)) pass0 (pa_cons (pv 0) (pa_cons pe_int pa_nil))) pe_int (nomark _)) (b_sortSet (hh := hr.hd) T.sorted T.set (pe_lst (pa_cons (pv 3) (pa_cons (pv 4) pa_nil)))) (pe_lst (pa_cons (pv 3) pa_nil))))))))), ?_⟩
  try dsimp only [L2.cxOf, L2.Cx.nox]
  walk_at "gg"
  refine pls hl ?_
  walk_at "gg"
  refine rr_eqZ3 (qs := []) ?_
  rw [decide_eq_false hne]
  walk_at "gg"
  refine ⟨fun z => Bool.noConfusion z, fun _ => ?_⟩
  walk_at "gg"
  refine draw n ho (by omega) (by omega) (by omega) fun d1 o1 a1 a2 h1 => ?_
  walk_at "gg"
  refine rr_ixL (ixI a1 a2) ?_
  walk_at "gg"
  refine draw _ h1 (by omega) (by omega) (by omega) fun d2 o2 b1 b2 h2 => ?_
  walk_at "gg"
  refine rr_ixL (ixI b1 b2) ?_
  walk_at "gg"
  refine draw _ h2 (by omega) (by decide) (by decide) fun d3 o3 c1 c2 h3 => ?_
  walk_at "gg"
  have m1 : (plN gs gs.length).getD d1.toNat 0 ∈ plN gs gs.length := by
    rw [List.getD_eq_getElem?_getD, List.getElem?_eq_getElem (show d1.toNat < (plN gs gs.length).length by omega)]; exact List.getElem_mem _
  have m2 : (plN gs gs.length).getD d2.toNat 0 ∈ plN gs gs.length := by
    rw [List.getD_eq_getElem?_getD, List.getElem?_eq_getElem (show d2.toNat < (plN gs gs.length).length by omega)]; exact List.getElem_mem _
  generalize (plN gs gs.length).getD d1.toNat 0 = p1 at m1 ⊢
  generalize (plN gs gs.length).getD d2.toNat 0 = p2 at m2 ⊢
  refine ⟨fun hb => ?_, fun hb => ?_⟩
  · walk_at "gg"
    refine ⟨[p1, p2], .inl rfl, by show 2 < 64; omega, fun out up mm => ?_⟩
    have hm : ∀ q ∈ out, q = p1 ∨ q = p2 := fun q hq => by
      have := (mm q).mp hq
      simpa using this
    refine hp _ _ ⟨out, o3, rfl, rfl, ⟨?_, ?_, up, fun q hq => ?_⟩, h3⟩
    · exact List.length_pos_iff.mpr fun z => by have := (mm p1).mpr (by simp); rw [z] at this; exact List.not_mem_nil this
    · have hnd : out.Nodup := up.imp fun {a b} q => by show a ≠ b; have q : a < b := q; omega
      exact List.Nodup.length_le_of_subset hnd (l₂ := [p1, p2]) fun q hq => by have := hm q hq; simpa using this
    · rcases hm q hq with rfl | rfl
      · obtain ⟨g1, _, g3⟩ := plN_mem m1; exact ⟨g1, g3⟩
      · obtain ⟨g1, _, g3⟩ := plN_mem m2; exact ⟨g1, g3⟩
  · walk_at "gg"
    exact hp _ _ ⟨[p1], o3, rfl, rfl, PlcOk.one m1, h3⟩
theorem drw {w : Wd} {E : XK} {o : Own} {rest : List Own} {k : KE} {gs : List Stp} (n : Nat) (ho : Rng n o) (hn : n < 2 ^ 49) (hl : gs.length ≤ 1000) (hne : plN gs gs.length ≠ [])
    (h : ∀ (ps : List Int) (o' : Own), PlcOk gs ps → Rng (n + 3) o' → k (.d (lz ps)) (o' :: rest)) : RS w dsDrw E [.own 0, .d (sL gs)] (o :: rest) k :=
  rp (gs, n) ⟨o, rfl, rfl, ho, hn, hl, hne⟩ (fun e S' ⟨ps, o', h1, h2, h3, h4⟩ => ⟨o', _, h2, h4.ng, h1, h ps o' h3 h4⟩) ho.ng
end

section
variable {P : Program} {w0 : World} {K : PySem.W.Frag} {mg : Str → Option Value} {base : Heap}
theorem shaped_ss (gs hs : List Stp) : SeqAt.shaped (.list [.list (gs.map Stp.p), .list (hs.map Stp.p)]) = true := by
  unfold SeqAt.shaped
  have h1 := depth_s gs
  have h2 := depth_s hs
  simp only [PyData.canLay0, PyData.canLayAll0, lay_s, PyData.depth, PyData.depthAll]
  simp
  omega
theorem eqv_ss (gs : List Stp) : PyData.eqv (.list [.list (gs.map Stp.p), .list (gs.map Stp.p)]) (.list [.list (gs.map Stp.p), .list (gs.map Stp.p)]) = true := by
  simp [PyData.eqv, PyData.eqvAll, eqv_s]
theorem toP_ss (gs hs : List Stp) : toP (.lst [sL gs, sL hs]) = some (.list [.list (gs.map Stp.p), .list (hs.map Stp.p)]) := by
  show (toPs [sL gs, sL hs]).map PyData.list = _
  simp only [toPs, toP_s]; rfl
theorem withR_small {x : Stp} {b c : Int} (h : x.small) (hb : x.right = some b) (hc : b + c ≤ 30) : (x.withR c).small := by
  match x, hb with
  | .crop r a b', e => cases e; exact ⟨h.1, hc⟩
  | .pad r a b', e => cases e; exact ⟨h.1, hc⟩
theorem withR_str (x : Stp) (c : Int) : (x.withR c).str = x.str := by
  match x with
  | .crop r a b => rfl
  | .pad r a b => rfl
  | .win r l s p => rfl
  | .rep r t => rfl
  | .join r o => rfl
theorem Sp_set : ∀ (gs : List Stp) (i : Nat) (x y : Stp), gs[i]? = some x → y.str = x.str → ∀ a, (gs.set i y).foldl (fun a x => a * x.str) a = gs.foldl (fun a x => a * x.str) a
  | [], _, _, _, h, _ => by cases h
  | g :: gs, 0, x, y, h, e => fun a => by cases h; show List.foldl _ (a * y.str) gs = List.foldl _ (a * g.str) gs; rw [e]
  | g :: gs, i + 1, x, y, h, e => fun a => Sp_set gs i x y h e _
/-- the changed pipeline keeps the document's bounds -/
theorem chg_gs {gs : List Stp} {ps cs : List Int} (g : ∀ x ∈ gs, x.small) (h : ChgOk gs ps cs) (hs : ∀ (i : Nat) (p c : Int) (x : Stp) (b : Int), ps[i]? = some p → cs[i]? = some c → gs[p.toNat]? = some x → x.right = some b → b + c ≤ 30) : ∀ i, i ≤ ps.length → (∀ x ∈ chg gs ((ps.zip cs).take i), x.small) ∧ Sp (chg gs ((ps.zip cs).take i)) = Sp gs
  | 0, _ => by rw [List.take_zero]; exact ⟨g, rfl⟩
  | i + 1, hi => by
    obtain ⟨h1, h2⟩ := chg_gs g h hs i (by omega)
    have hlen := h.len
    have hz : (ps.zip cs)[i]? = some (ps[i]'(by omega), cs[i]'(by omega)) := by
      rw [List.getElem?_eq_getElem (by rw [List.length_zip]; omega), List.getElem_zip]
    obtain ⟨p0, x, b, hx, hb⟩ := h.at_ ps[i] (List.getElem_mem _)
    have ho := chg_old h.toPlcOk hlen (j := i) (List.getElem?_eq_getElem (by omega)) i (Nat.le_refl _)
    rw [hx] at ho
    rw [Gm.take_snoc' hz, chg_snoc]
    dsimp only
    rw [hx]
    dsimp only
    refine ⟨fun y hy => ?_, ?_⟩
    · rcases List.mem_or_eq_of_mem_set hy with hy | rfl
      · exact h1 y hy
      · exact withR_small (g x (List.mem_of_getElem? hx)) hb (hs i ps[i] (cs[i]'(by omega)) x b (List.getElem?_eq_getElem _) (List.getElem?_eq_getElem _) hx hb)
    · rw [← h2]
      exact Sp_set _ _ x _ ho (withR_str x _) 1
end

local macro_rules | `(tactic| walk_at "go") => `(tactic| (first
  | ((with_reducible refine le_var (e := ?e) ?h ?_); (case h => rfl))
  | with_reducible refine le_int ?_
  | with_reducible refine le_op ?_
  | with_reducible refine rr_int0 ?_
  | with_reducible refine rr_bl0 ?_
  | with_reducible refine le_cb ?_
  | with_reducible refine la_cons ?_
  | with_reducible refine la_nil ?_
  | with_reducible refine rc_int ?_
  | with_reducible refine ls_seq ?_
  | with_reducible refine ls_set ?_
  | with_reducible refine ls_ret ?_
  | with_reducible refine ls_next ?_
  | with_reducible refine ls_drop ?_
  | with_reducible refine ls_fld ?_
  | with_reducible refine le_methK ?_
  | with_reducible refine le_callK ?_
  | with_reducible refine ls_if ?_
  | with_reducible refine lt_test ?_
  | ((with_reducible refine rr_ixO (ds := ?ds) (d := ?d) ?h1 ?h2 ?_); (case h1 => rfl); (case h2 => rfl))
  | ((with_reducible refine rr_ixT (ds := ?ds) (d := ?d) ?h ?_); (case h => rfl))
  | with_reducible refine le_un ?_
  | with_reducible refine r1_int ?_
  | with_reducible refine ls_asg ?_
  | with_reducible refine lg_name ?_
  | with_reducible refine lg_tup2 ?_
  | with_reducible refine lg_tup3 ?_
  | with_reducible refine lg_tup4 ?_
  | with_reducible refine lg_tup5 ?_
  | with_reducible refine lg_sub ?_
  | with_reducible refine le_tup ?_
  | with_reducible refine le_lst ?_
  | with_reducible refine le_bl ?_
  | with_reducible refine le_str ?_
  | with_reducible refine le_non ?_
  | with_reducible refine le_cls ?_
  | with_reducible refine le_ty ?_
  | with_reducible refine la_perm ?_
  | with_reducible refine le_chain ?_
  | with_reducible refine le_call ?_
  | with_reducible refine le_bmL ?_
  | with_reducible refine le_bmL0 ?_
  | with_reducible refine le_if ?_
  | with_reducible refine lt_and ?_
  | with_reducible refine lt_or ?_
  | with_reducible refine lt_not ?_
  | with_reducible refine lt_tb ?_
  | with_reducible refine le_andV ?_
  | with_reducible refine le_orV ?_
  | with_reducible refine le_notV ?_
  | with_reducible refine le_fld ?_
  | with_reducible refine le_meth ?_
  | with_reducible refine le_prop ?_
  | with_reducible refine le_slL ?_
  | with_reducible refine le_slT ?_
  | with_reducible refine lo_none ?_
  | with_reducible refine lo_some ?_
  | with_reducible refine le_listRg2 ?_
  | with_reducible refine lt_yes ?_
  | with_reducible refine lcd_yes ?_
  | with_reducible refine ls_par ?_
  | with_reducible refine ls_par3 ?_
  | with_reducible refine ls_retN ?_
  | with_reducible refine ls_brk ?_
  | with_reducible refine ls_cont ?_
  | with_reducible refine rc_len (len_lz _) ?_
  | ((with_reducible refine rc_len (n := ?n) ?h ?_); (case h => rfl))
  | ((with_reducible refine rc_lenO (ds := ?ds) ?h ?_); (case h => rfl))
  | with_reducible refine rc_abs ?_
  | with_reducible refine rc_max2 ?_
  | with_reducible refine rc_min2 ?_
  | ((with_reducible refine rr_eq (u := ?u) (v := ?v) ?h1 ?h2 ?h3 ?_); (case h1 => rfl); (case h2 => rfl); (case h3 => rfl))
  | ((with_reducible refine rr_ne (u := ?u) (v := ?v) ?h1 ?h2 ?h3 ?_); (case h1 => rfl); (case h2 => rfl); (case h3 => rfl))
  | with_reducible refine rr_isN ?_
  | with_reducible refine rr_notN ?_
  | refine ⟨_, rfl, sz rfl, ?_⟩
  | refine ⟨_, rfl, ?_⟩
  ))

local macro_rules | `(tactic| walk_at "gg") => `(tactic| repeat walk_at "go")
local macro_rules | `(tactic| walk_at "envle") => `(tactic| repeat (first | exact EnvLe.nil | refine EnvLe.same rfl ?_ | refine EnvLe.none ?_))

section
theorem app_last {ds es : List D} {x y : D} (h : ds ++ [x] = es ++ [y]) : ds = es ∧ x = y := by
  have := List.append_inj' h rfl
  exact ⟨this.1, by injection this.2⟩
theorem form_ds {p : Int → Prop} {ds : List D} {ys : List Int} (h : FormD p (.tup (ds ++ [lz ys]))) : ds = [.str "some"] ∨ ∃ (l : Int) (q : Nat), ds = [.str "classes", .int l, .int q] := by
  rcases h with ⟨xs, e, _⟩ | ⟨l, q, o, e, _⟩
  · injection e with e
    exact .inl (app_last (es := [.str "some"]) e).1
  · injection e with e
    exact .inr ⟨l, q, (app_last (es := [.str "classes", .int l, .int q]) e).1⟩
def PForm (P : List PyData) : Prop := P = [.str "some"] ∨ ∃ l q : Int, P = [.str "classes", .int l, .int q]
theorem form_p {ds : List D} (h : ds = [.str "some"] ∨ ∃ (l : Int) (q : Nat), ds = [.str "classes", .int l, .int q]) : ∃ P, toPs ds = some P ∧ PForm P := by
  rcases h with rfl | ⟨l, q, rfl⟩
  · exact ⟨_, rfl, .inl rfl⟩
  · exact ⟨_, rfl, .inr ⟨l, q, rfl⟩⟩
theorem form_sh {P : List PyData} (h : PForm P) (ys : List Int) : SeqAt.shaped (.tuple (P ++ [.list (ys.map PyData.int)])) = true := by
  rcases h with rfl | ⟨l, q, rfl⟩
  · unfold SeqAt.shaped
    simp [PyData.canLay0, PyData.canLayAll0, lay_ints, PyData.depth, PyData.depthAll, depth_ints]
    decide +kernel
  · unfold SeqAt.shaped
    simp [PyData.canLay0, PyData.canLayAll0, lay_ints, PyData.depth, PyData.depthAll, depth_ints]
    decide +kernel
theorem form_eqv {P : List PyData} (h : PForm P) (ys : List Int) : PyData.eqv (.tuple (P ++ [.list (ys.map PyData.int)])) (.tuple (P ++ [.list (ys.map PyData.int)])) = true := by
  rcases h with rfl | ⟨l, q, rfl⟩
  · simp [PyData.eqv, PyData.eqvAll, eqv_ints]
  · simp [PyData.eqv, PyData.eqvAll, eqv_ints]
theorem toPs_app : ∀ {ds : List D} {P : List PyData} {d : D} {x : PyData}, toPs ds = some P → toP d = some x → toPs (ds ++ [d]) = some (P ++ [x])
  | [], P, d, x, h, h2 => by
    cases h
    simp only [List.nil_append, toPs, h2]; rfl
  | e :: ds, P, d, x, h, h2 => by
    simp only [toPs, Option.bind_eq_some_iff, Option.map_eq_some_iff] at h
    obtain ⟨y, h3, ys, h4, rfl⟩ := h
    show (toP e).bind (fun y => (toPs (ds ++ [d])).map (y :: ·)) = _
    rw [h3, toPs_app h4 h2]; rfl
theorem entP_own {S : List Own} {i : Nat} {ys : List Int} (hS : S[i]? = some (.lst (ys.map D.int))) : entP S (.own i) = some (.list (ys.map PyData.int)) := by
  have e : entP S (.own i) = (match S[i]? with | some (.lst xs) => (toPs xs).map PyData.list | _ => none) := rfl
  rw [e, hS]
  show (toPs (ys.map D.int)).map PyData.list = _
  rw [toPs_ints]; rfl
theorem entPs_app {S : List Own} {i : Nat} {ys : List Int} (hS : S[i]? = some (.lst (ys.map D.int))) : ∀ {ds : List D} {P : List PyData}, toPs ds = some P → entPs S (ds.map Ent.d ++ [.own i]) = some (P ++ [.list (ys.map PyData.int)])
  | [], P, h => by
    cases h
    show (entP S (.own i)).bind (fun y => (some []).map (y :: ·)) = _
    rw [entP_own hS]; rfl
  | e :: ds, P, h => by
    simp only [toPs, Option.bind_eq_some_iff, Option.map_eq_some_iff] at h
    obtain ⟨y, h3, zs, h4, rfl⟩ := h
    show (entP S (.d e)).bind (fun y => (entPs S (ds.map Ent.d ++ [.own i])).map (y :: ·)) = _
    rw [entPs_app hS h4]
    show (toP e).bind _ = _
    rw [h3]; rfl
theorem toP_form {ds : List D} {P : List PyData} {ys : List Int} (h : toPs ds = some P) : toP (.tup (ds ++ [lz ys])) = some (.tuple (P ++ [.list (ys.map PyData.int)])) := by
  simp only [toP]
  rw [toPs_app h (toP_lz ys)]; rfl
theorem entQ_form {S : List Own} {i : Nat} {ds : List D} {P : List PyData} {ys : List Int} (hS : S[i]? = some (.lst (ys.map D.int))) (h : toPs ds = some P) : entQ S (.tup (ds.map Ent.d ++ [.own i])) = some (.tuple (P ++ [.list (ys.map PyData.int)])) := by
  show (entPs S _).map PyData.tuple = _
  rw [entPs_app hS h]; rfl
theorem last_ix {ds : List D} {i : Nat} : ixN (ds.map Ent.d ++ [Ent.own i]).length (-1) = some ds.length := by
  unfold ixN
  rw [List.length_append, List.length_map]
  simp only [List.length_cons, List.length_nil]
  rw [if_neg (by decide), if_pos (by omega)]
  congr 1
  omega
theorem last_at {ds : List D} {i : Nat} : (ds.map Ent.d ++ [Ent.own i])[ds.length]? = some (.own i) := by
  rw [List.getElem?_append_right (by rw [List.length_map]; exact Nat.le_refl _), List.length_map, Nat.sub_self]; rfl
end

section
theorem shown60 {i : Int} (h : i.natAbs < 10 ^ 60) : (PyData.shown (.int i)).length ≤ 61 := by
  have e := int_text_length_le10 (k := 60) (by decide) h
  show (Str.ofString (toString i)).length ≤ 61
  rw [ofString_length]; exact e
theorem bulk_i : ∀ ps : List Int, PyData.bulkAll (ps.map PyData.int) = ps.length
  | [] => rfl
  | p :: ps => by
    show PyData.bulkAll (PyData.int p :: ps.map PyData.int) = _
    simp only [PyData.bulkAll, bulk_i ps, PyData.bulk, List.length_cons]
    omega
theorem short_i : ∀ ps : List Int, (∀ p ∈ ps, p.natAbs < 10 ^ 60) → PyData.leavesShortAll 61 (ps.map PyData.int) = true
  | [], _ => rfl
  | p :: ps, h => by
    show PyData.leavesShortAll 61 (PyData.int p :: ps.map PyData.int) = _
    have h1 := h p List.mem_cons_self
    simp only [PyData.leavesShortAll, short_i ps fun q hq => h q (List.mem_cons_of_mem _ hq), PyData.leavesShort, decide_eq_true (shown60 h1), Bool.and_true]
theorem log_lt {n : Nat} (h : n < 10 ^ 60) : n.log2 < 1920 := by
  by_cases h0 : n = 0
  · subst h0; decide
  · have : n.log2 < 200 := (Nat.log2_lt h0).mpr (Nat.lt_of_lt_of_le h (by decide +kernel))
    omega
theorem show_i : ∀ ps : List Int, (∀ p ∈ ps, p.natAbs < 10 ^ 60) → PyData.showableAll (ps.map PyData.int) = true
  | [], _ => rfl
  | p :: ps, h => by
    show PyData.showableAll (PyData.int p :: ps.map PyData.int) = _
    have h1 := h p List.mem_cons_self
    simp only [PyData.showableAll, show_i ps fun q hq => h q (List.mem_cons_of_mem _ hq), PyData.showable, decide_eq_true (log_lt h1), Bool.and_true]
theorem hasd_i : ∀ ps : List Int, PyData.hasDictAll (ps.map PyData.int) = false
  | [] => rfl
  | p :: ps => by
    show PyData.hasDictAll (PyData.int p :: ps.map PyData.int) = _
    simp only [PyData.hasDictAll, hasd_i ps, PyData.hasDict, Bool.or_false]
def shI (ps : List Int) : Str := PyData.shown (.list (ps.map PyData.int))
theorem rc_reprI {w : Wd} {x : Ent} {S : List Own} {k : KE} {ps : List Int} (hx : entP S x = some (.list (ps.map PyData.int))) (hl : ps.length ≤ 300) (hb : ∀ p ∈ ps, p.natAbs < 10 ^ 60) (q : k (.d (.str (shI ps))) S) : RC w (gRepr w.K) [x] S k := by
  refine rc_repr (d := .list (ps.map PyData.int)) hx (by simp only [PyData.showable, show_i ps hb]) (by simp only [PyData.hasDict, hasd_i]) (by have := depth_ints ps; simp only [PyData.depth]; omega) ?_ (.inl ⟨_, rfl⟩) q
  have := PyData.shown_le_bulk 61 (by decide) (.list (ps.map PyData.int)) (by simp only [PyData.leavesShort, short_i ps hb])
  simp only [PyData.bulk, bulk_i] at this
  unfold sizeLine; omega
theorem entP_i {S : List Own} (ps : List Int) : entP S (.d (lz ps)) = some (.list (ps.map PyData.int)) := toP_lz ps
theorem entP_io {S : List Own} {i : Nat} {ps : List Int} (h : S[i]? = some (.lst (ps.map Gm.D.int))) : entP S (.own i) = some (.list (ps.map PyData.int)) := by
  unfold entP
  simp only [h, toPs_ints]; rfl
end

local macro_rules | `(tactic| walk_at "go") => `(tactic| (first
  | ((with_reducible refine le_var (e := ?e) ?h ?_); (case h => rfl))
  | with_reducible refine le_int ?_
  | with_reducible refine le_op ?_
  | with_reducible refine rr_int0 ?_
  | with_reducible refine rr_bl0 ?_
  | with_reducible refine le_cb ?_
  | with_reducible refine la_cons ?_
  | with_reducible refine la_nil ?_
  | with_reducible refine rc_int ?_
  | with_reducible refine ls_seq ?_
  | with_reducible refine ls_set ?_
  | with_reducible refine ls_ret ?_
  | with_reducible refine ls_next ?_
  | with_reducible refine ls_drop ?_
  | with_reducible refine ls_fld ?_
  | with_reducible refine le_methK ?_
  | with_reducible refine le_callK ?_
  | with_reducible refine ls_if ?_
  | with_reducible refine lt_test ?_
  | ((with_reducible refine rr_ixO (ds := ?ds) (d := ?d) ?h1 ?h2 ?_); (case h1 => rfl); (case h2 => rfl))
  | ((with_reducible refine rr_ixT (ds := ?ds) (d := ?d) ?h ?_); (case h => rfl))
  | with_reducible refine le_un ?_
  | with_reducible refine r1_int ?_
  | with_reducible refine ls_asg ?_
  | with_reducible refine lg_name ?_
  | with_reducible refine lg_tup2 ?_
  | with_reducible refine lg_tup3 ?_
  | with_reducible refine lg_tup4 ?_
  | with_reducible refine lg_tup5 ?_
  | with_reducible refine lg_sub ?_
  | with_reducible refine le_tup ?_
  | with_reducible refine le_lst ?_
  | with_reducible refine le_bl ?_
  | with_reducible refine le_str ?_
  | with_reducible refine le_non ?_
  | with_reducible refine le_cls ?_
  | with_reducible refine le_ty ?_
  | with_reducible refine la_perm ?_
  | with_reducible refine le_chain ?_
  | with_reducible refine le_call ?_
  | with_reducible refine le_bmLat (r := rPopAt) ?_
  | with_reducible refine le_bmL ?_
  | with_reducible refine le_bmL0 ?_
  | with_reducible refine le_if ?_
  | with_reducible refine lt_and ?_
  | with_reducible refine lt_or ?_
  | with_reducible refine lt_not ?_
  | with_reducible refine lt_tb ?_
  | with_reducible refine le_andV ?_
  | with_reducible refine le_orV ?_
  | with_reducible refine le_notV ?_
  | with_reducible refine le_fld ?_
  | with_reducible refine le_meth ?_
  | with_reducible refine le_prop ?_
  | with_reducible refine le_slL ?_
  | with_reducible refine le_slT ?_
  | with_reducible refine lo_none ?_
  | with_reducible refine lo_some ?_
  | with_reducible refine le_listRg2 ?_
  | with_reducible refine lt_yes ?_
  | with_reducible refine lcd_yes ?_
  | with_reducible refine ls_par ?_
  | with_reducible refine ls_par3 ?_
  | with_reducible refine le_dget ?_
  | with_reducible refine rr_ipI ?_
  | with_reducible refine ls_dput ?_
  | with_reducible refine ls_daug ?_
  | with_reducible refine lp_nil ?_
  | with_reducible refine lp_cons ?_
  | with_reducible refine ls_retN ?_
  | with_reducible refine ls_brk ?_
  | with_reducible refine ls_cont ?_
  | with_reducible refine rc_len (len_lz _) ?_
  | ((with_reducible refine rc_len (n := ?n) ?h ?_); (case h => rfl))
  | ((with_reducible refine rc_lenO (ds := ?ds) ?h ?_); (case h => rfl))
  | with_reducible refine rc_abs ?_
  | with_reducible refine rc_max2 ?_
  | with_reducible refine rc_min2 ?_
  | ((with_reducible refine rr_eq (u := ?u) (v := ?v) ?h1 ?h2 ?h3 ?_); (case h1 => rfl); (case h2 => rfl); (case h3 => rfl))
  | ((with_reducible refine rr_ne (u := ?u) (v := ?v) ?h1 ?h2 ?h3 ?_); (case h1 => rfl); (case h2 => rfl); (case h3 => rfl))
  | with_reducible refine rr_isN ?_
  | with_reducible refine rr_notN ?_
  | refine ⟨_, _, _, _, _, rfl, rfl, rfl, rfl, rfl, lt_ble rfl, ?_⟩
  | refine ⟨_, _, _, rfl, rfl, rfl, lt_ble rfl, ?_⟩
  | refine ⟨_, _, _, _, rfl, rfl, rfl, rfl, ?_⟩
  | refine ⟨_, rfl, sz rfl, ?_⟩
  | refine ⟨_, rfl, ?_⟩
  ))

local macro_rules | `(tactic| walk_at "gg") => `(tactic| repeat walk_at "go")
local macro_rules | `(tactic| walk_at "envle") => `(tactic| repeat (first | exact EnvLe.nil | refine EnvLe.same rfl ?_ | refine EnvLe.none ?_))

theorem List.snocRec {α : Type} {p : List α → Prop} (h0 : p []) (hs : ∀ (l : List α) (x : α), p l → p (l ++ [x])) (l : List α) : p l := by
  have : ∀ r : List α, p r.reverse := fun r => by
    induction r with
    | nil => exact h0
    | cons x r ih => rw [List.reverse_cons]; exact hs _ _ ih
  have h := this l.reverse
  rwa [List.reverse_reverse] at h
section
variable {P : Program} {w0 : World} {K : PySem.W.Frag} {mg : Str → Option Value} {base : Heap}
def absum (t : List Int) : Int := (t.map fun c => if c < 0 then -c else c).sum
def lowR (b : Int) : Int := if -b > -3 then -b else -3
def rngL (lo : Int) : List Int := (List.range (4 - lo).toNat).map fun (i : Nat) => lo + (i : Int)
def extC (F : List (List Int)) (lo : Int) : List (List Int) := F.flatMap fun t => (rngL lo).map fun c => t ++ [c]
def rightZ (gs : List Stp) (p : Int) : Int := match gs[p.toNat]? with | some x => x.right.getD 0 | none => 0
def allC (gs : List Stp) (ps : List Int) : List (List Int) := ps.foldl (fun F p => extC F (lowR (rightZ gs p))) [[]]
abbrev tupD (t : List Int) : Gm.D := .tup (t.map D.int)
theorem allC_snoc (gs : List Stp) (ps : List Int) (p : Int) : allC gs (ps ++ [p]) = extC (allC gs ps) (lowR (rightZ gs p)) := by unfold allC; rw [List.foldl_append]; rfl
theorem low_ge (b : Int) : -3 ≤ lowR b := by unfold lowR; split <;> omega
theorem rngL_len {lo : Int} (h : -3 ≤ lo) : (rngL lo).length ≤ 7 := by unfold rngL; rw [List.length_map, List.length_range]; omega
theorem extC_len {F : List (List Int)} {lo : Int} (h : -3 ≤ lo) : (extC F lo).length ≤ 7 * F.length := by
  unfold extC
  induction F with
  | nil => exact Nat.le_refl _
  | cons t F ih =>
    rw [List.flatMap_cons, List.length_append, List.length_map, List.length_cons]
    have := rngL_len h
    omega
theorem allC_len (gs : List Stp) {ps : List Int} (h : ps.length ≤ 2) : (allC gs ps).length ≤ 49 := by
  match ps, h with
  | [], _ => show 1 ≤ 49; omega
  | [p], _ => have := extC_len (F := [[]]) (low_ge (rightZ gs p)); show (extC [[]] _).length ≤ 49; have e : ([[]] : List (List Int)).length = 1 := rfl; omega
  | [p, q], _ =>
    have h1 := extC_len (F := [[]]) (low_ge (rightZ gs p))
    have h2 := extC_len (F := extC [[]] (lowR (rightZ gs p))) (low_ge (rightZ gs q))
    have e : ([[]] : List (List Int)).length = 1 := rfl
    show (extC (extC [[]] _) _).length ≤ 49
    omega
theorem allC_mem {gs : List Stp} : ∀ {ps : List Int} {t : List Int}, t ∈ allC gs ps → t.length = ps.length := by
  intro ps
  refine List.snocRec (p := fun ps => ∀ {t : List Int}, t ∈ allC gs ps → t.length = ps.length) ?_ ?_ ps
  · intro t h; rw [List.mem_singleton.mp h]
  · intro ps p ih t h
    rw [allC_snoc] at h
    obtain ⟨u, hu, ht⟩ := List.mem_flatMap.mp h
    obtain ⟨c, _, rfl⟩ := List.mem_map.mp ht
    rw [List.length_append, List.length_append, ih hu]; rfl
/-- the possible changes, in their order -/
structure Ord (F qs : List (List Int)) : Prop where
  perm : qs.Perm F
  asc : qs.Pairwise fun a b => SrtQ.ltQ (absum b, b) (absum a, a) = false
theorem right_nn {x : Stp} {n b : Int} (h : x.ok n = true) (hb : x.right = some b) : 0 ≤ b := by
  match x, hb with
  | .crop r a b', e => cases e; simp [Stp.ok, Stp.nums] at h; omega
  | .pad r a b', e => cases e; simp [Stp.ok, Stp.nums] at h; omega
theorem low_le {b : Int} (h : 0 ≤ b) : lowR b ≤ 0 := by unfold lowR; split <;> omega
def dsPoss : DS := ds (α := List Stp × List Int) (fun a es S => es = [.d (sL a.1), .d (lz a.2)] ∧ S = [] ∧ PlcOk a.1 a.2 ∧ PipeOk a.1) (fun a e S' => ∃ qs : List (List Int), e = .d (.lst (qs.map tupD)) ∧ S' = [] ∧ Ord (allC a.1 a.2) qs)
theorem ok_poss {f : Addr} {fd : FuncData} {tF : Tok} (F : Fun K "possible_changes" "possible_changes" spossible_changes f fd) (T : Blt mg) (hsum : mg "sum" = none) (hfar : mg "FARTHEST" = some (.int 3 tF)) : FnOk P w0 K mg base CX0 1 f fd ["steps", "places"] (spD K dsPoss) := by
  refine fn0 F scpossible_changes (fun es S p e h => by obtain ⟨a, ⟨h, _⟩, _⟩ := h; rw [h]; rfl) (fun cdv A outer s H E hr w es S p e hK hA h => ?_)
  subst hK
  obtain ⟨⟨gs, ps⟩, ⟨rfl, rfl, hpl, ok⟩, hp⟩ := h
  dsimp only at hpl ok hp
  refine ⟨_, (pss_cons (sset 2 (pe_lst (pa_cons (pe_tup pa_nil) pa_nil)) scpossible_changes.nd)
    (pss_cons (ps_for PassesOwn.never rfl (pi_list (pv 1)) (gn 3 scpossible_changes.nd)
      (pss_cons (sset 4 (b_max2 T.max (pe_un un_neg (g_int hfar)) (pe_un un_neg (pe_ix ix_tup (pe_ix ix_list (pv 0) (pv 3) (fun _ _ => rfl)) pe_int (fun _ _ => rfl)))) scpossible_changes.nd)
      (pss_one (ps_setLc2 (i := 2) (own := [("told", 5), ("change", 6)]) (vs1 := [6]) (g := (gName 5)) (g1 := (gName 6)) rfl scpossible_changes.nd rfl rfl (sw_true rfl rfl rfl (by decide +kernel)) (pi_list (pv 2)) (blkOk_by (own := [("told", 5), ("change", 6)]) (N := Npossible_changes) (sc := defScope spossible_changes) (by decide +kernel)) (by decide) (fun _ _ _ _ _ => (gn 5 scpossible_changes.nd)) (fun _ _ _ _ _ => pts_nil) (fun _ _ _ _ _ => (pi_range2 (by rfl) T.range (pa_cons (pv 4) (pa_cons (pe_op op_add (g_int hfar) pe_int) pa_nil)))) (fun _ _ _ _ _ => (gn 6 scpossible_changes.nd)) (fun _ _ _ _ _ => pts_nil) (fun _ _ _ _ _ => (pe_op (op_catTEB w.K) (pv 5) (pe_tup (pa_cons (pv 6) pa_nil))))))))
    (pss_cons (sset 7 (b_sortQ hr.units T.sorted (pe_lc (own := [("told", 5)]) (g := gName 5) rfl scpossible_changes.nd (pi_list (pv 2)) (blkOk_by (own := [("told", 5)]) (N := Npossible_changes) (sc := defScope spossible_changes) (by decide +kernel)) (fun _ _ _ _ _ => gn 5 scpossible_changes.nd) (fun _ _ _ _ _ => pts_nil) (fun _ _ _ _ _ => (pe_tup (pa_cons (b_sumB w.K hsum (pe_lc (own := [("change", 6)]) (g := gName 6) rfl scpossible_changes.nd (pi_tupB w.K (pv 5)) (blkOk_any (own := [("change", 6)]) (N := Npossible_changes) (by decide +kernel) (by decide +kernel)) (fun _ _ _ _ _ => gn 6 scpossible_changes.nd) (fun _ _ _ _ _ => pts_nil) (fun _ _ _ _ _ => (b_abs T.abs (pv 6))))) (pa_cons (pv 5) pa_nil)))))) scpossible_changes.nd)
    (pss_one (ps_ret (pe_lc (own := [("_", 8), ("told", 5)]) (g := (gTup w.K 2 (gCons (gName 8) (gCons (gName 5) gNil)))) rfl scpossible_changes.nd (pi_list (pv 7)) (blkOk_by (own := [("_", 8), ("told", 5)]) (N := Npossible_changes) (sc := defScope spossible_changes) (by decide +kernel)) (fun _ _ _ _ _ => (pg_tup (n := 2) (by rfl) (pgs_cons (gn 8 scpossible_changes.nd) (pgs_cons (gn 5 scpossible_changes.nd) pgs_nil)))) (fun _ _ _ _ _ => pts_nil) (fun _ _ _ _ _ => (pv 5)))))))), ?_⟩
  try dsimp only [L2.cxOf, L2.Cx.nox]
  walk_at "gg"
  refine ls_forL ?_
  walk_at "gg"
  refine ⟨fun i Γ S => ∃ (x3 x4 x5 x6 x7 x8 : Option Ent), S = [] ∧ i ≤ ps.length ∧ Γ = [some (.d (sL gs)), some (.d (lz ps)), some (.d (.lst ((allC gs (ps.take i)).map tupD))), x3, x4, x5, x6, x7, x8], ⟨none, none, none, none, none, none, rfl, Nat.zero_le _, by rw [List.take_zero]; rfl⟩, ?_, ?_⟩
  · rintro i d _ _ hd ⟨x3, x4, x5, x6, x7, x8, rfl, hi, rfl⟩
    rw [List.getElem?_map, Option.map_eq_some_iff] at hd
    obtain ⟨q, hq, rfl⟩ := hd
    have hi1 := (List.getElem?_eq_some_iff.mp hq).1
    obtain ⟨p0, x, b, hx, hxb⟩ := hpl.at_ q (List.mem_of_getElem? hq)
    obtain ⟨sw, r, a, e1, e2⟩ := right_d hxb
    walk_at "gg"
    refine rr_ixL (at_stp p0 hx) ?_
    rw [e1]
    walk_at "gg"
    refine le_lc2R ?_
    walk_at "gg"
    have hlc : (allC gs (ps.take i)).length ≤ 49 := allC_len gs (by rw [List.length_take]; have := hpl.two; omega)
    have hF : ((allC gs (ps.take (i + 1))).map tupD) = (extC (allC gs (ps.take i)) (lowR b)).map tupD := by
      rw [Gm.take_snoc' hq, allC_snoc]
      have : rightZ gs q = b := by unfold rightZ; rw [hx]; dsimp only; rw [hxb]; rfl
      rw [this]
    have hlo : (if -b > -3 then -b else -3) = lowR b := rfl
    rw [hlo]
    have hlg := low_ge b
    have hll := low_le (right_nn (ok _ x hx) hxb)
    generalize lowR b = lo at hF hlg hll ⊢
    have htold : ∀ t ∈ allC gs (ps.take i), t.length + 1 ≤ sizeLine := fun t ht => by
      have := allC_mem ht; unfold sizeLine; rw [this, List.length_take]; have := hpl.two; omega
    generalize allC gs (ps.take i) = FF at hF hlc htold ⊢
    refine ⟨fun t acc => acc = (extC (FF.take t) lo).map tupD, rfl, ?_, ?_⟩
    · rintro t d acc hd rfl
      rw [List.getElem?_map, Option.map_eq_some_iff] at hd
      obtain ⟨told, htd, rfl⟩ := hd
      have ht1 := (List.getElem?_eq_some_iff.mp htd).1
      refine ⟨_, tg_name (by simp), ?_⟩
      refine lr_2 ?_
      walk_at "gg"
      refine ⟨_, _, rfl, by omega, rfl, fun j acc' => acc' = (extC (FF.take t) lo ++ ((rngL lo).take j).map fun c => told ++ [c]).map tupD, by dsimp only; rw [List.take_zero, List.map_nil, List.append_nil], ?_, ?_⟩
      · rintro j _ hj rfl
        refine ⟨_, tg_name (by simp), ?_⟩
        have hr : (rngL lo)[j]? = some (lo + (j : Int)) := by
          unfold rngL; rw [List.getElem?_map, List.getElem?_range (by omega)]; rfl
        walk_at "gg"
        have hlt : (extC (FF.take t) lo).length ≤ 7 * 49 := Nat.le_trans (extC_len hlg) (by rw [List.length_take]; omega)
        have hlj : (rngL lo).length ≤ 7 := rngL_len hlg
        have htl : told.length + 1 ≤ sizeLine := htold told (List.mem_of_getElem? htd)
        refine rr_catTE (xs := told.map Gm.D.int) (ys := [.int (lo + j)]) (by rw [List.length_map]; exact htl) ?_
        refine ⟨rfl, tupD (told ++ [lo + j]), by show _ = Ent.d (.tup _); rw [List.map_append]; rfl, ?_, ?_⟩
        · rw [List.length_map, List.length_append, List.length_map, List.length_take]; unfold sizeLine; omega
        · dsimp only
          rw [Gm.take_snoc' hr]
          simp
      · rintro _ rfl
        have e : (3 + 1 - lo).toNat = (rngL lo).length := by unfold rngL; rw [List.length_map, List.length_range]; omega
        rw [e, List.take_length, Gm.take_snoc' htd]
        unfold extC
        rw [List.flatMap_append]
        simp
    · rintro _ rfl
      rw [List.length_map, List.take_length]
      walk_at "gg"
      exact ⟨_, _, _, _, _, _, rfl, hi1, by rw [hF]; rfl⟩
  · rintro _ _ ⟨x3, x4, x5, x6, x7, x8, rfl, hi, rfl⟩
    walk_at "gg"
    rw [List.length_map, List.take_length]
    have hlc : (allC gs ps).length ≤ 49 := allC_len gs hpl.two
    have htold : ∀ t ∈ allC gs ps, t.length ≤ 2 := fun t ht => by have := allC_mem ht; rw [this]; exact hpl.two
    generalize allC gs ps = FF at hlc hp htold ⊢
    refine le_lcLM (α := List Int) tupD (fun t => pDT (absum t, t)) ?_
    walk_at "gg"
    refine ⟨by unfold sizeLine; omega, fun t acc ht => ?_, ?_⟩
    · refine lcd_yes ?_
      walk_at "gg"
      refine le_lcTup ?_
      walk_at "gg"
      have h2 := htold t ht
      refine ⟨fun j acc' S2 => S2 = [Own.lst acc] ∧ acc' = (((t.take j).map fun c => if c < 0 then -c else c)).map Gm.D.int, ⟨rfl, rfl⟩, ?_, ?_⟩
      · rintro j d acc' _ hd _ ⟨rfl, rfl⟩
        rw [List.getElem?_map, Option.map_eq_some_iff] at hd
        obtain ⟨c, hc, rfl⟩ := hd
        unfold LcT
        refine lt_yes ⟨fun _ => ?_, fun z => Bool.noConfusion z⟩
        walk_at "gg"
        refine ⟨_, [Own.lst acc], rfl, rfl, rfl, ?_, rfl, ?_⟩
        · rw [List.length_map, List.length_map, List.length_take]; unfold sizeLine; omega
        · rw [Gm.take_snoc' hc]; simp
      · rintro acc' _ ⟨rfl, rfl⟩
        rw [List.length_map, List.take_length]
        walk_at "gg"
        refine rc_sumI (.inl rfl) ?_
        walk_at "gg"
        exact ⟨rfl, rfl⟩
    have em : FF.map (fun t => pDT (absum t, t)) = (FF.map fun t => (absum t, t)).map pDT := by rw [List.map_map]; rfl
    rw [em]
    walk_at "gg"
    refine rc_sortQ (.inl rfl) fun qs hperm hasc => ?_
    have hq : ∀ q ∈ qs, q.1 = absum q.2 := fun q hq => by
      obtain ⟨t, _, rfl⟩ := List.mem_map.mp (hperm.mem_iff.mp hq); rfl
    have hql : qs.length ≤ 49 := by rw [hperm.length_eq, List.length_map]; exact hlc
    walk_at "gg"
    refine le_lcG ?_
    walk_at "gg"
    refine ⟨fun j acc S2 => S2 = [] ∧ acc = ((qs.take j).map (·.2)).map tupD, ⟨rfl, rfl⟩, ?_, ?_⟩
    · rintro j d acc _ hd _ ⟨rfl, rfl⟩
      rw [List.getElem?_map, Option.map_eq_some_iff] at hd
      obtain ⟨c, hc, rfl⟩ := hd
      refine ⟨_, tg_pair (by simp) (by simp), ?_⟩
      unfold LcG
      refine lt_yes ⟨fun _ => ?_, fun z => Bool.noConfusion z⟩
      walk_at "gg"
      refine ⟨_, [], rfl, rfl, rfl, ?_, rfl, ?_⟩
      · rw [List.length_map, List.length_map, List.length_take]; unfold sizeLine; omega
      · rw [Gm.take_snoc' hc]; simp
    · rintro acc _ ⟨rfl, rfl⟩
      rw [List.length_map, List.take_length]
      walk_at "gg"
      refine hp _ _ ⟨qs.map (·.2), rfl, rfl, ?_, ?_⟩
      · have := hperm.map (·.2)
        rw [List.map_map] at this
        have e : FF.map ((fun x : Int × List Int => x.2) ∘ fun t => (absum t, t)) = FF := by
          conv => rhs; rw [← List.map_id FF]
          rfl
        rw [e] at this
        exact this
      · rw [List.pairwise_map]
        refine List.Pairwise.imp_of_mem (fun {a b} ha hb h => ?_) hasc
        have ea := hq a ha
        have eb := hq b hb
        show SrtQ.ltQ (absum b.2, b.2) (absum a.2, a.2) = false
        rw [← ea, ← eb]; exact h
theorem poss {w : Wd} {S : List Own} {E : XK} {k : KE} {gs : List Stp} {ps : List Int} (hpl : PlcOk gs ps) (ok : PipeOk gs) (h : ∀ qs, Ord (allC gs ps) qs → k (.d (.lst (qs.map tupD))) S) : RS w dsPoss E [.d (sL gs), .d (lz ps)] S k :=
  r0 (gs, ps) ⟨rfl, rfl, hpl, ok⟩ fun e S' ⟨qs, h1, h2, h3⟩ => ⟨_, h2, h1, h qs h3⟩
end

section
variable {P : Program} {w0 : World} {K : PySem.W.Frag} {mg : Str → Option Value} {base : Heap}
theorem rngL_mem {lo c : Int} : c ∈ rngL lo ↔ lo ≤ c ∧ c ≤ 3 := by
  unfold rngL
  rw [List.mem_map]
  constructor
  · rintro ⟨i, hi, rfl⟩; have := List.mem_range.mp hi; omega
  · rintro ⟨h1, h2⟩; exact ⟨(c - lo).toNat, List.mem_range.mpr (by omega), by omega⟩
theorem allC_iff {gs : List Stp} (ps : List Int) : ∀ t, t ∈ allC gs ps ↔ t.length = ps.length ∧ ∀ (i : Nat) (p c : Int), ps[i]? = some p → t[i]? = some c → lowR (rightZ gs p) ≤ c ∧ c ≤ 3 := by
  refine List.snocRec (p := fun ps => ∀ t, t ∈ allC gs ps ↔ t.length = ps.length ∧ ∀ (i : Nat) (p c : Int), ps[i]? = some p → t[i]? = some c → lowR (rightZ gs p) ≤ c ∧ c ≤ 3) ?_ ?_ ps
  · intro t
    constructor
    · intro h; rw [List.mem_singleton.mp h]; exact ⟨rfl, fun i p c h => by simp at h⟩
    · rintro ⟨h, _⟩; rw [List.length_eq_zero_iff.mp h]; exact List.mem_singleton.mpr rfl
  · intro ps p ih t
    rw [allC_snoc]
    constructor
    · intro h
      obtain ⟨u, hu, ht⟩ := List.mem_flatMap.mp h
      obtain ⟨c, hc, rfl⟩ := List.mem_map.mp ht
      obtain ⟨h1, h2⟩ := (ih u).mp hu
      refine ⟨by rw [List.length_append, List.length_append, h1]; rfl, fun i p' c' hp hc' => ?_⟩
      by_cases hi : i < ps.length
      · rw [List.getElem?_append_left hi] at hp
        rw [List.getElem?_append_left (by omega)] at hc'
        exact h2 i p' c' hp hc'
      · have hi2 := (List.getElem?_eq_some_iff.mp hp).1
        rw [List.length_append] at hi2
        have : ([p] : List Int).length = 1 := rfl
        have e : i = ps.length := by omega
        subst e
        rw [List.getElem?_append_right (Nat.le_refl _), Nat.sub_self] at hp
        rw [List.getElem?_append_right (by omega), h1, Nat.sub_self] at hc'
        cases hp; cases hc'
        exact rngL_mem.mp hc
    · rintro ⟨h1, h2⟩
      rw [List.length_append] at h1
      have e1 : ([p] : List Int).length = 1 := rfl
      obtain ⟨u, c, rfl⟩ : ∃ u c, t = u ++ [c] := by
        have : t ≠ [] := fun z => by rw [z] at h1; simp at h1
        exact ⟨t.dropLast, t.getLast this, (List.dropLast_concat_getLast this).symm⟩
      rw [List.length_append] at h1
      have e2 : ([c] : List Int).length = 1 := rfl
      have hul : u.length = ps.length := by omega
      refine List.mem_flatMap.mpr ⟨u, (ih u).mpr ⟨hul, fun i p' c' hp hc => h2 i p' c' ?_ ?_⟩, List.mem_map.mpr ⟨c, rngL_mem.mpr (h2 ps.length p c ?_ ?_), rfl⟩⟩
      · rw [List.getElem?_append_left (List.getElem?_eq_some_iff.mp hp).1]; exact hp
      · rw [List.getElem?_append_left (List.getElem?_eq_some_iff.mp hc).1]; exact hc
      · rw [List.getElem?_append_right (Nat.le_refl _), Nat.sub_self]; rfl
      · rw [List.getElem?_append_right (by omega), hul, Nat.sub_self]; rfl
/-- right numbers leave room for changes -/
def Rt27 (gs : List Stp) : Prop := ∀ x ∈ gs, ∀ b, x.right = some b → b ≤ 27
theorem rightZ_eq {gs : List Stp} {p b : Int} {x : Stp} (hx : gs[p.toNat]? = some x) (hb : x.right = some b) : rightZ gs p = b := by unfold rightZ; rw [hx]; dsimp only; rw [hb]; rfl
theorem allC_chg {gs : List Stp} {ps t : List Int} (hpl : PlcOk gs ps) (ht : t ∈ allC gs ps) : ChgOk gs ps t := by
  obtain ⟨h1, h2⟩ := (allC_iff ps t).mp ht
  refine ⟨hpl, h1.symm, fun i p c x b hp hc hx hb => ?_⟩
  have h3 := (h2 i p c hp hc).1
  rw [rightZ_eq hx hb] at h3
  unfold lowR at h3
  split at h3 <;> omega
theorem allC_30 {gs : List Stp} {ps t : List Int} (r27 : Rt27 gs) (ht : t ∈ allC gs ps) : ∀ (i : Nat) (p c : Int) (x : Stp) (b : Int), ps[i]? = some p → t[i]? = some c → gs[p.toNat]? = some x → x.right = some b → b + c ≤ 30 := fun i p c x b hp hc hx hb => by
  have h3 := (((allC_iff ps t).mp ht).2 i p c hp hc).2
  have := r27 x (List.mem_of_getElem? hx) b hb
  omega
/-- all sizes from the least one on fit -/
def GoodF (gs : List Stp) : Prop := ∃ (l : Int) (o : List Int), FormD (FitP gs) (.tup [.str "classes", .int l, .int 1, lz o])
abbrev chT (gs : List Stp) (ps t : List Int) : List Stp := chg gs (ps.zip t)
def IsDue (gs : List Stp) (ps : List Int) (d : Gm.D) : Prop :=
  (∃ t ∈ allC gs ps, GoodF (chT gs ps t) ∧ d = tupD t ∧ ∀ t' ∈ allC gs ps, GoodF (chT gs ps t') → SrtQ.ltQ (absum t', t') (absum t, t) = false) ∨ (d = .non ∧ ∀ t ∈ allC gs ps, ¬ GoodF (chT gs ps t))
theorem lexLt_tot : ∀ a b : List Int, HT.lexLt a b = false → HT.lexLt b a = false → a = b
  | [], [], _, _ => rfl
  | [], _ :: _, h, _ => by cases h
  | _ :: _, [], _, h => by cases h
  | x :: a, y :: b, h1, h2 => by
    rw [HT.lexLt_cons] at h1 h2
    by_cases e : x = y
    · subst e; rw [if_pos rfl] at h1 h2; rw [lexLt_tot a b h1 h2]
    · rw [if_neg e] at h1; rw [if_neg (Ne.symm e)] at h2
      have := of_decide_eq_false h1; have := of_decide_eq_false h2; omega
theorem ltQ_tot {a b : List Int} (h1 : SrtQ.ltQ (absum a, a) (absum b, b) = false) (h2 : SrtQ.ltQ (absum b, b) (absum a, a) = false) : a = b := by
  unfold SrtQ.ltQ at h1 h2
  dsimp only at h1 h2
  by_cases e : absum a = absum b
  · rw [if_pos e] at h1; rw [if_pos e.symm] at h2; exact lexLt_tot a b h1 h2
  · rw [if_neg e] at h1; rw [if_neg (Ne.symm e)] at h2
    have := of_decide_eq_false h1; have := of_decide_eq_false h2; omega
theorem IsDue.uniq {gs : List Stp} {ps : List Int} {d d' : Gm.D} (h : IsDue gs ps d) (h' : IsDue gs ps d') : d = d' := by
  rcases h with ⟨t, m1, g1, rfl, a1⟩ | ⟨rfl, a1⟩
  · rcases h' with ⟨t', m2, g2, rfl, a2⟩ | ⟨rfl, a2⟩
    · rw [ltQ_tot (a2 t m1 g1) (a1 t' m2 g2)]
    · exact absurd g1 (a2 t m1)
  · rcases h' with ⟨t', m2, g2, rfl, a2⟩ | ⟨rfl, a2⟩
    · exact absurd g2 (a1 t' m2)
    · rfl
/-- the first good one of an ordered list is due -/
theorem IsDue.found {gs : List Stp} {ps : List Int} {qs : List (List Int)} (o : Ord (allC gs ps) qs) {i : Nat} {t : List Int} (ht : qs[i]? = some t) (hno : ∀ j t', j < i → qs[j]? = some t' → ¬ GoodF (chT gs ps t')) (hg : GoodF (chT gs ps t)) : IsDue gs ps (tupD t) := by
  refine .inl ⟨t, o.perm.mem_iff.mp (List.mem_of_getElem? ht), hg, rfl, fun t' m' g' => ?_⟩
  obtain ⟨j, hj⟩ := List.mem_iff_getElem?.mp (o.perm.mem_iff.mpr m')
  have hil := (List.getElem?_eq_some_iff.mp ht).1
  have hjl := (List.getElem?_eq_some_iff.mp hj).1
  rcases Nat.lt_trichotomy j i with h | h | h
  · exact absurd g' (hno j t' h hj)
  · subst h
    rw [ht] at hj; cases hj
    exact (SrtQ.swo_ltQ (α := List Int) fun t => (absum t, t)).refl t
  · have := List.pairwise_iff_getElem.mp o.asc i j hil hjl h
    rw [(List.getElem?_eq_some_iff.mp ht).2, (List.getElem?_eq_some_iff.mp hj).2] at this
    exact this
theorem IsDue.none {gs : List Stp} {ps : List Int} {qs : List (List Int)} (o : Ord (allC gs ps) qs) (hno : ∀ (j : Nat) t', qs[j]? = some t' → ¬ GoodF (chT gs ps t')) : IsDue gs ps .non :=
  .inr ⟨rfl, fun t m => by
    obtain ⟨j, hj⟩ := List.mem_iff_getElem?.mp (o.perm.mem_iff.mpr m)
    exact hno j t hj⟩
theorem goodF_iff {gs : List Stp} {l q : Int} {o : List Int} (h : FormD (FitP gs) (.tup [.str "classes", .int l, .int q, lz o])) : GoodF gs ↔ q = 1 := by
  constructor
  · rintro ⟨l', o', h'⟩
    have e := FormD.uniq h h'
    injection e with e
    injection e with _ e
    injection e with _ e
    injection e with e _
    injection e
  · rintro rfl; exact ⟨l, o, h⟩
theorem goodF_some {gs : List Stp} {xs : List Int} (h : FormD (FitP gs) (.tup [.str "some", lz xs])) : ¬ GoodF gs := by
  rintro ⟨l', o', h'⟩
  have e := FormD.uniq h h'
  injection e with e
  injection e with e _
  injection e with e
  exact absurd e (by decide)
def dsLFix (C U : Addr) : DS := ds (α := List Stp × List Int) (fun a es S => es = [.d (pD U a.1), .d (lz a.2)] ∧ S = [] ∧ PipeOk a.1 ∧ (∀ x ∈ a.1, x.small) ∧ a.1.length ≤ 8 ∧ Sp a.1 ≤ 60 ∧ Rt27 a.1 ∧ PlcOk a.1 a.2) (fun a e S' => ∃ d, e = .d d ∧ S' = [] ∧ IsDue a.1 a.2 d)
theorem ok_lfix {f C U : Addr} {fd : FuncData} (F : Fun K "least_fix" "least_fix" sleast_fix f fd) (T : Blt mg) (dsteps : Pr P w0 K mg base CX0 1 U "steps" (dsSteps U)) (dcheck_places : Df P w0 K mg base CX0 3 "check_places" 2 (dsPlc U)) (dchanged : Df P w0 K mg base CX0 6 "changed" 3 (dsChg U)) (dpossible_changes : Df P w0 K mg base CX0 1 "possible_changes" 2 dsPoss)
    (dfitting_sizes : Df P w0 K mg base CX0 8 "fitting_sizes" 1 (dsFit C U)) : FnOk P w0 K mg base CX0 9 f fd ["pipeline", "places"] (spD K (dsLFix C U)) := by
  refine fn0 F scleast_fix (fun es S p e h => by obtain ⟨a, ⟨h, _⟩, _⟩ := h; rw [h]; rfl) (fun cdv A outer s H E hr w es S p e hK hA h => ?_)
  subst hK
  obtain ⟨⟨gs, ps⟩, ⟨rfl, rfl, ok, sm, hl8, hsp, r27, hpl⟩, hp⟩ := h
  dsimp only at ok sm hl8 hsp r27 hpl hp
  refine ⟨_, (pss_cons (ps_expr (pe_df dcheck_places (hr.mono (by decide)) pass0 (pa_cons (pv 0) (pa_cons (pv 1) pa_nil))))
    (pss_cons (sset 2 (pe_pr dsteps (hr.mono (by decide)) pass0 (pv 0)) scleast_fix.nd)
    (pss_cons (ps_for PassesOwn.never rfl (pi_list (pe_df dpossible_changes (hr.mono (by decide)) pass0 (pa_cons (pv 2) (pa_cons (pv 1) pa_nil)))) (gn 3 scleast_fix.nd)
      (pss_cons (sset 4 (pe_df dfitting_sizes (hr.mono (by decide)) pass0 (pa_cons (pe_df dchanged (hr.mono (by decide)) pass0 (pa_cons (pv 2) (pa_cons (pv 1) (pa_cons (pv 3) pa_nil)))) pa_nil)) scleast_fix.nd)
      (pss_one (ps_if (PW.pt (pw_and (pt_cmpR op_eq (pe_ix ix_tup (pv 4) pe_int (fun _ _ => rfl)) pe_str (nomark _)) (pw_and1 (pt_cmpR op_eq (pe_ix ix_tup (pv 4) pe_int (fun _ _ => rfl)) pe_int (nomark _)))))
        (pss_one (ps_ret (pv 3)))
        pss_nil))))
    (pss_one (ps_ret pe_non))))), ?_⟩
  try dsimp only [L2.cxOf, L2.Cx.nox]
  walk_at "gg"
  refine plc hpl ?_
  walk_at "gg"
  refine ⟨_, .inl rfl, stepsP ?_⟩
  walk_at "gg"
  refine ls_forL ?_
  walk_at "gg"
  refine poss hpl ok fun qs ord => ?_
  refine ⟨_, rfl, fun i Γ S => ∃ (x3 x4 : Option Ent), S = [] ∧ (∀ j t', j < i → qs[j]? = some t' → ¬ GoodF (chT gs ps t')) ∧ Γ = [some (.d (pD U gs)), some (.d (lz ps)), some (.d (sL gs)), x3, x4], ⟨none, none, rfl, fun j t' h => absurd h (Nat.not_lt_zero _), rfl⟩, ?_, ?_⟩
  · rintro i d _ _ hd ⟨x3, x4, rfl, hno, rfl⟩
    rw [List.getElem?_map, Option.map_eq_some_iff] at hd
    obtain ⟨t, ht, rfl⟩ := hd
    have hm := ord.perm.mem_iff.mp (List.mem_of_getElem? ht)
    have hcc := allC_chg hpl hm
    obtain ⟨ok3, ln3⟩ := chg_ok ok hcc ps.length (Nat.le_refl _)
    obtain ⟨sm3, sp3⟩ := chg_gs sm hcc (allC_30 r27 hm) ps.length (Nat.le_refl _)
    have hcl := hcc.len
    have eT : (ps.zip t).take ps.length = ps.zip t := List.take_of_length_le (by rw [List.length_zip]; omega)
    rw [eT] at ok3 ln3 sm3 sp3
    walk_at "gg"
    refine chg_ ok (by omega) hcc ?_
    walk_at "gg"
    refine fit_ ok3 sm3 (by omega) (by omega) fun fd hfd => ?_
    have next : ∀ hng : ¬ GoodF (chT gs ps t), ∀ j t', j < i + 1 → qs[j]? = some t' → ¬ GoodF (chT gs ps t') := fun hng j t' hj h => by
      by_cases hji : j < i
      · exact hno j t' hji h
      · have e : j = i := by omega
        subst e; rw [ht] at h; cases h; exact hng
    rcases id hfd with ⟨xs, rfl, _⟩ | ⟨l, q, o, rfl, _⟩
    · walk_at "gg"
      refine ⟨fun z => absurd (of_decide_eq_true z) (by decide), fun _ => ⟨fun z => Bool.noConfusion z, fun _ => ?_⟩⟩
      walk_at "gg"
      exact ⟨_, _, rfl, next (goodF_some hfd), rfl⟩
    · walk_at "gg"
      refine ⟨fun _ => ?_, fun z => absurd (of_decide_eq_false z) (fun h => h rfl)⟩
      walk_at "gg"
      refine ⟨fun hb => ?_, fun hb => ?_⟩
      · walk_at "gg"
        exact hp _ _ ⟨_, rfl, rfl, IsDue.found ord ht hno ((goodF_iff hfd).mpr (eqI' hb))⟩
      · walk_at "gg"
        exact ⟨_, _, rfl, next fun hg => absurd ((goodF_iff hfd).mp hg) (neI' hb), rfl⟩
  · rintro _ _ ⟨x3, x4, rfl, hno, rfl⟩
    rw [List.length_map] at hno
    walk_at "gg"
    exact hp _ _ ⟨_, rfl, rfl, IsDue.none ord fun j t' h => hno j t' (List.getElem?_eq_some_iff.mp h).1 h⟩
end

section
variable {P : Program} {w0 : World} {K : PySem.W.Frag} {mg : Str → Option Value} {base : Heap}
def allW (ps : List Int) : List (List Int) := ps.foldl (fun F _ => extC F (-3)) [[]]
theorem allW_snoc (ps : List Int) (p : Int) : allW (ps ++ [p]) = extC (allW ps) (-3) := by unfold allW; rw [List.foldl_append]; rfl
theorem allW_iff (ps : List Int) : ∀ t, t ∈ allW ps ↔ t.length = ps.length ∧ ∀ (i : Nat) (c : Int), t[i]? = some c → -3 ≤ c ∧ c ≤ 3 := by
  refine List.snocRec (p := fun ps => ∀ t, t ∈ allW ps ↔ t.length = ps.length ∧ ∀ (i : Nat) (c : Int), t[i]? = some c → -3 ≤ c ∧ c ≤ 3) ?_ ?_ ps
  · intro t
    constructor
    · intro h; rw [List.mem_singleton.mp h]; exact ⟨rfl, fun i c h => by simp at h⟩
    · rintro ⟨h, _⟩; rw [List.length_eq_zero_iff.mp h]; exact List.mem_singleton.mpr rfl
  · intro ps p ih t
    rw [allW_snoc]
    constructor
    · intro h
      obtain ⟨u, hu, ht⟩ := List.mem_flatMap.mp h
      obtain ⟨c, hc, rfl⟩ := List.mem_map.mp ht
      obtain ⟨h1, h2⟩ := (ih u).mp hu
      refine ⟨by rw [List.length_append, List.length_append, h1]; rfl, fun i c' hc' => ?_⟩
      by_cases hi : i < u.length
      · rw [List.getElem?_append_left hi] at hc'
        exact h2 i c' hc'
      · have hi2 := (List.getElem?_eq_some_iff.mp hc').1
        rw [List.length_append] at hi2
        have : ([c] : List Int).length = 1 := rfl
        have e : i = u.length := by omega
        subst e
        rw [List.getElem?_append_right (Nat.le_refl _), Nat.sub_self] at hc'
        cases hc'
        exact rngL_mem.mp hc
    · rintro ⟨h1, h2⟩
      rw [List.length_append] at h1
      have e1 : ([p] : List Int).length = 1 := rfl
      obtain ⟨u, c, rfl⟩ : ∃ u c, t = u ++ [c] := by
        have : t ≠ [] := fun z => by rw [z] at h1; simp at h1
        exact ⟨t.dropLast, t.getLast this, (List.dropLast_concat_getLast this).symm⟩
      rw [List.length_append] at h1
      have e2 : ([c] : List Int).length = 1 := rfl
      have hul : u.length = ps.length := by omega
      refine List.mem_flatMap.mpr ⟨u, (ih u).mpr ⟨hul, fun i c' hc => h2 i c' ?_⟩, List.mem_map.mpr ⟨c, rngL_mem.mpr (h2 u.length c ?_), rfl⟩⟩
      · rw [List.getElem?_append_left (List.getElem?_eq_some_iff.mp hc).1]; exact hc
      · rw [List.getElem?_append_right (Nat.le_refl _), Nat.sub_self]; rfl
theorem allW_len {ps : List Int} (h : ps.length ≤ 2) : (allW ps).length ≤ 49 := by
  match ps, h with
  | [], _ => show 1 ≤ 49; omega
  | [p], _ => have := extC_len (F := [[]]) (show (-3 : Int) ≤ -3 by omega); show (extC [[]] _).length ≤ 49; have e : ([[]] : List (List Int)).length = 1 := rfl; omega
  | [p, q], _ =>
    have h1 := extC_len (F := [[]]) (show (-3 : Int) ≤ -3 by omega)
    have h2 := extC_len (F := extC [[]] (-3)) (show (-3 : Int) ≤ -3 by omega)
    have e : ([[]] : List (List Int)).length = 1 := rfl
    show (extC (extC [[]] _) _).length ≤ 49
    omega
theorem allC_W {gs : List Stp} {ps t : List Int} (h : t ∈ allC gs ps) : t ∈ allW ps := by
  obtain ⟨h1, h2⟩ := (allC_iff ps t).mp h
  refine (allW_iff ps t).mpr ⟨h1, fun i c hc => ?_⟩
  have hi := (List.getElem?_eq_some_iff.mp hc).1
  obtain ⟨g1, g2⟩ := h2 i ps[i] c (List.getElem?_eq_getElem (by omega)) hc
  have := low_ge (rightZ gs ps[i])
  exact ⟨by omega, g2⟩
theorem nn_of_chg {gs : List Stp} {ps t : List Int} (h : ChgOk gs ps t) : nnB gs (ps.zip t) = true := by
  refine List.all_eq_true.mpr fun pc hm => ?_
  obtain ⟨i, hi⟩ := List.mem_iff_getElem?.mp hm
  obtain ⟨p, c⟩ := pc
  obtain ⟨h1, h2⟩ := List.getElem?_zip_eq_some.mp hi
  obtain ⟨p0, x, b, hx, hb⟩ := h.at_ p (List.mem_of_getElem? h1)
  have := h.nn i p c x b h1 h2 hx hb
  simp only [okPC, hx, hb]
  exact decide_eq_true this
theorem allC_nn {gs : List Stp} {ps t : List Int} (hpl : PlcOk gs ps) : t ∈ allC gs ps ↔ t ∈ allW ps ∧ nnB gs (ps.zip t) = true := by
  constructor
  · intro h; exact ⟨allC_W h, nn_of_chg (allC_chg hpl h)⟩
  · rintro ⟨h1, h2⟩
    obtain ⟨g1, g2⟩ := (allW_iff ps t).mp h1
    have hc := nn_chgOk hpl g1.symm h2
    refine (allC_iff ps t).mpr ⟨g1, fun i p c hp hct => ?_⟩
    obtain ⟨p0, x, b, hx, hb⟩ := hpl.at_ p (List.mem_of_getElem? hp)
    have h3 := hc.nn i p c x b hp hct hx hb
    rw [rightZ_eq hx hb]
    have := g2 i c hct
    unfold lowR
    split <;> omega
theorem IsDue.foundW {gs : List Stp} {ps : List Int} {qs : List (List Int)} (o : Ord (allW ps) qs) {i : Nat} {t : List Int} (ht : qs[i]? = some t) (hno : ∀ j t', j < i → qs[j]? = some t' → ¬ (t' ∈ allC gs ps ∧ GoodF (chT gs ps t'))) (hm : t ∈ allC gs ps) (hg : GoodF (chT gs ps t)) : IsDue gs ps (tupD t) := by
  refine .inl ⟨t, hm, hg, rfl, fun t' m' g' => ?_⟩
  obtain ⟨j, hj⟩ := List.mem_iff_getElem?.mp (o.perm.mem_iff.mpr (allC_W m'))
  have hil := (List.getElem?_eq_some_iff.mp ht).1
  have hjl := (List.getElem?_eq_some_iff.mp hj).1
  rcases Nat.lt_trichotomy j i with h | h | h
  · exact absurd ⟨m', g'⟩ (hno j t' h hj)
  · subst h
    rw [ht] at hj; cases hj
    exact (SrtQ.swo_ltQ (α := List Int) fun t => (absum t, t)).refl t
  · have := List.pairwise_iff_getElem.mp o.asc i j hil hjl h
    rw [(List.getElem?_eq_some_iff.mp ht).2, (List.getElem?_eq_some_iff.mp hj).2] at this
    exact this
theorem IsDue.noneW {gs : List Stp} {ps : List Int} {qs : List (List Int)} (o : Ord (allW ps) qs) (hno : ∀ (j : Nat) t', qs[j]? = some t' → ¬ (t' ∈ allC gs ps ∧ GoodF (chT gs ps t'))) : IsDue gs ps .non :=
  .inr ⟨rfl, fun t m g => by
    obtain ⟨j, hj⟩ := List.mem_iff_getElem?.mp (o.perm.mem_iff.mpr (allC_W m))
    exact hno j t hj ⟨m, g⟩⟩
def dsDue (U : Addr) : DS := ds (α := List Stp × List Int) (fun a es S => es = [.d (sL a.1), .d (pD U a.1), .d (lz a.2)] ∧ S = [] ∧ PipeOk a.1 ∧ (∀ x ∈ a.1, x.small) ∧ a.1.length ≤ 8 ∧ Sp a.1 ≤ 60 ∧ Rt27 a.1 ∧ PlcOk a.1 a.2) (fun a e S' => ∃ d, e = .d d ∧ S' = [] ∧ IsDue a.1 a.2 d)
theorem ok_due {f C U : Addr} {fd : FuncData} (F : Fun K "_law_due" "_law_due" s_law_due f fd) (T : Blt mg) (hsum : mg "sum" = none) (d_law_changed : Df P w0 K mg base CX0 1 "_law_changed" 3 dsLChg)
    (dfitting_sizes : Df P w0 K mg base CX0 8 "fitting_sizes" 1 (dsFit C U)) (dwith_changes : Df P w0 K mg base CX0 7 "with_changes" 3 (dsWith U)) : FnOk P w0 K mg base CX0 9 f fd ["some", "made", "spots"] (spD K (dsDue U)) := by
  refine fn0 F sc_law_due (fun es S p e h => by obtain ⟨a, ⟨h, _⟩, _⟩ := h; rw [h]; rfl) (fun cdv A outer s H E hr w es S p e hK hA h => ?_)
  subst hK
  obtain ⟨⟨gs, ps⟩, ⟨rfl, rfl, ok, sm, hl8, hsp, r27, hpl⟩, hp⟩ := h
  dsimp only at ok sm hl8 hsp r27 hpl hp
  refine ⟨_, (pss_cons (sset 3 (pe_lst (pa_cons (pe_tup pa_nil) pa_nil)) sc_law_due.nd)
    (pss_cons (ps_for PassesOwn.never rfl (pi_list (pv 2)) (gn 4 sc_law_due.nd)
      (pss_cons (sset 5 (pe_lst pa_nil) sc_law_due.nd)
      (pss_cons (ps_for PassesOwn.never rfl (pi_list (pv 3)) (gn 6 sc_law_due.nd)
        (pss_one (ps_expr (pe_bm PySem.F.plainAttrs_list PySem.F.slot_list_extend PySem.F.type_list_extend mt_extend (pv 5) (pa_cons (pe_lc (own := [("change", 7)]) (g := gName 7) rfl sc_law_due.nd (pi_range2 (by rfl) T.range (pa_cons (pe_un un_neg pe_int) (pa_cons pe_int pa_nil))) (blkOk_by (own := [("change", 7)]) (N := N_law_due) (sc := defScope s_law_due) (by decide +kernel)) (fun _ _ _ _ _ => gn 7 sc_law_due.nd) (fun _ _ _ _ _ => pts_nil) (fun _ _ _ _ _ => (pe_op (op_catTEB w.K) (pv 6) (pe_tup (pa_cons (pv 7) pa_nil))))) pa_nil)))))
      (pss_one (sset 3 (pv 5) sc_law_due.nd)))))
    (pss_cons (sset 8 (b_sortQ hr.units T.sorted (pe_lc (own := [("way", 6)]) (g := gName 6) rfl sc_law_due.nd (pi_list (pv 3)) (blkOk_by (own := [("way", 6)]) (N := N_law_due) (sc := defScope s_law_due) (by decide +kernel)) (fun _ _ _ _ _ => gn 6 sc_law_due.nd) (fun _ _ _ _ _ => pts_nil) (fun _ _ _ _ _ => (pe_tup (pa_cons (b_sumB w.K hsum (pe_lc (own := [("change", 7)]) (g := gName 7) rfl sc_law_due.nd (pi_tupB w.K (pv 6)) (blkOk_any (own := [("change", 7)]) (N := N_law_due) (by decide +kernel) (by decide +kernel)) (fun _ _ _ _ _ => gn 7 sc_law_due.nd) (fun _ _ _ _ _ => pts_nil) (fun _ _ _ _ _ => (b_abs T.abs (pv 7))))) (pa_cons (pv 6) pa_nil)))))) sc_law_due.nd)
    (pss_cons (ps_for PassesOwn.never rfl (pi_list (pv 8)) (pg_tup (n := 2) (by rfl) (pgs_cons (gn 9 sc_law_due.nd) (pgs_cons (gn 6 sc_law_due.nd) pgs_nil)))
      (pss_one (ps_if (pt_cmpR op_notN (pe_df d_law_changed (hr.mono (by decide)) pass0 (pa_cons (pv 0) (pa_cons (pv 2) (pa_cons (pv 6) pa_nil)))) pe_non (nomark _))
        (pss_cons (sset 10 (pe_df dfitting_sizes (hr.mono (by decide)) pass0 (pa_cons (pe_df dwith_changes (hr.mono (by decide)) pass0 (pa_cons (pv 1) (pa_cons (pv 2) (pa_cons (pv 6) pa_nil)))) pa_nil)) sc_law_due.nd)
        (pss_one (ps_if (PW.pt (pw_and (pt_cmpR op_eq (pe_ix ix_tup (pv 10) pe_int (fun _ _ => rfl)) pe_str (nomark _)) (pw_and1 (pt_cmpR op_eq (pe_ix ix_tup (pv 10) pe_int (fun _ _ => rfl)) pe_int (nomark _)))))
          (pss_one (ps_ret (pv 6)))
          pss_nil)))
        pss_nil)))
    (pss_one (ps_ret pe_non)))))), ?_⟩
  try dsimp only [L2.cxOf, L2.Cx.nox]
  walk_at "gg"
  refine ls_forL ?_
  walk_at "gg"
  refine ⟨fun i Γ S => ∃ (x4 x5 x6 x7 x8 x9 x10 : Option Ent), S = [] ∧ i ≤ ps.length ∧ Γ = [some (.d (sL gs)), some (.d (pD U gs)), some (.d (lz ps)), some (.d (.lst ((allW (ps.take i)).map tupD))), x4, x5, x6, x7, x8, x9, x10], ⟨none, none, none, none, none, none, none, rfl, Nat.zero_le _, by rw [List.take_zero]; rfl⟩, ?_, ?_⟩
  · rintro i d _ _ hd ⟨x4, x5, x6, x7, x8, x9, x10, rfl, hi, rfl⟩
    rw [List.getElem?_map, Option.map_eq_some_iff] at hd
    obtain ⟨q, hq, rfl⟩ := hd
    have hi1 := (List.getElem?_eq_some_iff.mp hq).1
    have hlc : (allW (ps.take i)).length ≤ 49 := allW_len (by rw [List.length_take]; have := hpl.two; omega)
    have hF : ((allW (ps.take (i + 1))).map tupD) = (extC (allW (ps.take i)) (-3)).map tupD := by rw [Gm.take_snoc' hq, allW_snoc]
    have htold : ∀ t ∈ allW (ps.take i), t.length + 1 ≤ sizeLine := fun t ht => by
      have := ((allW_iff _ t).mp ht).1; unfold sizeLine; rw [this, List.length_take]; have := hpl.two; omega
    generalize allW (ps.take i) = FF at hF hlc htold ⊢
    refine lg_name (ls_seq (ls_asg (le_lstO ?_)))
    walk_at "gg"
    refine ls_forL ?_
    walk_at "gg"
    refine ⟨fun j Γ S => ∃ (y6 y7 : Option Ent), S = [.lst ((extC (FF.take j) (-3)).map tupD)] ∧ Γ = [some (.d (sL gs)), some (.d (pD U gs)), some (.d (lz ps)), some (.d (.lst (FF.map tupD))), some (.d (.int q)), some (.own 0), y6, y7, x8, x9, x10], ⟨x6, x7, rfl, rfl⟩, ?_, ?_⟩
    · rintro j d _ _ hd ⟨y6, y7, rfl, rfl⟩
      rw [List.getElem?_map, Option.map_eq_some_iff] at hd
      obtain ⟨told, htd, rfl⟩ := hd
      have hj1 := (List.getElem?_eq_some_iff.mp htd).1
      walk_at "gg"
      refine ⟨⟨_, .inr ⟨0, rfl, rfl⟩⟩, ?_⟩
      walk_at "gg"
      refine le_lcRD (F := fun (c : Nat) => tupD (told ++ [-3 + (c : Int)])) ?_
      refine lr_2 ?_
      walk_at "gg"
      have htl : told.length + 1 ≤ sizeLine := htold told (List.mem_of_getElem? htd)
      have hxl : (extC (FF.take j) (-3)).length ≤ 7 * 49 := Nat.le_trans (extC_len (by omega)) (by rw [List.length_take]; omega)
      refine ⟨_, _, rfl, by omega, by unfold sizeLine; omega, fun c acc hc => ?_, ?_⟩
      · refine lcd_yes ?_
        walk_at "gg"
        refine rr_catTE (xs := told.map Gm.D.int) (ys := [.int (-3 + c)]) (by rw [List.length_map]; exact htl) ?_
        refine ⟨?_, rfl⟩
        show _ = Ent.d (.tup _)
        rw [List.map_append]; rfl
      · walk_at "gg"
        refine rm_extend (ds := (extC (FF.take j) (-3)).map tupD) rfl (by rw [List.length_map, List.length_map, List.length_range]; unfold sizeLine; omega) ?_
        walk_at "gg"
        refine ⟨_, _, ?_, rfl⟩
        show [Own.lst _] = _
        have e : (extC (FF.take (j + 1)) (-3)).map tupD = (extC (FF.take j) (-3)).map tupD ++ (List.range ((4 : Int) - -3).toNat).map (fun (c : Nat) => tupD (told ++ [-3 + (c : Int)])) := by
          rw [Gm.take_snoc' htd]
          unfold extC rngL
          rw [List.flatMap_append]
          simp
        rw [e]
    · rintro _ _ ⟨y6, y7, rfl, rfl⟩
      rw [List.length_map, List.take_length]
      refine frzL (S := []) (xs := (extC FF (-3)).map tupD) (Γ' := [some (.d (sL gs)), some (.d (pD U gs)), some (.d (lz ps)), some (.d (.lst (FF.map tupD))), some (.d (.int q)), some (.d (.lst ((extC FF (-3)).map tupD))), none, none, none, none, none]) 5 rfl ?_ (by walk_at "envle") (by rw [hA]; exact Nat.le_refl _)
      walk_at "gg"
      exact ⟨_, _, _, _, _, _, _, rfl, hi1, by rw [hF]; rfl⟩
  · rintro _ _ ⟨x4, x5, x6, x7, x8, x9, x10, rfl, hi, rfl⟩
    walk_at "gg"
    rw [List.length_map, List.take_length]
    have hlc : (allW ps).length ≤ 49 := allW_len hpl.two
    have htold : ∀ t ∈ allW ps, t.length ≤ 2 := fun t ht => by have := ((allW_iff _ t).mp ht).1; rw [this]; exact hpl.two
    have hmem : ∀ {t}, t ∈ allC gs ps ↔ t ∈ allW ps ∧ nnB gs (ps.zip t) = true := allC_nn hpl
    have hmW : ∀ t ∈ allW ps, t ∈ allW ps := fun _ h => h
    have hmW' : ∀ t ∈ allW ps, ps.length = t.length := fun t h => (((allW_iff ps t).mp h).1).symm
    have hfw := @IsDue.foundW gs ps
    have hnw := @IsDue.noneW gs ps
    clear hmW
    generalize allW ps = FF at hlc htold hmem hmW' hfw hnw ⊢
    refine le_lcLM (α := List Int) tupD (fun t => pDT (absum t, t)) ?_
    walk_at "gg"
    refine ⟨by unfold sizeLine; omega, fun t acc ht => ?_, ?_⟩
    · refine lcd_yes ?_
      walk_at "gg"
      refine le_lcTup ?_
      walk_at "gg"
      have h2 := htold t ht
      refine ⟨fun j acc' S2 => S2 = [Own.lst acc] ∧ acc' = (((t.take j).map fun c => if c < 0 then -c else c)).map Gm.D.int, ⟨rfl, rfl⟩, ?_, ?_⟩
      · rintro j d acc' _ hd _ ⟨rfl, rfl⟩
        rw [List.getElem?_map, Option.map_eq_some_iff] at hd
        obtain ⟨c, hc, rfl⟩ := hd
        unfold LcT
        refine lt_yes ⟨fun _ => ?_, fun z => Bool.noConfusion z⟩
        walk_at "gg"
        refine ⟨_, [Own.lst acc], rfl, rfl, rfl, ?_, rfl, ?_⟩
        · rw [List.length_map, List.length_map, List.length_take]; unfold sizeLine; omega
        · rw [Gm.take_snoc' hc]; simp
      · rintro acc' _ ⟨rfl, rfl⟩
        rw [List.length_map, List.take_length]
        walk_at "gg"
        refine rc_sumI (.inl rfl) ?_
        walk_at "gg"
        exact ⟨rfl, rfl⟩
    have em : FF.map (fun t => pDT (absum t, t)) = (FF.map fun t => (absum t, t)).map pDT := by rw [List.map_map]; rfl
    rw [em]
    walk_at "gg"
    refine rc_sortQ (.inl rfl) fun qs hperm hasc => ?_
    have hq : ∀ q ∈ qs, q.1 = absum q.2 := fun q hq => by
      obtain ⟨t, _, rfl⟩ := List.mem_map.mp (hperm.mem_iff.mp hq); rfl
    have hql : qs.length ≤ 49 := by rw [hperm.length_eq, List.length_map]; exact hlc
    have ord : Ord FF (qs.map (·.2)) := by
      refine ⟨?_, ?_⟩
      · have := hperm.map (·.2)
        rw [List.map_map] at this
        have e : FF.map ((fun x : Int × List Int => x.2) ∘ fun t => (absum t, t)) = FF := by
          conv => rhs; rw [← List.map_id FF]
          rfl
        rw [e] at this
        exact this
      · rw [List.pairwise_map]
        refine List.Pairwise.imp_of_mem (fun {a b} ha hb h => ?_) hasc
        have ea := hq a ha
        have eb := hq b hb
        show SrtQ.ltQ (absum b.2, b.2) (absum a.2, a.2) = false
        rw [← ea, ← eb]; exact h
    walk_at "gg"
    refine ls_forL ?_
    walk_at "gg"
    refine ⟨fun i Γ S => ∃ (y6 y9 y10 : Option Ent), S = [] ∧ (∀ j t', j < i → (qs.map (·.2))[j]? = some t' → ¬ (t' ∈ allC gs ps ∧ GoodF (chT gs ps t'))) ∧ Γ = [some (.d (sL gs)), some (.d (pD U gs)), some (.d (lz ps)), some (.d (.lst (FF.map tupD))), x4, x5, y6, x7, some (.d (.lst (qs.map pDT))), y9, y10], ⟨x6, x9, x10, rfl, fun j t' h => absurd h (Nat.not_lt_zero _), rfl⟩, ?_, ?_⟩
    · rintro i d _ _ hd ⟨y6, y9, y10, rfl, hno, rfl⟩
      rw [List.getElem?_map, Option.map_eq_some_iff] at hd
      obtain ⟨⟨z, t⟩, hzt, rfl⟩ := hd
      have ht : (qs.map (·.2))[i]? = some t := by rw [List.getElem?_map, hzt]; rfl
      have hmF := ord.perm.mem_iff.mp (List.mem_of_getElem? ht)
      have htl := htold t hmF
      have hcl : ps.length = t.length := hmW' t hmF
      walk_at "gg"
      refine lchg (by omega) hpl hcl ?_
      walk_at "gg"
      have next : ∀ hng : ¬ (t ∈ allC gs ps ∧ GoodF (chT gs ps t)), ∀ j t', j < i + 1 → (qs.map (·.2))[j]? = some t' → ¬ (t' ∈ allC gs ps ∧ GoodF (chT gs ps t')) := fun hng j t' hj h => by
        by_cases hji : j < i
        · exact hno j t' hji h
        · have e : j = i := by omega
          subst e; rw [ht] at h; cases h; exact hng
      by_cases hnn : nnB gs (ps.zip t) = true
      · have hm : t ∈ allC gs ps := hmem.mpr ⟨hmF, hnn⟩
        have hcc := allC_chg hpl hm
        have hres : resC gs (ps.zip t) = sL (chg gs (ps.zip t)) := if_pos hnn
        obtain ⟨ok3, ln3⟩ := chg_ok ok hcc ps.length (Nat.le_refl _)
        obtain ⟨sm3, sp3⟩ := chg_gs sm hcc (allC_30 r27 hm) ps.length (Nat.le_refl _)
        have eT : (ps.zip t).take ps.length = ps.zip t := List.take_of_length_le (by rw [List.length_zip]; omega)
        rw [eT] at ok3 ln3 sm3 sp3
        rw [hres]
        refine ⟨fun _ => ?_, fun z => Bool.noConfusion z⟩
        walk_at "gg"
        refine with_ ok (by omega) hcc ?_
        walk_at "gg"
        refine fit_ (gs := chg gs (ps.zip t)) ok3 sm3 (by omega) (by omega) fun fd hfd => ?_
        walk_at "gg"
        rcases id hfd with ⟨xs, rfl, _⟩ | ⟨l, q, o, rfl, _⟩
        · walk_at "gg"
          refine ⟨fun z => absurd (of_decide_eq_true z) (by decide), fun _ => ⟨fun z => Bool.noConfusion z, fun _ => ?_⟩⟩
          walk_at "gg"
          exact ⟨_, _, _, rfl, next (fun h => goodF_some hfd h.2), rfl⟩
        · walk_at "gg"
          refine ⟨fun _ => ?_, fun z => absurd (of_decide_eq_false z) (fun h => h rfl)⟩
          walk_at "gg"
          refine ⟨fun hb => ?_, fun hb => ?_⟩
          · walk_at "gg"
            exact hp _ _ ⟨_, rfl, rfl, hfw ord ht hno hm ((goodF_iff hfd).mpr (eqI' hb))⟩
          · walk_at "gg"
            exact ⟨_, _, _, rfl, next fun hg => absurd ((goodF_iff hfd).mp hg.2) (neI' hb), rfl⟩
      · have hres : resC gs (ps.zip t) = .non := if_neg hnn
        rw [hres]
        refine ⟨fun z => Bool.noConfusion z, fun _ => ?_⟩
        walk_at "gg"
        exact ⟨_, _, _, rfl, next fun hg => hnn (hmem.mp hg.1).2, rfl⟩
    · rintro _ _ ⟨y6, y9, y10, rfl, hno, rfl⟩
      rw [List.length_map] at hno
      walk_at "gg"
      exact hp _ _ ⟨_, rfl, rfl, hnw ord fun j t' h => hno j t' (by have := (List.getElem?_eq_some_iff.mp h).1; rwa [List.length_map] at this) h⟩
end
section
variable {P : Program} {w0 : World} {K : PySem.W.Frag} {mg : Str → Option Value} {base : Heap}
theorem lfix {w : Wd} {S : List Own} {C U : Addr} {E : XK} {k : KE} {gs : List Stp} {ps : List Int} (ok : PipeOk gs) (sm : ∀ x ∈ gs, x.small) (hl : gs.length ≤ 8) (hs : Sp gs ≤ 60) (r : Rt27 gs) (hpl : PlcOk gs ps) (h : ∀ d, IsDue gs ps d → k (.d d) S) : RS w (dsLFix C U) E [.d (pD U gs), .d (lz ps)] S k :=
  r0 (gs, ps) ⟨rfl, rfl, ok, sm, hl, hs, r, hpl⟩ fun e S' ⟨d, h1, h2, h3⟩ => ⟨_, h2, h1, h d h3⟩
theorem due_ {w : Wd} {S : List Own} {U : Addr} {E : XK} {k : KE} {gs : List Stp} {ps : List Int} (ok : PipeOk gs) (sm : ∀ x ∈ gs, x.small) (hl : gs.length ≤ 8) (hs : Sp gs ≤ 60) (r : Rt27 gs) (hpl : PlcOk gs ps) (h : ∀ d, IsDue gs ps d → k (.d d) S) : RS w (dsDue U) E [.d (sL gs), .d (pD U gs), .d (lz ps)] S k :=
  r0 (gs, ps) ⟨rfl, rfl, ok, sm, hl, hs, r, hpl⟩ fun e S' ⟨d, h1, h2, h3⟩ => ⟨_, h2, h1, h d h3⟩
end

section
variable {P : Program} {w0 : World} {K : PySem.W.Frag} {mg : Str → Option Value} {base : Heap}
def dsApart : DS := ds (α := Nat) (fun n es S => ∃ o, es = [.own 0] ∧ S = [o] ∧ Rng n o ∧ n < 2 ^ 49) (fun n e S' => ∃ (gs : List Stp) (o' : Own), e = .d (sL gs) ∧ S' = [o'] ∧ Rng (n + 5) o' ∧ PipeOk gs ∧ (∀ x ∈ gs, x.small) ∧ gs.length ≤ 4 ∧ Sp gs ≤ 60 ∧ isCP gs 0 = true)
theorem ok_apart {f : Addr} {fd : FuncData} (F : Fun K "_law_apart" "_law_apart" s_law_apart f fd) (T : Blt mg) (d_law_draw : Df P w0 K mg base CX0 1 "_law_draw" 2 dsDraw) : FnOk P w0 K mg base CX0 2 f fd ["rng"] (spD K dsApart) := by
  refine fn0 F sc_law_apart (fun es S p e h => by obtain ⟨a, ⟨o, h, _⟩, _⟩ := h; rw [h]; rfl) (fun cdv A outer s H E hr w es S p e hK hA h => ?_)
  subst hK
  obtain ⟨n, ⟨o, rfl, rfl, ho, hn⟩, hp⟩ := h
  refine ⟨_, (pss_cons (ps_par (i := 1) (j := 2) (by rfl) sc_law_apart.nd rfl rfl (by decide) rfl rfl (pa_cons (pe_df d_law_draw (hr.mono (by decide)) pass0 (pa_cons (pv 0) (pa_cons pe_int pa_nil))) (pa_cons (pe_df d_law_draw (hr.mono (by decide)) pass0 (pa_cons (pv 0) (pa_cons pe_int pa_nil))) pa_nil)) (by rfl))
    (pss_cons (sset 3 (pe_lst (pa_cons (pe_tup (pa_cons (pe_ix ix_list (pe_lst (pa_cons pe_str (pa_cons pe_str pa_nil))) (pe_df d_law_draw (hr.mono (by decide)) pass0 (pa_cons (pv 0) (pa_cons pe_int pa_nil))) (fun _ _ => rfl)) (pa_cons pe_int (pa_cons pe_int (pa_cons (pv 1) pa_nil))))) (pa_cons (pe_tup (pa_cons (pe_ix ix_list (pe_lst (pa_cons pe_str (pa_cons pe_str pa_nil))) (pe_df d_law_draw (hr.mono (by decide)) pass0 (pa_cons (pv 0) (pa_cons pe_int pa_nil))) (fun _ _ => rfl)) (pa_cons pe_int (pa_cons pe_int (pa_cons (pv 2) pa_nil))))) pa_nil))) sc_law_apart.nd)
    (pss_cons (ps_if (pt_cmpR op_eq (pe_df d_law_draw (hr.mono (by decide)) pass0 (pa_cons (pv 0) (pa_cons pe_int pa_nil))) pe_int (nomark _))
      (pss_cons (sset 3 (pe_op op_cat (pv 3) (pe_lst (pa_cons (pe_tup (pa_cons pe_str (pa_cons pe_int (pa_cons pe_int (pa_cons pe_int (pa_cons pe_int pa_nil)))))) (pa_cons (pe_tup (pa_cons pe_str (pa_cons pe_int (pa_cons pe_int pa_nil)))) pa_nil)))) sc_law_apart.nd)
      (pss_one (ps_ret (pv 3))))
      pss_nil)
    (pss_one (ps_ret (pe_op op_cat (pv 3) (pe_lst (pa_cons (pe_tup (pa_cons pe_str (pa_cons pe_int (pa_cons pe_int pa_nil)))) pa_nil)))))))), ?_⟩
  try dsimp only [L2.cxOf, L2.Cx.nox]
  walk_at "gg"
  refine draw n ho (by omega) (by decide) (by decide) fun d1 o1 a1 a2 h1 => ?_
  walk_at "gg"
  refine draw _ h1 (by omega) (by decide) (by decide) fun d2 o2 b1 b2 h2 => ?_
  walk_at "gg"
  refine ⟨_, _, rfl, ?_⟩
  walk_at "gg"
  refine draw _ h2 (by omega) (by decide) (by decide) fun d3 o3 c1 c2 h3 => ?_
  have k3 : ∃ x : Stp, x = Stp.crop 0 1 d1 ∨ x = Stp.pad 0 1 d1 := ⟨_, .inl rfl⟩
  have hat3 : ∃ s3 : Str, atI ([.str "crop", .str "pad"] : List Gm.D) d3 = some (.str s3) ∧ (s3 = "crop" ∨ s3 = "pad") := by
    have : d3 = 0 ∨ d3 = 1 := by omega
    rcases this with rfl | rfl
    · exact ⟨_, rfl, .inl rfl⟩
    · exact ⟨_, rfl, .inr rfl⟩
  obtain ⟨s3, e3, f3⟩ := hat3
  walk_at "gg"
  refine rr_ixL e3 ?_
  walk_at "gg"
  refine draw _ h3 (by omega) (by decide) (by decide) fun d4 o4 g1 g2 h4 => ?_
  have hat4 : ∃ s4 : Str, atI ([.str "crop", .str "pad"] : List Gm.D) d4 = some (.str s4) ∧ (s4 = "crop" ∨ s4 = "pad") := by
    have : d4 = 0 ∨ d4 = 1 := by omega
    rcases this with rfl | rfl
    · exact ⟨_, rfl, .inl rfl⟩
    · exact ⟨_, rfl, .inr rfl⟩
  obtain ⟨s4, e4, f4⟩ := hat4
  walk_at "gg"
  refine rr_ixL e4 ?_
  walk_at "gg"
  refine draw _ h4 (by omega) (by decide) (by decide) fun d5 o5 i1 i2 h5 => ?_
  have hx : ∃ x : Stp, x.d = .tup [.str s3, .int 0, .int 1, .int d1] ∧ (x = Stp.crop 0 1 d1 ∨ x = Stp.pad 0 1 d1) := by
    rcases f3 with rfl | rfl
    · exact ⟨_, rfl, .inl rfl⟩
    · exact ⟨_, rfl, .inr rfl⟩
  have hy : ∃ y : Stp, y.d = .tup [.str s4, .int 0, .int 0, .int d2] ∧ (y = Stp.crop 0 0 d2 ∨ y = Stp.pad 0 0 d2) := by
    rcases f4 with rfl | rfl
    · exact ⟨_, rfl, .inl rfl⟩
    · exact ⟨_, rfl, .inr rfl⟩
  obtain ⟨x, ex, fx⟩ := hx
  obtain ⟨y, ey, fy⟩ := hy
  have key : ∀ (zs : List Stp), zs = [.win 1 3 1 1, .join 3 2] ∨ zs = [.join 1 2] → PipeOk (x :: y :: zs) ∧ (∀ z ∈ x :: y :: zs, z.small) ∧ (x :: y :: zs).length ≤ 4 ∧ Sp (x :: y :: zs) ≤ 60 ∧ isCP (x :: y :: zs) 0 = true := by
    intro zs hz
    have okx : ∀ n : Int, 0 ≤ n → x.ok n = true ∧ x.small ∧ x.str = 1 := fun n hn => by
      rcases fx with rfl | rfl
      · exact ⟨by simp [Stp.ok, Stp.nums]; omega, ⟨by decide, by omega⟩, rfl⟩
      · exact ⟨by simp [Stp.ok, Stp.nums]; omega, ⟨by decide, by omega⟩, rfl⟩
    have oky : ∀ n : Int, 0 ≤ n → y.ok n = true ∧ y.small ∧ y.str = 1 := fun n hn => by
      rcases fy with rfl | rfl
      · exact ⟨by simp [Stp.ok, Stp.nums]; omega, ⟨by decide, by omega⟩, rfl⟩
      · exact ⟨by simp [Stp.ok, Stp.nums]; omega, ⟨by decide, by omega⟩, rfl⟩
    refine ⟨?_, ?_, ?_, ?_, ?_⟩
    · intro i z hz'
      match i, hz' with
      | 0, h => cases h; exact (okx _ (by omega)).1
      | 1, h => cases h; exact (oky _ (by omega)).1
      | i + 2, h =>
        rcases hz with rfl | rfl
        · match i, h with
          | 0, h => cases h; rfl
          | 1, h => cases h; rfl
          | i + 2, h => simp at h
        · match i, h with
          | 0, h => cases h; rfl
          | i + 1, h => simp at h
    · intro z hm
      rcases List.mem_cons.mp hm with rfl | hm
      · exact (okx 0 (by omega)).2.1
      rcases List.mem_cons.mp hm with rfl | hm
      · exact (oky 0 (by omega)).2.1
      rcases hz with rfl | rfl
      · simp only [List.mem_cons, List.not_mem_nil, or_false] at hm
        rcases hm with rfl | rfl
        · exact ⟨by decide, by decide⟩
        · trivial
      · simp only [List.mem_cons, List.not_mem_nil, or_false] at hm
        subst hm; trivial
    · rcases hz with rfl | rfl
      · exact Nat.le_refl _
      · show 3 ≤ 4; omega
    · unfold Sp
      rw [List.foldl_cons, List.foldl_cons, (okx 0 (by omega)).2.2, (oky 0 (by omega)).2.2]
      rcases hz with rfl | rfl
      · decide
      · decide
    · rcases fx with rfl | rfl
      · rfl
      · rfl
  walk_at "gg"
  refine ⟨fun hb => ?_, fun hb => ?_⟩
  · walk_at "gg"
    refine rr_cat (xs := [x.d, y.d]) (ys := [(Stp.win 1 3 1 1).d, (Stp.join 3 2).d]) (.inl (by rw [ex, ey])) (.inl rfl) (by show 4 ≤ sizeLine; decide) ?_
    obtain ⟨k1, k2, k3, k4, k5⟩ := key _ (.inl rfl)
    walk_at "gg"
    exact hp _ _ ⟨x :: y :: [.win 1 3 1 1, .join 3 2], o5, rfl, rfl, h5, k1, k2, k3, k4, k5⟩
  · walk_at "gg"
    refine rr_cat (xs := [x.d, y.d]) (ys := [(Stp.join 1 2).d]) (.inl (by rw [ex, ey])) (.inl rfl) (by show 3 ≤ sizeLine; decide) ?_
    obtain ⟨k1, k2, k3, k4, k5⟩ := key _ (.inr rfl)
    walk_at "gg"
    exact hp _ _ ⟨x :: y :: [.join 1 2], o5, rfl, rfl, h5, k1, k2, k3, k4, k5⟩
theorem apart {w : Wd} {E : XK} {o : Own} {rest : List Own} {k : KE} (n : Nat) (ho : Rng n o) (hn : n < 2 ^ 49)
    (h : ∀ (gs : List Stp) (o' : Own), PipeOk gs → (∀ x ∈ gs, x.small) → gs.length ≤ 4 → Sp gs ≤ 60 → isCP gs 0 = true → Rng (n + 5) o' → k (.d (sL gs)) (o' :: rest)) : RS w dsApart E [.own 0] (o :: rest) k :=
  rp n ⟨o, rfl, rfl, ho, hn⟩ (fun e S' ⟨gs, o', h1, h2, h3, h4, h5, h6, h7, h8⟩ => ⟨o', _, h2, h3.ng, h1, h gs o' h4 h5 h6 h7 h8 h3⟩) ho.ng
end

section
def okFrom : Nat → List Stp → Bool
  | _, [] => true
  | n, x :: xs => x.ok n && okFrom (n + 1) xs
theorem okFrom_at : ∀ (gs : List Stp) (n : Nat), okFrom n gs = true → ∀ (i : Nat) (x : Stp), gs[i]? = some x → x.ok ((n + i : Nat) : Int) = true
  | [], _, _, _, _, h => by simp at h
  | y :: gs, n, h, 0, x, e => by
    simp only [okFrom, Bool.and_eq_true] at h
    simp at e; subst e; exact h.1
  | y :: gs, n, h, i + 1, x, e => by
    simp only [okFrom, Bool.and_eq_true] at h
    have := okFrom_at gs (n + 1) h.2 i x (by simpa using e)
    rw [show n + (i + 1) = n + 1 + i by omega]; exact this
theorem pipe_of {gs : List Stp} (h : okFrom 0 gs = true) : PipeOk gs := fun i x e => by
  have := okFrom_at gs 0 h i x e
  rw [Nat.zero_add] at this; exact this
end

section
abbrev gEven : List Stp := [.pad 0 0 0, .win 1 2 2 0, .rep 2 2, .join 1 3]
abbrev gCrops : List Stp := [.crop 0 1 1, .crop 0 0 1, .join 1 2]
abbrev gPad : List Stp := [.pad 0 1 0]
theorem not_good {gs : List Stp} (h : ∀ l : Int, ∃ n, l ≤ n ∧ ¬ FitP gs n) : ¬ GoodF gs := by
  rintro ⟨l, o, hf⟩
  rcases hf with ⟨xs, e, _⟩ | ⟨l', q', o', e, c, _⟩
  · injection e with e; injection e with e _; injection e with e; exact absurd e (by decide)
  · injection e with e
    injection e with _ e
    injection e with e1 e
    injection e with e2 e
    injection e1 with e1
    injection e2 with e2
    have hq : q' = 1 := by omega
    subst hq
    have m0 : (0 : Int) ∈ o' := by have := (c.mem l' (Int.le_refl _)).mp c.at_; rwa [show l' % ((1 : Nat) : Int) = 0 by omega] at this
    obtain ⟨n, h1, h2⟩ := h l'
    exact h2 ((c.mem n h1).mpr (by rw [show n % ((1 : Nat) : Int) = 0 by omega]; exact m0))
theorem good_from {gs : List Stp} (l : Int) (hl : l.natAbs < 100) (h : ∀ n, FitP gs n ↔ l ≤ n) : GoodF gs := by
  refine ⟨l, [0], .inr ⟨l, 1, [0], rfl, ?_, by decide, Nat.lt_trans hl (by decide +kernel), by decide⟩⟩
  exact ⟨(h l).mpr (Int.le_refl _), fun n hn => (h n).mp hn, by decide, by simp, fun y hy => by rw [List.mem_singleton.mp hy]; decide, fun n hn => ⟨fun _ => by rw [show n % ((1 : Nat) : Int) = 0 by omega]; exact List.mem_singleton.mpr rfl, fun _ => (h n).mpr hn⟩, fun r hr _ => hr⟩
theorem fit_crops (n : Int) : FitP [.crop 0 1 0, .crop 0 0 1, .join 1 2] n ↔ 2 ≤ n := by
  constructor
  · rintro ⟨h1, _⟩
    have j : 1 ≤ n - 1 - 0 := h1 1 (by decide)
    omega
  · intro h
    refine ⟨fun i hi => ?_, fun r o hm => ?_⟩
    · have hi : i ≤ 3 := hi
      have : i = 0 ∨ i = 1 ∨ i = 2 ∨ i = 3 := by omega
      rcases this with rfl | rfl | rfl | rfl
      · show 1 ≤ n; omega
      · show 1 ≤ n - 1 - 0; omega
      · show 1 ≤ n - 0 - 1; omega
      · show 1 ≤ n - 1 - 0; omega
    · have : r = 1 ∧ o = 2 := by simpa using hm
      obtain ⟨rfl, rfl⟩ := this
      show n - 1 - 0 = n - 0 - 1
      omega
theorem fit_pad (n : Int) : FitP gPad n ↔ 1 ≤ n := by
  constructor
  · rintro ⟨h1, _⟩
    exact h1 0 (by decide)
  · intro h
    refine ⟨fun i hi => ?_, fun r o hm => ?_⟩
    · have hi : i ≤ 1 := hi
      have : i = 0 ∨ i = 1 := by omega
      rcases this with rfl | rfl
      · show 1 ≤ n; omega
      · show 1 ≤ n + 1 + 0; omega
    · simp at hm
theorem no_even (c : Int) (l : Int) : ∃ n, l ≤ n ∧ ¬ FitP [.pad 0 0 c, .win 1 2 2 0, .rep 2 2, .join 1 3] n := by
  by_cases hp : (l + c) % 2 = 0
  · refine ⟨l + 1, by omega, fun h => ?_⟩
    have j : l + 1 + 0 + c = ((l + 1 + 0 + c + 2 * 0 - 2) / 2 + 1) * 2 := h.2 1 3 (by simp)
    omega
  · refine ⟨l, by omega, fun h => ?_⟩
    have j : l + 0 + c = ((l + 0 + c + 2 * 0 - 2) / 2 + 1) * 2 := h.2 1 3 (by simp)
    omega
theorem no_crops (l : Int) : ∃ n, l ≤ n ∧ ¬ FitP gCrops n := by
  refine ⟨l, by omega, fun h => ?_⟩
  have j : l - 1 - 1 = l - 0 - 1 := h.2 1 2 (by simp)
  omega
theorem due_crops : IsDue gCrops [0, 1] (tupD [-1, 0]) := by
  refine .inl ⟨[-1, 0], by decide +kernel, ?_, rfl, fun t' m' g' => ?_⟩
  · exact good_from 2 (by decide) (by intro n; exact fit_crops n)
  · have : ∀ t' ∈ allC gCrops [0, 1], t' = [0, 0] ∨ SrtQ.ltQ (absum t', t') (absum [-1, 0], [-1, 0]) = false := by decide +kernel
    rcases this t' m' with rfl | h
    · exact absurd g' (not_good no_crops)
    · exact h
theorem due_pad : IsDue gPad [0] (tupD [0]) := by
  refine .inl ⟨[0], by decide +kernel, ?_, rfl, fun t' m' g' => ?_⟩
  · exact good_from 1 (by decide) (by intro n; exact fit_pad n)
  · have : ∀ t' ∈ allC gPad [0], SrtQ.ltQ (absum t', t') (absum [0], [0]) = false := by decide +kernel
    exact this t' m'
theorem due_even : IsDue gEven [0] .non := by
  refine .inr ⟨rfl, fun t m => ?_⟩
  obtain ⟨h1, _⟩ := (allC_iff [0] t).mp m
  match t, h1 with
  | [c], _ => exact not_good (gs := [.pad 0 0 (0 + c), .win 1 2 2 0, .rep 2 2, .join 1 3]) (no_even (0 + c))
end

section
variable {P : Program} {w0 : World} {K : PySem.W.Frag} {mg : Str → Option Value} {base : Heap}
structure BltR (mg : Str → Option Value) : Prop extends Blt mg where
  repr : mg "repr" = none
def clamp17 : Stp → Stp
  | .crop r a b => .crop r a (if b < 17 then b else 17)
  | .pad r a b => .pad r a (if b < 17 then b else 17)
  | x => x
theorem clamp_ok {x : Stp} {n : Int} (h : x.ok n = true) : (clamp17 x).ok n = true := by
  match x with
  | .crop r a b => simp [clamp17, Stp.ok, Stp.nums] at h ⊢; split <;> omega
  | .pad r a b => simp [clamp17, Stp.ok, Stp.nums] at h ⊢; split <;> omega
  | .win .. => exact h
  | .rep .. => exact h
  | .join .. => exact h
theorem clamp_small {x : Stp} (h : x.small) : (clamp17 x).small := by
  match x with
  | .crop r a b => exact ⟨h.1, by have := h.2; show (if b < 17 then b else 17) ≤ 30; split <;> omega⟩
  | .pad r a b => exact ⟨h.1, by have := h.2; show (if b < 17 then b else 17) ≤ 30; split <;> omega⟩
  | .win .. => exact h
  | .rep .. => exact h
  | .join .. => exact h
theorem clamp_str (x : Stp) : (clamp17 x).str = x.str := by
  match x with
  | .crop r a b => rfl
  | .pad r a b => rfl
  | .win .. => rfl
  | .rep .. => rfl
  | .join .. => rfl
theorem clamp_r27 (gs : List Stp) : Rt27 (gs.map clamp17) := fun x hx b hb => by
  obtain ⟨y, _, rfl⟩ := List.mem_map.mp hx
  match y, hb with
  | .crop r a b', e => have e : some (if b' < 17 then b' else 17) = some b := e; cases e; split <;> omega
  | .pad r a b', e => have e : some (if b' < 17 then b' else 17) = some b := e; cases e; split <;> omega
theorem clamp_pipe {gs : List Stp} (h : PipeOk gs) : PipeOk (gs.map clamp17) := fun i x hx => by
  rw [List.getElem?_map, Option.map_eq_some_iff] at hx
  obtain ⟨y, hy, rfl⟩ := hx
  exact clamp_ok (h i y hy)
theorem clamp_Sp (gs : List Stp) : Sp (gs.map clamp17) = Sp gs := by
  unfold Sp
  rw [List.foldl_map]
  congr 1
  funext a x
  rw [clamp_str]
theorem clamp_isCP (gs : List Stp) (i : Nat) : isCP (gs.map clamp17) i = isCP gs i := by
  unfold isCP
  rw [List.getElem?_map]
  cases h : gs[i]? with
  | none => rfl
  | some x =>
    match x with
    | .crop r a b => rfl
    | .pad r a b => rfl
    | .win .. => rfl
    | .rep .. => rfl
    | .join .. => rfl
theorem plN_ne {gs : List Stp} {i : Nat} (hi : i < gs.length) (h : isCP gs i = true) : plN gs gs.length ≠ [] := fun z => by
  have : (i : Int) ∈ plN gs gs.length := List.mem_map.mpr ⟨i, List.mem_filter.mpr ⟨List.mem_range.mpr hi, h⟩, rfl⟩
  rw [z] at this; exact List.not_mem_nil this
theorem isCP_lt {gs : List Stp} {i : Nat} (h : isCP gs i = true) : i < gs.length := by
  unfold isCP at h
  cases e : gs[i]? with
  | none => rw [e] at h; cases h
  | some x => exact (List.getElem?_eq_some_iff.mp e).1
/-- what law chooses from -/
structure Chs (gs : List Stp) : Prop where
  ok : PipeOk gs
  sm : ∀ x ∈ gs, x.small
  len : gs.length ≤ 7
  sp : Sp gs ≤ 60
  cp : ∃ i, isCP gs i = true
theorem rr_neZ {w : Wd} {S : List Own} {k : KE} {ps qs : List Int} (q : k (.d (.bl (!decide (ps = qs)))) S) : RR w (rNeD w.K) (.d (lz ps)) (.d (lz qs)) S k := by
  refine rr_neD (toP_lz ps) (toP_lz qs) (shaped_ints ps) (shaped_ints qs) ?_
  rw [eqv_lz]; exact q
theorem rc_reprTup {w : Wd} {S : List Own} {k : KE} {ps : List Int} (hl : ps.length ≤ 300) (hb : ∀ p ∈ ps, p.natAbs < 10 ^ 60) (q : k (.d (.str (PyData.shown (.tuple (ps.map PyData.int))))) S) : RC w (gRepr w.K) [.d (tupD ps)] S k := by
  refine rc_repr (d := .tuple (ps.map PyData.int)) (by show toP _ = _; show (toPs (ps.map Gm.D.int)).map PyData.tuple = _; rw [toPs_ints]; rfl) (by simp only [PyData.showable, show_i ps hb]) (by simp only [PyData.hasDict, hasd_i]) (by have := depth_ints ps; simp only [PyData.depth]; omega) ?_ (.inr ⟨_, rfl⟩) q
  have := PyData.shown_le_bulk 61 (by decide) (.tuple (ps.map PyData.int)) (by simp only [PyData.leavesShort, short_i ps hb])
  simp only [PyData.bulk, bulk_i] at this
  unfold sizeLine; omega
theorem due_repr {gs : List Stp} {ps : List Int} {d : Gm.D} (hpl : PlcOk gs ps) (h : IsDue gs ps d) : ∃ sr : Str, ∀ (w : Wd) (S : List Own) (k : KE), k (.d (.str sr)) S → RC w (gReprN w.K) [.d d] S k := by
  rcases h with ⟨t, m, _, rfl, _⟩ | ⟨rfl, _⟩
  · obtain ⟨h1, h2⟩ := (allC_iff ps t).mp m
    refine ⟨_, fun w S k q => rc_reprNd (rc_reprTup (by have := hpl.two; omega) (fun p hp => ?_) q)⟩
    obtain ⟨i, hi⟩ := List.mem_iff_getElem?.mp hp
    have hil := (List.getElem?_eq_some_iff.mp hi).1
    obtain ⟨g1, g2⟩ := h2 i ps[i] p (List.getElem?_eq_getElem (by omega)) hi
    have := low_ge (rightZ gs ps[i])
    have : p.natAbs ≤ 3 := by omega
    exact Nat.lt_of_le_of_lt this (by decide +kernel)
  · exact ⟨_, fun w S k q => rc_reprNo q⟩
theorem due_p {gs : List Stp} {ps : List Int} {d : Gm.D} (hpl : PlcOk gs ps) (h : IsDue gs ps d) : ∃ q, toP d = some q ∧ SeqAt.shaped q = true ∧ PyData.eqv q q = true := by
  rcases h with ⟨t, m, _, rfl, _⟩ | ⟨rfl, _⟩
  · refine ⟨.tuple (t.map PyData.int), by show (toPs (t.map Gm.D.int)).map PyData.tuple = _; rw [toPs_ints]; rfl, ?_, ?_⟩
    · unfold SeqAt.shaped
      have := depth_ints t
      simp only [PyData.canLay0, PyData.canLayAll0, lay_ints, PyData.depth, PyData.depthAll]
      simp
      omega
    · simp [PyData.eqv, PyData.eqvAll, eqv_ints]
  · exact ⟨.none, rfl, by decide, by decide⟩
def dsLaw : DS := ds (α := List Int) (fun a es S => es = [.d (.scr a)] ∧ S = [] ∧ a.length ≤ 63) (fun a e S' => e = .d (.bl true))
theorem ok_law {f C U : Addr} {fd : FuncData} (F : Fun K "law" "law" slaw f fd) (T : BltR mg) (d_law_rng : Df P w0 K mg base CX0 1 "_law_rng" 1 dsRng) (d_law_draw : Df P w0 K mg base CX0 1 "_law_draw" 2 dsDraw) (d_law_steps : Df P w0 K mg base CX0 3 "_law_steps" 2 dsRSteps)
    (d_law_apart : Df P w0 K mg base CX0 2 "_law_apart" 1 dsApart) (d_law_due : Df P w0 K mg base CX0 9 "_law_due" 3 (dsDue U)) (d_law_drawn_places : Df P w0 K mg base CX0 2 "_law_drawn_places" 2 dsDrw) (dPipeline : Ct P w0 K mg base CX0 4 "Pipeline" U (dsPInit U)) (dsteps : Pr P w0 K mg base CX0 1 U "steps" (dsSteps U))
    (dleast_fix : Df P w0 K mg base CX0 9 "least_fix" 2 (dsLFix C U)) (dKleast_fix : DfK P w0 K mg base CX0 9 "least_fix" ["places", "pipeline"] [1, 0] (dsLFix C U)) : FnOkG P w0 K mg base CX0 11 f fd ["script"] (spD K dsLaw) := by
  refine fnG F sclaw (fun es S p e h => by obtain ⟨a, ⟨h, _⟩, _⟩ := h; rw [h]; rfl) (fun cdv A outer s H E hgu hr w es S p e hK hA h => ?_)
  subst hK
  obtain ⟨ns, ⟨rfl, rfl, hns⟩, hp⟩ := h
  refine ⟨_, (pss_cons (sset 1 (pe_df d_law_rng (hr.mono (by decide)) pass0 (pa_cons (pv 0) pa_nil)) sclaw.nd)
    (pss_cons (ps_for PassesOwn.never rfl (pi_range1 (by rfl) T.range (pa_cons (pe_op op_add pe_int (b_min2 T.min pe_int (b_len T.len (pv 0)))) pa_nil)) (gn 2 sclaw.nd)
      (pss_cons (sset 3 (pe_ix ix_list (pe_lst (pa_cons (pe_df d_law_apart (hr.mono (by decide)) pass0 (pa_cons (pv 1) pa_nil)) (pa_cons (pe_op op_cat (pe_df d_law_steps (hr.mono (by decide)) pass0 (pa_cons (pv 1) (pa_cons pe_int pa_nil))) (pe_lst (pa_cons (pe_tup (pa_cons pe_str (pa_cons pe_int (pa_cons pe_int (pa_cons pe_int pa_nil))))) pa_nil))) (pa_cons (pe_df d_law_apart (hr.mono (by decide)) pass0 (pa_cons (pv 1) pa_nil)) pa_nil)))) (pe_df d_law_draw (hr.mono (by decide)) pass0 (pa_cons (pv 1) (pa_cons pe_int pa_nil))) (fun _ _ => rfl)) sclaw.nd)
      (pss_cons (ps_setLc (i := 3) (own := [("step", 4)]) (g := gName 4) rfl sclaw.nd rfl rfl (sw_true rfl rfl rfl (by decide +kernel)) (pi_list (pv 3)) (blkOk_by (own := [("step", 4)]) (N := Nlaw) (sc := defScope slaw) (by decide +kernel)) (fun _ _ _ _ _ => gn 4 sclaw.nd) (fun _ _ _ _ _ => pts_nil) (fun _ _ _ _ _ => (pe_ifExp (pt_cmpR (op_in_seqB w.K) (pe_ix (ix_tupB w.K) (pv 4) pe_int (fun _ _ => rfl)) (pe_tup (pa_cons pe_str (pa_cons pe_str pa_nil))) (by with_unfolding_all rfl)) (pe_op (op_catTEB w.K) (pe_slice (sl_tupB w.K) (pv 4) po_none (po_some pe_int)) (pe_tup (pa_cons (b_min2 T.min pe_int (pe_ix (ix_tupB w.K) (pv 4) pe_int (fun _ _ => rfl))) pa_nil))) (pv 4))))
      (pss_cons (sset 5 (pe_mk dPipeline (hr.mono (by decide)) pass0 (pa_cons (pv 3) pa_nil)) sclaw.nd)
      (pss_one (ps_for PassesOwn.never rfl (pi_range1 (by rfl) T.range (pa_cons pe_int pa_nil)) (gn 6 sclaw.nd)
        (pss_cons (sset 7 (pe_df d_law_drawn_places (hr.mono (by decide)) pass0 (pa_cons (pv 1) (pa_cons (pv 3) pa_nil))) sclaw.nd)
        (pss_cons (ps_par (i := 8) (j := 9) (by rfl) sclaw.nd rfl rfl (by decide) rfl rfl (pa_cons (b_list T.list (pv 7)) (pa_cons (pe_df d_law_due (hr.mono (by decide)) pass0 (pa_cons (pv 3) (pa_cons (pv 5) (pa_cons (pv 7) pa_nil)))) pa_nil)) (by rfl))
        (pss_cons (sset 10 (pe_df dleast_fix (hr.mono (by decide)) pass0 (pa_cons (pv 5) (pa_cons (pv 7) pa_nil))) sclaw.nd)
        (pss_cons (ps_if (PW.pt (pw_or (pt_cmpR op_ne (b_reprN hgu hr.units T.repr (pv 10)) (b_reprN hgu hr.units T.repr (pv 9)) (nomark _)) (pw_or (pt_cmpR (op_neD hr.units) (pv 7) (pv 8) (nomark _)) (pw_or1 (pt_cmpR (op_neD hr.units) (pe_pr dsteps (hr.mono (by decide)) pass0 (pv 5)) (pv 3) (nomark _))))))
          (pss_one (ps_ret pe_bl))
          pss_nil)
        (pss_one (ps_if (PW.pt (pw_and (pt_cmpR op_eq (pv 6) pe_int (nomark _)) (pw_and1 (pt_cmpR (op_neD hr.units) (pe_dfK (n := 2) dKleast_fix (hr.mono (by decide)) pass0 (pk_cons (pv 7) (pk_cons (pv 5) pk_nil))) (pv 9) (nomark _)))))
          (pss_one (ps_ret pe_bl))
          pss_nil))))))))))))
    (pss_cons (sset 11 (pe_mk dPipeline (hr.mono (by decide)) pass0 (pa_cons (pe_lst (pa_cons (pe_tup (pa_cons pe_str (pa_cons pe_int (pa_cons pe_int (pa_cons pe_int pa_nil))))) (pa_cons (pe_tup (pa_cons pe_str (pa_cons pe_int (pa_cons pe_int (pa_cons pe_int (pa_cons pe_int pa_nil)))))) (pa_cons (pe_tup (pa_cons pe_str (pa_cons pe_int (pa_cons pe_int pa_nil)))) (pa_cons (pe_tup (pa_cons pe_str (pa_cons pe_int (pa_cons pe_int pa_nil)))) pa_nil))))) pa_nil)) sclaw.nd)
    (pss_cons (sset 12 (pe_mk dPipeline (hr.mono (by decide)) pass0 (pa_cons (pe_lst (pa_cons (pe_tup (pa_cons pe_str (pa_cons pe_int (pa_cons pe_int (pa_cons pe_int pa_nil))))) (pa_cons (pe_tup (pa_cons pe_str (pa_cons pe_int (pa_cons pe_int (pa_cons pe_int pa_nil))))) (pa_cons (pe_tup (pa_cons pe_str (pa_cons pe_int (pa_cons pe_int pa_nil)))) pa_nil)))) pa_nil)) sclaw.nd)
    (pss_cons (sset 10 (pe_lst (pa_cons (pe_df dleast_fix (hr.mono (by decide)) pass0 (pa_cons (pv 12) (pa_cons (pe_lst (pa_cons pe_int (pa_cons pe_int pa_nil))) pa_nil))) (pa_cons (pe_df dleast_fix (hr.mono (by decide)) pass0 (pa_cons (pv 11) (pa_cons (pe_lst (pa_cons pe_int pa_nil)) pa_nil))) (pa_cons (pe_df dleast_fix (hr.mono (by decide)) pass0 (pa_cons (pe_mk dPipeline (hr.mono (by decide)) pass0 (pa_cons (pe_lst (pa_cons (pe_tup (pa_cons pe_str (pa_cons pe_int (pa_cons pe_int (pa_cons pe_int pa_nil))))) pa_nil)) pa_nil)) (pa_cons (pe_lst (pa_cons pe_int pa_nil)) pa_nil))) pa_nil)))) sclaw.nd)
    (pss_one (ps_ret (pe_cmpR (op_eqD hr.units) (pv 10) (pe_lst (pa_cons (pe_tup (pa_cons (pe_un un_neg pe_int) (pa_cons pe_int pa_nil))) (pa_cons pe_non (pa_cons (pe_tup (pa_cons pe_int pa_nil)) pa_nil)))) (nomark _))))))))), ?_⟩
  try dsimp only [L2.cxOf, L2.Cx.nox]
  walk_at "gg"
  refine rng hns fun o hb => ?_
  walk_at "gg"
  refine ls_forR (lr_1 ?_)
  walk_at "gg"
  generalize hN : (if (ns.length : Int) < 3 then (ns.length : Int) else 3) = N
  have hN1 : 0 ≤ N ∧ N ≤ 3 := by rw [← hN]; split <;> omega
  refine ⟨by omega, by omega, ?_⟩
  refine ⟨fun t Γ S => ∃ (o' : Own) (x2 x3 x4 x5 x6 x7 x8 x9 x10 x11 x12 : Option Ent), S = [o'] ∧ Rng (200 * t) o' ∧ Γ = [some (.d (.scr ns)), some (.own 0), x2, x3, x4, x5, x6, x7, x8, x9, x10, x11, x12], ⟨o, none, none, none, none, none, none, none, none, none, none, none, rfl, hb, rfl⟩, ?_, ?_⟩
  · rintro t _ _ ht ⟨o', x2, x3, x4, x5, x6, x7, x8, x9, x10, x11, x12, rfl, hb', rfl⟩
    walk_at "gg"
    refine apart _ hb' (by omega) fun ga o1 ok1 sm1 ln1 sp1 cp1 h1 => ?_
    walk_at "gg"
    refine rsteps (m := 6) _ h1 (by omega) (by decide) fun gs0 o2 dg h2 => ?_
    walk_at "gg"
    refine rr_cat (xs := gs0.map Stp.d) (ys := [(Stp.crop 0 0 1).d]) (.inl rfl) (.inl rfl) (by have := dg.len; unfold sizeLine; rw [List.length_map]; show gs0.length + 1 ≤ _; omega) ?_
    walk_at "gg"
    refine apart _ h2 (by omega) fun gb o3 ok3 sm3 ln3 sp3 cp3 h3 => ?_
    walk_at "gg"
    refine draw _ h3 (by omega) (by decide) (by decide) fun d1 o4 a1 a2 h4 => ?_
    have ca : Chs ga := ⟨ok1, sm1, by omega, sp1, ⟨0, cp1⟩⟩
    have cc : Chs gb := ⟨ok3, sm3, by omega, sp3, ⟨0, cp3⟩⟩
    have cb : Chs (gs0 ++ [Stp.crop 0 0 1]) := by
      have hl0 := dg.len
      refine ⟨pipe_app dg.ok (by simp [Stp.ok, Stp.nums]), fun x hx => ?_, by rw [List.length_append]; show gs0.length + 1 ≤ 7; omega, ?_, ⟨gs0.length, ?_⟩⟩
      · simp only [List.mem_append, List.mem_singleton] at hx
        rcases hx with hx | rfl
        · exact dg.small x hx
        · exact ⟨by decide, by decide⟩
      · have e : Sp (gs0 ++ [Stp.crop 0 0 1]) = Sp gs0 * 1 := by unfold Sp; rw [List.foldl_append]; rfl
        rw [e]; have := dg.st; omega
      · unfold isCP; rw [List.getElem?_append_right (Nat.le_refl _), Nat.sub_self]; rfl
    have em : gs0.map Stp.d ++ [(Stp.crop 0 0 1).d] = (gs0 ++ [Stp.crop 0 0 1]).map Stp.d := by rw [List.map_append]; rfl
    walk_at "gg"
    rw [em]
    have hsel : ∃ gs1, Chs gs1 ∧ atI ([sL ga, sL (gs0 ++ [Stp.crop 0 0 1]), sL gb] : List Gm.D) d1 = some (sL gs1) := by
      have : d1 = 0 ∨ d1 = 1 ∨ d1 = 2 := by omega
      rcases this with rfl | rfl | rfl
      · exact ⟨ga, ca, rfl⟩
      · exact ⟨_, cb, rfl⟩
      · exact ⟨gb, cc, rfl⟩
    obtain ⟨gs1, cs1, e1⟩ := hsel
    refine rr_ixL e1 ?_
    walk_at "gg"
    refine le_lcLM (α := Stp) Stp.d (fun x => (clamp17 x).d) ?_
    walk_at "gg"
    refine ⟨by have := cs1.len; unfold sizeLine; omega, fun x acc hx => ?_, ?_⟩
    · refine lcd_yes ?_
      match x with
      | .crop r a b =>
        walk_at "gg"
        refine rr_inStr (as := ["crop", "pad"]) ?_
        refine ⟨_, rfl, fun _ => ?_, fun z => absurd (show true = false from z) (by decide)⟩
        walk_at "gg"
        refine ⟨fun z => absurd z.2 (show ¬ (3 : Nat) = 4 by decide), ?_⟩
        walk_at "gg"
        refine rr_catTE (xs := [.str "crop", .int r, .int a]) (by show 3 + 1 ≤ sizeLine; decide) ?_
        exact ⟨rfl, rfl⟩
      | .pad r a b =>
        walk_at "gg"
        refine rr_inStr (as := ["crop", "pad"]) ?_
        refine ⟨_, rfl, fun _ => ?_, fun z => absurd (show true = false from z) (by decide)⟩
        walk_at "gg"
        refine ⟨fun z => absurd z.2 (show ¬ (3 : Nat) = 4 by decide), ?_⟩
        walk_at "gg"
        refine rr_catTE (xs := [.str "pad", .int r, .int a]) (by show 3 + 1 ≤ sizeLine; decide) ?_
        exact ⟨rfl, rfl⟩
      | .win r l st pd =>
        walk_at "gg"
        refine rr_inStr (as := ["crop", "pad"]) ?_
        refine ⟨_, rfl, fun z => absurd (show false = true from z) (by decide), fun _ => ?_⟩
        walk_at "gg"
        exact ⟨rfl, rfl⟩
      | .rep r ti =>
        walk_at "gg"
        refine rr_inStr (as := ["crop", "pad"]) ?_
        refine ⟨_, rfl, fun z => absurd (show false = true from z) (by decide), fun _ => ?_⟩
        walk_at "gg"
        exact ⟨rfl, rfl⟩
      | .join r ot =>
        walk_at "gg"
        refine rr_inStr (as := ["crop", "pad"]) ?_
        refine ⟨_, rfl, fun z => absurd (show false = true from z) (by decide), fun _ => ?_⟩
        walk_at "gg"
        exact ⟨rfl, rfl⟩
    have em2 : gs1.map (fun x => (clamp17 x).d) = (gs1.map clamp17).map Stp.d := by rw [List.map_map]; rfl
    rw [em2]
    have ok := clamp_pipe cs1.ok
    have sm : ∀ x ∈ gs1.map clamp17, x.small := fun x hx => by
      obtain ⟨y, hy, rfl⟩ := List.mem_map.mp hx
      exact clamp_small (cs1.sm y hy)
    have ln : (gs1.map clamp17).length ≤ 7 := by rw [List.length_map]; exact cs1.len
    have sp : Sp (gs1.map clamp17) ≤ 60 := by rw [clamp_Sp]; exact cs1.sp
    have r27 := clamp_r27 gs1
    have hpn : plN (gs1.map clamp17) (gs1.map clamp17).length ≠ [] := by
      obtain ⟨i, hi⟩ := cs1.cp
      rw [← clamp_isCP] at hi
      exact plN_ne (isCP_lt hi) hi
    generalize gs1.map clamp17 = gs at ok sm ln sp r27 hpn ⊢
    walk_at "gg"
    refine mkP ?_
    walk_at "gg"
    refine ⟨_, gs, rfl, .inl rfl, ok, ?_⟩
    walk_at "gg"
    refine ls_forR (lr_1 ?_)
    walk_at "gg"
    refine ⟨by decide, by decide, ?_⟩
    refine ⟨fun j Γ S => ∃ (oj : Own) (y6 y7 y8 y9 y10 : Option Ent), S = [oj] ∧ Rng (200 * t + 150 + 3 * j) oj ∧ Γ = [some (.d (.scr ns)), some (.own 0), some (.d (.int (0 + t))), some (.d (sL gs)), x4, some (.d (pD U gs)), y6, y7, y8, y9, y10, x11, x12], ⟨o4, _, _, _, _, _, rfl, h4.mono (by omega), rfl⟩, ?_, ?_⟩
    · rintro j _ _ hj ⟨oj, y6, y7, y8, y9, y10, rfl, hoj, rfl⟩
      have hj2 : j < 2 := hj
      walk_at "gg"
      refine drw _ hoj (by omega) (by omega) hpn fun ps o5 hpl h5 => ?_
      walk_at "gg"
      refine rc_list (ds := ps.map D.int) rfl ?_
      walk_at "gg"
      refine due_ ok sm (by omega) sp r27 hpl fun d1 hd1 => ?_
      walk_at "gg"
      refine ⟨_, _, rfl, ?_⟩
      walk_at "gg"
      refine lfix ok sm (by omega) sp r27 hpl fun d2 hd2 => ?_
      obtain rfl := IsDue.uniq hd2 hd1
      walk_at "gg"
      obtain ⟨sr, hsr⟩ := due_repr hpl hd1
      refine hsr w _ _ ?_
      walk_at "gg"
      refine hsr w _ _ ?_
      walk_at "gg"
      refine ⟨fun z => by simp at z, fun _ => ?_⟩
      walk_at "gg"
      refine rr_neZ ?_
      rw [decide_eq_true rfl]
      walk_at "gg"
      refine ⟨fun z => Bool.noConfusion z, fun _ => ?_⟩
      walk_at "gg"
      refine ⟨_, .inl rfl, stepsP ?_⟩
      walk_at "gg"
      refine rr_neD (toP_s gs) (toP_s gs) (shaped_s gs) (shaped_s gs) ?_
      rw [eqv_sL, decide_eq_true rfl]
      walk_at "gg"
      refine ⟨fun z => Bool.noConfusion z, fun _ => ?_⟩
      walk_at "gg"
      obtain ⟨pq, t1, t2, t3⟩ := due_p hpl hd1
      refine ⟨fun hb => ?_, fun hb => ⟨fun z => Bool.noConfusion z, fun _ => ?_⟩⟩
      · walk_at "gg"
        refine ⟨rfl, ?_⟩
        refine lfix ok sm (by omega) sp r27 hpl fun d3 hd3 => ?_
        obtain rfl := IsDue.uniq hd3 hd1
        walk_at "gg"
        refine rr_neD t1 t1 t2 t2 ?_
        rw [t3]
        walk_at "gg"
        refine ⟨fun z => Bool.noConfusion z, fun _ => ?_⟩
        walk_at "gg"
        exact ⟨o5, _, _, _, _, _, rfl, h5.mono (by omega), rfl⟩
      · walk_at "gg"
        exact ⟨o5, _, _, _, _, _, rfl, h5.mono (by omega), rfl⟩
    · rintro _ _ ⟨oj, y6, y7, y8, y9, y10, rfl, hoj, rfl⟩
      walk_at "gg"
      exact ⟨oj, _, _, _, _, _, _, _, _, _, _, _, rfl, hoj.mono (by omega), rfl⟩
  · rintro _ _ ⟨o', x2, x3, x4, x5, x6, x7, x8, x9, x10, x11, x12, rfl, hb', rfl⟩
    walk_at "gg"
    refine mkP ?_
    walk_at "gg"
    refine ⟨_, gEven, rfl, .inl rfl, pipe_of (by decide), ?_⟩
    walk_at "gg"
    refine mkP ?_
    walk_at "gg"
    refine ⟨_, gCrops, rfl, .inl rfl, pipe_of (by decide), ?_⟩
    walk_at "gg"
    have pc : PlcOk gCrops [0, 1] := ⟨by decide, by decide, by simp, fun q hq => by
      simp only [List.mem_cons, List.not_mem_nil, or_false] at hq
      rcases hq with rfl | rfl
      · exact ⟨by decide, _, _, rfl, rfl⟩
      · exact ⟨by decide, _, _, rfl, rfl⟩⟩
    have pe : PlcOk gEven [0] := ⟨by decide, by decide, by simp, fun q hq => by
      rw [List.mem_singleton.mp hq]
      exact ⟨by decide, _, _, rfl, rfl⟩⟩
    have pp : PlcOk gPad [0] := ⟨by decide, by decide, by simp, fun q hq => by
      rw [List.mem_singleton.mp hq]
      exact ⟨by decide, _, _, rfl, rfl⟩⟩
    refine lfix (gs := gCrops) (ps := [0, 1]) (pipe_of (by decide)) ?_ (by decide) (by decide) ?_ pc fun d1 hd1 => ?_
    · intro x hx; simp at hx; rcases hx with rfl | rfl | rfl <;> simp [Stp.small]
    · intro x hx b hb; simp at hx; rcases hx with rfl | rfl | rfl <;> cases hb <;> decide
    obtain rfl := IsDue.uniq hd1 due_crops
    walk_at "gg"
    refine lfix (gs := gEven) (ps := [0]) (pipe_of (by decide)) ?_ (by decide) (by decide) ?_ pe fun d2 hd2 => ?_
    · intro x hx; simp at hx; rcases hx with rfl | rfl | rfl | rfl <;> simp [Stp.small]
    · intro x hx b hb; simp at hx; rcases hx with rfl | rfl | rfl | rfl <;> cases hb <;> decide
    obtain rfl := IsDue.uniq hd2 due_even
    walk_at "gg"
    refine mkP ?_
    walk_at "gg"
    refine ⟨_, gPad, rfl, .inl rfl, pipe_of (by decide), ?_⟩
    walk_at "gg"
    refine lfix (gs := gPad) (ps := [0]) (pipe_of (by decide)) ?_ (by decide) (by decide) ?_ pp fun d3 hd3 => ?_
    · intro x hx; simp at hx; subst hx; simp [Stp.small]
    · intro x hx b hb; simp at hx; subst hx; cases hb; decide
    obtain rfl := IsDue.uniq hd3 due_pad
    walk_at "gg"
    refine rr_eqD (d := .list [.tuple [.int (-1), .int 0], .none, .tuple [.int 0]]) (e := .list [.tuple [.int (-1), .int 0], .none, .tuple [.int 0]]) rfl rfl (by decide) (by decide) ?_
    walk_at "gg"
    exact hp _ _ rfl
end

section
theorem all_mk {l : PySem.W.OpenLaw} {w : World} {K : PySem.W.Frag} {h : Heap} {mg : Str → Option Value} {fa DI f1 f2 f3 f4 f5 f6 f7 f8 f9 f10 f11 f12 f13 f14 f15 f16 f17 f18 f19 f20 f21 f22 f23 f24 f25 f26 f27 f28 f29 f30 f31 f32 f33 f34 f35 f36 f37 f38 C f39 f40 pLinerise f41 f42 f43 f44 U pPipelinesteps f45 f46 : Addr} (X : K.In h) (G : h.Ns mainGlobals mg) (hfa : mg "law" = some (.ref fa))
    {es : Array DictEntry} {ne : Nat} {t1 t2 t3 t4 t5 : Tok}
    {taFAR : Tok}
    {od1 an1 : Option Addr} {sl1 : Array (Option Value)} {oc1 kV1 dc1 pm1 cd1 ct1 : Value}
    {od2 an2 : Option Addr} {sl2 : Array (Option Value)} {oc2 kV2 dc2 pm2 cd2 ct2 : Value}
    {od3 an3 : Option Addr} {sl3 : Array (Option Value)} {oc3 kV3 dc3 pm3 cd3 ct3 : Value}
    {od4 an4 : Option Addr} {sl4 : Array (Option Value)} {oc4 kV4 dc4 pm4 cd4 ct4 : Value}
    {od5 an5 : Option Addr} {sl5 : Array (Option Value)} {oc5 kV5 dc5 pm5 cd5 ct5 : Value}
    {od6 an6 : Option Addr} {sl6 : Array (Option Value)} {oc6 kV6 dc6 pm6 cd6 ct6 : Value}
    {od7 an7 : Option Addr} {sl7 : Array (Option Value)} {oc7 kV7 dc7 pm7 cd7 ct7 : Value}
    {od8 an8 : Option Addr} {sl8 : Array (Option Value)} {oc8 kV8 dc8 pm8 cd8 ct8 : Value}
    {od9 an9 : Option Addr} {sl9 : Array (Option Value)} {oc9 kV9 dc9 pm9 cd9 ct9 : Value}
    {od10 an10 : Option Addr} {sl10 : Array (Option Value)} {oc10 kV10 dc10 pm10 cd10 ct10 : Value}
    {od11 an11 : Option Addr} {sl11 : Array (Option Value)} {oc11 kV11 dc11 pm11 cd11 ct11 : Value}
    {od12 an12 : Option Addr} {sl12 : Array (Option Value)} {oc12 kV12 dc12 pm12 cd12 ct12 : Value}
    {od13 an13 : Option Addr} {sl13 : Array (Option Value)} {oc13 kV13 dc13 pm13 cd13 ct13 : Value}
    {od14 an14 : Option Addr} {sl14 : Array (Option Value)} {oc14 kV14 dc14 pm14 cd14 ct14 : Value}
    {od15 an15 : Option Addr} {sl15 : Array (Option Value)} {oc15 kV15 dc15 pm15 cd15 ct15 : Value}
    {od16 an16 : Option Addr} {sl16 : Array (Option Value)} {oc16 kV16 dc16 pm16 cd16 ct16 : Value}
    {od17 an17 : Option Addr} {sl17 : Array (Option Value)} {oc17 kV17 dc17 pm17 cd17 ct17 : Value}
    {od18 an18 : Option Addr} {sl18 : Array (Option Value)} {oc18 kV18 dc18 pm18 cd18 ct18 : Value}
    {od19 an19 : Option Addr} {sl19 : Array (Option Value)} {oc19 kV19 dc19 pm19 cd19 ct19 : Value}
    {od20 an20 : Option Addr} {sl20 : Array (Option Value)} {oc20 kV20 dc20 pm20 cd20 ct20 : Value}
    {od21 an21 : Option Addr} {sl21 : Array (Option Value)} {oc21 kV21 dc21 pm21 cd21 ct21 : Value}
    {od22 an22 : Option Addr} {sl22 : Array (Option Value)} {oc22 kV22 dc22 pm22 cd22 ct22 : Value}
    {od23 an23 : Option Addr} {sl23 : Array (Option Value)} {oc23 kV23 dc23 pm23 cd23 ct23 : Value}
    {od24 an24 : Option Addr} {sl24 : Array (Option Value)} {oc24 kV24 dc24 pm24 cd24 ct24 : Value}
    {od25 an25 : Option Addr} {sl25 : Array (Option Value)} {oc25 kV25 dc25 pm25 cd25 ct25 : Value}
    {od26 an26 : Option Addr} {sl26 : Array (Option Value)} {oc26 kV26 dc26 pm26 cd26 ct26 : Value}
    {od27 an27 : Option Addr} {sl27 : Array (Option Value)} {oc27 kV27 dc27 pm27 cd27 ct27 : Value}
    {od28 an28 : Option Addr} {sl28 : Array (Option Value)} {oc28 kV28 dc28 pm28 cd28 ct28 : Value}
    {od29 an29 : Option Addr} {sl29 : Array (Option Value)} {oc29 kV29 dc29 pm29 cd29 ct29 : Value}
    {od30 an30 : Option Addr} {sl30 : Array (Option Value)} {oc30 kV30 dc30 pm30 cd30 ct30 : Value}
    {od31 an31 : Option Addr} {sl31 : Array (Option Value)} {oc31 kV31 dc31 pm31 cd31 ct31 : Value}
    {od32 an32 : Option Addr} {sl32 : Array (Option Value)} {oc32 kV32 dc32 pm32 cd32 ct32 : Value}
    {od33 an33 : Option Addr} {sl33 : Array (Option Value)} {oc33 kV33 dc33 pm33 cd33 ct33 : Value}
    {od34 an34 : Option Addr} {sl34 : Array (Option Value)} {oc34 kV34 dc34 pm34 cd34 ct34 : Value}
    {od35 an35 : Option Addr} {sl35 : Array (Option Value)} {oc35 kV35 dc35 pm35 cd35 ct35 : Value}
    {od36 an36 : Option Addr} {sl36 : Array (Option Value)} {oc36 kV36 dc36 pm36 cd36 ct36 : Value}
    {od37 an37 : Option Addr} {sl37 : Array (Option Value)} {oc37 kV37 dc37 pm37 cd37 ct37 : Value}
    {od38 an38 : Option Addr} {sl38 : Array (Option Value)} {oc38 kV38 dc38 pm38 cd38 ct38 : Value}
    {od39 an39 : Option Addr} {sl39 : Array (Option Value)} {oc39 kV39 dc39 pm39 cd39 ct39 : Value}
    {od40 an40 : Option Addr} {sl40 : Array (Option Value)} {oc40 kV40 dc40 pm40 cd40 ct40 : Value}
    {rsLinerise : List Value}
    {od41 an41 : Option Addr} {sl41 : Array (Option Value)} {oc41 kV41 dc41 pm41 cd41 ct41 : Value}
    {od42 an42 : Option Addr} {sl42 : Array (Option Value)} {oc42 kV42 dc42 pm42 cd42 ct42 : Value}
    {od43 an43 : Option Addr} {sl43 : Array (Option Value)} {oc43 kV43 dc43 pm43 cd43 ct43 : Value}
    {od44 an44 : Option Addr} {sl44 : Array (Option Value)} {oc44 kV44 dc44 pm44 cd44 ct44 : Value}
    {rsPipelinesteps : List Value}
    {od45 an45 : Option Addr} {sl45 : Array (Option Value)} {oc45 kV45 dc45 pm45 cd45 ct45 : Value}
    {od46 an46 : Option Addr} {sl46 : Array (Option Value)} {oc46 kV46 dc46 pm46 cd46 ct46 : Value}
    (a1 : PySem.W.nsIn K mainGlobals "_law_rng" = some (some (.ref f1)))
    (l1 : K.lookup f1 = some ⟨oc1, od1, .func (PySem.W.fnOf "_law_rng" "_law_rng" (defArgs s_law_rng) (defBody s_law_rng) (defScope s_law_rng) .none kV1 dc1 pm1 an1 cd1 ct1), sl1⟩)
    (c1 : PySem.W.codeIn K cd1 "_law_rng" = true)
    (k1 : PySem.W.keepIn K (.ref f1) = true)
    (a2 : PySem.W.nsIn K mainGlobals "_law_draw" = some (some (.ref f2)))
    (l2 : K.lookup f2 = some ⟨oc2, od2, .func (PySem.W.fnOf "_law_draw" "_law_draw" (defArgs s_law_draw) (defBody s_law_draw) (defScope s_law_draw) .none kV2 dc2 pm2 an2 cd2 ct2), sl2⟩)
    (c2 : PySem.W.codeIn K cd2 "_law_draw" = true)
    (k2 : PySem.W.keepIn K (.ref f2) = true)
    (a3 : PySem.W.nsIn K mainGlobals "_law_window" = some (some (.ref f3)))
    (l3 : K.lookup f3 = some ⟨oc3, od3, .func (PySem.W.fnOf "_law_window" "_law_window" (defArgs s_law_window) (defBody s_law_window) (defScope s_law_window) .none kV3 dc3 pm3 an3 cd3 ct3), sl3⟩)
    (c3 : PySem.W.codeIn K cd3 "_law_window" = true)
    (k3 : PySem.W.keepIn K (.ref f3) = true)
    (a4 : PySem.W.nsIn K mainGlobals "_law_level" = some (some (.ref f4)))
    (l4 : K.lookup f4 = some ⟨oc4, od4, .func (PySem.W.fnOf "_law_level" "_law_level" (defArgs s_law_level) (defBody s_law_level) (defScope s_law_level) .none kV4 dc4 pm4 an4 cd4 ct4), sl4⟩)
    (c4 : PySem.W.codeIn K cd4 "_law_level" = true)
    (k4 : PySem.W.keepIn K (.ref f4) = true)
    (a5 : PySem.W.nsIn K mainGlobals "_law_steps" = some (some (.ref f5)))
    (l5 : K.lookup f5 = some ⟨oc5, od5, .func (PySem.W.fnOf "_law_steps" "_law_steps" (defArgs s_law_steps) (defBody s_law_steps) (defScope s_law_steps) .none kV5 dc5 pm5 an5 cd5 ct5), sl5⟩)
    (c5 : PySem.W.codeIn K cd5 "_law_steps" = true)
    (k5 : PySem.W.keepIn K (.ref f5) = true)
    (a6 : PySem.W.nsIn K mainGlobals "_law_apart" = some (some (.ref f6)))
    (l6 : K.lookup f6 = some ⟨oc6, od6, .func (PySem.W.fnOf "_law_apart" "_law_apart" (defArgs s_law_apart) (defBody s_law_apart) (defScope s_law_apart) .none kV6 dc6 pm6 an6 cd6 ct6), sl6⟩)
    (c6 : PySem.W.codeIn K cd6 "_law_apart" = true)
    (k6 : PySem.W.keepIn K (.ref f6) = true)
    (a7 : PySem.W.nsIn K mainGlobals "_law_changed" = some (some (.ref f7)))
    (l7 : K.lookup f7 = some ⟨oc7, od7, .func (PySem.W.fnOf "_law_changed" "_law_changed" (defArgs s_law_changed) (defBody s_law_changed) (defScope s_law_changed) .none kV7 dc7 pm7 an7 cd7 ct7), sl7⟩)
    (c7 : PySem.W.codeIn K cd7 "_law_changed" = true)
    (k7 : PySem.W.keepIn K (.ref f7) = true)
    (a8 : PySem.W.nsIn K mainGlobals "cells_made" = some (some (.ref f8)))
    (l8 : K.lookup f8 = some ⟨oc8, od8, .func (PySem.W.fnOf "cells_made" "cells_made" (defArgs scells_made) (defBody scells_made) (defScope scells_made) .none kV8 dc8 pm8 an8 cd8 ct8), sl8⟩)
    (c8 : PySem.W.codeIn K cd8 "cells_made" = true)
    (k8 : PySem.W.keepIn K (.ref f8) = true)
    (a9 : PySem.W.nsIn K mainGlobals "check_line" = some (some (.ref f9)))
    (l9 : K.lookup f9 = some ⟨oc9, od9, .func (PySem.W.fnOf "check_line" "check_line" (defArgs scheck_line) (defBody scheck_line) (defScope scheck_line) .none kV9 dc9 pm9 an9 cd9 ct9), sl9⟩)
    (c9 : PySem.W.codeIn K cd9 "check_line" = true)
    (k9 : PySem.W.keepIn K (.ref f9) = true)
    (a10 : PySem.W.nsIn K mainGlobals "is_period" = some (some (.ref f10)))
    (l10 : K.lookup f10 = some ⟨oc10, od10, .func (PySem.W.fnOf "is_period" "is_period" (defArgs sis_period) (defBody sis_period) (defScope sis_period) .none kV10 dc10 pm10 an10 cd10 ct10), sl10⟩)
    (c10 : PySem.W.codeIn K cd10 "is_period" = true)
    (k10 : PySem.W.keepIn K (.ref f10) = true)
    (a11 : PySem.W.nsIn K mainGlobals "least_period" = some (some (.ref f11)))
    (l11 : K.lookup f11 = some ⟨oc11, od11, .func (PySem.W.fnOf "least_period" "least_period" (defArgs sleast_period) (defBody sleast_period) (defScope sleast_period) .none kV11 dc11 pm11 an11 cd11 ct11), sl11⟩)
    (c11 : PySem.W.codeIn K cd11 "least_period" = true)
    (k11 : PySem.W.keepIn K (.ref f11) = true)
    (a12 : PySem.W.nsIn K mainGlobals "step_line" = some (some (.ref f12)))
    (l12 : K.lookup f12 = some ⟨oc12, od12, .func (PySem.W.fnOf "step_line" "step_line" (defArgs sstep_line) (defBody sstep_line) (defScope sstep_line) .none kV12 dc12 pm12 an12 cd12 ct12), sl12⟩)
    (c12 : PySem.W.codeIn K cd12 "step_line" = true)
    (k12 : PySem.W.keepIn K (.ref f12) = true)
    (a13 : PySem.W.nsIn K mainGlobals "row_lines" = some (some (.ref f13)))
    (l13 : K.lookup f13 = some ⟨oc13, od13, .func (PySem.W.fnOf "row_lines" "row_lines" (defArgs srow_lines) (defBody srow_lines) (defScope srow_lines) .none kV13 dc13 pm13 an13 cd13 ct13), sl13⟩)
    (c13 : PySem.W.codeIn K cd13 "row_lines" = true)
    (k13 : PySem.W.keepIn K (.ref f13) = true)
    (a14 : PySem.W.nsIn K mainGlobals "joined_lines" = some (some (.ref f14)))
    (l14 : K.lookup f14 = some ⟨oc14, od14, .func (PySem.W.fnOf "joined_lines" "joined_lines" (defArgs sjoined_lines) (defBody sjoined_lines) (defScope sjoined_lines) .none kV14 dc14 pm14 an14 cd14 ct14), sl14⟩)
    (c14 : PySem.W.codeIn K cd14 "joined_lines" = true)
    (k14 : PySem.W.keepIn K (.ref f14) = true)
    (a15 : PySem.W.nsIn K mainGlobals "first_at_least" = some (some (.ref f15)))
    (l15 : K.lookup f15 = some ⟨oc15, od15, .func (PySem.W.fnOf "first_at_least" "first_at_least" (defArgs sfirst_at_least) (defBody sfirst_at_least) (defScope sfirst_at_least) .none kV15 dc15 pm15 an15 cd15 ct15), sl15⟩)
    (c15 : PySem.W.codeIn K cd15 "first_at_least" = true)
    (k15 : PySem.W.keepIn K (.ref f15) = true)
    (a16 : PySem.W.nsIn K mainGlobals "rise_alike" = some (some (.ref f16)))
    (l16 : K.lookup f16 = some ⟨oc16, od16, .func (PySem.W.fnOf "rise_alike" "rise_alike" (defArgs srise_alike) (defBody srise_alike) (defScope srise_alike) .none kV16 dc16 pm16 an16 cd16 ct16), sl16⟩)
    (c16 : PySem.W.codeIn K cd16 "rise_alike" = true)
    (k16 : PySem.W.keepIn K (.ref f16) = true)
    (a17 : PySem.W.nsIn K mainGlobals "lead_at" = some (some (.ref f17)))
    (l17 : K.lookup f17 = some ⟨oc17, od17, .func (PySem.W.fnOf "lead_at" "lead_at" (defArgs slead_at) (defBody slead_at) (defScope slead_at) .none kV17 dc17 pm17 an17 cd17 ct17), sl17⟩)
    (c17 : PySem.W.codeIn K cd17 "lead_at" = true)
    (k17 : PySem.W.keepIn K (.ref f17) = true)
    (a18 : PySem.W.nsIn K mainGlobals "all_meetings" = some (some (.ref f18)))
    (l18 : K.lookup f18 = some ⟨oc18, od18, .func (PySem.W.fnOf "all_meetings" "all_meetings" (defArgs sall_meetings) (defBody sall_meetings) (defScope sall_meetings) .none kV18 dc18 pm18 an18 cd18 ct18), sl18⟩)
    (c18 : PySem.W.codeIn K cd18 "all_meetings" = true)
    (k18 : PySem.W.keepIn K (.ref f18) = true)
    (a19 : PySem.W.nsIn K mainGlobals "are_equal_at" = some (some (.ref f19)))
    (l19 : K.lookup f19 = some ⟨oc19, od19, .func (PySem.W.fnOf "are_equal_at" "are_equal_at" (defArgs sare_equal_at) (defBody sare_equal_at) (defScope sare_equal_at) .none kV19 dc19 pm19 an19 cd19 ct19), sl19⟩)
    (c19 : PySem.W.codeIn K cd19 "are_equal_at" = true)
    (k19 : PySem.W.keepIn K (.ref f19) = true)
    (a20 : PySem.W.nsIn K mainGlobals "remainders" = some (some (.ref f20)))
    (l20 : K.lookup f20 = some ⟨oc20, od20, .func (PySem.W.fnOf "remainders" "remainders" (defArgs sremainders) (defBody sremainders) (defScope sremainders) .none kV20 dc20 pm20 an20 cd20 ct20), sl20⟩)
    (c20 : PySem.W.codeIn K cd20 "remainders" = true)
    (k20 : PySem.W.keepIn K (.ref f20) = true)
    (a21 : PySem.W.nsIn K mainGlobals "shortest_period" = some (some (.ref f21)))
    (l21 : K.lookup f21 = some ⟨oc21, od21, .func (PySem.W.fnOf "shortest_period" "shortest_period" (defArgs sshortest_period) (defBody sshortest_period) (defScope sshortest_period) .none kV21 dc21 pm21 an21 cd21 ct21), sl21⟩)
    (c21 : PySem.W.codeIn K cd21 "shortest_period" = true)
    (k21 : PySem.W.keepIn K (.ref f21) = true)
    (a22 : PySem.W.nsIn K mainGlobals "form_of_classes" = some (some (.ref f22)))
    (l22 : K.lookup f22 = some ⟨oc22, od22, .func (PySem.W.fnOf "form_of_classes" "form_of_classes" (defArgs sform_of_classes) (defBody sform_of_classes) (defScope sform_of_classes) .none kV22 dc22 pm22 an22 cd22 ct22), sl22⟩)
    (c22 : PySem.W.codeIn K cd22 "form_of_classes" = true)
    (k22 : PySem.W.keepIn K (.ref f22) = true)
    (a23 : PySem.W.nsIn K mainGlobals "form_where" = some (some (.ref f23)))
    (l23 : K.lookup f23 = some ⟨oc23, od23, .func (PySem.W.fnOf "form_where" "form_where" (defArgs sform_where) (defBody sform_where) (defScope sform_where) .none kV23 dc23 pm23 an23 cd23 ct23), sl23⟩)
    (c23 : PySem.W.codeIn K cd23 "form_where" = true)
    (k23 : PySem.W.keepIn K (.ref f23) = true)
    (a24 : PySem.W.nsIn K mainGlobals "fitting_sizes" = some (some (.ref f24)))
    (l24 : K.lookup f24 = some ⟨oc24, od24, .func (PySem.W.fnOf "fitting_sizes" "fitting_sizes" (defArgs sfitting_sizes) (defBody sfitting_sizes) (defScope sfitting_sizes) .none kV24 dc24 pm24 an24 cd24 ct24), sl24⟩)
    (c24 : PySem.W.codeIn K cd24 "fitting_sizes" = true)
    (k24 : PySem.W.keepIn K (.ref f24) = true)
    (a25 : PySem.W.nsIn K mainGlobals "has_word" = some (some (.ref f25)))
    (l25 : K.lookup f25 = some ⟨oc25, od25, .func (PySem.W.fnOf "has_word" "has_word" (defArgs shas_word) (defBody shas_word) (defScope shas_word) .none kV25 dc25 pm25 an25 cd25 ct25), sl25⟩)
    (c25 : PySem.W.codeIn K cd25 "has_word" = true)
    (k25 : PySem.W.keepIn K (.ref f25) = true)
    (a26 : PySem.W.nsIn K mainGlobals "check_places" = some (some (.ref f26)))
    (l26 : K.lookup f26 = some ⟨oc26, od26, .func (PySem.W.fnOf "check_places" "check_places" (defArgs scheck_places) (defBody scheck_places) (defScope scheck_places) .none kV26 dc26 pm26 an26 cd26 ct26), sl26⟩)
    (c26 : PySem.W.codeIn K cd26 "check_places" = true)
    (k26 : PySem.W.keepIn K (.ref f26) = true)
    (a27 : PySem.W.nsIn K mainGlobals "named_rows" = some (some (.ref f27)))
    (l27 : K.lookup f27 = some ⟨oc27, od27, .func (PySem.W.fnOf "named_rows" "named_rows" (defArgs snamed_rows) (defBody snamed_rows) (defScope snamed_rows) .none kV27 dc27 pm27 an27 cd27 ct27), sl27⟩)
    (c27 : PySem.W.codeIn K cd27 "named_rows" = true)
    (k27 : PySem.W.keepIn K (.ref f27) = true)
    (a28 : PySem.W.nsIn K mainGlobals "has_right_numbers" = some (some (.ref f28)))
    (l28 : K.lookup f28 = some ⟨oc28, od28, .func (PySem.W.fnOf "has_right_numbers" "has_right_numbers" (defArgs shas_right_numbers) (defBody shas_right_numbers) (defScope shas_right_numbers) .none kV28 dc28 pm28 an28 cd28 ct28), sl28⟩)
    (c28 : PySem.W.codeIn K cd28 "has_right_numbers" = true)
    (k28 : PySem.W.keepIn K (.ref f28) = true)
    (a29 : PySem.W.nsIn K mainGlobals "is_step" = some (some (.ref f29)))
    (l29 : K.lookup f29 = some ⟨oc29, od29, .func (PySem.W.fnOf "is_step" "is_step" (defArgs sis_step) (defBody sis_step) (defScope sis_step) .none kV29 dc29 pm29 an29 cd29 ct29), sl29⟩)
    (c29 : PySem.W.codeIn K cd29 "is_step" = true)
    (k29 : PySem.W.keepIn K (.ref f29) = true)
    (a30 : PySem.W.nsIn K mainGlobals "is_right" = some (some (.ref f30)))
    (l30 : K.lookup f30 = some ⟨oc30, od30, .func (PySem.W.fnOf "is_right" "is_right" (defArgs sis_right) (defBody sis_right) (defScope sis_right) .none kV30 dc30 pm30 an30 cd30 ct30), sl30⟩)
    (c30 : PySem.W.codeIn K cd30 "is_right" = true)
    (k30 : PySem.W.keepIn K (.ref f30) = true)
    (a31 : PySem.W.nsIn K mainGlobals "changed" = some (some (.ref f31)))
    (l31 : K.lookup f31 = some ⟨oc31, od31, .func (PySem.W.fnOf "changed" "changed" (defArgs schanged) (defBody schanged) (defScope schanged) .none kV31 dc31 pm31 an31 cd31 ct31), sl31⟩)
    (c31 : PySem.W.codeIn K cd31 "changed" = true)
    (k31 : PySem.W.keepIn K (.ref f31) = true)
    (a32 : PySem.W.nsIn K mainGlobals "with_changes" = some (some (.ref f32)))
    (l32 : K.lookup f32 = some ⟨oc32, od32, .func (PySem.W.fnOf "with_changes" "with_changes" (defArgs swith_changes) (defBody swith_changes) (defScope swith_changes) .none kV32 dc32 pm32 an32 cd32 ct32), sl32⟩)
    (c32 : PySem.W.codeIn K cd32 "with_changes" = true)
    (k32 : PySem.W.keepIn K (.ref f32) = true)
    (a33 : PySem.W.nsIn K mainGlobals "_law_due" = some (some (.ref f33)))
    (l33 : K.lookup f33 = some ⟨oc33, od33, .func (PySem.W.fnOf "_law_due" "_law_due" (defArgs s_law_due) (defBody s_law_due) (defScope s_law_due) .none kV33 dc33 pm33 an33 cd33 ct33), sl33⟩)
    (c33 : PySem.W.codeIn K cd33 "_law_due" = true)
    (k33 : PySem.W.keepIn K (.ref f33) = true)
    (a34 : PySem.W.nsIn K mainGlobals "_law_places" = some (some (.ref f34)))
    (l34 : K.lookup f34 = some ⟨oc34, od34, .func (PySem.W.fnOf "_law_places" "_law_places" (defArgs s_law_places) (defBody s_law_places) (defScope s_law_places) .none kV34 dc34 pm34 an34 cd34 ct34), sl34⟩)
    (c34 : PySem.W.codeIn K cd34 "_law_places" = true)
    (k34 : PySem.W.keepIn K (.ref f34) = true)
    (a35 : PySem.W.nsIn K mainGlobals "_law_drawn_places" = some (some (.ref f35)))
    (l35 : K.lookup f35 = some ⟨oc35, od35, .func (PySem.W.fnOf "_law_drawn_places" "_law_drawn_places" (defArgs s_law_drawn_places) (defBody s_law_drawn_places) (defScope s_law_drawn_places) .none kV35 dc35 pm35 an35 cd35 ct35), sl35⟩)
    (c35 : PySem.W.codeIn K cd35 "_law_drawn_places" = true)
    (k35 : PySem.W.keepIn K (.ref f35) = true)
    (a36 : PySem.W.nsIn K mainGlobals "possible_changes" = some (some (.ref f36)))
    (l36 : K.lookup f36 = some ⟨oc36, od36, .func (PySem.W.fnOf "possible_changes" "possible_changes" (defArgs spossible_changes) (defBody spossible_changes) (defScope spossible_changes) .none kV36 dc36 pm36 an36 cd36 ct36), sl36⟩)
    (c36 : PySem.W.codeIn K cd36 "possible_changes" = true)
    (k36 : PySem.W.keepIn K (.ref f36) = true)
    (a37 : PySem.W.nsIn K mainGlobals "least_fix" = some (some (.ref f37)))
    (l37 : K.lookup f37 = some ⟨oc37, od37, .func (PySem.W.fnOf "least_fix" "least_fix" (defArgs sleast_fix) (defBody sleast_fix) (defScope sleast_fix) .none kV37 dc37 pm37 an37 cd37 ct37), sl37⟩)
    (c37 : PySem.W.codeIn K cd37 "least_fix" = true)
    (k37 : PySem.W.keepIn K (.ref f37) = true)
    (a38 : PySem.W.nsIn K mainGlobals "law" = some (some (.ref f38)))
    (l38 : K.lookup f38 = some ⟨oc38, od38, .func (PySem.W.fnOf "law" "law" (defArgs slaw) (defBody slaw) (defScope slaw) .none kV38 dc38 pm38 an38 cd38 ct38), sl38⟩)
    (c38 : PySem.W.codeIn K cd38 "law" = true)
    (k38 : PySem.W.keepIn K (.ref f38) = true)
    (aC : PySem.W.nsIn K mainGlobals "Line" = some (some (.ref C)))
    (pgC : PySem.W.plainGet K C Str.empty = true)
    (hdC : PySem.W.hasDictIn K C = true)
    (poC : PySem.W.plainOver K C = true)
    (saC : PySem.W.findIn K (.ref C) "__setattr__" = some (some (.builtin "object.__setattr__")))
    (mkC : PySem.W.makesIn K C = true)
    (kcC : PySem.W.keepIn K (.ref C) = true)
    (nC_starts : PySem.W.findIn K (.ref C) "_starts" = some none)
    (nC_rise : PySem.W.findIn K (.ref C) "_rise" = some none)
    (a39 : PySem.W.findIn K (.ref C) "__init__" = some (some (.ref f39)))
    (l39 : K.lookup f39 = some ⟨oc39, od39, .func (PySem.W.fnOf "__init__" "Line.__init__" (defArgs sLineinit) (defBody sLineinit) (defScope sLineinit) .none kV39 dc39 pm39 an39 cd39 ct39), sl39⟩)
    (c39 : PySem.W.codeIn K cd39 "Line.__init__" = true)
    (k39 : PySem.W.keepIn K (.ref f39) = true)
    (i39 : PySem.W.isFn K (.ref f39) = true)
    (a40 : PySem.W.findIn K (.ref C) "__len__" = some (some (.ref f40)))
    (l40 : K.lookup f40 = some ⟨oc40, od40, .func (PySem.W.fnOf "__len__" "Line.__len__" (defArgs sLinelen) (defBody sLinelen) (defScope sLinelen) .none kV40 dc40 pm40 an40 cd40 ct40), sl40⟩)
    (c40 : PySem.W.codeIn K cd40 "Line.__len__" = true)
    (k40 : PySem.W.keepIn K (.ref f40) = true)
    (i40 : PySem.W.isFn K (.ref f40) = true)
    (atLinerise : PySem.W.findIn K (.ref C) "rise" = some (some (.ref pLinerise)))
    (gtLinerise : PySem.W.specialIn K (.ref pLinerise) "__get__" = some (some (.builtin "property.__get__")))
    (tkLinerise : PySem.W.takesIn K (.ref pLinerise) = some true)
    (a41 : PySem.W.recIn K pLinerise "property" = some (.ref f41 :: rsLinerise))
    (l41 : K.lookup f41 = some ⟨oc41, od41, .func (PySem.W.fnOf "rise" "Line.rise" (defArgs sLinerise) (defBody sLinerise) (defScope sLinerise) .none kV41 dc41 pm41 an41 cd41 ct41), sl41⟩)
    (c41 : PySem.W.codeIn K cd41 "Line.rise" = true)
    (k41 : PySem.W.keepIn K (.ref f41) = true)
    (a42 : PySem.W.findIn K (.ref C) "at" = some (some (.ref f42)))
    (l42 : K.lookup f42 = some ⟨oc42, od42, .func (PySem.W.fnOf "at" "Line.at" (defArgs sLineat) (defBody sLineat) (defScope sLineat) .none kV42 dc42 pm42 an42 cd42 ct42), sl42⟩)
    (c42 : PySem.W.codeIn K cd42 "Line.at" = true)
    (k42 : PySem.W.keepIn K (.ref f42) = true)
    (i42 : PySem.W.isFn K (.ref f42) = true)
    (a43 : PySem.W.findIn K (.ref C) "after" = some (some (.ref f43)))
    (l43 : K.lookup f43 = some ⟨oc43, od43, .func (PySem.W.fnOf "after" "Line.after" (defArgs sLineafter) (defBody sLineafter) (defScope sLineafter) .none kV43 dc43 pm43 an43 cd43 ct43), sl43⟩)
    (c43 : PySem.W.codeIn K cd43 "Line.after" = true)
    (k43 : PySem.W.keepIn K (.ref f43) = true)
    (i43 : PySem.W.isFn K (.ref f43) = true)
    (a44 : PySem.W.findIn K (.ref C) "least_at" = some (some (.ref f44)))
    (l44 : K.lookup f44 = some ⟨oc44, od44, .func (PySem.W.fnOf "least_at" "Line.least_at" (defArgs sLineleast_at) (defBody sLineleast_at) (defScope sLineleast_at) .none kV44 dc44 pm44 an44 cd44 ct44), sl44⟩)
    (c44 : PySem.W.codeIn K cd44 "Line.least_at" = true)
    (k44 : PySem.W.keepIn K (.ref f44) = true)
    (i44 : PySem.W.isFn K (.ref f44) = true)
    (aU : PySem.W.nsIn K mainGlobals "Pipeline" = some (some (.ref U)))
    (pgU : PySem.W.plainGet K U Str.empty = true)
    (hdU : PySem.W.hasDictIn K U = true)
    (poU : PySem.W.plainOver K U = true)
    (saU : PySem.W.findIn K (.ref U) "__setattr__" = some (some (.builtin "object.__setattr__")))
    (mkU : PySem.W.makesIn K U = true)
    (kcU : PySem.W.keepIn K (.ref U) = true)
    (nU_steps : PySem.W.findIn K (.ref U) "_steps" = some none)
    (atPipelinesteps : PySem.W.findIn K (.ref U) "steps" = some (some (.ref pPipelinesteps)))
    (gtPipelinesteps : PySem.W.specialIn K (.ref pPipelinesteps) "__get__" = some (some (.builtin "property.__get__")))
    (tkPipelinesteps : PySem.W.takesIn K (.ref pPipelinesteps) = some true)
    (a45 : PySem.W.recIn K pPipelinesteps "property" = some (.ref f45 :: rsPipelinesteps))
    (l45 : K.lookup f45 = some ⟨oc45, od45, .func (PySem.W.fnOf "steps" "Pipeline.steps" (defArgs sPipelinesteps) (defBody sPipelinesteps) (defScope sPipelinesteps) .none kV45 dc45 pm45 an45 cd45 ct45), sl45⟩)
    (c45 : PySem.W.codeIn K cd45 "Pipeline.steps" = true)
    (k45 : PySem.W.keepIn K (.ref f45) = true)
    (a46 : PySem.W.findIn K (.ref U) "__init__" = some (some (.ref f46)))
    (l46 : K.lookup f46 = some ⟨oc46, od46, .func (PySem.W.fnOf "__init__" "Pipeline.__init__" (defArgs sPipelineinit) (defBody sPipelineinit) (defScope sPipelineinit) .none kV46 dc46 pm46 an46 cd46 ct46), sl46⟩)
    (c46 : PySem.W.codeIn K cd46 "Pipeline.__init__" = true)
    (k46 : PySem.W.keepIn K (.ref f46) = true)
    (i46 : PySem.W.isFn K (.ref f46) = true)
    (b_sorted : PySem.W.nsIn K mainGlobals "sorted" = some none)
    (b_set : PySem.W.nsIn K mainGlobals "set" = some none)
    (b_reversed : PySem.W.nsIn K mainGlobals "reversed" = some none)
    (b_len : PySem.W.nsIn K mainGlobals "len" = some none)
    (b_int : PySem.W.nsIn K mainGlobals "int" = some none)
    (b_range : PySem.W.nsIn K mainGlobals "range" = some none)
    (b_abs : PySem.W.nsIn K mainGlobals "abs" = some none)
    (b_max : PySem.W.nsIn K mainGlobals "max" = some none)
    (b_min : PySem.W.nsIn K mainGlobals "min" = some none)
    (b_list : PySem.W.nsIn K mainGlobals "list" = some none)
    (b_isinstance : PySem.W.nsIn K mainGlobals "isinstance" = some none)
    (b_tuple : PySem.W.nsIn K mainGlobals "tuple" = some none)
    (b_enumerate : PySem.W.nsIn K mainGlobals "enumerate" = some none)
    (b_ValueError : PySem.W.nsIn K mainGlobals "ValueError" = some none)
    (b_zip : PySem.W.nsIn K mainGlobals "zip" = some none)
    (b_sum : PySem.W.nsIn K mainGlobals "sum" = some none)
    (b_repr : PySem.W.nsIn K mainGlobals "repr" = some none)
    (b_gcd : PySem.W.nsIn K mainGlobals "gcd" = some (some (.builtin "math.gcd")))
    (b_lcm : PySem.W.nsIn K mainGlobals "lcm" = some (some (.builtin "math.lcm")))
    (aFAR : PySem.W.nsIn K mainGlobals "FARTHEST" = some (some (.int 3 taFAR)))
    (aDI : PySem.W.nsIn K mainGlobals "ITEMS" = some (some (.ref DI)))
    (lkDI : K.lookup DI = some ⟨.type "dict", none, .dict es ne, #[]⟩)
    (klDI : PySem.W.KeysLit w.params es.toList)
    (syDI : (DI == sysModules) = false)
    (itw : PySem.W.nsIn K DI "window" = some (some (.int 5 t1)))
    (itr : PySem.W.nsIn K DI "repeat" = some (some (.int 3 t2)))
    (itc : PySem.W.nsIn K DI "crop" = some (some (.int 4 t3)))
    (itp : PySem.W.nsIn K DI "pad" = some (some (.int 4 t4)))
    (itj : PySem.W.nsIn K DI "join" = some (some (.int 3 t5)))
    (ito1 : PySem.W.nsIn K DI "windows" = some none)
    (ito2 : PySem.W.nsIn K DI "" = some none)
    (ito3 : PySem.W.nsIn K DI "Pad" = some none)
    : ∃ fd : FuncData, (∀ (s : Shared) (v : Value), BindsTo s fd ⟨[v], []⟩ [("script", v)]) ∧ ∀ base : Heap, K.In base → base.Ns mainGlobals mg → FnOkG l.prog w K mg base CX0 11 fa fd ["script"] (spD K dsLaw) := by
  have e := hfa.symm.trans (PySem.W.mg_of X G a38)
  cases e
  have T : Blt mg := ⟨PySem.W.mg_none_of X G b_sorted, PySem.W.mg_none_of X G b_reversed, PySem.W.mg_none_of X G b_set, PySem.W.mg_of X G b_lcm, PySem.W.mg_of X G b_gcd, PySem.W.mg_none_of X G b_len, PySem.W.mg_none_of X G b_int, PySem.W.mg_none_of X G b_range, PySem.W.mg_none_of X G b_abs, PySem.W.mg_none_of X G b_max, PySem.W.mg_none_of X G b_min, PySem.W.mg_none_of X G b_list, PySem.W.mg_none_of X G b_isinstance, PySem.W.mg_none_of X G b_tuple, PySem.W.mg_none_of X G b_enumerate, PySem.W.mg_none_of X G b_ValueError⟩
  have F_law_rng := fun_mk (st := s_law_rng) l1 c1 k1
  have F_law_draw := fun_mk (st := s_law_draw) l2 c2 k2
  have F_law_window := fun_mk (st := s_law_window) l3 c3 k3
  have F_law_level := fun_mk (st := s_law_level) l4 c4 k4
  have F_law_steps := fun_mk (st := s_law_steps) l5 c5 k5
  have F_law_apart := fun_mk (st := s_law_apart) l6 c6 k6
  have F_law_changed := fun_mk (st := s_law_changed) l7 c7 k7
  have Fcells_made := fun_mk (st := scells_made) l8 c8 k8
  have Fcheck_line := fun_mk (st := scheck_line) l9 c9 k9
  have Fis_period := fun_mk (st := sis_period) l10 c10 k10
  have Fleast_period := fun_mk (st := sleast_period) l11 c11 k11
  have Fstep_line := fun_mk (st := sstep_line) l12 c12 k12
  have Frow_lines := fun_mk (st := srow_lines) l13 c13 k13
  have Fjoined_lines := fun_mk (st := sjoined_lines) l14 c14 k14
  have Ffirst_at_least := fun_mk (st := sfirst_at_least) l15 c15 k15
  have Frise_alike := fun_mk (st := srise_alike) l16 c16 k16
  have Flead_at := fun_mk (st := slead_at) l17 c17 k17
  have Fall_meetings := fun_mk (st := sall_meetings) l18 c18 k18
  have Fare_equal_at := fun_mk (st := sare_equal_at) l19 c19 k19
  have Fremainders := fun_mk (st := sremainders) l20 c20 k20
  have Fshortest_period := fun_mk (st := sshortest_period) l21 c21 k21
  have Fform_of_classes := fun_mk (st := sform_of_classes) l22 c22 k22
  have Fform_where := fun_mk (st := sform_where) l23 c23 k23
  have Ffitting_sizes := fun_mk (st := sfitting_sizes) l24 c24 k24
  have Fhas_word := fun_mk (st := shas_word) l25 c25 k25
  have Fcheck_places := fun_mk (st := scheck_places) l26 c26 k26
  have Fnamed_rows := fun_mk (st := snamed_rows) l27 c27 k27
  have Fhas_right_numbers := fun_mk (st := shas_right_numbers) l28 c28 k28
  have Fis_step := fun_mk (st := sis_step) l29 c29 k29
  have Fis_right := fun_mk (st := sis_right) l30 c30 k30
  have Fchanged := fun_mk (st := schanged) l31 c31 k31
  have Fwith_changes := fun_mk (st := swith_changes) l32 c32 k32
  have F_law_due := fun_mk (st := s_law_due) l33 c33 k33
  have F_law_places := fun_mk (st := s_law_places) l34 c34 k34
  have F_law_drawn_places := fun_mk (st := s_law_drawn_places) l35 c35 k35
  have Fpossible_changes := fun_mk (st := spossible_changes) l36 c36 k36
  have Fleast_fix := fun_mk (st := sleast_fix) l37 c37 k37
  have Flaw := fun_mk (st := slaw) l38 c38 k38
  have FLineinit := fun_mk (st := sLineinit) l39 c39 k39
  have FLinelen := fun_mk (st := sLinelen) l40 c40 k40
  have FLinerise := fun_mk (st := sLinerise) l41 c41 k41
  have FLineat := fun_mk (st := sLineat) l42 c42 k42
  have FLineafter := fun_mk (st := sLineafter) l43 c43 k43
  have FLineleast_at := fun_mk (st := sLineleast_at) l44 c44 k44
  have FPipelinesteps := fun_mk (st := sPipelinesteps) l45 c45 k45
  have FPipelineinit := fun_mk (st := sPipelineinit) l46 c46 k46
  have B_law_rng := F_law_rng.binds (ps := ["script"]) fun _ _ _ _ _ _ us hl => match us, hl with | [_], _ => rfl
  have B_law_draw := F_law_draw.binds (ps := ["rng", "limit"]) fun _ _ _ _ _ _ us hl => match us, hl with | [_, _], _ => rfl
  have B_law_window := F_law_window.binds (ps := ["rng", "row", "whole"]) fun _ _ _ _ _ _ us hl => match us, hl with | [_, _, _], _ => rfl
  have B_law_level := F_law_level.binds (ps := ["rng", "row", "many", "whole"]) fun _ _ _ _ _ _ us hl => match us, hl with | [_, _, _, _], _ => rfl
  have B_law_steps := F_law_steps.binds (ps := ["rng", "most"]) fun _ _ _ _ _ _ us hl => match us, hl with | [_, _], _ => rfl
  have B_law_apart := F_law_apart.binds (ps := ["rng"]) fun _ _ _ _ _ _ us hl => match us, hl with | [_], _ => rfl
  have B_law_changed := F_law_changed.binds (ps := ["some", "spots", "changes"]) fun _ _ _ _ _ _ us hl => match us, hl with | [_, _, _], _ => rfl
  have Bcells_made := Fcells_made.binds (ps := ["step", "cells"]) fun _ _ _ _ _ _ us hl => match us, hl with | [_, _], _ => rfl
  have Bcheck_line := Fcheck_line.binds (ps := ["starts", "rise"]) fun _ _ _ _ _ _ us hl => match us, hl with | [_, _], _ => rfl
  have Bis_period := Fis_period.binds (ps := ["starts", "rise", "period"]) fun _ _ _ _ _ _ us hl => match us, hl with | [_, _, _], _ => rfl
  have Bleast_period := Fleast_period.binds (ps := ["starts", "rise"]) fun _ _ _ _ _ _ us hl => match us, hl with | [_, _], _ => rfl
  have Bstep_line := Fstep_line.binds (ps := ["step"]) fun _ _ _ _ _ _ us hl => match us, hl with | [_], _ => rfl
  have Brow_lines := Frow_lines.binds (ps := ["pipeline"]) fun _ _ _ _ _ _ us hl => match us, hl with | [_], _ => rfl
  have Bjoined_lines := Fjoined_lines.binds (ps := ["pipeline", "lines"]) fun _ _ _ _ _ _ us hl => match us, hl with | [_, _], _ => rfl
  have Bfirst_at_least := Ffirst_at_least.binds (ps := ["starts", "value"]) fun _ _ _ _ _ _ us hl => match us, hl with | [_, _], _ => rfl
  have Brise_alike := Frise_alike.binds (ps := ["first", "second"]) fun _ _ _ _ _ _ us hl => match us, hl with | [_, _], _ => rfl
  have Blead_at := Flead_at.binds (ps := ["first", "second", "place"]) fun _ _ _ _ _ _ us hl => match us, hl with | [_, _, _], _ => rfl
  have Ball_meetings := Fall_meetings.binds (ps := ["first", "second", "low"]) fun _ _ _ _ _ _ us hl => match us, hl with | [_, _, _], _ => rfl
  have Bare_equal_at := Fare_equal_at.binds (ps := ["pairs", "place"]) fun _ _ _ _ _ _ us hl => match us, hl with | [_, _], _ => rfl
  have Bremainders := Fremainders.binds (ps := ["sizes", "period"]) fun _ _ _ _ _ _ us hl => match us, hl with | [_, _], _ => rfl
  have Bshortest_period := Fshortest_period.binds (ps := ["sizes", "span"]) fun _ _ _ _ _ _ us hl => match us, hl with | [_, _], _ => rfl
  have Bform_of_classes := Fform_of_classes.binds (ps := ["pairs", "low"]) fun _ _ _ _ _ _ us hl => match us, hl with | [_, _], _ => rfl
  have Bform_where := Fform_where.binds (ps := ["lines", "pairs", "low"]) fun _ _ _ _ _ _ us hl => match us, hl with | [_, _, _], _ => rfl
  have Bfitting_sizes := Ffitting_sizes.binds (ps := ["pipeline"]) fun _ _ _ _ _ _ us hl => match us, hl with | [_], _ => rfl
  have Bhas_word := Fhas_word.binds (ps := ["steps", "place", "words"]) fun _ _ _ _ _ _ us hl => match us, hl with | [_, _, _], _ => rfl
  have Bcheck_places := Fcheck_places.binds (ps := ["pipeline", "places"]) fun _ _ _ _ _ _ us hl => match us, hl with | [_, _], _ => rfl
  have Bnamed_rows := Fnamed_rows.binds (ps := ["step"]) fun _ _ _ _ _ _ us hl => match us, hl with | [_], _ => rfl
  have Bhas_right_numbers := Fhas_right_numbers.binds (ps := ["step"]) fun _ _ _ _ _ _ us hl => match us, hl with | [_], _ => rfl
  have Bis_step := Fis_step.binds (ps := ["step"]) fun _ _ _ _ _ _ us hl => match us, hl with | [_], _ => rfl
  have Bis_right := Fis_right.binds (ps := ["step", "number"]) fun _ _ _ _ _ _ us hl => match us, hl with | [_, _], _ => rfl
  have Bchanged := Fchanged.binds (ps := ["steps", "places", "changes"]) fun _ _ _ _ _ _ us hl => match us, hl with | [_, _, _], _ => rfl
  have Bwith_changes := Fwith_changes.binds (ps := ["pipeline", "places", "changes"]) fun _ _ _ _ _ _ us hl => match us, hl with | [_, _, _], _ => rfl
  have B_law_due := F_law_due.binds (ps := ["some", "made", "spots"]) fun _ _ _ _ _ _ us hl => match us, hl with | [_, _, _], _ => rfl
  have B_law_places := F_law_places.binds (ps := ["some"]) fun _ _ _ _ _ _ us hl => match us, hl with | [_], _ => rfl
  have B_law_drawn_places := F_law_drawn_places.binds (ps := ["rng", "some"]) fun _ _ _ _ _ _ us hl => match us, hl with | [_, _], _ => rfl
  have Bpossible_changes := Fpossible_changes.binds (ps := ["steps", "places"]) fun _ _ _ _ _ _ us hl => match us, hl with | [_, _], _ => rfl
  have Bleast_fix := Fleast_fix.binds (ps := ["pipeline", "places"]) fun _ _ _ _ _ _ us hl => match us, hl with | [_, _], _ => rfl
  have BLineinit := FLineinit.binds (ps := ["self", "starts", "rise"]) fun _ _ _ _ _ _ us hl => match us, hl with | [_, _, _], _ => rfl
  have BLinelen := FLinelen.binds (ps := ["self"]) fun _ _ _ _ _ _ us hl => match us, hl with | [_], _ => rfl
  have BLinerise := FLinerise.binds (ps := ["self"]) fun _ _ _ _ _ _ us hl => match us, hl with | [_], _ => rfl
  have BLineat := FLineat.binds (ps := ["self", "n"]) fun _ _ _ _ _ _ us hl => match us, hl with | [_, _], _ => rfl
  have BLineafter := FLineafter.binds (ps := ["self", "inner"]) fun _ _ _ _ _ _ us hl => match us, hl with | [_, _], _ => rfl
  have BLineleast_at := FLineleast_at.binds (ps := ["self", "value"]) fun _ _ _ _ _ _ us hl => match us, hl with | [_, _], _ => rfl
  have BPipelinesteps := FPipelinesteps.binds (ps := ["self"]) fun _ _ _ _ _ _ us hl => match us, hl with | [_], _ => rfl
  have BPipelineinit := FPipelineinit.binds (ps := ["self", "steps"]) fun _ _ _ _ _ _ us hl => match us, hl with | [_, _], _ => rfl
  have LcC : Cls K C := ⟨pgC, hdC, poC, saC⟩
  have gC := PySem.W.mg_of X G aC
  have MLineinit : Meth K C "__init__" f39 := ⟨a39, i39, k39⟩
  have MLinelen : Meth K C "__len__" f40 := ⟨a40, i40, k40⟩
  have MLineat : Meth K C "at" f42 := ⟨a42, i42, k42⟩
  have MLineafter : Meth K C "after" f43 := ⟨a43, i43, k43⟩
  have MLineleast_at : Meth K C "least_at" f44 := ⟨a44, i44, k44⟩
  have KC : Mk K C f39 := ⟨mkC, a39, i39, kcC⟩
  have PLinerise : PropOf K C "rise" pLinerise f41 := ⟨atLinerise, gtLinerise, tkLinerise, _, a41⟩
  have LcU : Cls K U := ⟨pgU, hdU, poU, saU⟩
  have gU := PySem.W.mg_of X G aU
  have MPipelineinit : Meth K U "__init__" f46 := ⟨a46, i46, k46⟩
  have PPipelinesteps : PropOf K U "steps" pPipelinesteps f45 := ⟨atPipelinesteps, gtPipelinesteps, tkPipelinesteps, _, a45⟩
  have KU : Mk K U f46 := ⟨mkU, a46, i46, kcU⟩
  refine ⟨PySem.W.fnOf "law" "law" (defArgs slaw) (defBody slaw) (defScope slaw) .none kV38 dc38 pm38 an38 cd38 ct38, fun s v => .of_eq rfl, fun base _ _ => ?_⟩
  have g_law_rng := PySem.W.mg_of X G a1
  have g_law_draw := PySem.W.mg_of X G a2
  have g_law_window := PySem.W.mg_of X G a3
  have g_law_level := PySem.W.mg_of X G a4
  have g_law_steps := PySem.W.mg_of X G a5
  have g_law_apart := PySem.W.mg_of X G a6
  have g_law_changed := PySem.W.mg_of X G a7
  have gcells_made := PySem.W.mg_of X G a8
  have gcheck_line := PySem.W.mg_of X G a9
  have gis_period := PySem.W.mg_of X G a10
  have gleast_period := PySem.W.mg_of X G a11
  have gstep_line := PySem.W.mg_of X G a12
  have grow_lines := PySem.W.mg_of X G a13
  have gjoined_lines := PySem.W.mg_of X G a14
  have gfirst_at_least := PySem.W.mg_of X G a15
  have grise_alike := PySem.W.mg_of X G a16
  have glead_at := PySem.W.mg_of X G a17
  have gall_meetings := PySem.W.mg_of X G a18
  have gare_equal_at := PySem.W.mg_of X G a19
  have gremainders := PySem.W.mg_of X G a20
  have gshortest_period := PySem.W.mg_of X G a21
  have gform_of_classes := PySem.W.mg_of X G a22
  have gform_where := PySem.W.mg_of X G a23
  have gfitting_sizes := PySem.W.mg_of X G a24
  have ghas_word := PySem.W.mg_of X G a25
  have gcheck_places := PySem.W.mg_of X G a26
  have gnamed_rows := PySem.W.mg_of X G a27
  have ghas_right_numbers := PySem.W.mg_of X G a28
  have gis_step := PySem.W.mg_of X G a29
  have gis_right := PySem.W.mg_of X G a30
  have gchanged := PySem.W.mg_of X G a31
  have gwith_changes := PySem.W.mg_of X G a32
  have g_law_due := PySem.W.mg_of X G a33
  have g_law_places := PySem.W.mg_of X G a34
  have g_law_drawn_places := PySem.W.mg_of X G a35
  have gpossible_changes := PySem.W.mg_of X G a36
  have gleast_fix := PySem.W.mg_of X G a37
  have LL : LC K mg C := ⟨LcC, nC_starts, nC_rise, gC⟩
  have LU : PC K mg U := ⟨LcU, nU_steps, gU⟩
  have gITEMS := PySem.W.mg_of X G aDI
  have It : Items K w DI := ⟨⟨⟨_, _, lkDI, klDI⟩, syDI⟩, ⟨_, itw, ⟨_, rfl⟩⟩, ⟨_, itr, ⟨_, rfl⟩⟩, ⟨_, itc, ⟨_, rfl⟩⟩, ⟨_, itp, ⟨_, rfl⟩⟩, ⟨_, itj, ⟨_, rfl⟩⟩, ⟨_, ito1, rfl⟩, ⟨_, ito2, rfl⟩, ⟨_, ito3, rfl⟩⟩
  have drng : Df l.prog w K mg base CX0 1 "_law_rng" 1 dsRng := ⟨_, _, _, rfl, ok_rng F_law_rng T, g_law_rng, F_law_rng.kp, B_law_rng⟩
  have drdraw : Df l.prog w K mg base CX0 1 "_law_draw" 2 dsDraw := ⟨_, _, _, rfl, ok_draw F_law_draw T, g_law_draw, F_law_draw.kp, B_law_draw⟩
  have drwindow : Df l.prog w K mg base CX0 2 "_law_window" 3 dsRWindow := ⟨_, _, _, rfl, ok_window F_law_window T drdraw, g_law_window, F_law_window.kp, B_law_window⟩
  have dlevel : Df l.prog w K mg base CX0 2 "_law_level" 4 dsLevel := ⟨_, _, _, rfl, ok_level F_law_level T drdraw, g_law_level, F_law_level.kp, B_law_level⟩
  have drsteps : Df l.prog w K mg base CX0 3 "_law_steps" 2 dsRSteps := ⟨_, _, _, rfl, ok_rsteps F_law_steps T drdraw drwindow dlevel, g_law_steps, F_law_steps.kp, B_law_steps⟩
  have dapart : Df l.prog w K mg base CX0 2 "_law_apart" 1 dsApart := ⟨_, _, _, rfl, ok_apart F_law_apart T drdraw, g_law_apart, F_law_apart.kp, B_law_apart⟩
  have dlchg : Df l.prog w K mg base CX0 1 "_law_changed" 3 dsLChg := ⟨_, _, _, rfl, ok_lchg F_law_changed T (PySem.W.mg_none_of X G b_zip), g_law_changed, F_law_changed.kp, B_law_changed⟩
  have dcells : Df l.prog w K mg base CX0 1 "cells_made" 2 dsCells := ⟨_, _, _, rfl, ok_cells Fcells_made T, gcells_made, Fcells_made.kp, Bcells_made⟩
  have dcheck : Df l.prog w K mg base CX0 1 "check_line" 2 dsCheck := ⟨_, _, _, rfl, ok_check Fcheck_line T, gcheck_line, Fcheck_line.kp, Bcheck_line⟩
  have disper : Df l.prog w K mg base CX0 1 "is_period" 3 dsIsPer := ⟨_, _, _, rfl, ok_isper Fis_period T, gis_period, Fis_period.kp, Bis_period⟩
  have dlp : Df l.prog w K mg base CX0 2 "least_period" 2 dsLp := ⟨_, _, _, rfl, ok_lp Fleast_period T disper, gleast_period, Fleast_period.kp, Bleast_period⟩
  have giC := ok_init (P := l.prog) (w0 := w) (base := base) FLineinit T LL dcheck dlp
  have dLine : Ct l.prog w K mg base CX0 3 "Line" C (dsInit C) := ⟨_, _, _, giC, KC, gC, BLineinit⟩
  have dstline : Df l.prog w K mg base CX0 5 "step_line" 1 (dsStLine C) := ⟨_, _, _, rfl, ok_stline Fstep_line T dcells dLine, gstep_line, Fstep_line.kp, Bstep_line⟩
  have g_steps := ok_steps (P := l.prog) (w0 := w) (base := base) FPipelinesteps T LU
  have dsteps : Pr l.prog w K mg base CX0 1 U "steps" (dsSteps U) := ⟨_, _, _, _, g_steps, PPipelinesteps, BPipelinesteps, LcU⟩
  have g_len := ok_len (P := l.prog) (w0 := w) (base := base) FLinelen T LL
  have dlen : Gm.Sm l.prog w K mg base CX0 1 C "__len__" (dsLen C) := ⟨_, _, _, g_len, a40, i40, BLinelen⟩
  have g_rise := ok_rise (P := l.prog) (w0 := w) (base := base) FLinerise T LL
  have drise : Pr l.prog w K mg base CX0 1 C "rise" (dsRise C) := ⟨_, _, _, _, g_rise, PLinerise, BLinerise, LcC⟩
  have g_at := ok_lat (P := l.prog) (w0 := w) (base := base) FLineat T LL
  have dat : Mt l.prog w K mg base CX0 1 C "at" (dsLAt C) := ⟨_, _, _, g_at, MLineat, BLineat, LcC⟩
  have g_after := ok_after (P := l.prog) (w0 := w) (base := base) FLineafter T LL dLine dlen drise dat
  have dafter : Mt l.prog w K mg base CX0 5 C "after" (dsAfter C) := ⟨_, _, _, g_after, MLineafter, BLineafter, LcC⟩
  have drows : Df l.prog w K mg base CX0 6 "row_lines" 1 (dsRows C U) := ⟨_, _, _, rfl, ok_rows Frow_lines T LL dstline dLine dsteps dafter, grow_lines, Frow_lines.kp, Brow_lines⟩
  have djoinl : Df l.prog w K mg base CX0 3 "joined_lines" 2 (dsJoinL C U) := ⟨_, _, _, rfl, ok_joinL Fjoined_lines T dsteps, gjoined_lines, Fjoined_lines.kp, Bjoined_lines⟩
  have dfal : Df l.prog w K mg base CX0 1 "first_at_least" 2 dsFal := ⟨_, _, _, rfl, ok_fal Ffirst_at_least T, gfirst_at_least, Ffirst_at_least.kp, Bfirst_at_least⟩
  have g_least := ok_least (P := l.prog) (w0 := w) (base := base) FLineleast_at T LL dfal
  have dleast : Mt l.prog w K mg base CX0 2 C "least_at" (dsLeast C) := ⟨_, _, _, g_least, MLineleast_at, BLineleast_at, LcC⟩
  have dalike : Df l.prog w K mg base CX0 3 "rise_alike" 2 (dsAlike C) := ⟨_, _, _, rfl, ok_alike Frise_alike T dlen drise, grise_alike, Frise_alike.kp, Brise_alike⟩
  have dlead : Df l.prog w K mg base CX0 2 "lead_at" 3 (dsLead C) := ⟨_, _, _, rfl, ok_lead Flead_at T dat, glead_at, Flead_at.kp, Blead_at⟩
  have dmeets : Df l.prog w K mg base CX0 3 "all_meetings" 3 (dsMeets C) := ⟨_, _, _, rfl, ok_meets Fall_meetings T dlen dlead, gall_meetings, Fall_meetings.kp, Ball_meetings⟩
  have deqat : Df l.prog w K mg base CX0 2 "are_equal_at" 2 (dsEqAt C) := ⟨_, _, _, rfl, ok_eqat Fare_equal_at T dat, gare_equal_at, Fare_equal_at.kp, Bare_equal_at⟩
  have drem : Df l.prog w K mg base CX0 1 "remainders" 2 dsRem := ⟨_, _, _, rfl, ok_rem Fremainders T, gremainders, Fremainders.kp, Bremainders⟩
  have dshort : Df l.prog w K mg base CX0 2 "shortest_period" 2 dsShort := ⟨_, _, _, rfl, ok_short Fshortest_period T drem, gshortest_period, Fshortest_period.kp, Bshortest_period⟩
  have dfoc : Df l.prog w K mg base CX0 4 "form_of_classes" 2 (dsFoc C) := ⟨_, _, _, rfl, ok_foc Fform_of_classes T dlen deqat dshort drem, gform_of_classes, Fform_of_classes.kp, Bform_of_classes⟩
  have dwhr : Df l.prog w K mg base CX0 5 "form_where" 3 (dsWhr C) := ⟨_, _, _, rfl, ok_whr Fform_where T drise dleast dat dalike dmeets deqat dfoc, gform_where, Fform_where.kp, Bform_where⟩
  have dfit : Df l.prog w K mg base CX0 8 "fitting_sizes" 1 (dsFit C U) := ⟨_, _, _, rfl, ok_fit Ffitting_sizes T drows djoinl dwhr, gfitting_sizes, Ffitting_sizes.kp, Bfitting_sizes⟩
  have dhasw : Df l.prog w K mg base CX0 1 "has_word" 3 dsHas := ⟨_, _, _, rfl, ok_has Fhas_word T, ghas_word, Fhas_word.kp, Bhas_word⟩
  have dplc : Df l.prog w K mg base CX0 3 "check_places" 2 (dsPlc U) := ⟨_, _, _, rfl, ok_plc Fcheck_places T dsteps dhasw, gcheck_places, Fcheck_places.kp, Bcheck_places⟩
  have dnamed : Df l.prog w K mg base CX0 1 "named_rows" 1 dsNamed := ⟨_, _, _, rfl, ok_named Fnamed_rows T, gnamed_rows, Fnamed_rows.kp, Bnamed_rows⟩
  have dnums : Df l.prog w K mg base CX0 1 "has_right_numbers" 1 dsNums := ⟨_, _, _, rfl, ok_nums Fhas_right_numbers T, ghas_right_numbers, Fhas_right_numbers.kp, Bhas_right_numbers⟩
  have dist : Df l.prog w K mg base CX0 2 "is_step" 1 dsIsStep := ⟨_, _, _, rfl, ok_isstep Fis_step T gITEMS It dnamed dnums, gis_step, Fis_step.kp, Bis_step⟩
  have disr : Df l.prog w K mg base CX0 3 "is_right" 2 dsIsRight := ⟨_, _, _, rfl, ok_isright Fis_right T dist dnamed, gis_right, Fis_right.kp, Bis_right⟩
  have giU := ok_pinit (P := l.prog) (w0 := w) (base := base) FPipelineinit T LU disr
  have dPipeline : Ct l.prog w K mg base CX0 4 "Pipeline" U (dsPInit U) := ⟨_, _, _, giU, KU, gU, BPipelineinit⟩
  have dchgd : Df l.prog w K mg base CX0 6 "changed" 3 (dsChg U) := ⟨_, _, _, rfl, ok_chg Fchanged T (PySem.W.mg_none_of X G b_zip) dPipeline, gchanged, Fchanged.kp, Bchanged⟩
  have dwith : Df l.prog w K mg base CX0 7 "with_changes" 3 (dsWith U) := ⟨_, _, _, rfl, ok_with Fwith_changes T (PySem.W.mg_none_of X G b_zip) dsteps dplc dchgd, gwith_changes, Fwith_changes.kp, Bwith_changes⟩
  have ddue : Df l.prog w K mg base CX0 9 "_law_due" 3 (dsDue U) := ⟨_, _, _, rfl, ok_due F_law_due T (PySem.W.mg_none_of X G b_sum) dlchg dfit dwith, g_law_due, F_law_due.kp, B_law_due⟩
  have dpls : Df l.prog w K mg base CX0 1 "_law_places" 1 dsPls := ⟨_, _, _, rfl, ok_pls F_law_places T, g_law_places, F_law_places.kp, B_law_places⟩
  have ddrw : Df l.prog w K mg base CX0 2 "_law_drawn_places" 2 dsDrw := ⟨_, _, _, rfl, ok_drw F_law_drawn_places T dpls drdraw, g_law_drawn_places, F_law_drawn_places.kp, B_law_drawn_places⟩
  have dposs : Df l.prog w K mg base CX0 1 "possible_changes" 2 dsPoss := ⟨_, _, _, rfl, ok_poss Fpossible_changes T (PySem.W.mg_none_of X G b_sum) (PySem.W.mg_of X G aFAR), gpossible_changes, Fpossible_changes.kp, Bpossible_changes⟩
  have dlfix : Df l.prog w K mg base CX0 9 "least_fix" 2 (dsLFix C U) := ⟨_, _, _, rfl, ok_lfix Fleast_fix T dsteps dplc dchgd dposs dfit, gleast_fix, Fleast_fix.kp, Bleast_fix⟩
  have kb_Klfix := Fun_kb (ps := ["pipeline", "places"]) (ks := ["places", "pipeline"]) (n := 0) (pm := [1, 0]) Fleast_fix (by decide) fun _ _ _ _ _ _ us ws h1 h2 => match us, ws, h1, h2 with | [], [_, _], _, _ => rfl
  have gk_Klfix := ok_lfix (P := l.prog) (w0 := w) (base := base) Fleast_fix T dsteps dplc dchgd dposs dfit
  have dKlfix : DfK l.prog w K mg base CX0 9 "least_fix" ["places", "pipeline"] [1, 0] (dsLFix C U) := ⟨_, _, _, gk_Klfix, gleast_fix, Fleast_fix.kp, kb_Klfix⟩
  exact ok_law Flaw ⟨T, PySem.W.mg_none_of X G b_repr⟩ drng drdraw drsteps dapart ddue ddrw dPipeline dsteps dlfix dKlfix
end
theorem walk {l : PySem.W.OpenLaw} {q : Program} {loose : List Str} {XP : (Str → Option Value) → Heap → Prop} {YP : World → Heap → Prop} {d : DefRec} {K : Params → PySem.W.Frag} (hn : l.most = some 63) (hdf : d.params.defaults = [])
    (hY : ∀ (w : World) (h : Heap), YP w h → (K w.params).In h)
    (F : ∀ (w : World) (mg : Str → Option Value) (fa : Addr) (h : Heap), (K w.params).In h → h.Ns mainGlobals mg → mg d.name = some (.ref fa) →
      ∃ fd : FuncData, (∀ (s : Shared) (u : Value), BindsTo s fd ⟨[u], []⟩ [("script", u)]) ∧ ∀ base : Heap, (K w.params).In base → base.Ns mainGlobals mg → FnOkG l.prog w (K w.params) mg base CX0 11 fa fd ["script"] (spD (K w.params) dsLaw)) :
    PySem.W.WalkO q loose XP YP l.row.toRowW d [] (fun f vs => PySem.call f vs) :=
  walkG (n := 63) (k := 11) (x := "script") (sp := fun w => spD (K w.params) dsLaw) hn (by decide) hdf ⟨rfl, by decide, by decide⟩ hY F fun _ _ _ ns hl _ hS => law_sp hS ⟨ns, ⟨rfl, rfl, hl⟩, fun e S' h => h⟩
end My
open PySem PySem.W PyProof.Rows
set_option maxRecDepth 100000 in
set_option maxHeartbeats 0 in
theorem PySem.Challenge.cw_fitsizes_k34_least_fixes_holds : PySem.Challenge.rw_fitsizes_k34_least_fixes.Holds := by
  w_on; o_law; k_head; (case hw => w_witness2)
  k_fill
  refine My.walk (l := PySem.Challenge.rw_fitsizes_k34_least_fixes) rfl rfl (fun w h Y => PySem.W.kIn_of Y) ?F
  case F =>
    intro w mg fa h KX G hmg
    refine' My.all_mk KX G hmg ?a1 ?l1 ?c1 ?k1 ?a2 ?l2 ?c2 ?k2 ?a3 ?l3 ?c3 ?k3 ?a4 ?l4 ?c4 ?k4 ?a5 ?l5 ?c5 ?k5 ?a6 ?l6 ?c6 ?k6 ?a7 ?l7 ?c7 ?k7 ?a8 ?l8 ?c8 ?k8 ?a9 ?l9 ?c9 ?k9 ?a10 ?l10 ?c10 ?k10 ?a11 ?l11 ?c11 ?k11 ?a12 ?l12 ?c12 ?k12 ?a13 ?l13 ?c13 ?k13 ?a14 ?l14 ?c14 ?k14 ?a15 ?l15 ?c15 ?k15 ?a16 ?l16 ?c16 ?k16 ?a17 ?l17 ?c17 ?k17 ?a18 ?l18 ?c18 ?k18 ?a19 ?l19 ?c19 ?k19 ?a20 ?l20 ?c20 ?k20 ?a21 ?l21 ?c21 ?k21 ?a22 ?l22 ?c22 ?k22 ?a23 ?l23 ?c23 ?k23 ?a24 ?l24 ?c24 ?k24 ?a25 ?l25 ?c25 ?k25 ?a26 ?l26 ?c26 ?k26 ?a27 ?l27 ?c27 ?k27 ?a28 ?l28 ?c28 ?k28 ?a29 ?l29 ?c29 ?k29 ?a30 ?l30 ?c30 ?k30 ?a31 ?l31 ?c31 ?k31 ?a32 ?l32 ?c32 ?k32 ?a33 ?l33 ?c33 ?k33 ?a34 ?l34 ?c34 ?k34 ?a35 ?l35 ?c35 ?k35 ?a36 ?l36 ?c36 ?k36 ?a37 ?l37 ?c37 ?k37 ?a38 ?l38 ?c38 ?k38 ?aC ?pgC ?hdC ?poC ?saC ?mkC ?kcC ?nC_starts ?nC_rise ?a39 ?l39 ?c39 ?k39 ?i39 ?a40 ?l40 ?c40 ?k40 ?i40 ?atLinerise ?gtLinerise ?tkLinerise ?a41 ?l41 ?c41 ?k41 ?a42 ?l42 ?c42 ?k42 ?i42 ?a43 ?l43 ?c43 ?k43 ?i43 ?a44 ?l44 ?c44 ?k44 ?i44 ?aU ?pgU ?hdU ?poU ?saU ?mkU ?kcU ?nU_steps ?atPipelinesteps ?gtPipelinesteps ?tkPipelinesteps ?a45 ?l45 ?c45 ?k45 ?a46 ?l46 ?c46 ?k46 ?i46 ?b_sorted ?b_set ?b_reversed ?b_len ?b_int ?b_range ?b_abs ?b_max ?b_min ?b_list ?b_isinstance ?b_tuple ?b_enumerate ?b_ValueError ?b_zip ?b_sum ?b_repr ?b_gcd ?b_lcm ?aFAR ?aDI ?lkDI ?klDI ?syDI ?itw ?itr ?itc ?itp ?itj ?ito1 ?ito2 ?ito3
    (case a1 => first | k_is | kit_is | rfl)
    (case l1 => first | k_is | kit_is | rfl)
    (case c1 => first | k_is | kit_is | rfl)
    (case k1 => first | k_is | kit_is | rfl)
    (case a2 => first | k_is | kit_is | rfl)
    (case l2 => first | k_is | kit_is | rfl)
    (case c2 => first | k_is | kit_is | rfl)
    (case k2 => first | k_is | kit_is | rfl)
    (case a3 => first | k_is | kit_is | rfl)
    (case l3 => first | k_is | kit_is | rfl)
    (case c3 => first | k_is | kit_is | rfl)
    (case k3 => first | k_is | kit_is | rfl)
    (case a4 => first | k_is | kit_is | rfl)
    (case l4 => first | k_is | kit_is | rfl)
    (case c4 => first | k_is | kit_is | rfl)
    (case k4 => first | k_is | kit_is | rfl)
    (case a5 => first | k_is | kit_is | rfl)
    (case l5 => first | k_is | kit_is | rfl)
    (case c5 => first | k_is | kit_is | rfl)
    (case k5 => first | k_is | kit_is | rfl)
    (case a6 => first | k_is | kit_is | rfl)
    (case l6 => first | k_is | kit_is | rfl)
    (case c6 => first | k_is | kit_is | rfl)
    (case k6 => first | k_is | kit_is | rfl)
    (case a7 => first | k_is | kit_is | rfl)
    (case l7 => first | k_is | kit_is | rfl)
    (case c7 => first | k_is | kit_is | rfl)
    (case k7 => first | k_is | kit_is | rfl)
    (case a8 => first | k_is | kit_is | rfl)
    (case l8 => first | k_is | kit_is | rfl)
    (case c8 => first | k_is | kit_is | rfl)
    (case k8 => first | k_is | kit_is | rfl)
    (case a9 => first | k_is | kit_is | rfl)
    (case l9 => first | k_is | kit_is | rfl)
    (case c9 => first | k_is | kit_is | rfl)
    (case k9 => first | k_is | kit_is | rfl)
    (case a10 => first | k_is | kit_is | rfl)
    (case l10 => first | k_is | kit_is | rfl)
    (case c10 => first | k_is | kit_is | rfl)
    (case k10 => first | k_is | kit_is | rfl)
    (case a11 => first | k_is | kit_is | rfl)
    (case l11 => first | k_is | kit_is | rfl)
    (case c11 => first | k_is | kit_is | rfl)
    (case k11 => first | k_is | kit_is | rfl)
    (case a12 => first | k_is | kit_is | rfl)
    (case l12 => first | k_is | kit_is | rfl)
    (case c12 => first | k_is | kit_is | rfl)
    (case k12 => first | k_is | kit_is | rfl)
    (case a13 => first | k_is | kit_is | rfl)
    (case l13 => first | k_is | kit_is | rfl)
    (case c13 => first | k_is | kit_is | rfl)
    (case k13 => first | k_is | kit_is | rfl)
    (case a14 => first | k_is | kit_is | rfl)
    (case l14 => first | k_is | kit_is | rfl)
    (case c14 => first | k_is | kit_is | rfl)
    (case k14 => first | k_is | kit_is | rfl)
    (case a15 => first | k_is | kit_is | rfl)
    (case l15 => first | k_is | kit_is | rfl)
    (case c15 => first | k_is | kit_is | rfl)
    (case k15 => first | k_is | kit_is | rfl)
    (case a16 => first | k_is | kit_is | rfl)
    (case l16 => first | k_is | kit_is | rfl)
    (case c16 => first | k_is | kit_is | rfl)
    (case k16 => first | k_is | kit_is | rfl)
    (case a17 => first | k_is | kit_is | rfl)
    (case l17 => first | k_is | kit_is | rfl)
    (case c17 => first | k_is | kit_is | rfl)
    (case k17 => first | k_is | kit_is | rfl)
    (case a18 => first | k_is | kit_is | rfl)
    (case l18 => first | k_is | kit_is | rfl)
    (case c18 => first | k_is | kit_is | rfl)
    (case k18 => first | k_is | kit_is | rfl)
    (case a19 => first | k_is | kit_is | rfl)
    (case l19 => first | k_is | kit_is | rfl)
    (case c19 => first | k_is | kit_is | rfl)
    (case k19 => first | k_is | kit_is | rfl)
    (case a20 => first | k_is | kit_is | rfl)
    (case l20 => first | k_is | kit_is | rfl)
    (case c20 => first | k_is | kit_is | rfl)
    (case k20 => first | k_is | kit_is | rfl)
    (case a21 => first | k_is | kit_is | rfl)
    (case l21 => first | k_is | kit_is | rfl)
    (case c21 => first | k_is | kit_is | rfl)
    (case k21 => first | k_is | kit_is | rfl)
    (case a22 => first | k_is | kit_is | rfl)
    (case l22 => first | k_is | kit_is | rfl)
    (case c22 => first | k_is | kit_is | rfl)
    (case k22 => first | k_is | kit_is | rfl)
    (case a23 => first | k_is | kit_is | rfl)
    (case l23 => first | k_is | kit_is | rfl)
    (case c23 => first | k_is | kit_is | rfl)
    (case k23 => first | k_is | kit_is | rfl)
    (case a24 => first | k_is | kit_is | rfl)
    (case l24 => first | k_is | kit_is | rfl)
    (case c24 => first | k_is | kit_is | rfl)
    (case k24 => first | k_is | kit_is | rfl)
    (case a25 => first | k_is | kit_is | rfl)
    (case l25 => first | k_is | kit_is | rfl)
    (case c25 => first | k_is | kit_is | rfl)
    (case k25 => first | k_is | kit_is | rfl)
    (case a26 => first | k_is | kit_is | rfl)
    (case l26 => first | k_is | kit_is | rfl)
    (case c26 => first | k_is | kit_is | rfl)
    (case k26 => first | k_is | kit_is | rfl)
    (case a27 => first | k_is | kit_is | rfl)
    (case l27 => first | k_is | kit_is | rfl)
    (case c27 => first | k_is | kit_is | rfl)
    (case k27 => first | k_is | kit_is | rfl)
    (case a28 => first | k_is | kit_is | rfl)
    (case l28 => first | k_is | kit_is | rfl)
    (case c28 => first | k_is | kit_is | rfl)
    (case k28 => first | k_is | kit_is | rfl)
    (case a29 => first | k_is | kit_is | rfl)
    (case l29 => first | k_is | kit_is | rfl)
    (case c29 => first | k_is | kit_is | rfl)
    (case k29 => first | k_is | kit_is | rfl)
    (case a30 => first | k_is | kit_is | rfl)
    (case l30 => first | k_is | kit_is | rfl)
    (case c30 => first | k_is | kit_is | rfl)
    (case k30 => first | k_is | kit_is | rfl)
    (case a31 => first | k_is | kit_is | rfl)
    (case l31 => first | k_is | kit_is | rfl)
    (case c31 => first | k_is | kit_is | rfl)
    (case k31 => first | k_is | kit_is | rfl)
    (case a32 => first | k_is | kit_is | rfl)
    (case l32 => first | k_is | kit_is | rfl)
    (case c32 => first | k_is | kit_is | rfl)
    (case k32 => first | k_is | kit_is | rfl)
    (case a33 => first | k_is | kit_is | rfl)
    (case l33 => first | k_is | kit_is | rfl)
    (case c33 => first | k_is | kit_is | rfl)
    (case k33 => first | k_is | kit_is | rfl)
    (case a34 => first | k_is | kit_is | rfl)
    (case l34 => first | k_is | kit_is | rfl)
    (case c34 => first | k_is | kit_is | rfl)
    (case k34 => first | k_is | kit_is | rfl)
    (case a35 => first | k_is | kit_is | rfl)
    (case l35 => first | k_is | kit_is | rfl)
    (case c35 => first | k_is | kit_is | rfl)
    (case k35 => first | k_is | kit_is | rfl)
    (case a36 => first | k_is | kit_is | rfl)
    (case l36 => first | k_is | kit_is | rfl)
    (case c36 => first | k_is | kit_is | rfl)
    (case k36 => first | k_is | kit_is | rfl)
    (case a37 => first | k_is | kit_is | rfl)
    (case l37 => first | k_is | kit_is | rfl)
    (case c37 => first | k_is | kit_is | rfl)
    (case k37 => first | k_is | kit_is | rfl)
    (case a38 => first | k_is | kit_is | rfl)
    (case l38 => first | k_is | kit_is | rfl)
    (case c38 => first | k_is | kit_is | rfl)
    (case k38 => first | k_is | kit_is | rfl)
    (case aC => first | k_is | kit_is | rfl)
    (case pgC => first | k_is | kit_is | rfl)
    (case hdC => first | k_is | kit_is | rfl)
    (case poC => first | k_is | kit_is | rfl)
    (case saC => first | k_is | kit_is | rfl)
    (case mkC => first | k_is | kit_is | rfl)
    (case kcC => first | k_is | kit_is | rfl)
    (case nC_starts => first | k_is | kit_is | rfl)
    (case nC_rise => first | k_is | kit_is | rfl)
    (case a39 => first | k_is | kit_is | rfl)
    (case l39 => first | k_is | kit_is | rfl)
    (case c39 => first | k_is | kit_is | rfl)
    (case k39 => first | k_is | kit_is | rfl)
    (case i39 => first | k_is | kit_is | rfl)
    (case a40 => first | k_is | kit_is | rfl)
    (case l40 => first | k_is | kit_is | rfl)
    (case c40 => first | k_is | kit_is | rfl)
    (case k40 => first | k_is | kit_is | rfl)
    (case i40 => first | k_is | kit_is | rfl)
    (case atLinerise => first | k_is | kit_is | rfl)
    (case gtLinerise => first | k_is | kit_is | rfl)
    (case tkLinerise => first | k_is | kit_is | rfl)
    (case a41 => first | k_is | kit_is | rfl)
    (case l41 => first | k_is | kit_is | rfl)
    (case c41 => first | k_is | kit_is | rfl)
    (case k41 => first | k_is | kit_is | rfl)
    (case a42 => first | k_is | kit_is | rfl)
    (case l42 => first | k_is | kit_is | rfl)
    (case c42 => first | k_is | kit_is | rfl)
    (case k42 => first | k_is | kit_is | rfl)
    (case i42 => first | k_is | kit_is | rfl)
    (case a43 => first | k_is | kit_is | rfl)
    (case l43 => first | k_is | kit_is | rfl)
    (case c43 => first | k_is | kit_is | rfl)
    (case k43 => first | k_is | kit_is | rfl)
    (case i43 => first | k_is | kit_is | rfl)
    (case a44 => first | k_is | kit_is | rfl)
    (case l44 => first | k_is | kit_is | rfl)
    (case c44 => first | k_is | kit_is | rfl)
    (case k44 => first | k_is | kit_is | rfl)
    (case i44 => first | k_is | kit_is | rfl)
    (case aU => first | k_is | kit_is | rfl)
    (case pgU => first | k_is | kit_is | rfl)
    (case hdU => first | k_is | kit_is | rfl)
    (case poU => first | k_is | kit_is | rfl)
    (case saU => first | k_is | kit_is | rfl)
    (case mkU => first | k_is | kit_is | rfl)
    (case kcU => first | k_is | kit_is | rfl)
    (case nU_steps => first | k_is | kit_is | rfl)
    (case atPipelinesteps => first | k_is | kit_is | rfl)
    (case gtPipelinesteps => first | k_is | kit_is | rfl)
    (case tkPipelinesteps => first | k_is | kit_is | rfl)
    (case a45 => first | k_is | kit_is | rfl)
    (case l45 => first | k_is | kit_is | rfl)
    (case c45 => first | k_is | kit_is | rfl)
    (case k45 => first | k_is | kit_is | rfl)
    (case a46 => first | k_is | kit_is | rfl)
    (case l46 => first | k_is | kit_is | rfl)
    (case c46 => first | k_is | kit_is | rfl)
    (case k46 => first | k_is | kit_is | rfl)
    (case i46 => first | k_is | kit_is | rfl)
    (case b_sorted => first | k_is | kit_is | rfl)
    (case b_set => first | k_is | kit_is | rfl)
    (case b_reversed => first | k_is | kit_is | rfl)
    (case b_len => first | k_is | kit_is | rfl)
    (case b_int => first | k_is | kit_is | rfl)
    (case b_range => first | k_is | kit_is | rfl)
    (case b_abs => first | k_is | kit_is | rfl)
    (case b_max => first | k_is | kit_is | rfl)
    (case b_min => first | k_is | kit_is | rfl)
    (case b_list => first | k_is | kit_is | rfl)
    (case b_isinstance => first | k_is | kit_is | rfl)
    (case b_tuple => first | k_is | kit_is | rfl)
    (case b_enumerate => first | k_is | kit_is | rfl)
    (case b_ValueError => first | k_is | kit_is | rfl)
    (case b_zip => first | k_is | kit_is | rfl)
    (case b_sum => first | k_is | kit_is | rfl)
    (case b_repr => first | k_is | kit_is | rfl)
    (case b_gcd => first | k_is | kit_is | rfl)
    (case b_lcm => first | k_is | kit_is | rfl)
    (case aFAR => first | k_is | kit_is | rfl)
    (case aDI => first | k_is | kit_is | rfl)
    (case lkDI => first | k_is | kit_is | rfl)
    (case klDI => repeat (first | exact trivial | refine ⟨⟨_, _, rfl, rfl⟩, ?_⟩))
    (case syDI => first | k_is | kit_is | rfl)
    (case itw => first | k_is | kit_is | rfl)
    (case itr => first | k_is | kit_is | rfl)
    (case itc => first | k_is | kit_is | rfl)
    (case itp => first | k_is | kit_is | rfl)
    (case itj => first | k_is | kit_is | rfl)
    (case ito1 => first | k_is | kit_is | rfl)
    (case ito2 => first | k_is | kit_is | rfl)
    (case ito3 => first | k_is | kit_is | rfl)
#print axioms PySem.Challenge.cw_fitsizes_k34_least_fixes_holds
