import PyProof.Rows.All
import Wide.All
import OpenK.AllK
import Wide.FinOn
import HandS.Base
import HandS.Call
import HandS.List
import HandS.Comp
import HandS.ExcInit
import HandS.Dict
import HandS.Lambda
import HandS.IsInst
import HandS.Words
import HandS.WordsList
import HandS.SortInts
import HandS.Wide
import HandS.TupAny
import HandS.Exc
import HandS.ExcOwn
import HandS.ExcIs
import HandS.ExcCtx
import HandS.New
import PyProof.ExcBaseAll.ValueError
import HandS.HotCalls
import PyProof.ReprRoads
import PyProof.ReprBulk
import HandS.WordsExc
import HandS.Iter
import HandS.Zip0
import PyProof.EnumMake
import PyProof.Draws
import KE.GoesMore
import HandS.Conv
import HandS.RepeatKit
import PyProof.NeKinds
import PyProof.EqKinds
import HandS.SetFor
import HandS.Style
import HandS.Ends
import PyProof.Rows.TupIter
import HandS.ExcValue
import HandS.Star
import HandS.ExcField
import HandS.Gcd
import KE.KMathGC
import KE.SortKeyHeap
import HandS.EndTab
import PySem.Challenge.RW_commondays_k24_errors_of_the_nearest_his
import HandS.SortKw
import KE.DataEq
import HandS.HeadWalk
import KE.KNestM
set_option Elab.async false
set_option linter.all false
set_option maxRecDepth 100000
set_option maxHeartbeats 6000000
/-! A layer of plain data over the abstract heap. -/
namespace DL
open PySem PySem.Spec
open PyProof.Rows L2

/-- plain data, of any depth; raw: a value as it is; obj: an object of any kind at an address of its own -/
inductive Dt where
  | non
  | bl (b : Bool)
  | int (i : Int)
  | str (s : Str)
  | tup (xs : List Dt)
  | lst (xs : List Dt)
  | dct (ks vs : List Dt)
  | raw (x : V)
  | scr (ns : List Int)
  | obj (o : Addr → HO)
  | exa (C : Addr) (fs : List (Str × V))

abbrev AP := Addr → Prop
/-- the tables of code objects that are gone into by lambdas, and the lambdas' names -/
class Tb (K : PySem.W.Frag) where
  tb : List (Addr × Str)
/-- no table of code objects -/
def NT : HO → Prop
  | .tbl _ => False
  | _ => True
theorem NT.ne {o : HO} (h : NT o) : ∀ ps, o ≠ .tbl ps := fun ps z => by subst z; exact h
theorem NT.of {o : HO} (h : ∀ ps, o ≠ .tbl ps) : NT o := by
  cases o with
  | tbl ps => exact (h ps rfl).elim
  | _ => trivial
abbrev Sg := List (Option V)
/-- a heap without its tables of code objects -/
def noTb (H : Hp) : Hp := fun b => match H b with
  | some (.tbl _) => none
  | o => o
theorem noTb_some {H : Hp} {b : Addr} {o : HO} (h : noTb H b = some o) : H b = some o ∧ NT o := by
  unfold noTb at h
  split at h
  · cases h
  · rename_i z
    refine ⟨h, NT.of fun ps e => ?_⟩
    subst e
    exact z ps h
theorem noTb_of {H : Hp} {b : Addr} {o : HO} (h : H b = some o) (t : NT o) : noTb H b = some o := by
  unfold noTb
  rw [h]
  cases o with
  | tbl ps => exact t.elim
  | _ => rfl
theorem noTb_none {H : Hp} {b : Addr} (h : H b = none) : noTb H b = none := by
  unfold noTb
  rw [h]

mutual
/-- x stands for d in the heap, and no object of it stands at a place of ex -/
inductive Rp (K : PySem.W.Frag) (H : Hp) (ex : AP) : V → Dt → Prop
  | non : Rp K H ex .non .non
  | bl (b : Bool) : Rp K H ex (.bl b) (.bl b)
  | int (i : Int) : Rp K H ex (.int i) (.int i)
  | str (s : Str) : Rp K H ex (.str s) (.str s)
  | raw (x : V) : Rp K H ex x (.raw x)
  | tup {a : Addr} {xs : List V} {ds : List Dt} : H a = some (.tup xs) → ¬ ex a → RpL K H ex xs ds → Rp K H ex (.ref a) (.tup ds)
  | lst {a : Addr} {xs : List V} {ds : List Dt} : H a = some (.lst xs) → ¬ ex a → RpL K H ex xs ds → Rp K H ex (.ref a) (.lst ds)
  | dct0 {a : Addr} : H a = some (.dK []) → ¬ ex a → Rp K H ex (.ref a) (.dct [] [])
  | obj {a : Addr} {o : Addr → HO} : H a = some (o a) → NT (o a) → ¬ ex a → Rp K H ex (.ref a) (.obj o)
  | exa {a d C : Addr} {fs : List (Str × V)} : H a = some (exo a C (some d)) → ¬ ex a → H d = some (exd d fs) → ¬ ex d → Rp K H ex (.ref a) (.exa C fs)
  | scrF {a : Addr} {ns : List Int} {o : Obj} : H a = some (.frz o (.lst (ns.map V.int))) → ¬ ex a → Rp K H ex (.ref a) (.scr ns)
  | scrK {a : Addr} {ns : List Int} : (∃ (o : Obj) (its : Array Value) (n : Nat), K.lookup a = some o ∧ o.cls = .type "list" ∧ o.dict = none ∧ o.data = .seq its n ∧ its.size ≤ sizeLine ∧ Vals (ns.map V.int) its.toList) → Rp K H ex (.ref a) (.scr ns)
inductive RpL (K : PySem.W.Frag) (H : Hp) (ex : AP) : List V → List Dt → Prop
  | nil : RpL K H ex [] []
  | cons {x : V} {xs : List V} {d : Dt} {ds : List Dt} : Rp K H ex x d → RpL K H ex xs ds → RpL K H ex (x :: xs) (d :: ds)
end

section
variable {K : PySem.W.Frag} {H H' : Hp} {ex ex' : AP}
mutual
theorem Rp.mono (h : ∀ b o, H b = some o → NT o → ¬ ex b → H' b = some o ∧ ¬ ex' b) : ∀ {d : Dt} {x : V}, Rp K H ex x d → Rp K H' ex' x d
  | .non, _, .non => .non
  | .bl _, _, .bl b => .bl b
  | .int _, _, .int i => .int i
  | .str _, _, .str s => .str s
  | .raw _, _, .raw x => .raw x
  | .tup ds, _, .tup q n r => .tup (h _ _ q trivial n).1 (h _ _ q trivial n).2 (RpL.mono h r)
  | .lst ds, _, .lst q n r => .lst (h _ _ q trivial n).1 (h _ _ q trivial n).2 (RpL.mono h r)
  | .dct _ _, _, .dct0 q n => .dct0 (h _ _ q trivial n).1 (h _ _ q trivial n).2
  | .scr ns, _, .scrF q n => .scrF (h _ _ q trivial n).1 (h _ _ q trivial n).2
  | .scr ns, _, .scrK q => .scrK q
  | .obj _, _, .obj q t n => .obj (h _ _ q t n).1 t (h _ _ q t n).2
  | .exa _ _, _, .exa q n q2 n2 => .exa (h _ _ q trivial n).1 (h _ _ q trivial n).2 (h _ _ q2 trivial n2).1 (h _ _ q2 trivial n2).2
theorem RpL.mono (h : ∀ b o, H b = some o → NT o → ¬ ex b → H' b = some o ∧ ¬ ex' b) : ∀ {ds : List Dt} {xs : List V}, RpL K H ex xs ds → RpL K H' ex' xs ds
  | [], _, .nil => .nil
  | d :: ds, _, .cons r t => .cons (Rp.mono h r) (RpL.mono h t)
end
/-- exclude another place that is free in the heap -/
theorem RpL.len : ∀ {ds : List Dt} {xs : List V}, RpL K H ex xs ds → xs.length = ds.length
  | [], _, .nil => rfl
  | _ :: _, _, .cons _ t => congrArg (· + 1) (RpL.len t)
theorem RpL.get : ∀ {ds : List Dt} {xs : List V} {i : Nat} {d : Dt}, RpL K H ex xs ds → ds[i]? = some d → ∃ x, xs[i]? = some x ∧ Rp K H ex x d
  | [], _, _, _, .nil, e => by simp at e
  | _ :: _, _, 0, _, .cons r _, e => by
    simp at e
    subst e
    exact ⟨_, rfl, r⟩
  | _ :: _, _, i + 1, d, .cons _ t, e => by
    obtain ⟨x, h1, h2⟩ := RpL.get (i := i) (d := d) t (by simpa using e)
    exact (⟨x, by simpa using h1, h2⟩)
theorem RpL.get' : ∀ {ds : List Dt} {xs : List V} {i : Nat} {x : V}, RpL K H ex xs ds → xs[i]? = some x → ∃ d, ds[i]? = some d ∧ Rp K H ex x d
  | [], _, _, _, .nil, e => by simp at e
  | _ :: _, _, 0, _, .cons r _, e => by
    simp at e
    subst e
    exact ⟨_, rfl, r⟩
  | _ :: _, _, i + 1, d, .cons _ t, e => by
    obtain ⟨x, h1, h2⟩ := RpL.get' (i := i) (x := d) t (by simpa using e)
    exact (⟨x, by simpa using h1, h2⟩)
theorem RpL.append : ∀ {ds es : List Dt} {xs ys : List V}, RpL K H ex xs ds → RpL K H ex ys es → RpL K H ex (xs ++ ys) (ds ++ es)
  | [], _, _, _, .nil, s => s
  | _ :: _, _, _, _, .cons r t, s => .cons r (RpL.append t s)
theorem RpL.take : ∀ {ds : List Dt} {xs : List V} (n : Nat), RpL K H ex xs ds → RpL K H ex (xs.take n) (ds.take n)
  | _, _, 0, _ => .nil
  | [], _, _ + 1, .nil => .nil
  | _ :: _, _, n + 1, .cons r t => .cons r (RpL.take n t)
theorem RpL.drop : ∀ {ds : List Dt} {xs : List V} (n : Nat), RpL K H ex xs ds → RpL K H ex (xs.drop n) (ds.drop n)
  | _, _, 0, r => r
  | [], _, _ + 1, .nil => .nil
  | _ :: _, _, n + 1, .cons _ t => RpL.drop n t
theorem RpL.set {x : V} {d : Dt} (r : Rp K H ex x d) : ∀ {ds : List Dt} {xs : List V} (i : Nat), RpL K H ex xs ds → RpL K H ex (xs.set i x) (ds.set i d)
  | [], _, _, .nil => .nil
  | _ :: _, _, 0, .cons _ t => .cons r t
  | _ :: _, _, i + 1, .cons q t => .cons q (RpL.set r i t)
theorem RpL.erase : ∀ {ds : List Dt} {xs : List V} (i : Nat), RpL K H ex xs ds → RpL K H ex (xs.eraseIdx i) (ds.eraseIdx i)
  | [], _, _, .nil => .nil
  | _ :: _, _, 0, .cons _ t => t
  | _ :: _, _, i + 1, .cons q t => .cons q (RpL.erase i t)
theorem RpL.rev {ds : List Dt} {xs : List V} (r : RpL K H ex xs ds) : RpL K H ex xs.reverse ds.reverse := by
  induction ds generalizing xs with
  | nil => cases r; exact .nil
  | cons d ds ih =>
    cases r with
    | cons r t =>
      rw [List.reverse_cons, List.reverse_cons]; exact (ih t).append (.cons r .nil)
theorem RpL.ints : ∀ {ns : List Int} {xs : List V}, RpL K H ex xs (ns.map Dt.int) → xs = ns.map V.int
  | [], _, .nil => rfl
  | n :: ns, _, .cons (.int _) t => by rw [List.map_cons, RpL.ints t]
theorem RpL.bls : ∀ {ns : List Bool} {xs : List V}, RpL K H ex xs (ns.map Dt.bl) → xs = ns.map V.bl
  | [], _, .nil => rfl
  | n :: ns, _, .cons (.bl _) t => by rw [List.map_cons, RpL.bls t]
theorem RpL.of_ints (K : PySem.W.Frag) (H : Hp) (ex : AP) : ∀ ns : List Int, RpL K H ex (ns.map V.int) (ns.map Dt.int)
  | [] => .nil
  | n :: ns => .cons (.int n) (RpL.of_ints K H ex ns)
theorem Rp.sub {d : Dt} {x : V} (hx : ∀ b, ex' b → ex b) (r : Rp K H ex x d) : Rp K H ex' x d := r.mono fun b o e _ n => ⟨e, fun z => n (hx b z)⟩
theorem RpL.sub {d : List Dt} {x : List V} (hx : ∀ b, ex' b → ex b) (r : RpL K H ex x d) : RpL K H ex' x d := r.mono fun b o e _ n => ⟨e, fun z => n (hx b z)⟩
theorem Rp.fresh {d : Dt} {x : V} {p : Addr} {o : HO} (h : H p = none) (r : Rp K H ex x d) : Rp K (upd H p o) (fun q => ex q ∨ q = p) x d :=
  r.mono fun b u e _ n => ⟨by rw [upd_ne (ne_of_none e h)]; exact e, fun z => z.elim n fun z => ne_of_none e h z⟩
theorem RpL.fresh {d : List Dt} {x : List V} {p : Addr} {o : HO} (h : H p = none) (r : RpL K H ex x d) : RpL K (upd H p o) (fun q => ex q ∨ q = p) x d :=
  r.mono fun b u e _ n => ⟨by rw [upd_ne (ne_of_none e h)]; exact e, fun z => z.elim n fun z => ne_of_none e h z⟩
theorem RpL.write {d : List Dt} {x : List V} {p : Addr} {o : HO} (h : ex p) (r : RpL K H ex x d) : RpL K (upd H p o) ex x d :=
  r.mono fun b u e _ n => ⟨by rw [upd_ne (fun z => n (by rw [z]; exact h))]; exact e, n⟩
theorem Rp.write {d : Dt} {x : V} {p : Addr} {o : HO} (h : ex p) (r : Rp K H ex x d) : Rp K (upd H p o) ex x d :=
  r.mono fun b u e _ n => ⟨by rw [upd_ne (fun z => n (by rw [z]; exact h))]; exact e, n⟩
end

/-! ### abstract states -/
/-- what a slot (or a value) is: not known; data; a list that only this slot holds -/
inductive Ct where
  | l (ds : List Dt)
  | dk (kvs : List (Key × Dt))
  | dt (kvs : List (List Key × Dt))
inductive AV where
  | un
  | dt (d : Dt)
  | own (c : Ct)
abbrev AV.ow (xs : List Dt) : AV := .own (.l xs)
/-- what an owned thing is, at its place -/
def CtOk (K : PySem.W.Frag) (H : Hp) (ex : AP) (o : HO) (c : Ct) : Prop :=
  match c with
  | .l ds => ∃ xs, o = .lst xs ∧ RpL K H ex xs ds
  | .dk kvs => ∃ ws, o = .dK ws ∧ ws.map (·.1) = kvs.map (·.1) ∧ RpL K H ex (ws.map (·.2)) (kvs.map (·.2))
  | .dt kvs => ∃ ws, o = .dT ws ∧ ws.map (·.1) = kvs.map (·.1) ∧ RpL K H ex (ws.map (·.2)) (kvs.map (·.2))
theorem CtOk.mono {K : PySem.W.Frag} {H H' : Hp} {ex ex' : AP} {o : HO} {c : Ct} (h : ∀ b o, H b = some o → NT o → ¬ ex b → H' b = some o ∧ ¬ ex' b) (q : CtOk K H ex o c) : CtOk K H' ex' o c := by
  cases c with
  | l ds => obtain ⟨xs, e, r⟩ := q; exact ⟨xs, e, r.mono h⟩
  | dk kvs => obtain ⟨ws, e, e2, r⟩ := q; exact ⟨ws, e, e2, r.mono h⟩
  | dt kvs => obtain ⟨ws, e, e2, r⟩ := q; exact ⟨ws, e, e2, r.mono h⟩
theorem CtOk.sub {K : PySem.W.Frag} {H : Hp} {ex ex' : AP} {o : HO} {c : Ct} (hx : ∀ b, ex' b → ex b) (q : CtOk K H ex o c) : CtOk K H ex' o c := q.mono fun b o e _ n => ⟨e, fun z => n (hx b z)⟩
theorem CtOk.write {K : PySem.W.Frag} {H : Hp} {ex : AP} {o u : HO} {c : Ct} {p : Addr} (h : ex p) (q : CtOk K H ex o c) : CtOk K (upd H p u) ex o c :=
  q.mono fun b u e _ n => ⟨by rw [upd_ne (fun z => n (by rw [z]; exact h))]; exact e, n⟩
theorem CtOk.fresh {K : PySem.W.Frag} {H : Hp} {ex : AP} {o u : HO} {c : Ct} {p : Addr} (h : H p = none) (q : CtOk K H ex o c) : CtOk K (upd H p u) (fun q => ex q ∨ q = p) o c :=
  q.mono fun b u e _ n => ⟨by rw [upd_ne (ne_of_none e h)]; exact e, fun z => z.elim n fun z => ne_of_none e h z⟩
/-- what may be owned -/
def Mt : HO → Prop
  | .lst _ => True
  | .dK _ => True
  | .dT _ => True
  | _ => False
theorem Mt.nt {o : HO} (h : Mt o) : NT o := by cases o <;> first | trivial | exact h.elim
theorem CtOk.mt {K : PySem.W.Frag} {H : Hp} {ex : AP} {o : HO} {c : Ct} (q : CtOk K H ex o c) : Mt o := by
  cases c with
  | l ds => obtain ⟨xs, e, r⟩ := q; subst e; trivial
  | dk kvs => obtain ⟨ws, e, e2, r⟩ := q; subst e; trivial
  | dt kvs => obtain ⟨ws, e, e2, r⟩ := q; subst e; trivial

def Own (Γ : List AV) (σ : Sg) (p : Addr) : Prop := ∃ (i : Nat) (c : Ct), Γ[i]? = some (AV.own c) ∧ σ[i]? = some (some (V.ref p))

/-- where a def stands: the heap at its entry, the places that were lent to it, foreign lists, the number of slots -/
structure Ent where
  H : Hp
  lent : List (Nat × Addr)
  fo : AP
  pn : Addr → HO → Prop
  n : Nat
def Ent.x (S : Ent) : AP := fun p => ∃ i, (i, p) ∈ S.lent

def slotOk (K : PySem.W.Frag) (H : Hp) (ex : AP) (s : Option (Option V)) : AV → Prop
  | .un => True
  | .dt d => ∃ x, s = some (some x) ∧ Rp K H ex x d
  | .own c => ∃ p o, s = some (some (V.ref p)) ∧ H p = some o ∧ CtOk K H ex o c
theorem slotOk.mono {K : PySem.W.Frag} {H H' : Hp} {ex ex' : AP} {s : Option (Option V)} {a : AV} (h : ∀ b o, H b = some o → NT o → ¬ ex b → H' b = some o ∧ ¬ ex' b) (ho : ∀ c p o, a = .own c → s = some (some (.ref p)) → H p = some o → Mt o → H' p = some o) (q : slotOk K H ex s a) : slotOk K H' ex' s a := by
  cases a with
  | un => trivial
  | dt d =>
    obtain ⟨x, e, q⟩ := q
    exact ⟨x, e, q.mono h⟩
  | own c =>
    obtain ⟨p, o, e, e2, q⟩ := q
    exact ⟨p, o, e, ho c p o rfl e e2 q.mt, q.mono h⟩

abbrev Exc (S : Ent) (Γ : List AV) (σ : Sg) (ex : AP) : AP := fun p => Own Γ σ p ∨ S.fo p ∨ ex p
abbrev no : AP := fun _ => False

structure RS (K : PySem.W.Frag) [Tb K] (S : Ent) (ex : AP) (Γ : List AV) (σ : Sg) (H : Hp) : Prop where
  slots : ∀ (i : Nat) (a : AV), Γ[i]? = some a → slotOk K H (Exc S Γ σ ex) σ[i]? a
  dist : ∀ (i j : Nat) (ds es : Ct) (p : Addr), Γ[i]? = some (AV.own ds) → Γ[j]? = some (AV.own es) → σ[i]? = some (some (V.ref p)) → σ[j]? = some (some (V.ref p)) → i = j
  fr : ∀ b o, S.H b = some o → ¬ S.x b → H b = some o
  own : ∀ p, Own Γ σ p → S.x p ∨ S.H p = none
  lent : ∀ (i : Nat) (p : Addr), (i, p) ∈ S.lent → σ[i]? = some (some (V.ref p)) ∧ ((∃ c, Γ[i]? = some (AV.own c)) ∨ ∃ ds, Γ[i]? = some (AV.dt (.lst ds)))
  nex : ∀ p, Own Γ σ p → ¬ ex p
  nfo : ∀ p, Own Γ σ p → ¬ S.fo p
  fo : ∀ p, S.fo p → (∃ o, H p = some o ∧ NT o) ∧ ¬ S.x p
  xtr : ∀ p, S.x p → S.H p ≠ none
  pin : ∀ b o, S.pn b o → H b = some o ∧ ¬ Own Γ σ b ∧ ¬ ex b
  nts : (∀ b o, S.H b = some o → NT o) ∧ ∀ b o, S.pn b o → NT o
  tabs : LamX.Tabs (Tb.tb K) H
  len : σ.length = S.n
  lenΓ : Γ.length = S.n

/-- a value that has come -/
def Res (K : PySem.W.Frag) [Tb K] (S : Ent) (Γ : List AV) (σ : Sg) (H : Hp) (x : V) : AV → Prop
  | .un => RS K S no Γ σ H
  | .dt d => RS K S no Γ σ H ∧ Rp K H (Exc S Γ σ no) x d
  | .own c => ∃ p o, x = V.ref p ∧ RS K S (· = p) Γ σ H ∧ H p = some o ∧ CtOk K H (Exc S Γ σ (· = p)) o c ∧ ¬ S.fo p ∧ S.H p = none

section
variable {K : PySem.W.Frag} [Tb K] {S : Ent} {ex ex' : AP} {Γ Γ' : List AV} {σ : Sg} {H H' : Hp} {x : V} {a : AV} {p : Addr} {i : Nat} {d : Dt} {ds : List Dt} {xs : List V}
theorem RS.ex_mono (r : RS K S ex Γ σ H) (h : ∀ p, ex' p → ex p) : RS K S ex' Γ σ H :=
  { r with
    slots := fun i a e => (r.slots i a e).mono (fun b o e _ n => ⟨e, fun z => n (z.elim .inl fun z => .inr (z.elim .inl fun z => .inr (h b z)))⟩) fun _ _ _ _ _ e _ => e
    nex := fun p o z => r.nex p o (h p z)
    pin := fun b o z => ⟨(r.pin b o z).1, (r.pin b o z).2.1, fun y => (r.pin b o z).2.2 (h b y)⟩ }
theorem RS.no (r : RS K S ex Γ σ H) : RS K S no Γ σ H := r.ex_mono fun _ z => z.elim
theorem RS.own_tr (r : RS K S ex Γ σ H) (h : Own Γ σ p) : ∃ o, H p = some o ∧ Mt o := by
  obtain ⟨i, ds, e1, e2⟩ := h
  obtain ⟨p', o, e3, e4, q⟩ := r.slots i _ e1
  rw [e2] at e3
  cases e3
  exact ⟨o, e4, q.mt⟩
/-- what is no owned thing is not owned -/
theorem RS.not_own {o : HO} (r : RS K S ex Γ σ H) (h : H p = some o) (n : ¬ Mt o) : ¬ Own Γ σ p := fun z => by
  obtain ⟨o', e, m⟩ := r.own_tr z
  rw [h] at e
  cases e
  exact n m
theorem RS.x_tr (r : RS K S ex Γ σ H) (h : S.x p) : ∃ o, H p = some o ∧ Mt o := by
  obtain ⟨i, hi⟩ := h
  obtain ⟨e, ⟨c, h⟩ | ⟨ds, h⟩⟩ := r.lent i p hi
  · exact r.own_tr ⟨i, c, h, e⟩
  · obtain ⟨x, e2, q⟩ := r.slots i _ h
    rw [e] at e2
    cases e2
    cases q with
    | lst q _ _ => exact ⟨_, q, trivial⟩
theorem RS.tr (r : RS K S ex Γ σ H) (h : S.H p ≠ none) : H p ≠ none := by
  by_cases hx : S.x p
  · obtain ⟨xs, e, _⟩ := r.x_tr hx
    rw [e]
    exact fun z => by cases z
  · cases e : S.H p with
    | none => exact absurd e h
    | some o =>
      rw [r.fr p o e hx]
      exact fun z => by cases z
theorem RS.new (r : RS K S ex Γ σ H) (h : H p = none) : ¬ Own Γ σ p ∧ ¬ S.fo p ∧ S.H p = none := by
  refine ⟨fun z => ?_, fun z => (by obtain ⟨⟨o, e, _⟩, _⟩ := r.fo p z; rw [h] at e; cases e), ?_⟩
  · obtain ⟨xs, e, _⟩ := r.own_tr z
    rw [h] at e
    cases e
  · cases e : S.H p with
    | none => rfl
    | some o => exact absurd h (r.tr (by rw [e]; exact fun z => by cases z))
theorem RS.new' (r : RS K S ex Γ σ H) (h : noTb H p = none) : ¬ S.fo p ∧ S.H p = none := by
  have no : ∀ o, H p = some o → ¬ NT o := fun o e t => by
    have := noTb_of e t
    rw [h] at this
    cases this
  refine ⟨fun z => ?_, ?_⟩
  · obtain ⟨⟨o, e, t⟩, _⟩ := r.fo p z
    exact no o e t
  · cases e : S.H p with
    | none => rfl
    | some o =>
      by_cases hx : S.x p
      · obtain ⟨u, eu, mu⟩ := r.x_tr hx
        exact (no u eu mu.nt).elim
      · exact (no o (r.fr p o e hx) (r.nts.1 p o e)).elim
/-- a new object: it is no part of what was there -/
theorem RS.alloc {o : HO} (r : RS K S ex Γ σ H) (h : H p = none) : RS K S (fun q => ex q ∨ q = p) Γ σ (upd H p o) :=
  { r with
    slots := fun i a e => by
      obtain ⟨n1, n2, n3⟩ := r.new h
      refine (r.slots i a e).mono (fun b u e _ n => ⟨by rw [upd_ne (ne_of_none e h)]; exact e, fun z => ?_⟩) fun _ _ _ _ _ e _ => by rw [upd_ne (ne_of_none e h)]; exact e
      rcases z with z | z | z | z
      · exact n (.inl z)
      · exact n (.inr (.inl z))
      · exact n (.inr (.inr z))
      · exact ne_of_none e h z
    fr := fun b u e n => by
      have := r.fr b u e n
      rw [upd_ne (ne_of_none this h)]
      exact this
    tabs := r.tabs.ext fun b u e => by rw [upd_ne (ne_of_none e h)]; exact e
    nex := fun q z y => y.elim (r.nex q z) fun y => (r.new h).1 (y ▸ z)
    pin := fun b u z => by
      obtain ⟨h1, h2, h3⟩ := r.pin b u z
      have n : b ≠ p := ne_of_none h1 h
      exact ⟨by rw [upd_ne n]; exact h1, h2, fun y => y.elim h3 n⟩
    fo := fun q z => by
      obtain ⟨⟨o, e, t⟩, y⟩ := r.fo q z
      exact ⟨⟨o, by rw [upd_ne (ne_of_none e h)]; exact e, t⟩, y⟩ }
theorem Res.rs (h : Res K S Γ σ H x a) : RS K S DL.no Γ σ H := by
  cases a with
  | un => exact h
  | dt d => exact h.1
  | own c => obtain ⟨p, xs, _, r, _⟩ := h; exact r.no
/-- a new thing of one's own -/
theorem Res.newC {o : HO} {ct : Ct} (r : RS K S DL.no Γ σ H) (h : H p = none) (q : CtOk K H (Exc S Γ σ DL.no) o ct) : Res K S Γ σ (upd H p o) (.ref p) (.own ct) :=
  ⟨p, o, rfl, (r.alloc h).ex_mono fun _ z => .inr z, upd_same, (q.fresh h).sub fun b z => by
    rcases z with z | z | z
    · exact .inl (.inl z)
    · exact .inl (.inr (.inl z))
    · exact .inr z, (r.new h).2.1, (r.new h).2.2⟩
/-- a new list -/
theorem Res.newL (r : RS K S DL.no Γ σ H) (h : H p = none) (q : RpL K H (Exc S Γ σ DL.no) xs ds) : Res K S Γ σ (upd H p (.lst xs)) (.ref p) (.ow ds) :=
  Res.newC r h ⟨xs, rfl, q⟩
theorem Res.newT (r : RS K S DL.no Γ σ H) (h : H p = none) (q : RpL K H (Exc S Γ σ DL.no) xs ds) : Res K S Γ σ (upd H p (.tup xs)) (.ref p) (.dt (.tup ds)) := by
  have n := r.new h
  refine ⟨(r.alloc h).no, .tup upd_same ?_ ((q.fresh h).sub fun b z => .inl z)⟩
  rintro (z | z | z)
  · exact n.1 z
  · exact n.2.1 z
  · exact z
/-- a fresh list as data -/
theorem Res.freeze (h : Res K S Γ σ H x (.ow ds)) : Res K S Γ σ H x (.dt (.lst ds)) := by
  obtain ⟨p, _, rfl, r, e, ⟨xs, rfl, q⟩, nf, n⟩ := h
  refine ⟨r.no, .lst e ?_ (q.sub fun b z => z.elim .inl fun z => .inr (z.elim .inl fun z => z.elim))⟩
  rintro (z | z | z)
  · exact r.nex p z rfl
  · exact nf z
  · exact z

/-! ### slots -/
theorem getSet {α : Type} {l : List α} {i j : Nat} {x y : α} (h : (l.set i x)[j]? = some y) : (i = j ∧ y = x ∧ i < l.length) ∨ (i ≠ j ∧ l[j]? = some y) := by
  by_cases e : i = j
  · subst e
    by_cases hl : i < l.length
    · rw [List.getElem?_set_self hl] at h
      exact .inl ⟨rfl, (Option.some.inj h).symm, hl⟩
    · rw [List.getElem?_eq_none (by rw [List.length_set]; omega)] at h
      cases h
  · rw [List.getElem?_set_ne e] at h
    exact .inr ⟨e, h⟩
theorem ltOf {α : Type} {l : List α} {i : Nat} {x : α} (h : l[i]? = some x) : i < l.length := (List.getElem?_eq_some_iff.mp h).1
theorem own_lt (h : Own Γ σ p) : ∃ i, i < Γ.length ∧ i < σ.length := let ⟨i, _, e1, e2⟩ := h; ⟨i, ltOf e1, ltOf e2⟩
/-- the list of a slot, seen as data from here on -/
theorem RS.freeze (r : RS K S ex Γ σ H) (h : Γ[i]? = some (.ow ds)) : RS K S ex (Γ.set i (.dt (.lst ds))) σ H := by
  have sub : ∀ p, Own (Γ.set i (.dt (.lst ds))) σ p → Own Γ σ p ∧ ¬ σ[i]? = some (some (.ref p)) := fun p ⟨j, es, e1, e2⟩ => by
    rcases getSet e1 with ⟨_, z, _⟩ | ⟨n, e1⟩
    · cases z
    · exact ⟨⟨j, es, e1, e2⟩, fun z => n (r.dist i j _ es p h e1 z e2)⟩
  have subE : ∀ p, Exc S (Γ.set i (.dt (.lst ds))) σ ex p → Exc S Γ σ ex p := fun p z => z.elim (fun z => .inl (sub p z).1) .inr
  refine { r with slots := fun j a e => ?_, dist := fun j k es fs p e1 e2 e3 e4 => ?_, own := fun p o => r.own p (sub p o).1, pin := fun b o z => ⟨(r.pin b o z).1, fun y => (r.pin b o z).2.1 (sub b y).1, (r.pin b o z).2.2⟩, lent := fun j p e => ?_, nex := fun p o => r.nex p (sub p o).1, nfo := fun p o => r.nfo p (sub p o).1, lenΓ := by rw [List.length_set]; exact r.lenΓ }
  · rcases getSet e with ⟨rfl, rfl, _⟩ | ⟨n, e⟩
    · obtain ⟨p, _, e1, e2, xs, rfl, q⟩ := r.slots i _ h
      refine ⟨.ref p, e1, .lst e2 ?_ (q.sub subE)⟩
      rintro (z | z | z)
      · exact (sub p z).2 e1
      · exact r.nfo p ⟨i, _, h, e1⟩ z
      · exact r.nex p ⟨i, _, h, e1⟩ z
    · exact (r.slots j a e).mono (fun b o e _ n => ⟨e, fun z => n (subE b z)⟩) fun _ _ _ _ _ e _ => e
  · rcases getSet e1 with ⟨_, z, _⟩ | ⟨n, e1⟩
    · cases z
    rcases getSet e2 with ⟨_, z, _⟩ | ⟨n, e2⟩
    · cases z
    exact r.dist j k es fs p e1 e2 e3 e4
  · obtain ⟨e1, e2⟩ := r.lent j p e
    refine ⟨e1, ?_⟩
    by_cases hij : i = j
    · subst hij
      exact .inr ⟨ds, List.getElem?_set_self (ltOf h)⟩
    · rw [List.getElem?_set_ne hij]
      exact e2
/-- a slot forgotten -/
theorem RS.forget (r : RS K S ex Γ σ H) (hl : ∀ p, (i, p) ∉ S.lent) : RS K S ex (Γ.set i .un) σ H := by
  have sub : ∀ p, Own (Γ.set i .un) σ p → Own Γ σ p := fun p ⟨j, es, e1, e2⟩ => by
    rcases getSet e1 with ⟨_, z, _⟩ | ⟨n, e1⟩
    · cases z
    · exact ⟨j, es, e1, e2⟩
  have subE : ∀ p, Exc S (Γ.set i .un) σ ex p → Exc S Γ σ ex p := fun p z => z.elim (fun z => .inl (sub p z)) .inr
  refine { r with slots := fun j a e => ?_, dist := fun j k es fs p e1 e2 e3 e4 => ?_, own := fun p o => r.own p (sub p o), pin := fun b o z => ⟨(r.pin b o z).1, fun y => (r.pin b o z).2.1 (sub b y), (r.pin b o z).2.2⟩, lent := fun j p e => ?_, nex := fun p o => r.nex p (sub p o), nfo := fun p o => r.nfo p (sub p o), lenΓ := by rw [List.length_set]; exact r.lenΓ }
  · rcases getSet e with ⟨rfl, rfl, _⟩ | ⟨n, e⟩
    · trivial
    · exact (r.slots j a e).mono (fun b o e _ n => ⟨e, fun z => n (subE b z)⟩) fun _ _ _ _ _ e _ => e
  · rcases getSet e1 with ⟨_, z, _⟩ | ⟨n, e1⟩
    · cases z
    rcases getSet e2 with ⟨_, z, _⟩ | ⟨n, e2⟩
    · cases z
    exact r.dist j k es fs p e1 e2 e3 e4
  · obtain ⟨e1, e2⟩ := r.lent j p e
    refine ⟨e1, ?_⟩
    by_cases hij : i = j
    · subst hij
      exact absurd e (hl p)
    · rw [List.getElem?_set_ne hij]
      exact e2
/-- the thing of a slot that is not lent, taken out of it -/
theorem RS.move {ct : Ct} (r : RS K S DL.no Γ σ H) (h : Γ[i]? = some (.own ct)) (hl : ∀ p, (i, p) ∉ S.lent) : ∃ p, σ[i]? = some (some (.ref p)) ∧ Res K S (Γ.set i .un) σ H (.ref p) (.own ct) := by
  obtain ⟨p, ob, e1, e2, q⟩ := r.slots i _ h
  have o : Own Γ σ p := ⟨i, ct, h, e1⟩
  have nO : ¬ Own (Γ.set i .un) σ p := fun ⟨j, es, z1, z2⟩ => by
    rcases getSet z1 with ⟨_, z, _⟩ | ⟨n, z1⟩
    · cases z
    · exact n (r.dist i j ct es p h z1 e1 z2)
  have sub : ∀ p, Own (Γ.set i .un) σ p → Own Γ σ p := fun p ⟨j, es, e1, e2⟩ => by
    rcases getSet e1 with ⟨_, z, _⟩ | ⟨n, e1⟩
    · cases z
    · exact ⟨j, es, e1, e2⟩
  have subE : ∀ b, Exc S (Γ.set i .un) σ (· = p) b → Exc S Γ σ DL.no b := fun b z => by
    rcases z with z | z | z
    · exact .inl (sub b z)
    · exact .inr (.inl z)
    · exact .inl (z ▸ o)
  have nx : ¬ S.x p := fun ⟨j, hj⟩ => by
    obtain ⟨z1, ⟨es, z2⟩ | ⟨es, z2⟩⟩ := r.lent j p hj
    · have := r.dist i j ct es p h z2 e1 z1
      subst this
      exact hl p hj
    · obtain ⟨x, z3, z4⟩ := r.slots j _ z2
      rw [z1] at z3
      cases z3
      cases z4 with
      | lst _ n _ => exact n (.inl o)
  refine ⟨p, e1, p, ob, rfl, { r.forget hl with slots := fun j a e => ?_, nex := fun b o z => nO (z ▸ o), pin := fun b u z => ⟨(r.pin b u z).1, fun y => (r.pin b u z).2.1 (sub b y), fun y => (r.pin b u z).2.1 (y ▸ o)⟩ }, e2, q.sub subE, r.nfo p o, (r.own p o).resolve_left nx⟩
  rcases getSet e with ⟨rfl, rfl, _⟩ | ⟨n, e⟩
  · trivial
  · exact (r.slots j a e).mono (fun b o e _ n => ⟨e, fun z => n (subE b z)⟩) fun _ _ _ _ _ e _ => e
/-- what is written where something may be owned is no table, nor a code object -/
theorem tabs_write {T : List (Addr × Str)} {old o : HO} (t : LamX.Tabs T H) (e : H p = some old) (m : Mt old) : LamX.Tabs T (upd H p o) := by
  intro pq hpq
  obtain ⟨ps, t1, t2, t3⟩ := t pq hpq
  have np : pq.1 ≠ p := fun z => by
    rw [z, e] at t1
    cases t1
    exact m
  refine ⟨ps, by rw [upd_ne np]; exact t1, t2, fun pos cv hc => ?_⟩
  obtain ⟨cc, k1, k2⟩ := t3 pos cv hc
  refine ⟨cc, k1, ?_⟩
  rw [upd_ne]
  · exact k2
  · rintro rfl
    rw [e] at k2
    cases k2
    exact m
/-- the thing of a slot, changed -/
theorem RS.writeC {ct cu : Ct} {ob : HO} (r : RS K S ex Γ σ H) (h : Γ[i]? = some (.own ct)) (e1 : σ[i]? = some (some (.ref p))) (q : CtOk K H (Exc S Γ σ ex) ob cu) : RS K S ex (Γ.set i (.own cu)) σ (upd H p ob) := by
  have o : Own Γ σ p := ⟨i, ct, h, e1⟩
  have sub : ∀ b, Own (Γ.set i (.own cu)) σ b → Own Γ σ b := fun b ⟨j, fs, z1, z2⟩ => by
    rcases getSet z1 with ⟨rfl, _, _⟩ | ⟨n, z1⟩
    · exact ⟨i, ct, h, z2⟩
    · exact ⟨j, fs, z1, z2⟩
  have subE : ∀ b, Exc S (Γ.set i (.own cu)) σ ex b → Exc S Γ σ ex b := fun b z => z.elim (fun z => .inl (sub b z)) .inr
  have nx := r.own p o
  obtain ⟨old, eold, mold⟩ := r.own_tr o
  refine { r with slots := fun j a e => ?_, dist := fun j k es1 fs b z1 z2 z3 z4 => ?_, fr := fun b u z n => ?_, own := fun b z => r.own b (sub b z), lent := fun j b z => ?_, nex := fun b z => r.nex b (sub b z), nfo := fun b z => r.nfo b (sub b z), pin := fun b u z => ⟨by rw [upd_ne (show b ≠ p from fun y => (r.pin b u z).2.1 (y ▸ o))]; exact (r.pin b u z).1, fun y => (r.pin b u z).2.1 (sub b y), (r.pin b u z).2.2⟩, fo := fun b z => ⟨by rw [upd_ne (show b ≠ p from fun y => r.nfo p o (y ▸ z))]; exact (r.fo b z).1, (r.fo b z).2⟩, tabs := ?_, lenΓ := by rw [List.length_set]; exact r.lenΓ }
  · rcases getSet e with ⟨rfl, rfl, _⟩ | ⟨n, e⟩
    · exact ⟨p, ob, e1, upd_same, (q.write (.inl o)).sub subE⟩
    · refine (r.slots j a e).mono (fun b u e _ n => ⟨by rw [upd_ne (show b ≠ p from fun z => n (.inl (by rw [z]; exact o)))]; exact e, fun z => n (subE b z)⟩) fun fs b zs ea eb ec _ => ?_
      subst ea
      rw [upd_ne]
      · exact ec
      · rintro rfl
        exact n (r.dist i j ct fs b h e e1 eb)
  · have fix : ∀ (j : Nat) (gs : Ct), (Γ.set i (.own cu))[j]? = some (.own gs) → ∃ gs', Γ[j]? = some (.own gs') := fun j gs z => by
      rcases getSet z with ⟨rfl, _, _⟩ | ⟨n, z⟩
      · exact ⟨ct, h⟩
      · exact ⟨gs, z⟩
    obtain ⟨g1, y1⟩ := fix j _ z1
    obtain ⟨g2, y2⟩ := fix k _ z2
    exact r.dist j k g1 g2 b y1 y2 z3 z4
  · have := r.fr b u z n
    rw [upd_ne]
    · exact this
    · rintro rfl
      rcases nx with y | y
      · exact n y
      · rw [y] at z
        cases z
  · obtain ⟨z1, z2⟩ := r.lent j b z
    refine ⟨z1, ?_⟩
    by_cases hij : i = j
    · subst hij
      exact .inl ⟨cu, List.getElem?_set_self (ltOf h)⟩
    · rw [List.getElem?_set_ne hij]
      exact z2
  · exact tabs_write r.tabs eold mold
/-- the list of a slot, changed -/
theorem RS.write {es : List Dt} {ys : List V} (r : RS K S ex Γ σ H) (h : Γ[i]? = some (.ow ds)) (e1 : σ[i]? = some (some (.ref p))) (q : RpL K H (Exc S Γ σ ex) ys es) : RS K S ex (Γ.set i (.ow es)) σ (upd H p (.lst ys)) :=
  r.writeC h e1 ⟨ys, rfl, q⟩
/-- a value beside others that are not to be met -/
def ResX (K : PySem.W.Frag) [Tb K] (S : Ent) (ex : AP) (Γ : List AV) (σ : Sg) (H : Hp) (x : V) : AV → Prop
  | .un => RS K S ex Γ σ H
  | .dt d => RS K S ex Γ σ H ∧ Rp K H (Exc S Γ σ ex) x d
  | .own c => ∃ p o, x = V.ref p ∧ RS K S (fun b => ex b ∨ b = p) Γ σ H ∧ H p = some o ∧ CtOk K H (Exc S Γ σ (fun b => ex b ∨ b = p)) o c ∧ ¬ S.fo p ∧ ¬ ex p ∧ S.H p = none
theorem ResX.rs (h : ResX K S ex Γ σ H x a) : RS K S ex Γ σ H := by
  cases a with
  | un => exact h
  | dt d => exact h.1
  | own ds => obtain ⟨p, xs, _, r, _⟩ := h; exact r.ex_mono fun _ z => .inl z
/-- a value stored into a slot that is not lent -/
theorem RS.storeX (hr : ResX K S ex Γ σ H x a) (hi : i < S.n) (hl : ∀ p, (i, p) ∉ S.lent) : RS K S ex (Γ.set i a) (σ.set i (some x)) H := by
  have r := hr.rs
  have li : i < σ.length := by rw [r.len]; exact hi
  have lg : i < Γ.length := by rw [r.lenΓ]; exact hi
  have sub : ∀ b, Own (Γ.set i a) (σ.set i (some x)) b → Own Γ σ b ∨ ((∃ ds, a = .own ds) ∧ x = .ref b) := fun b ⟨j, fs, z1, z2⟩ => by
    rcases getSet z1 with ⟨rfl, z, _⟩ | ⟨n, z1⟩
    · rw [List.getElem?_set_self li] at z2
      exact .inr ⟨⟨fs, z.symm⟩, Option.some.inj (Option.some.inj z2)⟩
    · rw [List.getElem?_set_ne n] at z2
      exact .inl ⟨j, fs, z1, z2⟩
  -- what is not to be met by the other slots
  have key : ∀ b, Exc S (Γ.set i a) (σ.set i (some x)) ex b → Exc S Γ σ (fun b => ex b ∨ ((∃ ds, a = .own ds) ∧ x = .ref b)) b := fun b z => by
    rcases z with z | z | z
    · rcases sub b z with y | y
      · exact .inl y
      · exact .inr (.inr (.inr y))
    · exact .inr (.inl z)
    · exact .inr (.inr (.inl z))
  have slots' : ∀ (j : Nat) (c : AV), Γ[j]? = some c → slotOk K H (Exc S Γ σ (fun b => ex b ∨ ((∃ ds, a = .own ds) ∧ x = .ref b))) σ[j]? c := fun j c e => by
    cases a with
    | un => exact (r.slots j c e).mono (fun b o e _ n => ⟨e, fun z => z.elim (fun z => n (.inl z)) fun z => z.elim (fun z => n (.inr (.inl z))) fun z => z.elim (fun z => n (.inr (.inr z))) fun ⟨⟨_, z⟩, _⟩ => by cases z⟩) fun _ _ _ _ _ e _ => e
    | dt d => exact (r.slots j c e).mono (fun b o e _ n => ⟨e, fun z => z.elim (fun z => n (.inl z)) fun z => z.elim (fun z => n (.inr (.inl z))) fun z => z.elim (fun z => n (.inr (.inr z))) fun ⟨⟨_, z⟩, _⟩ => by cases z⟩) fun _ _ _ _ _ e _ => e
    | own ds =>
      obtain ⟨p, xs, rfl, r', e1, q, nf, nx, n'⟩ := hr
      exact (r'.slots j c e).mono (fun b o e _ n => ⟨e, fun z => z.elim (fun z => n (.inl z)) fun z => z.elim (fun z => n (.inr (.inl z))) fun z => z.elim (fun z => n (.inr (.inr (.inl z)))) fun ⟨_, z⟩ => n (.inr (.inr (.inr (V.ref.inj z).symm)))⟩) fun _ _ _ _ _ e _ => e
  have nown : ∀ b, (∃ ds, a = .own ds) → x = .ref b → ¬ Own Γ σ b ∧ S.H b = none ∧ ¬ S.fo b ∧ ¬ ex b := fun b ⟨ds, ea⟩ exx => by
    subst ea
    obtain ⟨p, xs, e0, r', e1, q, nf, nx, n'⟩ := hr
    rw [exx] at e0
    cases e0
    exact ⟨fun z => r'.nex b z (.inr rfl), n', nf, nx⟩
  refine { r with slots := fun j c e => ?_, dist := fun j k es fs b z1 z2 z3 z4 => ?_, own := fun b z => ?_, lent := fun j b z => ?_, nex := fun b z => ?_, nfo := fun b z => ?_, pin := fun b u z => ⟨(r.pin b u z).1, fun y => ?_, (r.pin b u z).2.2⟩, len := by rw [List.length_set]; exact r.len, lenΓ := by rw [List.length_set]; exact r.lenΓ }
  · rcases getSet e with ⟨rfl, rfl, _⟩ | ⟨n, e⟩
    · rw [List.getElem?_set_self li]
      cases c with
      | un => trivial
      | dt d =>
        obtain ⟨_, q⟩ := hr
        exact ⟨x, rfl, q.sub fun b z => (key b z).elim .inl fun z => .inr (z.elim .inl fun z => z.elim .inr fun ⟨⟨_, z⟩, _⟩ => by cases z)⟩
      | own ds =>
        obtain ⟨p, xs, rfl, r', e1, q, nf, nx, n'⟩ := hr
        exact ⟨p, xs, rfl, e1, q.sub fun b z => (key b z).elim .inl fun z => .inr (z.elim .inl fun z => .inr (z.elim .inl fun ⟨_, z⟩ => .inr (V.ref.inj z).symm))⟩
    · rw [List.getElem?_set_ne n]
      exact (slots' j c e).mono (fun b o e _ n => ⟨e, fun z => n (key b z)⟩) fun _ _ _ _ _ e _ => e
  · rcases getSet z1 with ⟨rfl, y1, _⟩ | ⟨n1, z1⟩
    · rcases getSet z2 with ⟨rfl, y2, _⟩ | ⟨n2, z2⟩
      · rfl
      · rw [List.getElem?_set_self li] at z3
        rw [List.getElem?_set_ne n2] at z4
        exact absurd ⟨k, fs, z2, z4⟩ (nown b ⟨es, y1.symm⟩ (Option.some.inj (Option.some.inj z3))).1
    · rcases getSet z2 with ⟨rfl, y2, _⟩ | ⟨n2, z2⟩
      · rw [List.getElem?_set_self li] at z4
        rw [List.getElem?_set_ne n1] at z3
        exact absurd ⟨j, es, z1, z3⟩ (nown b ⟨fs, y2.symm⟩ (Option.some.inj (Option.some.inj z4))).1
      · rw [List.getElem?_set_ne n1] at z3
        rw [List.getElem?_set_ne n2] at z4
        exact r.dist j k es fs b z1 z2 z3 z4
  · rcases sub b z with y | ⟨y1, y2⟩
    · exact r.own b y
    · exact .inr (nown b y1 y2).2.1
  · obtain ⟨z1, z2⟩ := r.lent j b z
    have n : i ≠ j := by
      rintro rfl
      exact hl b z
    rw [List.getElem?_set_ne n, List.getElem?_set_ne n]
    exact ⟨z1, z2⟩
  · rcases sub b z with y | ⟨y1, y2⟩
    · exact r.nex b y
    · exact (nown b y1 y2).2.2.2
  · rcases sub b z with y | ⟨y1, y2⟩
    · exact r.nfo b y
    · exact (nown b y1 y2).2.2.1
  · rcases sub b y with y | ⟨⟨ds, ea⟩, y2⟩
    · exact (r.pin b u z).2.1 y
    · subst ea
      obtain ⟨p, xs, e0, r', e1, q, nf, nx, n'⟩ := hr
      rw [y2] at e0
      cases e0
      exact (r'.pin b u z).2.2 (.inr rfl)
theorem Res.toX (h : Res K S Γ σ H x a) : ResX K S DL.no Γ σ H x a := by
  cases a with
  | un => exact h
  | dt d => exact h
  | own ds =>
    obtain ⟨p, xs, e, r, e1, q, nf, n⟩ := h
    exact ⟨p, xs, e, r.ex_mono fun b z => z.elim False.elim id, e1, q.sub fun b z => z.elim .inl fun z => .inr (z.elim .inl fun z => .inr (z.elim False.elim id)), nf, id, n⟩
theorem RS.store (hr : Res K S Γ σ H x a) (hi : i < S.n) (hl : ∀ p, (i, p) ∉ S.lent) : RS K S DL.no (Γ.set i a) (σ.set i (some x)) H := RS.storeX hr.toX hi hl
end
end DL

namespace DL
open PySem PySem.Spec
open PyProof.Rows L2

/-! ### families of contexts: a def's body, a comprehension's blocks -/
structure Core where
  prog : Program
  w : World
  K : PySem.W.Frag
  mg : Str → Option Value
  base : Heap
  A : Around
  N : List Str
  stack : List Env
  calm : Bool
structure Var where
  s : Shared
  H : Hp
  env : Env
  outer : List Env
  ex : List Addr
  fn : Str → Bool
  pn : List (Addr × Obj)
  xe : Value → Shared → Prop
abbrev mkX (c : Core) [Tb c.K] (v : Var) : Cx where
  prog := c.prog
  w := c.w
  K := c.K
  mg := c.mg
  base := c.base
  A := c.A
  N := c.N
  s_0 := v.s
  H_0 := v.H
  env := v.env
  outer := v.outer
  stack := c.stack
  ex := v.ex
  fn := v.fn
  calm := c.calm
  pn := v.pn
  xe := v.xe

section
variable (c : Core) [Tb c.K] {ι : Type} (v : ι → Var)
/-- the weakest readings -/
def wE (e : Expr) : TE := fun σ H R => ∃ t : TE, (∀ i, PE (mkX c (v i)) e t) ∧ t σ H R
def wT (e : Expr) : TT := fun σ H R => ∃ t : TT, (∀ i, PT (mkX c (v i)) e t) ∧ t σ H R
def wA (es : List Expr) : TA := fun σ H R => ∃ t : TA, (∀ i, PA (mkX c (v i)) es t) ∧ t σ H R
def wK (kws : List Keyword) : TA := fun σ H R => ∃ t : TA, (∀ i, PK (mkX c (v i)) kws t) ∧ t σ H R
def wS (st : Stmt) : TS := fun D σ H => ∃ t : TS, (∀ i, PS (mkX c (v i)) st t) ∧ t D σ H
def wB (sts : List Stmt) : TS := fun D σ H => ∃ t : TS, (∀ i, PSs (mkX c (v i)) sts t) ∧ t D σ H
def wI (tg e : Expr) : TI := fun σ H R => ∃ t : TI, (∀ i, PI (mkX c (v i)) tg e t) ∧ t σ H R
end
section
variable {c : Core} [Tb c.K] {ι : Type} {v : ι → Var} {e : Expr} {es : List Expr} {kws : List Keyword} {st : Stmt} {sts : List Stmt} {tg : Expr}
theorem wE.pe (i : ι) : PE (mkX c (v i)) e (wE c v e) := ⟨fun pins s σ H Q I ⟨_, h, q⟩ => (h i).run pins s σ H Q I q⟩
theorem wT.pt (i : ι) : PT (mkX c (v i)) e (wT c v e) := ⟨fun pins s σ H Q I ⟨_, h, q⟩ => (h i).run pins s σ H Q I q⟩
theorem wA.pa (i : ι) : PA (mkX c (v i)) es (wA c v es) := ⟨fun pos pins s σ H Q I ⟨_, h, q⟩ => (h i).run pos pins s σ H Q I q⟩
theorem wK.pk (i : ι) : PK (mkX c (v i)) kws (wK c v kws) := ⟨fun pos pins s σ H Q I ⟨_, h, q⟩ => (h i).run pos pins s σ H Q I q⟩
theorem wS.ps (i : ι) : PS (mkX c (v i)) st (wS c v st) := ⟨fun pins s σ H Q I ⟨_, h, q⟩ => (h i).run pins s σ H Q I q⟩
theorem wB.pss (i : ι) : PSs (mkX c (v i)) sts (wB c v sts) := ⟨fun pins s σ H Q I ⟨_, h, q⟩ => (h i).run pins s σ H Q I q⟩
theorem wI.pi (i : ι) : PI (mkX c (v i)) tg e (wI c v tg e) := ⟨fun pins s σ H Q I ⟨_, h, q⟩ => (h i).run pins s σ H Q I q⟩
theorem wE.mono {σ : Sg} {H : Hp} {R R' : VK} (h : wE c v e σ H R) (m : ∀ x H', R x H' → R' x H') : wE c v e σ H R' := by
  obtain ⟨t, ht, q⟩ := h
  refine ⟨fun σ H R' => ∃ R, t σ H R ∧ ∀ x H', R x H' → R' x H', fun i => ⟨fun pins s σ H Q I ⟨R, q, m⟩ => ?_⟩, R, q, m⟩
  exact thn ((ht i).run pins s σ H R I q) fun u s' ⟨x, H', I', r, q⟩ => ⟨x, H', I', r, m x H' q⟩
end

/-! ### arguments: data, or a slot's list on loan -/
inductive AK where
  | d (a : AV)
  | ln (i : Nat)
def RpA (K : PySem.W.Frag) (H : Hp) (ex : AP) (x : V) : AV → Prop
  | .un => True
  | .dt d => Rp K H ex x d
  | .own (.l ds) => Rp K H ex x (.lst ds)
  | .own _ => True
def RpK (K : PySem.W.Frag) (H : Hp) (ex : AP) (σ : Sg) (x : V) : AK → Prop
  | .d a => RpA K H ex x a
  | .ln i => σ[i]? = some (some x)
def RpKL (K : PySem.W.Frag) (H : Hp) (ex : AP) (σ : Sg) : List V → List AK → Prop
  | [], [] => True
  | x :: xs, a :: as => RpK K H ex σ x a ∧ RpKL K H ex σ xs as
  | _, _ => False

section
variable {K : PySem.W.Frag} [Tb K] {S : Ent} {ex ex' : AP} {Γ Γ' Γ'' : List AV} {σ : Sg} {H H' H'' : Hp} {x : V} {a : AV} {p : Addr} {i : Nat} {d : Dt} {ds : List Dt} {xs : List V}
theorem RpA.mono (h : ∀ b o, H b = some o → NT o → ¬ ex b → H' b = some o ∧ ¬ ex' b) (r : RpA K H ex x a) : RpA K H' ex' x a := by
  cases a with
  | un => trivial
  | dt d => exact Rp.mono h r
  | own c =>
    cases c with
    | l ds => exact Rp.mono h r
    | dk _ => trivial
    | dt _ => trivial
theorem RpK.mono {a : AK} (h : ∀ b o, H b = some o → NT o → ¬ ex b → H' b = some o ∧ ¬ ex' b) (r : RpK K H ex σ x a) : RpK K H' ex' σ x a := by
  cases a with
  | d a => exact RpA.mono h r
  | ln i => exact r
theorem RpKL.mono (h : ∀ b o, H b = some o → NT o → ¬ ex b → H' b = some o ∧ ¬ ex' b) : ∀ {as : List AK} {xs : List V}, RpKL K H ex σ xs as → RpKL K H' ex' σ xs as
  | [], [], _ => trivial
  | _ :: _, _ :: _, r => ⟨RpK.mono h r.1, RpKL.mono h r.2⟩
  | [], _ :: _, r => r.elim
  | _ :: _, [], r => r.elim
theorem Res.rpa (h : Res K S Γ σ H x a) : RpA K H (Exc S Γ σ DL.no) x a := by
  cases a with
  | un => trivial
  | dt d => exact h.2
  | own c =>
    cases c with
    | l ds => exact (Res.freeze h).2
    | dk _ => trivial
    | dt _ => trivial

/-- what an expression may change -/
structure Step (Γ Γ' : List AV) (σ : Sg) (H H' : Hp) : Prop where
  fr : ∀ b o, H b = some o → NT o → ¬ Own Γ σ b → H' b = some o
  own : ∀ p, Own Γ' σ p → Own Γ σ p
theorem Step.refl : Step Γ Γ σ H H := ⟨fun _ _ e _ _ => e, fun _ o => o⟩
theorem Step.trans (s : Step Γ Γ' σ H H') (t : Step Γ' Γ'' σ H' H'') : Step Γ Γ'' σ H H'' :=
  ⟨fun b o e k n => t.fr b o (s.fr b o e k n) k fun z => n (s.own b z), fun p z => s.own p (t.own p z)⟩
theorem Step.alloc {o : HO} (s : Step Γ Γ' σ H H') (h : H' p = none) : Step Γ Γ' σ H (upd H' p o) :=
  ⟨fun b u e k n => by
    have := s.fr b u e k n
    rw [upd_ne (ne_of_none this h)]
    exact this, s.own⟩
/-- a list that has come is new, or a slot's own -/
def New (H : Hp) (Γ : List AV) (σ : Sg) (x : V) : AV → Prop
  | .own _ => ∃ p, x = V.ref p ∧ ((∀ o, H p = some o → ¬ NT o) ∨ Own Γ σ p)
  | _ => True
theorem New.back (n : New H' Γ' σ x a) (s : Step Γ Γ' σ H H') : New H Γ σ x a := by
  cases a with
  | own ds =>
    obtain ⟨p, e, h⟩ := n
    refine ⟨p, e, ?_⟩
    rcases h with h | h
    · by_cases o : Own Γ σ p
      · exact .inr o
      · exact .inl fun u e t => h u (s.fr p u e t o) t
    · exact .inr (s.own p h)
  | _ => trivial
theorem New.ofC {ct : Ct} (s : Step Γ Γ' σ H H') (h : H' p = none) : New H Γ σ (.ref p) (.own ct) := New.back (H' := H') (Γ' := Γ') ⟨p, rfl, .inl fun o e => by rw [h] at e; cases e⟩ s
theorem New.ofL (s : Step Γ Γ' σ H H') (h : H' p = none) : New H Γ σ (.ref p) (.ow ds) := New.ofC s h
/-- what was made ahead of a step still stands -/
theorem Step.keeps (s : Step Γ Γ' σ H H') : ∀ b o, H b = some o → NT o → ¬ Exc S Γ σ DL.no b → H' b = some o ∧ ¬ Exc S Γ' σ DL.no b := fun b o e t n =>
  ⟨s.fr b o e t fun z => n (.inl z), fun z => n (z.elim (fun z => .inl (s.own b z)) .inr)⟩
end

/-! ### expressions over plain data -/
section
variable (c : Core) [Tb c.K] {ι : Type} (v : ι → Var) (S : Ent)
def ED (e : Expr) (Γ : List AV) (Q : AV → List AV → Prop) : Prop := ∀ (σ : Sg) (H : Hp) (R : VK), RS c.K S no Γ σ H →
  (∀ x H' a Γ', Q a Γ' → Res c.K S Γ' σ H' x a → Step Γ Γ' σ H H' → New H Γ σ x a → R x H') → wE c v e σ H R
def TD (e : Expr) (Γ : List AV) (Q : Bool → List AV → Prop) : Prop := ∀ (σ : Sg) (H : Hp) (R : Bool → Hp → Prop), RS c.K S no Γ σ H →
  (∀ b H' Γ', Q b Γ' → RS c.K S no Γ' σ H' → Step Γ Γ' σ H H' → R b H') → wT c v e σ H R
def EA (es : List Expr) (Γ : List AV) (Q : List AK → List AV → Prop) : Prop := ∀ (σ : Sg) (H : Hp) (R : List V → Hp → Prop), RS c.K S no Γ σ H →
  (∀ xs H' as Γ', Q as Γ' → RS c.K S no Γ' σ H' → RpKL c.K H' (Exc S Γ' σ no) σ xs as → Step Γ Γ' σ H H' → R xs H') → wA c v es σ H R
end

section
variable {c : Core} [Tb c.K] {ι : Type} {v : ι → Var} {S : Ent} {Γ : List AV} {Q Q' : AV → List AV → Prop} {e a b : Expr} {es : List Expr} {pos : Pos}
theorem ED.mono (h : ED c v S e Γ Q) (m : ∀ x Γ', Q x Γ' → Q' x Γ') : ED c v S e Γ Q' := fun σ H R r k => h σ H R r fun x H' a Γ' q => k x H' a Γ' (m a Γ' q)
/-- two expressions, the first one first -/
theorem ED.two {Q2 : AV → AV → List AV → Prop} (h : ED c v S a Γ fun x Γ1 => ED c v S b Γ1 fun y Γ2 => Q2 x y Γ2) {σ : Sg} {H : Hp} {R : V → V → Hp → Prop} (r : RS c.K S no Γ σ H)
    (k : ∀ x y H' u w Γ', Q2 u w Γ' → RS c.K S no Γ' σ H' → RpA c.K H' (Exc S Γ' σ no) x u → RpA c.K H' (Exc S Γ' σ no) y w → Step Γ Γ' σ H H' → R x y H') : wE c v a σ H fun x H1 => wE c v b σ H1 fun y H2 => R x y H2 := by
  refine h σ H _ r fun x H1 u Γ1 hq r1 s1 _ => ?_
  refine hq σ H1 _ r1.rs fun y H2 w Γ2 hq2 r2 s2 _ => ?_
  exact k x y H2 u w Γ2 hq2 r2.rs (r1.rpa.mono s2.keeps) r2.rpa (s1.trans s2)

/-! names and constants -/
theorem ed_int {i : Int} {j} (q : Q (.dt (.int i)) Γ) : ED c v S (.Constant (.int i) j pos) Γ Q := fun σ H R r k => ⟨_, fun _ => pe_int, k _ _ _ _ q ⟨r, .int i⟩ .refl trivial⟩
theorem ed_bl {i : Bool} {j} (q : Q (.dt (.bl i)) Γ) : ED c v S (.Constant (.bool i) j pos) Γ Q := fun σ H R r k => ⟨_, fun _ => pe_bl, k _ _ _ _ q ⟨r, .bl i⟩ .refl trivial⟩
theorem ed_non {j} (q : Q (.dt .non) Γ) : ED c v S (.Constant .none j pos) Γ Q := fun σ H R r k => ⟨_, fun _ => pe_non, k _ _ _ _ q ⟨r, .non⟩ .refl trivial⟩
theorem ed_str {i : Str} {j} (q : Q (.dt (.str i)) Γ) : ED c v S (.Constant (.str i) j pos) Γ Q := fun σ H R r k => ⟨_, fun _ => pe_str, k _ _ _ _ q ⟨r, .str i⟩ .refl trivial⟩
/-- a name stands in the i-th slot -/
structure At (c : Core) [Tb c.K] (v : ι → Var) (x : Str) (i : Nat) : Prop where
  ix : c.N[i]? = some x
  vis : ∀ k, Vis (v k).env.scope x
  d1 : (x == ("__debug__" : Str)) = false
  d2 : (x == ("__classdict__" : Str)) = false
theorem At.pe {x : Str} {i : Nat} (h : At c v x i) (k : ι) : PE (mkX c (v k)) (.Name x pos) (tVar i) := pe_var h.ix (h.vis k) h.d1 h.d2
theorem ed_name (i : Nat) {x : Str} {d : Dt} (h : At c v x i) (g : Γ[i]? = some (.dt d)) (q : Q (.dt d) Γ) : ED c v S (.Name x pos) Γ Q := fun σ H R r k => by
  obtain ⟨y, e, z⟩ := r.slots i _ g
  exact ⟨_, fun i => h.pe i, y, e, k _ _ _ _ q ⟨r, z⟩ .refl trivial⟩
/-- a list's name, its list seen as data from here on -/
theorem ed_name_freeze (i : Nat) {x : Str} {ds : List Dt} (h : At c v x i) (g : Γ[i]? = some (.ow ds)) (q : Q (.dt (.lst ds)) (Γ.set i (.dt (.lst ds)))) : ED c v S (.Name x pos) Γ Q := fun σ H R r k => by
  obtain ⟨p, _, e, z, xs, rfl, w⟩ := r.slots i _ g
  have r' := r.freeze g
  obtain ⟨y, e2, z2⟩ := r'.slots i _ (List.getElem?_set_self (ltOf g))
  refine ⟨_, fun i => h.pe i, y, e2, k _ _ _ _ q ⟨r', z2⟩ ⟨fun _ _ e _ _ => e, fun b ⟨j, fs, z3, z4⟩ => ?_⟩ trivial⟩
  rcases getSet z3 with ⟨_, z, _⟩ | ⟨_, z3⟩
  · cases z
  · exact ⟨j, fs, z3, z4⟩
/-- a list's name, its list taken out of the slot -/
theorem ed_name_move (i : Nat) {x : Str} {ds : List Dt} (h : At c v x i) (g : Γ[i]? = some (.ow ds)) (hl : ∀ p, (i, p) ∉ S.lent) (q : Q (.ow ds) (Γ.set i .un)) : ED c v S (.Name x pos) Γ Q := fun σ H R r k => by
  obtain ⟨p, e, z⟩ := r.move g hl
  refine ⟨_, fun i => h.pe i, _, e, k _ _ _ _ q z ⟨fun _ _ e _ _ => e, fun b ⟨j, fs, z3, z4⟩ => ?_⟩ ⟨p, rfl, .inr ⟨i, _, g, e⟩⟩⟩
  rcases getSet z3 with ⟨_, z, _⟩ | ⟨_, z3⟩
  · cases z
  · exact ⟨j, fs, z3, z4⟩

/-! operators -/
theorem ed_opI {op : Operator} {C : Int → Int → Prop} {g : Int → Int → Int} (ho : ∀ i, OpR (mkX c (v i)) (binaryOp op) (rI C fun i j => .int (g i j)))
    (h : ED c v S a Γ fun x Γ1 => ED c v S b Γ1 fun y Γ2 => ∃ i j, x = .dt (.int i) ∧ y = .dt (.int j) ∧ C i j ∧ Q (.dt (.int (g i j))) Γ2) : ED c v S (.BinOp a op b pos) Γ Q := fun σ H R r k =>
  ⟨_, fun i => pe_op (ho i) (wE.pe i) (wE.pe i), ED.two h r fun x y H' u w Γ' ⟨i, j, e1, e2, hc, q⟩ r' ru rw' s => by
    subst e1 e2
    cases ru
    cases rw'
    exact ⟨i, j, rfl, rfl, hc, k _ _ _ _ q ⟨r', .int _⟩ s trivial⟩⟩
theorem ed_opI0 {op : Operator} {g : Int → Int → Int} (ho : ∀ i, OpR (mkX c (v i)) (binaryOp op) (rI0 fun i j => .int (g i j)))
    (h : ED c v S a Γ fun x Γ1 => ED c v S b Γ1 fun y Γ2 => ∃ i j, x = .dt (.int i) ∧ y = .dt (.int j) ∧ Q (.dt (.int (g i j))) Γ2) : ED c v S (.BinOp a op b pos) Γ Q := fun σ H R r k =>
  ⟨_, fun i => pe_op (ho i) (wE.pe i) (wE.pe i), ED.two h r fun x y H' u w Γ' ⟨i, j, e1, e2, q⟩ r' ru rw' s => by
    subst e1 e2
    cases ru
    cases rw'
    exact ⟨i, j, rfl, rfl, k _ _ _ _ q ⟨r', .int _⟩ s trivial⟩⟩
/-- comparisons of ints -/
theorem ed_cmpI {op : CmpOp} {g : Int → Int → Bool} (ho : ∀ i, OpR (mkX c (v i)) (compareOp op) (rI0 fun i j => .bl (g i j))) (hm : behindInMarks op b = false)
    (h : ED c v S a Γ fun x Γ1 => ED c v S b Γ1 fun y Γ2 => ∃ i j, x = .dt (.int i) ∧ y = .dt (.int j) ∧ Q (.dt (.bl (g i j))) Γ2) : ED c v S (.Compare a [op] [b] pos) Γ Q := fun σ H R r k =>
  ⟨_, fun i => pe_cmpR (ho i) (wE.pe i) (wE.pe i) hm, ED.two h r fun x y H' u w Γ' ⟨i, j, e1, e2, q⟩ r' ru rw' s => by
    subst e1 e2
    cases ru
    cases rw'
    exact ⟨i, j, rfl, rfl, k _ _ _ _ q ⟨r', .bl _⟩ s trivial⟩⟩
end
end DL

namespace DL
open PySem PySem.Spec
open PyProof.Rows L2

section
variable (c : Core) [Tb c.K] {ι : Type} (v : ι → Var) (S : Ent)
/-- an expression as an argument -/
def EK (e : Expr) (Γ : List AV) (Q : AK → List AV → Prop) : Prop := ∀ (σ : Sg) (H : Hp) (R : VK), RS c.K S no Γ σ H →
  (∀ x H' k Γ', Q k Γ' → RS c.K S no Γ' σ H' → RpK c.K H' (Exc S Γ' σ no) σ x k → Step Γ Γ' σ H H' → R x H') → wE c v e σ H R
end
section
variable {c : Core} [Tb c.K] {ι : Type} {v : ι → Var} {S : Ent} {Γ : List AV} {Q : AV → List AV → Prop} {QK : AK → List AV → Prop} {QB : Bool → List AV → Prop} {QA : List AK → List AV → Prop} {e a b : Expr} {es : List Expr} {pos : Pos}
theorem ek_ed (h : ED c v S e Γ fun x Γ' => QK (.d x) Γ') : EK c v S e Γ QK := fun σ H R r k => h σ H R r fun x H' a Γ' q hr s _ => k x H' _ Γ' q hr.rs hr.rpa s
theorem ek_loan (i : Nat) {x : Str} {ds : List Dt} (h : At c v x i) (g : Γ[i]? = some (.ow ds)) (q : QK (.ln i) Γ) : EK c v S (.Name x pos) Γ QK := fun σ H R r k => by
  obtain ⟨p, xs, e, z, w⟩ := r.slots i _ g
  exact ⟨_, fun i => h.pe i, _, e, k _ _ _ _ q r e .refl⟩
theorem EK.two {Q2 : AK → AK → List AV → Prop} (h : EK c v S a Γ fun x Γ1 => EK c v S b Γ1 fun y Γ2 => Q2 x y Γ2) {σ : Sg} {H : Hp} {R : V → V → Hp → Prop} (r : RS c.K S no Γ σ H)
    (k : ∀ x y H' u w Γ', Q2 u w Γ' → RS c.K S no Γ' σ H' → RpK c.K H' (Exc S Γ' σ no) σ x u → RpK c.K H' (Exc S Γ' σ no) σ y w → Step Γ Γ' σ H H' → R x y H') : wE c v a σ H fun x H1 => wE c v b σ H1 fun y H2 => R x y H2 := by
  refine h σ H _ r fun x H1 u Γ1 hq r1 q1 s1 => ?_
  refine hq σ H1 _ r1 fun y H2 w Γ2 hq2 r2 q2 s2 => ?_
  exact k x y H2 u w Γ2 hq2 r2 (q1.mono s2.keeps) q2 (s1.trans s2)
theorem ea_nil (q : QA [] Γ) : EA c v S [] Γ QA := fun σ H R r k => ⟨_, fun _ => pa_nil, k _ _ _ _ q r trivial .refl⟩
/-- no star -/
def NoStar (v : ι → Var) (e : Expr) (es : List Expr) : Prop := ∀ i, starEach (e :: es) (v i).env = (false, eval e (v i).env) :: starEach es (v i).env
def NoStarL (v : ι → Var) (pos : Pos) (es : List Expr) : Prop := ∀ i, (backTo pos (starEach es (v i).env)).any (·.1) = false
theorem ea_cons (hs : NoStar v e es) (h : EK c v S e Γ fun x Γ1 => EA c v S es Γ1 fun xs Γ2 => QA (x :: xs) Γ2) : EA c v S (e :: es) Γ QA := fun σ H R r k => by
  refine ⟨_, fun i => pa_cons (wE.pe i) (wA.pa i) (hs i), h σ H _ r fun x H1 u Γ1 hq r1 q1 s1 => ?_⟩
  refine hq σ H1 _ r1 fun xs H2 us Γ2 hq2 r2 q2 s2 => ?_
  exact k _ _ _ _ hq2 r2 ⟨q1.mono s2.keeps, q2⟩ (s1.trans s2)

/-! ### tests -/
def PlainTest (v : ι → Var) (e : Expr) : Prop := ∀ i whole, isTrue e (v i).env whole = (do let v ← whole; standAt e.pos; holding [v] (truthy v))
theorem td_val (he : PlainTest v e) (h : ED c v S e Γ fun x Γ' => ∃ k, x = .dt (.bl k) ∧ QB k Γ') : TD c v S e Γ QB := fun σ H R r k => by
  refine ⟨_, fun i => pt_val (wE.pe i) (he i), ?_⟩
  exact h σ H _ r fun x H' a Γ' ⟨b, e, q⟩ hr s _ => by
    subst e
    obtain ⟨r', z⟩ := hr
    cases z
    exact ⟨b, rfl, k _ _ _ q r' s⟩
theorem td_not (h : TD c v S e Γ fun k Γ' => QB (!k) Γ') : TD c v S (.UnaryOp .Not e pos) Γ QB := fun σ H R r k =>
  ⟨_, fun i => pt_not (wT.pt i), h σ H _ r fun b H' Γ' q r' s => k _ _ _ q r' s⟩
/-- a chain of tests: what is asked of each of its ends -/
def WD (c : Core) [Tb c.K] (v : ι → Var) (S : Ent) (e : Expr) (Γ : List AV) (Q : Bool → List AV → Prop) : Prop := ∀ (σ : Sg) (H : Hp) (R : Bool → Hp → Prop), RS c.K S no Γ σ H →
  (∀ b H' Γ', Q b Γ' → RS c.K S no Γ' σ H' → Step Γ Γ' σ H H' → R b H') → ∃ t : TT, (∀ i, PW (mkX c (v i)) e t) ∧ t σ H R
theorem td_wd (h : WD c v S e Γ QB) : TD c v S e Γ QB := fun σ H R r k => by
  obtain ⟨t, h1, h2⟩ := h σ H R r k
  exact ⟨t, fun i => (h1 i).pt, h2⟩
theorem wW {e : Expr} (i : ι) : PW (mkX c (v i)) e (fun σ H R => ∃ t : TT, (∀ i, PW (mkX c (v i)) e t) ∧ t σ H R) := ⟨fun wh pins s σ H Q I ⟨_, h, q⟩ => (h i).run wh pins s σ H Q I q⟩
theorem wd_and1 (h : TD c v S a Γ QB) : WD c v S (.BoolOp .And [a] pos) Γ QB := fun σ H R r k => ⟨_, fun i => pw_and1 (wT.pt i), h σ H R r k⟩
theorem wd_or1 (h : TD c v S a Γ QB) : WD c v S (.BoolOp .Or [a] pos) Γ QB := fun σ H R r k => ⟨_, fun i => pw_or1 (wT.pt i), h σ H R r k⟩
theorem wd_and (h : TD c v S a Γ fun k Γ' => (k = true → WD c v S (.BoolOp .And (b :: es) pos) Γ' QB) ∧ (k = false → QB false Γ')) : WD c v S (.BoolOp .And (a :: b :: es) pos) Γ QB := fun σ H R r k =>
  ⟨_, fun i => pw_and (wT.pt i) (wW i), h σ H _ r fun x H' Γ' q r' s => by
    cases x with
    | true => exact iteT (q.1 rfl σ H' _ r' fun y H2 Γ2 q2 r2 s2 => k _ _ _ q2 r2 (s.trans s2))
    | false => exact iteF (k _ _ _ (q.2 rfl) r' s)⟩
theorem wd_or (h : TD c v S a Γ fun k Γ' => (k = false → WD c v S (.BoolOp .Or (b :: es) pos) Γ' QB) ∧ (k = true → QB true Γ')) : WD c v S (.BoolOp .Or (a :: b :: es) pos) Γ QB := fun σ H R r k =>
  ⟨_, fun i => pw_or (wT.pt i) (wW i), h σ H _ r fun x H' Γ' q r' s => by
    cases x with
    | true => exact iteT (k _ _ _ (q.2 rfl) r' s)
    | false => exact iteF (q.1 rfl σ H' _ r' fun y H2 Γ2 q2 r2 s2 => k _ _ _ q2 r2 (s.trans s2))⟩
/-- and, or, not as values -/
theorem ed_not (h : ED c v S e Γ fun x Γ' => ∃ k, x = .dt (.bl k) ∧ Q (.dt (.bl (!k))) Γ') : ED c v S (.UnaryOp .Not e pos) Γ Q := fun σ H R r k =>
  ⟨_, fun i => pe_not (wE.pe i), h σ H _ r fun x H' a Γ' ⟨b, e, q⟩ hr s _ => by
    subst e
    obtain ⟨r', z⟩ := hr
    cases z
    exact ⟨b, rfl, k _ _ _ _ q ⟨r', .bl _⟩ s trivial⟩⟩
theorem ed_bool1 {op : BoolOp} (h : ED c v S a Γ Q) : ED c v S (.BoolOp op [a] pos) Γ Q := fun σ H R r k => ⟨_, fun i => pe_one (wE.pe i), h σ H R r k⟩
theorem ed_and (h : ED c v S a Γ fun x Γ' => ∃ k, x = .dt (.bl k) ∧ (k = true → ED c v S (.BoolOp .And (b :: es) pos) Γ' Q) ∧ (k = false → Q (.dt (.bl false)) Γ')) : ED c v S (.BoolOp .And (a :: b :: es) pos) Γ Q := fun σ H R r k =>
  ⟨_, fun i => pe_and (wE.pe i) (wE.pe i), h σ H _ r fun x H' u Γ' ⟨b, e, q1, q2⟩ hr s _ => by
    subst e
    obtain ⟨r', z⟩ := hr
    cases z
    refine ⟨b, rfl, ?_⟩
    cases b with
    | true => exact iteT (q1 rfl σ H' _ r' fun y H2 a2 Γ2 q2 r2 s2 n2 => k _ _ _ _ q2 r2 (s.trans s2) (n2.back s))
    | false => exact iteF (k _ _ _ _ (q2 rfl) ⟨r', .bl _⟩ s trivial)⟩
theorem ed_or (h : ED c v S a Γ fun x Γ' => ∃ k, x = .dt (.bl k) ∧ (k = false → ED c v S (.BoolOp .Or (b :: es) pos) Γ' Q) ∧ (k = true → Q (.dt (.bl true)) Γ')) : ED c v S (.BoolOp .Or (a :: b :: es) pos) Γ Q := fun σ H R r k =>
  ⟨_, fun i => pe_or (wE.pe i) (wE.pe i), h σ H _ r fun x H' u Γ' ⟨b, e, q1, q2⟩ hr s _ => by
    subst e
    obtain ⟨r', z⟩ := hr
    cases z
    refine ⟨b, rfl, ?_⟩
    cases b with
    | true => exact iteT (k _ _ _ _ (q2 rfl) ⟨r', .bl _⟩ s trivial)
    | false => exact iteF (q1 rfl σ H' _ r' fun y H2 a2 Γ2 q2 r2 s2 n2 => k _ _ _ _ q2 r2 (s.trans s2) (n2.back s))⟩
theorem ed_ifExp {t : Expr} (h : TD c v S t Γ fun k Γ' => (k = true → ED c v S a Γ' Q) ∧ (k = false → ED c v S b Γ' Q)) : ED c v S (.IfExp t a b pos) Γ Q := fun σ H R r k =>
  ⟨_, fun i => pe_ifExp (wT.pt i) (wE.pe i) (wE.pe i), h σ H _ r fun x H' Γ' q r' s => by
    cases x with
    | true => exact iteT (q.1 rfl σ H' _ r' fun y H2 a2 Γ2 q2 r2 s2 n2 => k _ _ _ _ q2 r2 (s.trans s2) (n2.back s))
    | false => exact iteF (q.2 rfl σ H' _ r' fun y H2 a2 Γ2 q2 r2 s2 n2 => k _ _ _ _ q2 r2 (s.trans s2) (n2.back s))⟩

/-! ### what an argument holds -/
def akD (Γ : List AV) : AK → Option Dt
  | .d (.dt d) => some d
  | .d (.own (.l ds)) => some (.lst ds)
  | _ => none
def akL (Γ : List AV) : AK → Option (List Dt)
  | .d (.dt (.lst ds)) => some ds
  | .d (.own (.l ds)) => some ds
  | .d (.dt (.scr ns)) => some (ns.map .int)
  | .ln i => match Γ[i]? with
    | some (.own (.l ds)) => some ds
    | _ => none
  | _ => none
def akT (Γ : List AV) : AK → Option (List Dt)
  | .d (.dt (.tup ds)) => some ds
  | _ => none
/-- a list, a tuple -/
def akS (Γ : List AV) (k : AK) : Option (List Dt) := (akL Γ k).or (akT Γ k)
end

section
variable {K : PySem.W.Frag} [Tb K] {S : Ent} {ex ex' : AP} {Γ Γ' : List AV} {σ : Sg} {H H' : Hp} {x : V} {k : AK} {d : Dt} {ds : List Dt}
theorem akD_of (e : akD Γ k = some d) (q : RpK K H ex σ x k) : Rp K H ex x d := by
  rcases k with (_ | d | ds | _ | _) | i
  · cases e
  · cases e; exact q
  · cases e; exact q
  · cases e
  · cases e
  · cases e
theorem akL_of (e : akL Γ k = some ds) (r : RS K S DL.no Γ σ H) (q : RpK K H (Exc S Γ σ DL.no) σ x k) : ∃ p xs, x = .ref p ∧ SqL K H p xs ∧ RpL K H (Exc S Γ σ DL.no) xs ds := by
  have scr : ∀ ns : List Int, Rp K H (Exc S Γ σ DL.no) x (.scr ns) → ∃ p xs, x = .ref p ∧ SqL K H p xs ∧ RpL K H (Exc S Γ σ DL.no) xs (ns.map .int) := fun ns q => by
    cases q with
    | scrF e n => exact ⟨_, _, rfl, .inl (.inr ⟨_, e⟩), RpL.of_ints _ _ _ ns⟩
    | scrK e => exact ⟨_, _, rfl, .inr e, RpL.of_ints _ _ _ ns⟩
  rcases k with (_ | d | es | _ | _) | i
  · cases e
  · cases d with
    | lst es =>
      cases e
      cases q with
      | lst e n r => exact ⟨_, _, rfl, .of e, r⟩
    | scr ns =>
      cases e
      exact scr ns q
    | _ => cases e
  · cases e
    cases q with
    | lst e n r => exact ⟨_, _, rfl, .of e, r⟩
  · cases e
  · cases e
  · have e' : (match Γ[i]? with | some (AV.own (.l ds)) => some ds | _ => none) = some ds := e
    split at e'
    · rename_i es g
      cases e'
      obtain ⟨p, _, e1, e2, xs, rfl, q2⟩ := r.slots i _ g
      have q' : σ[i]? = some (some x) := q
      rw [q'] at e1
      cases e1
      exact ⟨p, xs, rfl, .of e2, q2⟩
    · cases e'
theorem akT_of (e : akT Γ k = some ds) (q : RpK K H ex σ x k) : ∃ p xs, x = .ref p ∧ H p = some (.tup xs) ∧ RpL K H ex xs ds := by
  rcases k with (_ | d | es | _ | _) | i
  · cases e
  · cases d with
    | tup es =>
      cases e
      cases q with
      | tup e n r => exact ⟨_, _, rfl, e, r⟩
    | _ => cases e
  · cases e
  · cases e
  · cases e
  · cases e
theorem akS_of (e : akS Γ k = some ds) (r : RS K S DL.no Γ σ H) (q : RpK K H (Exc S Γ σ DL.no) σ x k) : ∃ p xs, x = .ref p ∧ (SqL K H p xs ∨ SqT K H p xs) ∧ RpL K H (Exc S Γ σ DL.no) xs ds := by
  unfold akS at e
  cases h : akL Γ k with
  | some es =>
    rw [h] at e
    cases e
    obtain ⟨p, xs, e1, e2, q2⟩ := akL_of h r q
    exact ⟨p, xs, e1, .inl e2, q2⟩
  | none =>
    rw [h] at e
    obtain ⟨p, xs, e1, e2, q2⟩ := akT_of (show akT Γ k = some ds from e) q
    exact ⟨p, xs, e1, .inr (.of e2), q2⟩
end
end DL

namespace DL
open PySem PySem.Spec
open PyProof.Rows L2

section
variable (c : Core) [Tb c.K] {ι : Type} (v : ι → Var) (S : Ent)
/-- a call by values, over plain data -/
def CB (r : List V → Hp → VK → Prop) (P : List AK → List AV → (AV → List AV → Prop) → Prop) : Prop :=
  ∀ (as : List AK) (Γ : List AV) (Q : AV → List AV → Prop) (σ : Sg) (H : Hp) (xs : List V) (R : VK), P as Γ Q → RS c.K S no Γ σ H → RpKL c.K H (Exc S Γ σ no) σ xs as →
    (∀ y H' a Γ', Q a Γ' → Res c.K S Γ' σ H' y a → Step Γ Γ' σ H H' → New H Γ σ y a → R y H') → r xs H R
end
section
variable {c : Core} [Tb c.K] {ι : Type} {v : ι → Var} {S : Ent} {Γ : List AV} {Q : AV → List AV → Prop} {QK : AK → List AV → Prop} {QB : Bool → List AV → Prop} {QA : List AK → List AV → Prop} {e a b : Expr} {es : List Expr} {pos p : Pos} {x : Str} {id T : String}
  {r : List V → Hp → VK → Prop} {P : List AK → List AV → (AV → List AV → Prop) → Prop}
theorem line1 {n : Nat} (h : n ≤ 1000000) : n ≤ sizeLine := by
  rw [sizeLine_eq]
  omega
theorem RpKL.one {K : PySem.W.Frag} {H : Hp} {ex : AP} {σ : Sg} {xs : List V} {k : AK} (q : RpKL K H ex σ xs [k]) : ∃ x, xs = [x] ∧ RpK K H ex σ x k := by
  match xs, q with
  | [x], q => exact ⟨x, rfl, q.1⟩
theorem RpKL.pair {K : PySem.W.Frag} {H : Hp} {ex : AP} {σ : Sg} {xs : List V} {k j : AK} (q : RpKL K H ex σ xs [k, j]) : ∃ x y, xs = [x, y] ∧ RpK K H ex σ x k ∧ RpK K H ex σ y j := by
  match xs, q with
  | [x, y], q => exact ⟨x, y, rfl, q.1, q.2.1⟩
theorem ed_callB (hc : ∀ i, CallR (mkX c (v i)) (.builtin id) r) (hP : CB c S r P) (hg : ∀ i, Gl (mkX c (v i)) x) (hm : c.mg x = none) (hv : bootBuiltins x = some (.builtin id)) (hn : x ≠ "__name__") (hdb : (x == ("__debug__" : Str)) = false)
    (he : NoStar v e es) (hpl : NoStarL v pos es) (h : EA c v S (e :: es) Γ fun as Γ' => P as Γ' Q) : ED c v S (.Call (.Name x p) (e :: es) [] pos) Γ Q := fun σ H R r k =>
  ⟨_, fun i => pe_callB (hc i) (hg i) hm hv (wA.pa i) hn hdb (he i) (hpl i), h σ H _ r fun xs H' as Γ' q r' hx s =>
    hP as Γ' Q σ H' xs _ q r' hx fun y H2 u Γ2 q2 r2 s2 n2 => k _ _ _ _ q2 r2 (s.trans s2) (n2.back s)⟩
theorem ed_callTy (hc : ∀ i, CallR (mkX c (v i)) (.type T) r) (hP : CB c S r P) (hg : ∀ i, Gl (mkX c (v i)) x) (hm : c.mg x = none) (hv : bootBuiltins x = some (.type T)) (hn : x ≠ "__name__") (hdb : (x == ("__debug__" : Str)) = false)
    (he : NoStar v e es) (hpl : NoStarL v pos es) (h : EA c v S (e :: es) Γ fun as Γ' => P as Γ' Q) : ED c v S (.Call (.Name x p) (e :: es) [] pos) Γ Q := fun σ H R r k =>
  ⟨_, fun i => pe_callTy (hc i) (hg i) hm hv (wA.pa i) hn hdb (he i) (hpl i), h σ H _ r fun xs H' as Γ' q r' hx s =>
    hP as Γ' Q σ H' xs _ q r' hx fun y H2 u Γ2 q2 r2 s2 n2 => k _ _ _ _ q2 r2 (s.trans s2) (n2.back s)⟩

/-! ### built-ins -/
def pLen : List AK → List AV → (AV → List AV → Prop) → Prop := fun as Γ Q => ∃ k ds, as = [k] ∧ akS Γ k = some ds ∧ Q (.dt (.int ds.length)) Γ
theorem cb_len : CB c S (fun xs H Q => ∃ p ys, xs = [.ref p] ∧ (SqL c.K H p ys ∨ SqT c.K H p ys) ∧ Q (.int ys.length) H) pLen := by
  rintro as Γ Q σ H xs R ⟨k, ds, rfl, e, q⟩ r hx kk
  obtain ⟨x, rfl, hk⟩ := hx.one
  obtain ⟨p, ys, rfl, hs, hl⟩ := akS_of e r hk
  exact ⟨p, ys, rfl, hs, kk _ _ _ _ q ⟨r, by rw [hl.len]; exact .int _⟩ .refl trivial⟩
def pInt1 (g : Int → Int) : List AK → List AV → (AV → List AV → Prop) → Prop := fun as Γ Q => ∃ k i, as = [k] ∧ akD Γ k = some (.int i) ∧ Q (.dt (.int (g i))) Γ
theorem cb_abs : CB c S (fun xs H Q => ∃ i, xs = [.int i] ∧ Q (.int (if i < 0 then -i else i)) H) (pInt1 fun i => if i < 0 then -i else i) := by
  rintro as Γ Q σ H xs R ⟨k, i, rfl, e, q⟩ r hx kk
  obtain ⟨x, rfl, hk⟩ := hx.one
  cases akD_of e hk
  exact ⟨i, rfl, kk _ _ _ _ q ⟨r, .int _⟩ .refl trivial⟩
def pInt2 (g : Int → Int → Int) : List AK → List AV → (AV → List AV → Prop) → Prop := fun as Γ Q => ∃ k l i j, as = [k, l] ∧ akD Γ k = some (.int i) ∧ akD Γ l = some (.int j) ∧ Q (.dt (.int (g i j))) Γ
theorem cb_int2 {g : Int → Int → Int} : CB c S (fun xs H Q => ∃ i j, xs = [.int i, .int j] ∧ Q (.int (g i j)) H) (pInt2 g) := by
  rintro as Γ Q σ H xs R ⟨k, l, i, j, rfl, e, e2, q⟩ r hx kk
  obtain ⟨x, y, rfl, hk, hl⟩ := hx.pair
  cases akD_of e hk
  cases akD_of e2 hl
  exact ⟨i, j, rfl, kk _ _ _ _ q ⟨r, .int _⟩ .refl trivial⟩
def pInt : List AK → List AV → (AV → List AV → Prop) → Prop := fun as Γ Q => ∃ k, as = [k] ∧ ((∃ i, akD Γ k = some (.int i) ∧ Q (.dt (.int i)) Γ) ∨ ∃ b, akD Γ k = some (.bl b) ∧ Q (.dt (.int (if b then 1 else 0))) Γ)
theorem cb_int : CB c S (fun xs H Q => (∃ i, xs = [.int i] ∧ Q (.int i) H) ∨ ∃ k, xs = [.bl k] ∧ Q (.int (if k then 1 else 0)) H) pInt := by
  rintro as Γ Q σ H xs R ⟨k, rfl, q⟩ r hx kk
  obtain ⟨x, rfl, hk⟩ := hx.one
  rcases q with ⟨i, e, q⟩ | ⟨i, e, q⟩
  · cases akD_of e hk
    exact .inl ⟨i, rfl, kk _ _ _ _ q ⟨r, .int _⟩ .refl trivial⟩
  · cases akD_of e hk
    exact .inr ⟨i, rfl, kk _ _ _ _ q ⟨r, .int _⟩ .refl trivial⟩
/-- the least of a list of ints -/
def pMin : List AK → List AV → (AV → List AV → Prop) → Prop := fun as Γ Q => ∃ (k : AK) (ns : List Int), as = [k] ∧ akL Γ k = some (List.map Dt.int ns) ∧ 0 < ns.length ∧ ∀ m : Int, m ∈ ns → (∀ y, y ∈ ns → m ≤ y) → Q (.dt (.int m)) Γ
theorem cb_min : CB c S (rMin c.K) pMin := by
  rintro as Γ Q σ H xs R ⟨k, ns, rfl, e, h0, q⟩ r hx kk
  obtain ⟨x, rfl, hk⟩ := hx.one
  obtain ⟨p, ys, rfl, hs, hl⟩ := akL_of e r hk
  rw [hl.ints] at hs
  exact ⟨p, ns, rfl, hs, h0, fun m h1 h2 => kk _ _ _ _ (q m h1 h2) ⟨r, .int _⟩ .refl trivial⟩
/-- tuple(list), list(..), sorted(ints), all(bools) -/
def pTup : List AK → List AV → (AV → List AV → Prop) → Prop := fun as Γ Q => ∃ k ds, as = [k] ∧ akS Γ k = some ds ∧ Q (.dt (.tup ds)) Γ
theorem RpKL.sub {K : PySem.W.Frag} {H H' : Hp} {ex ex' : AP} {xs : List V} {ds : List Dt} (h : ∀ b o, H b = some o → NT o → ¬ ex b → H' b = some o ∧ ¬ ex' b) (q : RpL K H ex xs ds) : RpL K H' ex' xs ds := q.mono h
theorem cb_tup : CB c S (fun xs H Q => ∃ p ys, xs = [.ref p] ∧ ((SqL c.K H p ys ∧ ∀ l, H l = none → Q (.ref l) (upd H l (.tup ys))) ∨ (SqT c.K H p ys ∧ Q (.ref p) H))) pTup := by
  rintro as Γ Q σ H xs R ⟨k, ds, rfl, e, q⟩ r hx kk
  obtain ⟨x, rfl, hk⟩ := hx.one
  unfold akS at e
  cases h : akL Γ k with
  | some es =>
    rw [h] at e
    cases e
    obtain ⟨p, ys, rfl, hs, hl⟩ := akL_of h r hk
    exact ⟨p, ys, rfl, .inl ⟨hs, fun l hn => kk _ _ _ _ q (Res.newT r hn hl) (Step.refl.alloc hn) trivial⟩⟩
  | none =>
    rw [h] at e
    have e' : akT Γ k = some ds := e
    obtain ⟨p, ys, rfl, hs, hl⟩ := akT_of e' hk
    refine ⟨p, ys, rfl, .inr ⟨.of hs, kk _ _ _ _ q ⟨r, ?_⟩ .refl trivial⟩⟩
    rcases k with (_ | d | es | _ | _) | i
    · cases e'
    · cases d with
      | tup es => cases e'; exact hk
      | _ => cases e'
    · cases e'
    · cases e'
    · cases e'
    · cases e'
def pList : List AK → List AV → (AV → List AV → Prop) → Prop := fun as Γ Q => ∃ k ds, as = [k] ∧ akS Γ k = some ds ∧ Q (.ow ds) Γ
theorem cb_list : CB c S (fun xs H Q => ∃ p ys, xs = [.ref p] ∧ (SqL c.K H p ys ∨ SqT c.K H p ys) ∧ ∀ l, H l = none → Q (.ref l) (upd H l (.lst ys))) pList := by
  rintro as Γ Q σ H xs R ⟨k, ds, rfl, e, q⟩ r hx kk
  obtain ⟨x, rfl, hk⟩ := hx.one
  obtain ⟨p, ys, rfl, hs, hl⟩ := akS_of e r hk
  exact ⟨p, ys, rfl, hs, fun l hn => kk _ _ _ _ q (Res.newL r hn hl) (Step.refl.alloc hn) (New.ofL .refl hn)⟩
def pSorted : List AK → List AV → (AV → List AV → Prop) → Prop := fun as Γ Q => ∃ (k : AK) (ns : List Int), as = [k] ∧ akL Γ k = some (List.map Dt.int ns) ∧ ns.length < 64 ∧ ∀ ns' : List Int, ns'.Perm ns → ns'.Pairwise (· ≤ ·) → Q (.ow (ns'.map .int)) Γ
theorem cb_sorted : CB c S (rSorted c.K) pSorted := by
  rintro as Γ Q σ H xs R ⟨k, ns, rfl, e, h64, q⟩ r hx kk
  obtain ⟨x, rfl, hk⟩ := hx.one
  obtain ⟨p, ys, rfl, hs, hl⟩ := akL_of e r hk
  rw [hl.ints] at hs
  exact ⟨p, ns, rfl, hs, h64, fun ns' l h1 h2 hn => kk _ _ _ _ (q ns' h1 h2) (Res.newL r hn (RpL.of_ints _ _ _ _)) (Step.refl.alloc hn) (New.ofL .refl hn)⟩
def pAll : List AK → List AV → (AV → List AV → Prop) → Prop := fun as Γ Q => ∃ (k : AK) (bs : List Bool), as = [k] ∧ akL Γ k = some (List.map Dt.bl bs) ∧ Q (.dt (.bl (bs.all fun z => z))) Γ
theorem cb_all : CB c S (rAll c.K) pAll := by
  rintro as Γ Q σ H xs R ⟨k, bs, rfl, e, q⟩ r hx kk
  obtain ⟨x, rfl, hk⟩ := hx.one
  obtain ⟨p, ys, rfl, hs, hl⟩ := akL_of e r hk
  rw [hl.bls] at hs
  exact ⟨p, bs, rfl, hs, kk _ _ _ _ q ⟨r, .bl _⟩ .refl trivial⟩

/-! ### isinstance with a built-in class -/
def Dt.ty : Dt → Option String
  | .non => some "NoneType"
  | .bl _ => some "bool"
  | .int _ => some "int"
  | .str _ => some "str"
  | .tup _ => some "tuple"
  | .lst _ => some "list"
  | .dct [] [] => some "dict"
  | _ => none
def pIs : List AK → List AV → (AV → List AV → Prop) → Prop := fun as Γ Q => ∃ k d T t u, as = [k, .d (.dt (.raw (.ty u)))] ∧ akD Γ k = some d ∧ d.ty = some t ∧ kitB t u = some T ∧ Q (.dt (.bl T)) Γ
theorem cb_is : CB c S (rIsi c.K) pIs := by
  rintro as Γ Q σ H xs R ⟨k, d, T, t, u, rfl, e, e2, e3, q⟩ r hx kk
  obtain ⟨x, y, rfl, hk, hl⟩ := hx.pair
  have hr := akD_of e hk
  have hy : y = .ty u := by
    have z : Rp c.K H (Exc S Γ σ no) y (.raw (.ty u)) := hl
    cases z
    rfl
  subst hy
  refine ⟨x, .ty u, .type t, .type u, T, rfl, .ty u, ?_, kit_ty e3, kk _ _ _ _ q ⟨r, .bl _⟩ .refl trivial⟩
  cases hr with
  | non => cases e2; exact .base .non
  | bl b => cases e2; exact .base (.bl b)
  | int i => cases e2; exact .base (.int i)
  | str s => cases e2; exact .base (.str s)
  | raw x => cases e2
  | tup h n q => cases e2; exact .base (.tup h)
  | lst h n q => cases e2; exact .base (.lst h)
  | dct0 h n => cases e2; exact .base (.dK h)
  | scrF h n => cases e2
  | scrK h => cases e2
  | obj h n => cases e2
  | exa _ _ _ _ => cases e2
/-- a built-in class's name as a value -/
theorem ek_type {u : String} (hg : ∀ i, Gl (mkX c (v i)) x) (hm : c.mg x = none) (hv : bootBuiltins x = some (.type u)) (hn : x ≠ "__name__") (hd : (x == ("__debug__" : Str)) = false) (q : QK (.d (.dt (.raw (.ty u)))) Γ) : EK c v S (.Name x pos) Γ QK := fun σ H R r k =>
  ⟨_, fun i => pe_bltn (v := .ty u) (hg i) hm hv rfl hn hd, k _ _ _ _ q r (Rp.raw _) .refl⟩

/-! ### displays -/
def akF (Γ : List AV) (as : List AK) : Option (List Dt) := as.mapM (akD Γ)
theorem akF_of {K : PySem.W.Frag} [Tb K] {H : Hp} {ex : AP} {σ : Sg} {Γ : List AV} : ∀ {as : List AK} {xs : List V} {ds : List Dt}, akF Γ as = some ds → RpKL K H ex σ xs as → RpL K H ex xs ds
  | [], [], _, e, _ => by
    cases e
    exact .nil
  | a :: as, x :: xs, ds, e, q => by
    unfold akF at e
    rw [List.mapM_cons] at e
    cases h : akD Γ a with
    | none => rw [h] at e; cases e
    | some d =>
      rw [h] at e
      cases h2 : as.mapM (akD Γ) with
      | none => rw [h2] at e; cases e
      | some es =>
        rw [h2] at e
        cases e
        exact .cons (akD_of h q.1) (akF_of h2 q.2)
  | [], _ :: _, _, _, q => q.elim
  | _ :: _, [], _, _, q => q.elim
theorem ed_lst (h : EA c v S es Γ fun as Γ' => ∃ ds, akF Γ' as = some ds ∧ ds.length ≤ 1000 ∧ Q (.ow ds) Γ') : ED c v S (.List es pos) Γ Q := fun σ H R r k =>
  ⟨_, fun i => pe_lst (wA.pa i), h σ H _ r fun xs H' as Γ' ⟨ds, e, hz, q⟩ r' hx s => by
    have hl := akF_of e hx
    refine ⟨by rw [hl.len]; exact line1 (by omega), fun p hn => k _ _ _ _ q (Res.newL r' hn hl) (s.alloc hn) (New.ofL s hn)⟩⟩
theorem ed_tup {x1} (h : EA c v S es Γ fun as Γ' => ∃ ds, akF Γ' as = some ds ∧ ds.length ≤ 1000 ∧ Q (.dt (.tup ds)) Γ') : ED c v S (.Tuple es x1 pos) Γ Q := fun σ H R r k =>
  ⟨_, fun i => pe_tup (wA.pa i), h σ H _ r fun xs H' as Γ' ⟨ds, e, hz, q⟩ r' hx s => by
    have hl := akF_of e hx
    refine ⟨by rw [hl.len]; exact line1 (by omega), fun p hn => k _ _ _ _ q (Res.newT r' hn hl) (s.alloc hn) trivial⟩⟩

/-! ### subscripts -/
theorem atI_len {α β : Type} {xs : List α} {ys : List β} {i : Int} {y : β} (h : xs.length = ys.length) (e : atI ys i = some y) : ∃ j, ixN xs.length i = some j ∧ ys[j]? = some y := by
  unfold atI at e
  rw [← h] at e
  cases z : ixN xs.length i with
  | none => rw [z] at e; cases e
  | some j => rw [z] at e; exact ⟨j, rfl, e⟩
theorem ed_ix (hb : PlainIx b) (h : EK c v S a Γ fun k Γ1 => EK c v S b Γ1 fun l Γ2 => ∃ ds i d, akS Γ2 k = some ds ∧ akD Γ2 l = some (.int i) ∧ atI ds i = some d ∧ Q (.dt d) Γ2) : ED c v S (.Subscript a b pos) Γ Q := fun σ H R r kk =>
  ⟨_, fun i => pe_ix (show IxR (mkX c (v i)) (rIx c.K) from ix_seq) (wE.pe i) (wE.pe i) hb, EK.two h r fun x y H' k l Γ' ⟨ds, i, d, e1, e2, e3, q⟩ r' hk hl s => by
    obtain ⟨p, xs, rfl, hs, hx⟩ := akS_of e1 r' hk
    cases akD_of e2 hl
    obtain ⟨j, ej, ed⟩ := atI_len hx.len e3
    obtain ⟨z, ez, rz⟩ := hx.get ed
    have ea : atI xs i = some z := by
      unfold atI
      rw [ej]
      exact ez
    have fin : R z H' := kk _ _ _ _ q ⟨r', rz⟩ s trivial
    rcases hs with hs | hs
    · exact .inl ⟨p, xs, i, z, rfl, rfl, hs, ea, fin⟩
    · exact .inr (.inl ⟨p, xs, i, z, rfl, rfl, hs, ea, fin⟩)⟩

/-! ### slices -/
def cutD (xs : List Dt) (lo hi : Option Int) : List Dt := (xs.drop (HT.sIx xs.length 0 lo)).take (HT.sIx xs.length xs.length hi - HT.sIx xs.length 0 lo)
theorem RpL.cut {K : PySem.W.Frag} {H : Hp} {ex : AP} {xs : List V} {ds : List Dt} (q : RpL K H ex xs ds) (lo hi : Option Int) : RpL K H ex (cutV xs lo hi) (cutD ds lo hi) := by
  unfold cutV cutD
  rw [q.len]
  exact (q.drop _).take _
/-- a part of a slice -/
def OD (c : Core) [Tb c.K] (v : ι → Var) (S : Ent) (e : Option Expr) (Γ : List AV) (Q : Option Int → List AV → Prop) : Prop :=
  match e with
  | none => Q none Γ
  | some e => ED c v S e Γ fun x Γ' => ∃ i, x = .dt (.int i) ∧ Q (some i) Γ'
def tO (c : Core) [Tb c.K] (v : ι → Var) (e : Option Expr) : TO :=
  match e with
  | none => tNoPart
  | some e => tPart (wE c v e)
theorem OD.po {o : Option Expr} (i : ι) : PO (mkX c (v i)) o (tO c v o) := by
  cases o with
  | none => exact po_none
  | some e => exact po_some (wE.pe i)
theorem OD.go {o : Option Expr} {QO : Option Int → List AV → Prop} (h : OD c v S o Γ QO) {σ : Sg} {H : Hp} {R : Option Int → Hp → Prop} (r : RS c.K S no Γ σ H) (k : ∀ i H' Γ', QO i Γ' → RS c.K S no Γ' σ H' → Step Γ Γ' σ H H' → R i H') : tO c v o σ H R := by
  cases o with
  | none => exact k _ _ _ h r .refl
  | some e =>
    refine h σ H _ r fun x H' a Γ' ⟨i, e, q⟩ hr s _ => ?_
    subst e
    obtain ⟨r', z⟩ := hr
    cases z
    exact ⟨i, rfl, k _ _ _ q r' s⟩
theorem ed_slT {lo hi : Option Expr} {p2 : Pos} (h : EK c v S a Γ fun k Γ1 => OD c v S lo Γ1 fun l Γ2 => OD c v S hi Γ2 fun u Γ3 => ∃ ds, akT Γ3 k = some ds ∧ Q (.dt (.tup (cutD ds l u))) Γ3) : ED c v S (.Subscript a (.Slice lo hi none p2) pos) Γ Q := fun σ H R r kk =>
  ⟨_, fun i => pe_slice (show SlR (mkX c (v i)) (rSlA c.K) from sl_tupA) (wE.pe i) (OD.po i) (OD.po i), h σ H _ r fun x H1 k Γ1 q1 r1 hk s1 => q1.go r1 fun l H2 Γ2 q2 r2 s2 => q2.go r2 fun u H3 Γ3 ⟨ds, e, q⟩ r3 s3 => by
    have hk3 := (hk.mono s2.keeps).mono s3.keeps
    obtain ⟨p, xs, rfl, hs, hx⟩ := akT_of e hk3
    refine ⟨p, xs, rfl, .of hs, fun hw => kk _ _ _ _ q ⟨r3, ?_⟩ ((s1.trans s2).trans s3) trivial, fun _ p hn => kk _ _ _ _ q (Res.newT r3 hn (hx.cut l u)) (((s1.trans s2).trans s3).alloc hn) trivial⟩
    have e' : cutD ds l u = ds := by
      unfold cutD
      rw [← hx.len, hw.1, hw.2, List.drop_zero, hx.len, Nat.sub_zero, List.take_length]
    rw [e']
    rcases k with (_ | d | es | _ | _) | i
    · cases e
    · cases d with
      | tup es => cases e; exact hk3
      | _ => cases e
    · cases e
    · cases e
    · cases e
    · cases e⟩
theorem ed_slL {lo hi : Option Expr} {p2 : Pos} (h : EK c v S a Γ fun k Γ1 => OD c v S lo Γ1 fun l Γ2 => OD c v S hi Γ2 fun u Γ3 => ∃ ds, akL Γ3 k = some ds ∧ Q (.ow (cutD ds l u)) Γ3) : ED c v S (.Subscript a (.Slice lo hi none p2) pos) Γ Q := fun σ H R r kk =>
  ⟨_, fun i => pe_slice (show SlR (mkX c (v i)) (rSlL c.K) from sl_list) (wE.pe i) (OD.po i) (OD.po i), h σ H _ r fun x H1 k Γ1 q1 r1 hk s1 => q1.go r1 fun l H2 Γ2 q2 r2 s2 => q2.go r2 fun u H3 Γ3 ⟨ds, e, q⟩ r3 s3 => by
    obtain ⟨p, xs, rfl, hs, hx⟩ := akL_of e r3 ((hk.mono s2.keeps).mono s3.keeps)
    exact ⟨p, xs, rfl, hs, fun p hn => kk _ _ _ _ q (Res.newL r3 hn (hx.cut l u)) (((s1.trans s2).trans s3).alloc hn) (New.ofL ((s1.trans s2).trans s3) hn)⟩⟩

/-! ### + and * of sequences -/
theorem ed_catT (h : EK c v S a Γ fun k Γ1 => EK c v S b Γ1 fun l Γ2 => ∃ ds es, akT Γ2 k = some ds ∧ akT Γ2 l = some es ∧ ds.length + es.length ≤ 1000 ∧ Q (.dt (.tup (ds ++ es))) Γ2) : ED c v S (.BinOp a .Add b pos) Γ Q := fun σ H R r kk =>
  ⟨_, fun i => pe_op (show OpR (mkX c (v i)) (binaryOp .Add) (rCatA c.K) from op_catA) (wE.pe i) (wE.pe i), EK.two h r fun x y H' k l Γ' ⟨ds, es, e1, e2, hz, q⟩ r' hk hl s => by
    have whole : ∀ {j : AK} {gs : List Dt} {z : V}, akT Γ' j = some gs → RpK c.K H' (Exc S Γ' σ no) σ z j → Rp c.K H' (Exc S Γ' σ no) z (.tup gs) := fun {j gs z} e q => by
      rcases j with (_ | d | es | _ | _) | i
      · cases e
      · cases d with
        | tup es => cases e; exact q
        | _ => cases e
      · cases e
      · cases e
      · cases e
      · cases e
    have w1 := whole e1 hk
    have w2 := whole e2 hl
    obtain ⟨p1, xs, rfl, hs1, hx⟩ := akT_of e1 hk
    obtain ⟨p2, ys, rfl, hs2, hy⟩ := akT_of e2 hl
    refine ⟨p1, p2, xs, ys, rfl, rfl, .of hs1, .of hs2, ?_, fun z => ?_, fun _ z => ?_, fun _ _ p hn => kk _ _ _ _ q (Res.newT r' hn (hx.append hy)) (s.alloc hn) trivial⟩
    · rw [hx.len, hy.len]
      exact line1 (by omega)
    · subst z
      have : ds = [] := List.length_eq_zero_iff.mp hx.len.symm
      subst this
      exact kk _ _ _ _ q ⟨r', w2⟩ s trivial
    · subst z
      have : es = [] := List.length_eq_zero_iff.mp hy.len.symm
      subst this
      rw [List.append_nil] at q
      exact kk _ _ _ _ q ⟨r', w1⟩ s trivial⟩
/-- lists that are data, or on loan -/
theorem akL_trk {K : PySem.W.Frag} [Tb K] {H : Hp} {σ : Sg} {x : V} {k : AK} {ds : List Dt} (e : akL Γ k = some ds) (ns : ∀ n, k ≠ .d (.dt (.scr n))) (r : RS K S no Γ σ H) (q : RpK K H (Exc S Γ σ no) σ x k) : ∃ p xs, x = .ref p ∧ H p = some (.lst xs) ∧ RpL K H (Exc S Γ σ no) xs ds := by
  rcases k with (_ | d | es | _ | _) | i
  · cases e
  · cases d with
    | lst es => cases e; cases q with | lst e n r => exact ⟨_, _, rfl, e, r⟩
    | scr n => exact absurd rfl (ns n)
    | _ => cases e
  · cases e; cases q with | lst e n r => exact ⟨_, _, rfl, e, r⟩
  · cases e
  · cases e
  · have e' : (match Γ[i]? with | some (AV.own (.l ds)) => some ds | _ => none) = some ds := e
    split at e'
    · rename_i es g
      cases e'
      obtain ⟨p, _, e1, e2, xs, rfl, q2⟩ := r.slots i _ g
      have q' : σ[i]? = some (some x) := q
      rw [q'] at e1
      cases e1
      exact ⟨p, xs, rfl, e2, q2⟩
    · cases e'
def noScr : AK → Bool
  | .d (.dt (.scr _)) => false
  | _ => true
theorem noScr_of {k : AK} (h : noScr k = true) : ∀ n, k ≠ .d (.dt (.scr n)) := fun n e => by subst e; cases h
theorem ed_catL (h : EK c v S a Γ fun k Γ1 => EK c v S b Γ1 fun l Γ2 => ∃ ds es, akL Γ2 k = some ds ∧ akL Γ2 l = some es ∧ noScr k = true ∧ noScr l = true ∧ ds.length + es.length ≤ 1000000 ∧ Q (.ow (ds ++ es)) Γ2) : ED c v S (.BinOp a .Add b pos) Γ Q := fun σ H R r kk =>
  ⟨_, fun i => pe_op op_cat (wE.pe i) (wE.pe i), EK.two h r fun x y H' k l Γ' ⟨ds, es, e1, e2, n1, n2, hz, q⟩ r' hk hl s => by
    obtain ⟨p1, xs, rfl, hs1, hx⟩ := akL_trk e1 (noScr_of n1) r' hk
    obtain ⟨p2, ys, rfl, hs2, hy⟩ := akL_trk e2 (noScr_of n2) r' hl
    refine ⟨p1, p2, xs, ys, rfl, rfl, hs1, hs2, ?_, fun p hn => kk _ _ _ _ q (Res.newL r' hn (hx.append hy)) (s.alloc hn) (New.ofL s hn)⟩
    rw [hx.len, hy.len]
    exact line1 (by omega)⟩
theorem RpL.rep {K : PySem.W.Frag} {H : Hp} {ex : AP} {xs : List V} {ds : List Dt} (q : RpL K H ex xs ds) : ∀ n : Nat, RpL K H ex (List.replicate n xs).flatten (List.replicate n ds).flatten
  | 0 => .nil
  | n + 1 => by
    rw [List.replicate_succ, List.replicate_succ, List.flatten_cons, List.flatten_cons]; exact q.append (RpL.rep q n)
theorem ed_repL (h : EK c v S a Γ fun k Γ1 => EK c v S b Γ1 fun l Γ2 => ∃ ds n, akL Γ2 k = some ds ∧ noScr k = true ∧ akD Γ2 l = some (.int n) ∧ -1000000 ≤ n ∧ n ≤ 1000000 ∧ ds.length * n.toNat ≤ 1000000 ∧ Q (.ow (List.replicate n.toNat ds).flatten) Γ2) : ED c v S (.BinOp a .Mult b pos) Γ Q := fun σ H R r kk =>
  ⟨_, fun i => pe_op op_rep (wE.pe i) (wE.pe i), EK.two h r fun x y H' k l Γ' ⟨ds, n, e1, n1, e2, h1, h2, hz, q⟩ r' hk hl s => by
    obtain ⟨p1, xs, rfl, hs1, hx⟩ := akL_trk e1 (noScr_of n1) r' hk
    cases akD_of e2 hl
    refine ⟨p1, n, xs, rfl, rfl, hs1, by omega, by omega, ?_, fun p hn => kk _ _ _ _ q (Res.newL r' hn (hx.rep _)) (s.alloc hn) (New.ofL s hn)⟩
    rw [hx.len]
    exact line1 (by omega)⟩
end
end DL

namespace DL
open PySem PySem.Spec
open PyProof.Rows L2

/-! ### statements -/
structure DE where
  nx : List AV → Prop
  rt : AV → List AV → Prop
  bk : List AV → Prop := fun _ => False
  ct : List AV → Prop := fun _ => False
structure Link (K : PySem.W.Frag) [Tb K] (S : Ent) (E : Ends) (D : DE) : Prop where
  nx : ∀ Γ σ H, D.nx Γ → RS K S no Γ σ H → E.nx σ H
  rt : ∀ a Γ σ H x, D.rt a Γ → Res K S Γ σ H x a → E.rt x H
  bk : ∀ Γ σ H, D.bk Γ → RS K S no Γ σ H → E.bk σ H
  ct : ∀ Γ σ H, D.ct Γ → RS K S no Γ σ H → E.ct σ H
section
variable (c : Core) [Tb c.K] {ι : Type} (v : ι → Var) (S : Ent)
def SD (st : Stmt) (D : DE) (Γ : List AV) : Prop := ∀ (E : Ends) (σ : Sg) (H : Hp), Link c.K S E D → RS c.K S no Γ σ H → wS c v st E σ H
def BD (sts : List Stmt) (D : DE) (Γ : List AV) : Prop := ∀ (E : Ends) (σ : Sg) (H : Hp), Link c.K S E D → RS c.K S no Γ σ H → wB c v sts E σ H
end
section
variable {c : Core} [Tb c.K] {ι : Type} {v : ι → Var} {S : Ent} {Γ : List AV} {D : DE} {e a b : Expr} {es : List Expr} {st : Stmt} {sts sts' : List Stmt} {pos p : Pos} {x y : Str}
theorem bd_nil (h : D.nx Γ) : BD c v S [] D Γ := fun E σ H L r => ⟨_, fun _ => pss_nil, L.nx _ _ _ h r⟩
theorem bd_cons (h : SD c v S st { D with nx := BD c v S sts D } Γ) : BD c v S (st :: sts) D Γ := fun E σ H L r =>
  ⟨_, fun i => pss_cons (wS.ps i) (wB.pss i), h _ σ H ⟨fun Γ σ H q r => q E σ H L r, L.rt, L.bk, L.ct⟩ r⟩
theorem sd_pass (h : D.nx Γ) : SD c v S (.Pass pos) D Γ := fun E σ H L r => ⟨_, fun _ => ps_pass, L.nx _ _ _ h r⟩
theorem sd_break (h : D.bk Γ) : SD c v S (.Break pos) D Γ := fun E σ H L r => ⟨_, fun _ => ps_break, L.bk _ _ _ h r⟩
theorem sd_cont (h : D.ct Γ) : SD c v S (.Continue pos) D Γ := fun E σ H L r => ⟨_, fun _ => ps_continue, L.ct _ _ _ h r⟩
theorem sd_ret (h : ED c v S e Γ D.rt) : SD c v S (.Return (some e) pos) D Γ := fun E σ H L r =>
  ⟨_, fun i => ps_ret (wE.pe i), h σ H _ r fun x H' a Γ' q hr s _ => L.rt _ _ _ _ _ q hr⟩
theorem sd_retN (h : D.rt (.dt .non) Γ) : SD c v S (.Return none pos) D Γ := fun E σ H L r => ⟨_, fun _ => ps_retN, L.rt _ _ _ _ _ h ⟨r, .non⟩⟩
theorem sd_expr (hs : ∀ i, swapsWith e none pos.line (v i).env = pure false) (h : ED c v S e Γ fun _ => D.nx) : SD c v S (.Expr e pos) D Γ := fun E σ H L r =>
  ⟨_, fun i => ps_expr (wE.pe i) (hs i), h σ H _ r fun x H' a Γ' q hr s _ => L.nx _ _ _ q hr.rs⟩
theorem sd_if (h : TD c v S e Γ fun k Γ' => (k = true → BD c v S sts D Γ') ∧ (k = false → BD c v S sts' D Γ')) : SD c v S (.If e sts sts' pos) D Γ := fun E σ H L r =>
  ⟨_, fun i => ps_if (wT.pt i) (wB.pss i) (wB.pss i), h σ H _ r fun b H' Γ' q r' s => by
    cases b with
    | true => exact iteT (q.1 rfl E σ H' L r')
    | false => exact iteF (q.2 rfl E σ H' L r')⟩
theorem sd_never (h : False) : SD c v S st D Γ := h.elim
theorem SD.imp {D' : DE} (h : SD c v S st D Γ) (h1 : ∀ Γ, D.nx Γ → D'.nx Γ) (h2 : ∀ a Γ, D.rt a Γ → D'.rt a Γ) (h3 : ∀ Γ, D.bk Γ → D'.bk Γ) (h4 : ∀ Γ, D.ct Γ → D'.ct Γ) : SD c v S st D' Γ := fun E σ H L r =>
  h E σ H ⟨fun Γ σ H q => L.nx Γ σ H (h1 _ q), fun a Γ σ H x q => L.rt a Γ σ H x (h2 _ _ q), fun Γ σ H q => L.bk Γ σ H (h3 _ q), fun Γ σ H q => L.ct Γ σ H (h4 _ q)⟩ r

/-- a name that may be stored -/
structure AtS (c : Core) [Tb c.K] (v : ι → Var) (x : Str) (i : Nat) : Prop where
  nd : c.N.Nodup
  ix : c.N[i]? = some x
  loc : ∀ k, Loc (v k).env.scope x
  hf : ∀ k, (v k).fn x = true ∨ (v k).env.scope.names.lookup x = some .local
theorem sd_set (i : Nat) {px : Pos} (h : AtS c v x i) (hs : ∀ k, swapsWith e (some (.Name x px)) pos.line (v k).env = pure false) (hi : i < S.n) (hl : ∀ p, (i, p) ∉ S.lent)
    (q : ED c v S e Γ fun a Γ' => D.nx (Γ'.set i a)) : SD c v S (.Assign [.Name x px] e pos) D Γ := fun E σ H L r =>
  ⟨_, fun k => ps_set h.nd h.ix (h.loc k) (wE.pe k) (hs k) (h.hf k), q σ H _ r fun y H' a Γ' q hr s _ => L.nx _ _ _ q (RS.store hr hi hl)⟩
/-- x, y = e1, e2 -/
theorem RS.move_fo {K : PySem.W.Frag} [Tb K] {f : AP} {σ : Sg} {H : Hp} (r : RS K { S with fo := fun b => S.fo b ∨ f b } DL.no Γ σ H) (hp : ∀ b o, S.pn b o → ¬ f b) : RS K S f Γ σ H where
  slots := fun i a e => (r.slots i a e).mono (fun b o e _ n => ⟨e, fun z => n (z.elim .inl fun z => .inr (.inl z))⟩) fun _ _ _ _ _ e _ => e
  dist := r.dist
  fr := r.fr
  own := r.own
  lent := r.lent
  nex := fun p o z => r.nfo p o (.inr z)
  nfo := fun p o z => r.nfo p o (.inl z)
  fo := fun p z => r.fo p (.inl z)
  xtr := r.xtr
  pin := fun b o z => ⟨(r.pin b o z).1, (r.pin b o z).2.1, hp b o z⟩
  nts := r.nts
  tabs := r.tabs
  len := r.len
  lenΓ := r.lenΓ
theorem RS.to_fo {K : PySem.W.Frag} [Tb K] {f : AP} {σ : Sg} {H : Hp} (r : RS K S f Γ σ H) (hf : ∀ p, f p → (∃ o, H p = some o ∧ NT o) ∧ ¬ S.x p) : RS K { S with fo := fun b => S.fo b ∨ f b } DL.no Γ σ H where
  slots := fun i a e => (r.slots i a e).mono (fun b o e _ n => ⟨e, fun z => n (z.elim .inl fun z => .inr (z.elim id False.elim))⟩) fun _ _ _ _ _ e _ => e
  dist := r.dist
  fr := r.fr
  own := r.own
  lent := r.lent
  nex := fun p o z => z
  nfo := fun p o z => z.elim (r.nfo p o) (r.nex p o)
  fo := fun p z => z.elim (r.fo p) (hf p)
  xtr := r.xtr
  pin := fun b o z => ⟨(r.pin b o z).1, (r.pin b o z).2.1, id⟩
  nts := r.nts
  tabs := r.tabs
  len := r.len
  lenΓ := r.lenΓ
/-- the places of a value that only it holds -/
def Sole (x : V) (a : AV) : AP := fun p => (∃ ds, a = .own ds) ∧ x = .ref p
theorem Res.sole {K : PySem.W.Frag} [Tb K] {σ : Sg} {H : Hp} {z : V} {u : AV} (h : Res K S Γ σ H z u) : RS K { S with fo := fun b => S.fo b ∨ Sole z u b } DL.no Γ σ H := by
  cases u with
  | un => exact RS.to_fo (h.ex_mono fun p ⟨⟨_, z⟩, _⟩ => by cases z) fun p ⟨⟨_, z⟩, _⟩ => by cases z
  | dt d => exact RS.to_fo (h.1.ex_mono fun p ⟨⟨_, z⟩, _⟩ => by cases z) fun p ⟨⟨_, z⟩, _⟩ => by cases z
  | own ds =>
    obtain ⟨p, xs, rfl, r, e, q, nf, n⟩ := h
    refine RS.to_fo (r.ex_mono fun b ⟨_, z⟩ => (V.ref.inj z).symm) fun b ⟨_, z⟩ => ?_
    cases z
    exact ⟨⟨_, e, q.mt.nt⟩, fun z => r.xtr _ z n⟩
theorem Res.sole_pin {K : PySem.W.Frag} [Tb K] {σ : Sg} {H : Hp} {z : V} {u : AV} (h : Res K S Γ σ H z u) : ∀ b o, S.pn b o → ¬ Sole z u b := fun b o hb ⟨⟨ds, e1⟩, e2⟩ => by
  subst e1
  obtain ⟨p, xs, rfl, r, e, q, nf, n⟩ := h
  cases e2
  exact (r.pin _ _ hb).2.2 rfl
theorem sd_par (i j : Nat) {px py pt : Pos} {kt k2 : Nat} {pt2 : Pos} (hx : AtS c v x i) (hy : AtS c v y j) (hij : i ≠ j) (lx : ∀ k, (v k).env.scope.names.lookup x = some .local) (ly : ∀ k, (v k).env.scope.names.lookup y = some .local)
    (hs1 : NoStar v a [b]) (hs2 : NoStar v b []) (hw : ∀ k, swappedStores [.Tuple [.Name x px, .Name y py] kt pt] (.Tuple [a, b] k2 pt2) (v k).env = pure (some [x, y]))
    (hss : ∀ k, swapsWithSole [.Tuple [.Name x px, .Name y py] kt pt] (.Tuple [a, b] k2 pt2) pos.line (v k).env = pure false) (hi : i < S.n) (hj : j < S.n) (hli : ∀ p, (i, p) ∉ S.lent) (hlj : ∀ p, (j, p) ∉ S.lent)
    (q : ED c v S a Γ fun u Γ1 => ∀ f : AP, ED c v { S with fo := fun b => S.fo b ∨ f b } b Γ1 fun w Γ2 => D.nx ((Γ2.set i u).set j w)) (still : c.calm = true := by rfl) :
    SD c v S (.Assign [.Tuple [.Name x px, .Name y py] kt pt] (.Tuple [a, b] k2 pt2) pos) D Γ := fun E σ H L r => by
  refine ⟨_, fun k => ps_par still hx.nd hx.ix hy.ix hij (lx k) (ly k) (pa_cons (wE.pe k) (pa_cons (wE.pe k) pa_nil (hs2 k)) (hs1 k)) (hw k) (hss k), ?_⟩
  refine q σ H _ r fun x1 H1 u Γ1 q1 hr1 s1 n1 => ?_
  refine q1 (Sole x1 u) σ H1 _ hr1.sole fun y1 H2 w Γ2 q2 hr2 s2 n2 => ?_
  refine ⟨x1, y1, rfl, L.nx _ _ _ q2 (RS.store ?_ hj hlj)⟩
  -- x1 as it stands now
  have r2 : RS c.K S (Sole x1 u) Γ2 σ H2 := RS.move_fo hr2.rs hr1.sole_pin
  have hu : ResX c.K S DL.no Γ2 σ H2 x1 u := by
    cases u with
    | un => exact r2.no
    | dt d => exact ⟨r2.no, hr1.2.mono s2.keeps⟩
    | own ds =>
      obtain ⟨p, xs, rfl, r1, e1, q1, nf, n⟩ := hr1
      refine ⟨p, xs, rfl, r2.ex_mono fun b z => z.elim False.elim fun z => ⟨⟨ds, rfl⟩, by rw [z]⟩, s2.fr p _ e1 q1.mt.nt fun z => r1.nex p z rfl, q1.mono fun b o e t n => ⟨s2.fr b o e t fun z => n (.inl z), fun z => n ?_⟩, nf, id, n⟩
      rcases z with z | z | z | z
      · exact .inl (s2.own b z)
      · exact .inr (.inl z)
      · exact z.elim
      · exact .inr (.inr z)
  cases w with
  | un => exact RS.storeX hu hi hli
  | dt d =>
    refine ⟨RS.storeX hu hi hli, hr2.2.sub fun b z => ?_⟩
    rcases z with ⟨k, fs, z1, z2⟩ | z | z
    · rcases getSet z1 with ⟨rfl, z, hlt⟩ | ⟨n, z1⟩
      · rw [List.getElem?_set_self (by rw [r2.len, ← r2.lenΓ]; exact hlt)] at z2
        exact .inr (.inl (.inr ⟨⟨fs, z.symm⟩, Option.some.inj (Option.some.inj z2)⟩))
      · rw [List.getElem?_set_ne n] at z2
        exact .inl ⟨k, fs, z1, z2⟩
    · exact .inr (.inl (.inl z))
    · exact z.elim
  | own es =>
    obtain ⟨p2, ys, rfl, rr, e2, qy, nf2, np2⟩ := hr2
    have rr' : RS c.K S (fun b => Sole x1 u b ∨ b = p2) Γ2 σ H2 := {
      slots := fun i a e => (rr.slots i a e).mono (fun b o e _ n => ⟨e, fun z => n (z.elim .inl fun z => z.elim (fun z => .inr (.inl (.inl z))) fun z => z.elim (fun z => .inr (.inl (.inr z))) fun z => .inr (.inr z))⟩) fun _ _ _ _ _ e _ => e
      dist := rr.dist
      fr := rr.fr
      own := rr.own
      lent := rr.lent
      nex := fun p o z => z.elim (fun z => rr.nfo p o (.inr z)) (rr.nex p o)
      nfo := fun p o z => rr.nfo p o (.inl z)
      fo := fun p z => rr.fo p (.inl z)
      xtr := rr.xtr
      pin := fun b o z => ⟨(rr.pin b o z).1, (rr.pin b o z).2.1, fun y => y.elim (fun y => (r2.pin b o z).2.2 y) (rr.pin b o z).2.2⟩
      nts := rr.nts
      tabs := rr.tabs
      len := rr.len
      lenΓ := rr.lenΓ }
    -- the new list is no part of x1
    have old : ∀ b o, H1 b = some o → NT o → ¬ Own Γ1 σ b → b ≠ p2 := fun b o e t n z => by
      obtain ⟨p', z1, z2⟩ := n2
      cases z1
      subst z
      rcases z2 with z2 | z2
      · exact z2 o e t
      · exact n z2
    have hu2 : ResX c.K S (· = p2) Γ2 σ H2 x1 u := by
      cases u with
      | un => exact rr'.ex_mono fun b z => .inr z
      | dt d =>
        refine ⟨rr'.ex_mono fun b z => .inr z, hr1.2.mono fun b o e t n => ⟨s2.fr b o e t fun z => n (.inl z), fun z => ?_⟩⟩
        rcases z with z | z | z
        · exact n (.inl (s2.own b z))
        · exact n (.inr (.inl z))
        · exact old b o e t (fun z => n (.inl z)) z
      | own ds =>
        obtain ⟨p, xs, rfl, r1, e1, q1, nf, n⟩ := hr1
        have hp : p ≠ p2 := old p _ e1 q1.mt.nt fun z => r1.nex p z rfl
        refine ⟨p, xs, rfl, rr'.ex_mono fun b z => z.elim .inr fun z => .inl ⟨⟨ds, rfl⟩, by rw [z]⟩, s2.fr p _ e1 q1.mt.nt fun z => r1.nex p z rfl, q1.mono fun b o e t n => ⟨s2.fr b o e t fun z => n (.inl z), fun z => ?_⟩, nf, hp, n⟩
        rcases z with z | z | z | z
        · exact n (.inl (s2.own b z))
        · exact n (.inr (.inl z))
        · exact old b o e t (fun z => n (.inl z)) z
        · exact n (.inr (.inr z))
    refine ⟨p2, ys, rfl, RS.storeX hu2 hi hli, e2, qy.sub fun b z => ?_, fun z => nf2 (.inl z), np2⟩
    rcases z with ⟨k, fs, z1, z2⟩ | z | z
    · rcases getSet z1 with ⟨rfl, z, hlt⟩ | ⟨n, z1⟩
      · rw [List.getElem?_set_self (by rw [r2.len, ← r2.lenΓ]; exact hlt)] at z2
        exact .inr (.inl (.inr ⟨⟨fs, z.symm⟩, Option.some.inj (Option.some.inj z2)⟩))
      · rw [List.getElem?_set_ne n] at z2
        exact .inl ⟨k, fs, z1, z2⟩
    · exact .inr (.inl (.inl z))
    · exact .inr (.inr z)
end
end DL

namespace DL
open PySem PySem.Spec
open PyProof.Rows L2

section
variable {c : Core} [Tb c.K] {ι : Type} {v : ι → Var} {S : Ent} {Γ : List AV} {Q : AV → List AV → Prop} {D : DE} {e a b : Expr} {es : List Expr} {st : Stmt} {sts sts' : List Stmt} {pos p apos cpos : Pos} {x y : Str}
theorem own_set {σ : Sg} {i : Nat} {ds es : Ct} {q : Addr} (g : Γ[i]? = some (.own ds)) (o : Own (Γ.set i (.own es)) σ q) : Own Γ σ q := by
  obtain ⟨j, fs, z1, z2⟩ := o
  rcases getSet z1 with ⟨rfl, _, _⟩ | ⟨n, z1⟩
  · exact ⟨i, ds, g, z2⟩
  · exact ⟨j, fs, z1, z2⟩
/-- xs.append(e), xs a slot's own list -/
def FewArgs (v : ι → Var) (cpos : Pos) (e : Expr) (es : List Expr) : Prop := ∀ i, ((backTo cpos (starEach (e :: es) (v i).env)).all (fun x => !x.1) && (backToKw cpos (keywordEach [] (v i).env)).all (fun x => x.1.isSome)
      && decide ((e :: es).length + ([] : List Keyword).length + (if ([] : List Keyword).isEmpty then 0 else 1) < 30)) = true
def Base0 (v : ι → Var) (o : Expr) (name : Str) : Prop := ∀ i, attributeBase o name (v i).env (eval o (v i).env) = eval o (v i).env
theorem ed_append (i : Nat) {ds0 : List Dt} (hx : At c v x i) (g : Γ[i]? = some (.ow ds0)) (hb : Base0 v (.Name x p) "append") (hf : FewArgs v cpos e []) (hl : (apos.endLine == cpos.line) = true) (hs : NoStar v e [])
    (h : EK c v S e Γ fun k Γ1 => ∃ ds d, Γ1[i]? = some (.ow ds) ∧ akD Γ1 k = some d ∧ ds.length < 1000000 ∧ Q (.dt .non) (Γ1.set i (.ow (ds ++ [d])))) : ED c v S (.Call (.Attribute (.Name x p) "append" apos) [e] [] cpos) Γ Q := fun σ H R r kk => by
  obtain ⟨q0, _, e0, h0, xs0, rfl, w0⟩ := r.slots i _ g
  refine ⟨tBM c.K "list" rAppend (tVar i) (tCons (wE c v e) tNil), fun k => pe_bm PySem.F.plainAttrs_list PySem.F.slot_list_append PySem.F.type_list_append (show MtR (mkX c (v k)) "list.append" rAppend from mt_append) (hx.pe k) (pa_cons (wE.pe k) pa_nil (hs k)) (hb k) (hf k) hl (hs k) rfl, ?_⟩
  refine ⟨_, e0, .inl ⟨rfl, _, .of h0⟩, ?_⟩
  refine h σ H _ r fun y H1 k Γ1 ⟨ds, d, g1, ed, hz, q⟩ r1 hk s => ?_
  obtain ⟨q1, _, e1, h1, xs1, rfl, w1⟩ := r1.slots i _ g1
  rw [e0] at e1
  cases e1
  have hr := akD_of ed hk
  have o1 : Own Γ1 σ q0 := ⟨i, _, g1, e0⟩
  refine ⟨q0, xs1, y, rfl, rfl, h1, ?_, ?_⟩
  · have := line1 (n := xs1.length + 1) (by rw [w1.len]; omega)
    omega
  · exact kk _ _ _ _ q ⟨r1.write g1 e0 (w1.append (.cons hr .nil)), .non⟩ ⟨fun b o eb tb nb => by
      have : b ≠ q0 := fun z => nb (s.own _ (z ▸ o1))
      rw [upd_ne this]
      exact s.fr b o eb tb nb, fun b o => s.own b (own_set g1 o)⟩ trivial
/-- xs[i] = e, xs a slot's own list -/
theorem sd_setItem (i : Nat) (hx : At c v x i) {px pt : Pos}
    (hsw : ∀ k, swapsWithSole [.Subscript (.Name x px) b pt] e pos.line (v k).env = pure false) (hss : ∀ k, swappedStores [.Subscript (.Name x px) b pt] e (v k).env = pure none)
    (h1 : ∀ k, (assignEach [.Subscript (.Name x px) b pt] (v k).env).map (·.2) = [assign (.Subscript (.Name x px) b pt) (v k).env])
    (ha : ∀ k z, assign (.Subscript (.Name x px) b pt) (v k).env z = (do
      let ov ← holding [z] (eval (.Name x px) (v k).env)
      let iv ← holding [z, ov] (eval b (v k).env)
      standAt pt
      holding [z, ov, iv] (setItem ov iv z)
      release [z, ov, iv] []))
    (h : EK c v S e Γ fun k Γ1 => (∃ ds, Γ1[i]? = some (.ow ds)) ∧ EK c v S b Γ1 fun l Γ2 => ∃ ds n j d, Γ2[i]? = some (.ow ds) ∧ akD Γ2 l = some (.int n) ∧ ixN ds.length n = some j ∧ akD Γ2 k = some d ∧ D.nx (Γ2.set i (.ow (ds.set j d)))) :
    SD c v S (.Assign [.Subscript (.Name x px) b pt] e pos) D Γ := fun E σ H L r => by
  refine ⟨_, fun k => ps_asg (wE.pe k) (pg_sub (hx.pe k) (wE.pe k) (show PSet (mkX c (v k)) rSetL from set_list) (ha k)) (hsw k) (hss k) (h1 k), ?_⟩
  refine h σ H _ r fun y H1 k Γ1 ⟨⟨ds1, g1⟩, q1⟩ r1 hk s1 => ?_
  obtain ⟨p1, _, e1, z1, xs1, rfl, w1⟩ := r1.slots i _ g1
  refine ⟨_, e1, ?_⟩
  refine q1 σ H1 _ r1 fun w H2 l Γ2 ⟨ds, n, j, d, g2, en, ej, ed, q⟩ r2 hl s2 => ?_
  obtain ⟨p2, _, e2, z2, xs2, rfl, w2⟩ := r2.slots i _ g2
  rw [e1] at e2
  cases e2
  cases akD_of en hl
  refine ⟨p1, xs2, n, j, rfl, rfl, z2, by rw [w2.len]; exact ej, L.nx _ _ _ q (r2.write g2 e1 (RpL.set (akD_of ed (hk.mono s2.keeps)) j w2))⟩
end

/-! ### targets -/
section
variable (c : Core) [Tb c.K] {ι : Type} (v : ι → Var) (S : Ent)
def wG (tg : Expr) : TG := fun x σ H R => ∃ t : TG, (∀ i, PG (mkX c (v i)) tg t) ∧ t x σ H R
def wGs (tgs : List Expr) : TGs := fun xs σ H R => ∃ t : TGs, (∀ i, PGs (mkX c (v i)) tgs t) ∧ t xs σ H R
def GD (tg : Expr) (d : Dt) (W : List Nat) (Γ : List AV) (Q : List AV → Prop) : Prop := ∀ (σ : Sg) (H : Hp) (x : V) (R : Sg → Hp → Prop), RS c.K S no Γ σ H → Rp c.K H (Exc S Γ σ no) x d →
  (∀ σ' Γ', Q Γ' → RS c.K S no Γ' σ' H → (∀ p, Own Γ' σ' p → Own Γ σ p) → (∀ i, i ∉ W → σ'[i]? = σ[i]?) → R σ' H) → wG c v tg x σ H R
def GDs (tgs : List Expr) (ds : List Dt) (W : List Nat) (Γ : List AV) (Q : List AV → Prop) : Prop := ∀ (σ : Sg) (H : Hp) (xs : List V) (R : Sg → Hp → Prop), RS c.K S no Γ σ H → RpL c.K H (Exc S Γ σ no) xs ds →
  (∀ σ' Γ', Q Γ' → RS c.K S no Γ' σ' H → (∀ p, Own Γ' σ' p → Own Γ σ p) → (∀ i, i ∉ W → σ'[i]? = σ[i]?) → R σ' H) → wGs c v tgs xs σ H R
end
section
variable {c : Core} [Tb c.K] {ι : Type} {v : ι → Var} {S : Ent} {Γ : List AV} {Q : List AV → Prop} {D : DE} {e a b tg iter : Expr} {es tgs : List Expr} {body : List Stmt} {pos p : Pos} {x : Str} {d : Dt} {ds : List Dt} {QS : List Dt → List AV → Prop}
theorem wG.pg (i : ι) : PG (mkX c (v i)) tg (wG c v tg) := ⟨fun pins s σ H x u Q I r ⟨_, h, q⟩ => (h i).run pins s σ H x u Q I r q⟩
theorem wGs.pgs (i : ι) : PGs (mkX c (v i)) tgs (wGs c v tgs) := ⟨fun pins s σ H x u Q I r ⟨_, h, q⟩ => (h i).run pins s σ H x u Q I r q⟩
theorem own_store {σ : Sg} {i : Nat} {z : V} (hl : i < σ.length) : ∀ p, Own (Γ.set i (.dt d)) (σ.set i (some z)) p → Own Γ σ p := fun p ⟨j, fs, z1, z2⟩ => by
  rcases getSet z1 with ⟨_, z, _⟩ | ⟨n, z1⟩
  · cases z
  · rw [List.getElem?_set_ne n] at z2
    exact ⟨j, fs, z1, z2⟩
theorem gd_name (i : Nat) (h : AtS c v x i) (hi : i < S.n) (hl : ∀ p, (i, p) ∉ S.lent) (q : Q (Γ.set i (.dt d))) : GD c v S (.Name x pos) d [i] Γ Q := fun σ H y R r hr k =>
  ⟨_, fun j => pg_name h.nd h.ix (h.loc j) (h.hf j), k _ _ q (RS.store ⟨r, hr⟩ hi hl) (own_store (by rw [r.len]; exact hi)) fun j hj => List.getElem?_set_ne (fun z => hj (by rw [z]; exact List.mem_cons_self))⟩
theorem gds_nil (q : Q Γ) : GDs c v S [] [] [] Γ Q := fun σ H xs R r hr k => by
  cases hr
  exact ⟨_, fun _ => pgs_nil, rfl, k _ _ q r (fun _ o => o) fun _ _ => rfl⟩
def AssignEach (v : ι → Var) (e : Expr) (es : List Expr) : Prop := ∀ i, (assignEach (e :: es) (v i).env).map (·.2) = assign e (v i).env :: (assignEach es (v i).env).map (·.2)
theorem gds_cons {W1 W2 : List Nat} (hs : AssignEach v tg tgs) (h : GD c v S tg d W1 Γ fun Γ' => GDs c v S tgs ds W2 Γ' Q) : GDs c v S (tg :: tgs) (d :: ds) (W1 ++ W2) Γ Q := fun σ H xs R r hr k => by
  cases hr with
  | cons h1 h2 =>
    refine ⟨_, fun i => pgs_cons (wG.pg i) (wGs.pgs i) (hs i), _, _, rfl, ?_⟩
    refine h σ H _ _ r h1 fun σ1 Γ1 q1 r1 o1 w1 => ?_
    refine q1 σ1 H _ _ r1 (h2.sub fun b z => z.elim (fun z => .inl (o1 b z)) .inr) fun σ2 Γ2 q2 r2 o2 w2 => k _ _ q2 r2 (fun p z => o1 p (o2 p z)) fun i hi => (w2 i fun z => hi (List.mem_append_right _ z)).trans (w1 i fun z => hi (List.mem_append_left _ z))
theorem gd_tup {k : Nat} {W : List Nat} (hn : ∀ i, (assignEach tgs (v i).env).length = ds.length) (hst : ∀ i, (assignEach tgs (v i).env).findIdx? (·.1) = none) (h : GDs c v S tgs ds W Γ Q) (still : c.calm = true := by rfl) : GD c v S (.Tuple tgs k pos) (.tup ds) W Γ Q := fun σ H y R r hr kk => by
  cases hr with
  | tup e n q => exact ⟨gTup c.K ds.length (wGs c v tgs), fun i => pg_tup still (wGs.pgs i) (hn i) (hst i), _, _, rfl, .of e, q.len, h σ H _ _ r q kk⟩

/-! ### loops -/
abbrev Ent.pin (S : Ent) (f : Addr → HO → Prop) : Ent := { S with pn := fun b o => S.pn b o ∨ f b o }
theorem RS.unpin {K : PySem.W.Frag} [Tb K] {f : Addr → HO → Prop} {ex : AP} {σ : Sg} {H : Hp} (r : RS K (S.pin f) ex Γ σ H) : RS K S ex Γ σ H where
  slots := r.slots
  dist := r.dist
  fr := r.fr
  own := r.own
  lent := r.lent
  nex := r.nex
  nfo := r.nfo
  fo := r.fo
  xtr := r.xtr
  pin := fun b o z => r.pin b o (.inl z)
  nts := ⟨r.nts.1, fun b o z => r.nts.2 b o (.inl z)⟩
  tabs := r.tabs
  len := r.len
  lenΓ := r.lenΓ
theorem RS.dopin {K : PySem.W.Frag} [Tb K] {f : Addr → HO → Prop} {ex : AP} {σ : Sg} {H : Hp} (r : RS K S ex Γ σ H) (hf : ∀ b o, f b o → H b = some o ∧ ¬ Own Γ σ b ∧ ¬ ex b) (ht : ∀ b o, f b o → NT o) : RS K (S.pin f) ex Γ σ H where
  slots := r.slots
  dist := r.dist
  fr := r.fr
  own := r.own
  lent := r.lent
  nex := r.nex
  nfo := r.nfo
  fo := r.fo
  xtr := r.xtr
  pin := fun b o z => z.elim (r.pin b o) (hf b o)
  nts := ⟨r.nts.1, fun b o z => z.elim (r.nts.2 b o) (ht b o)⟩
  tabs := r.tabs
  len := r.len
  lenΓ := r.lenΓ
theorem Res.unpin {K : PySem.W.Frag} [Tb K] {f : Addr → HO → Prop} {σ : Sg} {H : Hp} {z : V} {u : AV} (h : Res K (S.pin f) Γ σ H z u) : Res K S Γ σ H z u := by
  cases u with
  | un => exact RS.unpin h
  | dt d => exact ⟨h.1.unpin, h.2⟩
  | own ds =>
    obtain ⟨p, xs, e, r, h2⟩ := h
    exact ⟨p, xs, e, r.unpin, h2⟩
/-- all that stands at H but the slots' lists -/
def AllPin (H : Hp) (Γ : List AV) (σ : Sg) : Addr → HO → Prop := fun b o => H b = some o ∧ NT o ∧ ¬ Own Γ σ b
def LoopD (P : Nat → List AV → Prop) (D : DE) (j : Nat) : DE := { nx := P (j + 1), rt := D.rt, bk := D.nx, ct := P (j + 1) }
def NoFold (v : ι → Var) (iter : Expr) : Prop := ∀ i x, foldedSetIterable iter (v i).env x = pure x
def PassOwn (c : Core) [Tb c.K] (v : ι → Var) : Prop := ∀ i, PassesOwn (model c.prog c.w) c.A (v i).env (v i).xe
/-- what one turn is to do with the item d -/
def TurnD (c : Core) [Tb c.K] (v : ι → Var) (S : Ent) (tg : Expr) (body : List Stmt) (D : DE) (P : Nat → List AV → Prop) (j : Nat) (d : Dt) (Γ : List AV) : Prop :=
  ∃ W, ∀ f, GD c v (S.pin f) tg d W Γ fun Γ' => BD c v (S.pin f) body (LoopD P D j) Γ'
theorem Link.loop {K : PySem.W.Frag} [Tb K] {f : Addr → HO → Prop} {E : Ends} {P : Nat → List AV → Prop} {j : Nat} (L : Link K S E D) :
    Link K (S.pin f) { E with nx := fun σ H => ∃ Γ, P (j + 1) Γ ∧ RS K (S.pin f) no Γ σ H, ct := fun σ H => ∃ Γ, P (j + 1) Γ ∧ RS K (S.pin f) no Γ σ H, bk := E.nx } (LoopD P D j) :=
  ⟨fun Γ σ H q r => ⟨Γ, q, r⟩, fun a Γ σ H x q r => L.rt a Γ σ H x q r.unpin, fun Γ σ H q r => L.nx Γ σ H q r.unpin, fun Γ σ H q r => ⟨Γ, q, r⟩⟩

/-- what a walk hands out, item by item, as long as all stands that stood at its beginning (but the places own) -/
structure Walk (K : PySem.W.Frag) (J : It) (H1 : Hp) (own E : AP) (ds : List Dt) : Prop where
  go : ∀ j H', (∀ b o, H1 b = some o → NT o → ¬ own b → H' b = some o) → j < ds.length → J.go j H'
  stop : ∀ j H', (∀ b o, H1 b = some o → NT o → ¬ own b → H' b = some o) → ds.length ≤ j → J.stop j H'
  yld : ∀ j H' x H'', (∀ b o, H1 b = some o → NT o → ¬ own b → H' b = some o) → j < ds.length → J.yld j H' x H'' → ∃ d, ds[j]? = some d ∧
    ((H'' = H' ∧ Rp K H1 E x d) ∨ ∃ T vs es, H' T = none ∧ H'' = upd H' T (.tup vs) ∧ x = .ref T ∧ d = .tup es ∧ RpL K H1 E vs es)
def SrcD (c : Core) [Tb c.K] {ι : Type} (v : ι → Var) (S : Ent) (tg iter : Expr) (Γ : List AV) (Q : List Dt → List AV → Prop) : Prop := ∀ (σ : Sg) (H : Hp) (R : It → Hp → Prop), RS c.K S no Γ σ H →
  (∀ J H1 ds Γ1, Q ds Γ1 → RS c.K S no Γ1 σ H1 → Step Γ Γ1 σ H H1 → Walk c.K J H1 (Own Γ1 σ) (Exc S Γ1 σ no) ds → R J H1) → wI c v tg iter σ H R
/-- a walk's item, at its turn -/
theorem Walk.item {K : PySem.W.Frag} [Tb K] {J : It} {H1 H' H'' : Hp} {ds : List Dt} {Γ1 Γ' : List AV} {σ σ' : Sg} {j : Nat} {z : V} {f : Addr → HO → Prop} {fo' : AP} (w : Walk K J H1 (Own Γ1 σ) (Exc S Γ1 σ no) ds) (hf : ∀ b o, AllPin H1 Γ1 σ b o → f b o)
    (hfo : ∀ b, fo' b → S.fo b ∨ H1 b = none) (r : RS K { S with pn := fun b o => S.pn b o ∨ f b o, fo := fo' } no Γ' σ' H') (hj : j < ds.length) (y : J.yld j H' z H'') :
    ∃ d, ds[j]? = some d ∧ RS K { S with pn := fun b o => S.pn b o ∨ f b o, fo := fo' } no Γ' σ' H'' ∧ Rp K H'' (Exc { S with pn := fun b o => S.pn b o ∨ f b o, fo := fo' } Γ' σ' no) z d ∧ (∀ b o, H' b = some o → H'' b = some o) := by
  have fr : ∀ b o, H1 b = some o → NT o → ¬ Own Γ1 σ b → H' b = some o := fun b o e t n => (r.pin b o (.inr (hf b o ⟨e, t, n⟩))).1
  have mo : ∀ b o, H1 b = some o → NT o → ¬ Exc S Γ1 σ no b → H' b = some o ∧ ¬ Exc { S with pn := fun b o => S.pn b o ∨ f b o, fo := fo' } Γ' σ' no b := fun b o e t n => by
    have q := r.pin b o (.inr (hf b o ⟨e, t, fun z => n (.inl z)⟩))
    refine ⟨q.1, fun y => y.elim q.2.1 fun y => y.elim (fun y => ?_) id⟩
    rcases hfo b y with z | z
    · exact n (.inr (.inl z))
    · rw [z] at e
      cases e
  obtain ⟨d, ed, h⟩ := w.yld j H' z H'' fr hj y
  refine ⟨d, ed, ?_⟩
  rcases h with ⟨rfl, hr⟩ | ⟨T, vs, es, nT, rfl, rfl, rfl, hr⟩
  · exact ⟨r, hr.mono mo, fun _ _ e => e⟩
  · have := Res.newT r nT (hr.mono mo)
    exact ⟨this.1, this.2, fun b o e => by rw [upd_ne (ne_of_none e nT)]; exact e⟩
/-- for -/
theorem sd_for (hp : PassOwn c v) (hs : NoFold v iter)
    (h : SrcD c v S tg iter Γ fun ds Γ1 => ∃ P : Nat → List AV → Prop, P 0 Γ1 ∧ (∀ j d Γ2, ds[j]? = some d → P j Γ2 → TurnD c v S tg body D P j d Γ2) ∧ ∀ Γ2, P ds.length Γ2 → D.nx Γ2) (still : c.calm = true := by rfl) :
    SD c v S (.For tg iter body [] pos) D Γ := fun E σ H L r => by
  refine ⟨_, fun i => ps_for (hp i) still (wI.pi i) (wG.pg i) (wB.pss i) (hs i), ?_⟩
  refine h σ H _ r fun J H1 ds Γ1 ⟨P, p0, step, done⟩ r1 s w => ?_
  have rp : RS c.K (S.pin (AllPin H1 Γ1 σ)) no Γ1 σ H1 := r1.dopin (fun b o ⟨z1, _, z2⟩ => ⟨z1, z2, id⟩) fun b o z => z.2.1
  refine ⟨fun j m σ' H' => m = ds.length - j ∧ j ≤ ds.length ∧ ∃ Γ', P j Γ' ∧ RS c.K (S.pin (AllPin H1 Γ1 σ)) no Γ' σ' H', ⟨_, rfl, Nat.zero_le _, Γ1, p0, rp⟩, ?_⟩
  rintro j m σ' H' ⟨rfl, hj, Γ', pj, r'⟩
  have fr : ∀ b o, H1 b = some o → NT o → ¬ Own Γ1 σ b → H' b = some o := fun b o e t n => (r'.pin b o (.inr ⟨e, t, n⟩)).1
  by_cases hlt : j < ds.length
  · refine .inr ⟨w.go j H' fr hlt, fun σ2 H2 => ∃ Γ2, P (j + 1) Γ2 ∧ RS c.K (S.pin (AllPin H1 Γ1 σ)) no Γ2 σ2 H2, fun σ2 H2 ⟨Γ2, p2, r2⟩ => ⟨_, by omega, rfl, hlt, Γ2, p2, r2⟩, fun x H2 y => ?_⟩
    obtain ⟨d, ed, r2, hd, _⟩ := w.item (f := AllPin H1 Γ1 σ) (fo' := S.fo) (fun _ _ z => z) (fun _ z => .inl z) r' hlt y
    obtain ⟨W, hW⟩ := step j d Γ' ed pj
    exact hW _ σ' H2 x _ r2 hd fun σ3 Γ3 q3 r3 _ _ => q3 _ σ3 H2 L.loop r3
  · have e : j = ds.length := by omega
    subst e
    exact .inl ⟨w.stop _ H' fr (Nat.le_refl _), L.nx _ _ _ (done _ pj) r'.unpin⟩

/-! ### what is walked -/
theorem src_T (h : EK c v S iter Γ fun k Γ1 => ∃ ds, akT Γ1 k = some ds ∧ QS ds Γ1) : SrcD c v S tg iter Γ QS := fun σ H R r kk => by
  refine ⟨_, fun i => (show PI (mkX c (v i)) tg iter (iTup c.K (wE c v iter)) from pi_tup (wE.pe i)), ?_⟩
  refine h σ H _ r fun x H1 k Γ1 ⟨ds, ek, q⟩ r1 hk s => ?_
  obtain ⟨a, xs, rfl, ha, hx⟩ := akT_of ek hk
  have na : ¬ Own Γ1 σ a := r1.not_own ha id
  refine ⟨a, rfl, ⟨xs, .of ha⟩, kk _ _ _ _ q r1 s ⟨fun j H' fr hj => ?_, fun j H' fr hj => ⟨xs, .of (fr _ _ ha trivial na), by rw [hx.len]; exact hj⟩, fun j H' z H'' fr _ y => ?_⟩⟩
  · have hj' : j < xs.length := by rw [hx.len]; exact hj
    exact ⟨xs, xs[j], .of (fr _ _ ha trivial na), List.getElem?_eq_getElem hj'⟩
  · obtain ⟨e1, e2⟩ := y
    obtain ⟨d, ed, hd⟩ := hx.get' (e2 xs (.of (fr _ _ ha trivial na)))
    exact ⟨d, ed, .inl ⟨e1, hd⟩⟩
/-- a list that is no slot's own (or is seen as data from here on) -/
def noLn : AK → Bool
  | .d _ => true
  | .ln _ => false
theorem akL_data {K : PySem.W.Frag} [Tb K] {H : Hp} {σ : Sg} {x : V} {k : AK} {ds : List Dt} (e : akL Γ k = some ds) (hn : noScr k = true) (hl : noLn k = true) (r : RS K S no Γ σ H) (q : RpK K H (Exc S Γ σ no) σ x k) : ∃ p xs, x = .ref p ∧ H p = some (.lst xs) ∧ RpL K H (Exc S Γ σ no) xs ds ∧ ¬ Own Γ σ p := by
  rcases k with (_ | d | es | _ | _) | i
  · cases e
  · cases d with
    | lst es => cases e; cases q with | lst e n r => exact ⟨_, _, rfl, e, r, fun z => n (.inl z)⟩
    | scr n => cases hn
    | _ => cases e
  · cases e; cases q with | lst e n r => exact ⟨_, _, rfl, e, r, fun z => n (.inl z)⟩
  · cases e
  · cases e
  · cases hl
theorem src_L (h : EK c v S iter Γ fun k Γ1 => ∃ ds, akL Γ1 k = some ds ∧ noScr k = true ∧ noLn k = true ∧ QS ds Γ1) : SrcD c v S tg iter Γ QS := fun σ H R r kk => by
  refine ⟨_, fun i => (show PI (mkX c (v i)) tg iter (iList c.K (wE c v iter)) from pi_list (wE.pe i)), ?_⟩
  refine h σ H _ r fun x H1 k Γ1 ⟨ds, ek, n1, n2, q⟩ r1 hk s => ?_
  obtain ⟨a, xs, rfl, ha, hx, na⟩ := akL_data ek n1 n2 r1 hk
  refine ⟨a, rfl, ⟨xs, .of ha⟩, kk _ _ _ _ q r1 s ⟨fun j H' fr hj => ?_, fun j H' fr hj => ⟨xs, .of (fr _ _ ha trivial na), by rw [hx.len]; exact hj⟩, fun j H' z H'' fr _ y => ?_⟩⟩
  · have hj' : j < xs.length := by rw [hx.len]; exact hj
    exact ⟨xs, xs[j], .of (fr _ _ ha trivial na), List.getElem?_eq_getElem hj'⟩
  · obtain ⟨e1, e2⟩ := y
    obtain ⟨d, ed, hd⟩ := hx.get' (e2 xs (.of (fr _ _ ha trivial na)))
    exact ⟨d, ed, .inl ⟨e1, hd⟩⟩
/-- lo, lo + 1, .. -/
def rngD (lo : Int) (n : Nat) : List Dt := (List.range n).map fun i => .int (lo + (i : Nat))
theorem rngD_len (lo : Int) (n : Nat) : (rngD lo n).length = n := by
  unfold rngD; rw [List.length_map, List.length_range]
theorem rngD_get {lo : Int} {n j : Nat} (h : j < n) : (rngD lo n)[j]? = some (.int (lo + (j : Nat))) := by
  unfold rngD
  rw [List.getElem?_map, List.getElem?_range h]
  rfl
theorem walk_rng {K : PySem.W.Frag} [Tb K] {H1 : Hp} {own E : AP} {lo : Int} {n : Nat} : Walk K (Itr lo n) H1 own E (rngD lo n) := by
  refine ⟨fun j H' _ h => by rw [rngD_len] at h; exact h, fun j H' _ h => by rw [rngD_len] at h; exact h, fun j H' x H'' _ hj y => ?_⟩
  rw [rngD_len] at hj
  obtain ⟨rfl, rfl⟩ := y
  exact ⟨_, rngD_get hj, .inl ⟨rfl, .int _⟩⟩
theorem src_R1 (hg : ∀ i, Gl (mkX c (v i)) "range") (hm : c.mg "range" = none) (hs : ∀ i, starEach [a] (v i).env = [(false, eval a (v i).env)])
    (h : EA c v S [a] Γ fun as Γ1 => ∃ k n, as = [k] ∧ akD Γ1 k = some (.int n) ∧ (-(2 ^ 62) ≤ n ∧ n < 2 ^ 62) ∧ QS (rngD 0 n.toNat) Γ1) : SrcD c v S tg (.Call (.Name "range" p) [a] [] pos) Γ QS := fun σ H R r kk => by
  refine ⟨_, fun i => pi_range1 (hg i) hm (wA.pa i) (hs i), ?_⟩
  refine h σ H _ r fun xs H1 as Γ1 ⟨k, n, e, ed, ⟨b1, b2⟩, q⟩ r1 hx s => ?_
  subst e
  obtain ⟨x, rfl, hk⟩ := hx.one
  cases akD_of ed hk
  exact ⟨n, rfl, b1, b2, kk _ _ _ _ q r1 s walk_rng⟩
theorem src_R2 (hg : ∀ i, Gl (mkX c (v i)) "range") (hm : c.mg "range" = none) (hs : ∀ i, starEach [a, b] (v i).env = [(false, eval a (v i).env), (false, eval b (v i).env)]) (hs2 : ∀ i, starEach [b] (v i).env = [(false, eval b (v i).env)])
    (h : EA c v S [a, b] Γ fun as Γ1 => ∃ k l m n, as = [k, l] ∧ akD Γ1 k = some (.int m) ∧ akD Γ1 l = some (.int n) ∧ (-(2 ^ 62) ≤ m ∧ m < 2 ^ 62 ∧ -(2 ^ 62) ≤ n ∧ n < 2 ^ 62) ∧ QS (rngD m (n - m).toNat) Γ1) : SrcD c v S tg (.Call (.Name "range" p) [a, b] [] pos) Γ QS := fun σ H R r kk => by
  refine ⟨_, fun i => pi_range2 (hg i) hm (wA.pa i) (hs i) (hs2 i), ?_⟩
  refine h σ H _ r fun xs H1 as Γ1 ⟨k, l, m, n, e, ed, ed2, b, q⟩ r1 hx s => ?_
  subst e
  obtain ⟨x, y, rfl, hk, hl⟩ := hx.pair
  cases akD_of ed hk
  cases akD_of ed2 hl
  exact ⟨m, n, rfl, b, kk _ _ _ _ q r1 s walk_rng⟩
end
end DL

namespace DL
open PySem PySem.Spec
open PyProof.Rows L2

/-! ### comprehensions -/
/-- the blocks' contexts -/
abbrev BI (ι : Type) := ι × Shared × Hp × Addr × List (Str × Addr) × List Addr
abbrev blkV {ι : Type} (c : Core) [Tb c.K] (v : ι → Var) (scope : Scope) : BI ι → Var := fun k =>
  { s := k.2.1, H := k.2.2.1, env := compEnvC scope k.2.2.2.2.1 k.2.2.2.1 (v k.1).env, outer := c.stack, ex := k.2.2.2.2.2, fn := fun x => scope.names.lookup x == some .cell, pn := [], xe := fun _ _ => False }
def wipeD (Γ : List AV) : List Nat → List AV
  | [] => Γ
  | i :: is => (wipeD Γ is).set i .un
section
variable {K : PySem.W.Frag} [Tb K] {S : Ent} {ex : AP} {Γ Γ' : List AV} {σ : Sg} {H H' : Hp}
theorem RS.forget2 {i : Nat} (r : RS K S ex Γ σ H) (hl : ∀ p, (i, p) ∉ S.lent) : RS K S ex (Γ.set i .un) (σ.set i none) H := by
  have r' := r.forget hl
  have sub : ∀ p, Own (Γ.set i .un) (σ.set i none) p → Own (Γ.set i .un) σ p := fun p ⟨j, es, e1, e2⟩ => by
    rcases getSet e1 with ⟨_, z, _⟩ | ⟨n, e1'⟩
    · cases z
    · rw [List.getElem?_set_ne n] at e2
      exact ⟨j, es, e1, e2⟩
  have subE : ∀ p, Exc S (Γ.set i .un) (σ.set i none) ex p → Exc S (Γ.set i .un) σ ex p := fun p z => z.elim (fun z => .inl (sub p z)) .inr
  refine { r' with slots := fun j a e => ?_, dist := fun j k es fs p e1 e2 e3 e4 => ?_, own := fun p o => r'.own p (sub p o), pin := fun b o z => ⟨(r'.pin b o z).1, fun y => (r'.pin b o z).2.1 (sub b y), (r'.pin b o z).2.2⟩, lent := fun j p e => ?_, nex := fun p o => r'.nex p (sub p o), nfo := fun p o => r'.nfo p (sub p o), len := by rw [List.length_set]; exact r'.len }
  · rcases getSet e with ⟨rfl, rfl, _⟩ | ⟨n, e'⟩
    · trivial
    · rw [List.getElem?_set_ne n]
      exact (r'.slots j a e).mono (fun b o e _ n => ⟨e, fun z => n (subE b z)⟩) fun _ _ _ _ _ e _ => e
  · have nj : ∀ {j : Nat} {es : Ct}, (Γ.set i .un)[j]? = some (.own es) → i ≠ j := fun {j es} e z => by
      rcases getSet e with ⟨_, y, _⟩ | ⟨n, _⟩
      · cases y
      · exact n z
    rw [List.getElem?_set_ne (nj e1)] at e3
    rw [List.getElem?_set_ne (nj e2)] at e4
    exact r'.dist j k es fs p e1 e2 e3 e4
  · obtain ⟨e1, e2⟩ := r'.lent j p e
    have n : i ≠ j := by
      rintro rfl
      exact hl p e
    rw [List.getElem?_set_ne n]
    exact ⟨e1, e2⟩
theorem RS.wipe (r : RS K S ex Γ σ H) : ∀ {is : List Nat}, (∀ i ∈ is, ∀ p, (i, p) ∉ S.lent) → RS K S ex (wipeD Γ is) (wipe σ is) H
  | [], _ => r
  | i :: is, hl => (RS.wipe r fun j hj => hl j (List.mem_cons_of_mem _ hj)).forget2 (hl i List.mem_cons_self)
/-- back from a block: the slots wiped are not known -/
theorem wipe_other (σ : Sg) : ∀ {is : List Nat} {i : Nat}, i ∉ is → (wipe σ is)[i]? = σ[i]?
  | [], _, _ => rfl
  | j :: is, i, h => by
    show ((wipe σ is).set j none)[i]? = σ[i]?
    rw [List.getElem?_set_ne (fun z => h (by rw [z]; exact List.mem_cons_self))]
    exact wipe_other σ fun z => h (List.mem_cons_of_mem _ z)
theorem RS.unwipe {is : List Nat} (r : RS K S ex Γ (L2.wipe σ is) H) (hu : ∀ i ∈ is, ∀ a, Γ[i]? = some a → a = .un) (hl : ∀ i ∈ is, ∀ p, (i, p) ∉ S.lent) : RS K S ex Γ σ H ∧ ∀ p, Own Γ σ p → Own Γ (L2.wipe σ is) p := by
  have ne : ∀ {j : Nat} {es : Ct}, Γ[j]? = some (.own es) → j ∉ is := fun {j es} e z => by
    have := hu j z _ e
    cases this
  have sub : ∀ p, Own Γ σ p → Own Γ (L2.wipe σ is) p := fun p ⟨j, es, e1, e2⟩ => ⟨j, es, e1, by rw [wipe_other σ (ne e1)]; exact e2⟩
  have subE : ∀ p, Exc S Γ σ ex p → Exc S Γ (L2.wipe σ is) ex p := fun p z => z.elim (fun z => .inl (sub p z)) .inr
  refine ⟨{ r with slots := fun j a e => ?_, dist := fun j k es fs p e1 e2 e3 e4 => ?_, own := fun p o => r.own p (sub p o), pin := fun b o z => ⟨(r.pin b o z).1, fun y => (r.pin b o z).2.1 (sub b y), (r.pin b o z).2.2⟩, lent := fun j p e => ?_, nex := fun p o => r.nex p (sub p o), nfo := fun p o => r.nfo p (sub p o), len := by rw [← L2.wipe_length σ is]; exact r.len }, sub⟩
  · by_cases hj : j ∈ is
    · cases hu j hj a e
      trivial
    · rw [← wipe_other σ hj]
      exact (r.slots j a e).mono (fun b o e _ n => ⟨e, fun z => n (subE b z)⟩) fun _ _ _ _ _ e _ => e
  · rw [← wipe_other σ (ne e1)] at e3
    rw [← wipe_other σ (ne e2)] at e4
    exact r.dist j k es fs p e1 e2 e3 e4
  · obtain ⟨e1, e2⟩ := r.lent j p e
    have n : j ∉ is := fun z => hl j z p e
    rw [← wipe_other σ n]
    exact ⟨e1, e2⟩
end

/-- a clause's tests -/
def wTs (c : Core) [Tb c.K] {ι : Type} (v : ι → Var) (ifs : List Expr) : TT := fun σ H R => ∃ t : TT, (∀ i, PTs (mkX c (v i)) ifs t) ∧ t σ H R
def TsD (c : Core) [Tb c.K] {ι : Type} (v : ι → Var) (S : Ent) (ifs : List Expr) (Γ : List AV) (Q : Bool → List AV → Prop) : Prop := ∀ (σ : Sg) (H : Hp) (R : Bool → Hp → Prop), RS c.K S no Γ σ H →
  (∀ b H' Γ', Q b Γ' → RS c.K S no Γ' σ H' → Step Γ Γ' σ H H' → R b H') → wTs c v ifs σ H R
section
variable {c : Core} [Tb c.K] {ι : Type} {v : ι → Var} {S : Ent} {Γ : List AV} {Q : AV → List AV → Prop} {QB : Bool → List AV → Prop} {e elt tg iter : Expr} {ifs : List Expr} {pos : Pos}
theorem wTs.pts (i : ι) : PTs (mkX c (v i)) ifs (wTs c v ifs) := ⟨fun pins s σ H Q I ⟨_, h, q⟩ => (h i).run pins s σ H Q I q⟩
theorem ts_nil (q : QB true Γ) : TsD c v S [] Γ QB := fun σ H R r k => ⟨_, fun _ => pts_nil, k _ _ _ q r .refl⟩
theorem ts_one (h : TD c v S e Γ QB) : TsD c v S [e] Γ QB := fun σ H R r k => ⟨_, fun i => pts_one (wT.pt i), h σ H R r k⟩

abbrev Ent.lc (S : Ent) (g : AP) (f : Addr → HO → Prop) : Ent := { S with fo := fun b => S.fo b ∨ g b, pn := fun b o => S.pn b o ∨ f b o }
/-- one turn: acc made so far -/
def LcTurn (c : Core) [Tb c.K] {ι : Type} (v' : BI ι → Var) (S : Ent) (is : List Nat) (tg : Expr) (ifs : List Expr) (elt : Expr) (P : Nat → List Dt → List AV → Prop) (j : Nat) (d : Dt) (acc : List Dt) (Γ : List AV) : Prop :=
  ∃ W : List Nat, (∀ i ∈ W, i ∈ is) ∧ ∀ g f, GD c v' (S.lc g f) tg d W (wipeD Γ is) fun Γ1 => TsD c v' (S.lc g f) ifs Γ1 fun b Γ2 =>
    (b = true → ED c v' (S.lc g f) elt Γ2 fun a Γ3 => ∃ y, akD Γ3 (.d a) = some y ∧ P (j + 1) (acc ++ [y]) (wipeD Γ3 is)) ∧ (b = false → P (j + 1) acc (wipeD Γ2 is))
theorem wipe_get (σ : Sg) : ∀ (is : List Nat) (i : Nat), (L2.wipe σ is)[i]? = if i ∈ is then (if i < σ.length then some none else none) else σ[i]?
  | [], i => by simp [L2.wipe]
  | j :: is, i => by
    show ((L2.wipe σ is).set j none)[i]? = _
    by_cases e : j = i
    · subst e
      rw [if_pos List.mem_cons_self]
      by_cases hl : j < σ.length
      · rw [if_pos hl, List.getElem?_set_self (by rw [L2.wipe_length]; exact hl)]
      · rw [if_neg hl, List.getElem?_eq_none (by rw [List.length_set, L2.wipe_length]; omega)]
    · rw [List.getElem?_set_ne e, wipe_get σ is i]
      by_cases h : i ∈ is
      · rw [if_pos h, if_pos (List.mem_cons_of_mem _ h)]
      · rw [if_neg h, if_neg (fun z => (List.mem_cons.mp z).elim (fun z => e z.symm) h)]
theorem wipe_eq {σ σ' : Sg} {is : List Nat} (hl : σ'.length = σ.length) (h : ∀ i, i ∉ is → σ'[i]? = σ[i]?) : L2.wipe σ' is = L2.wipe σ is := by
  apply List.ext_getElem?
  intro i
  rw [wipe_get, wipe_get, hl]
  by_cases hi : i ∈ is
  · rw [if_pos hi, if_pos hi]
  · rw [if_neg hi, if_neg hi, h i hi]
theorem wipe_wipe (σ : Sg) (is : List Nat) : L2.wipe (L2.wipe σ is) is = L2.wipe σ is := by
  apply List.ext_getElem?
  intro i
  rw [wipe_get, wipe_get, L2.wipe_length]
  by_cases hi : i ∈ is
  · rw [if_pos hi, if_pos hi]
  · rw [if_neg hi, if_neg hi]
theorem wipeD_other (Γ : List AV) : ∀ {is : List Nat} {i : Nat}, i ∉ is → (wipeD Γ is)[i]? = Γ[i]?
  | [], _, _ => rfl
  | j :: is, i, h => by
    show ((wipeD Γ is).set j .un)[i]? = Γ[i]?
    rw [List.getElem?_set_ne (fun z => h (by rw [z]; exact List.mem_cons_self))]
    exact wipeD_other Γ fun z => h (List.mem_cons_of_mem _ z)
theorem wipeD_un (Γ : List AV) : ∀ {is : List Nat} {i : Nat}, i ∈ is → ∀ a, (wipeD Γ is)[i]? = some a → a = .un
  | j :: is, i, h, a, e => by
    rcases getSet (show ((wipeD Γ is).set j .un)[i]? = some a from e) with ⟨_, z, _⟩ | ⟨n, z⟩
    · exact z
    · exact wipeD_un Γ ((List.mem_cons.mp h).resolve_left fun z => n z.symm) a z
theorem own_wipe {σ : Sg} {is : List Nat} {p : Addr} (o : Own (wipeD Γ is) (L2.wipe σ is) p) : Own Γ σ p := by
  obtain ⟨j, es, e1, e2⟩ := o
  have n : j ∉ is := fun z => by cases wipeD_un Γ z _ e1
  rw [wipeD_other Γ n] at e1
  rw [wipe_other σ n] at e2
  exact ⟨j, es, e1, e2⟩
/-- [elt for tg in iter if ..] -/
theorem ed_lc {own : List (Str × Nat)} {scope : Scope} (hN : c.N.Nodup) (ok : ∀ i, BlkOk c.N (v i).env.scope scope own) (hs : NoFold v iter) (hl : ∀ i ∈ own.map (·.2), ∀ p, (i, p) ∉ S.lent)
    (h : SrcD c v S tg iter Γ fun ds Γ1 => ds.length ≤ 1000000 ∧ ∃ P : Nat → List Dt → List AV → Prop, P 0 [] (wipeD Γ1 (own.map (·.2))) ∧
      (∀ j d acc Γ2, ds[j]? = some d → P j acc Γ2 → LcTurn c (blkV c v scope) S (own.map (·.2)) tg ifs elt P j d acc Γ2) ∧ ∀ acc Γ2, P ds.length acc Γ2 → Q (.ow acc) (wipeD Γ2 (own.map (·.2)))) (still : c.calm = true := by rfl) :
    ED c v S (.ListComp elt [⟨tg, iter, ifs, 0⟩] scope pos) Γ Q := fun σ H R r kk => by
  refine ⟨_, fun k => pe_lc (X := mkX c (v k)) still hN (wI.pi k) (ok k) (fun s H C cl fp => (wG.pg (c := c) (v := blkV c v scope) (k, s, H, C, cl, fp) : PG (mkX c (blkV c v scope (k, s, H, C, cl, fp))) tg _))
    (fun s H C cl fp => (wTs.pts (c := c) (v := blkV c v scope) (k, s, H, C, cl, fp) : PTs (mkX c (blkV c v scope (k, s, H, C, cl, fp))) ifs _)) (fun s H C cl fp => (wE.pe (c := c) (v := blkV c v scope) (k, s, H, C, cl, fp) : PE (mkX c (blkV c v scope (k, s, H, C, cl, fp))) elt _)) (hs k), ?_⟩
  generalize own.map (·.2) = is at hl h ⊢
  refine h σ H _ r fun J H1 ds Γ1 ⟨hz, P, p0, step, done⟩ r1 s w => ?_
  intro D hD
  have nD := r1.new hD
  -- the invariant
  let F : Addr → HO → Prop := AllPin H1 Γ1 σ
  refine ⟨fun j m H' => m = ds.length - j ∧ j ≤ ds.length ∧ ∃ acc accV Γ', acc.length ≤ j ∧ P j acc Γ' ∧ (∀ i ∈ is, ∀ a, Γ'[i]? = some a → a = .un) ∧ H' D = some (.lst accV) ∧ RpL c.K H' (Exc (S.lc (· = D) F) Γ' (L2.wipe σ is) no) accV acc ∧
    RS c.K (S.lc (· = D) F) no Γ' (L2.wipe σ is) H' ∧ ∀ p, Own Γ' (L2.wipe σ is) p → Own Γ1 σ p, ⟨_, rfl, Nat.zero_le _, [], [], wipeD Γ1 is, Nat.le_refl _, p0, fun i hi => wipeD_un Γ1 hi, upd_same, .nil, ?_, fun p => own_wipe⟩, ?_⟩
  · have rw' := r1.wipe hl
    have rD := (rw'.alloc (o := .lst []) hD).ex_mono (ex' := (· = D)) fun _ z => .inr z
    have q := RS.to_fo rD fun p e => by
      subst e
      exact ⟨⟨_, upd_same, trivial⟩, fun z => r1.xtr _ z nD.2.2⟩
    exact q.dopin (fun b o ⟨z1, _, z2⟩ => ⟨by rw [upd_ne (ne_of_none z1 hD)]; exact z1, fun z => z2 (own_wipe z), id⟩) fun b o z => z.2.1
  · rintro j m H' ⟨rfl, hj, acc, accV, Γ', ha, pj, hu, hDl, hacc, r', ow⟩
    have fr : ∀ b o, H1 b = some o → NT o → ¬ Own Γ1 σ b → H' b = some o := fun b o e t n => (r'.pin b o (.inr ⟨e, t, n⟩)).1
    by_cases hlt : j < ds.length
    · -- a turn
      refine .inr ⟨w.go j H' fr hlt, fun H2 => ∃ acc accV Γ', acc.length ≤ j + 1 ∧ P (j + 1) acc Γ' ∧ (∀ i ∈ is, ∀ a, Γ'[i]? = some a → a = .un) ∧ H2 D = some (.lst accV) ∧ RpL c.K H2 (Exc (S.lc (· = D) F) Γ' (L2.wipe σ is) no) accV acc ∧
        RS c.K (S.lc (· = D) F) no Γ' (L2.wipe σ is) H2 ∧ ∀ p, Own Γ' (L2.wipe σ is) p → Own Γ1 σ p, fun H2 h2 => ⟨_, by omega, rfl, hlt, h2⟩, fun x H2 y => ?_⟩
      obtain ⟨d, ed, r2, hd, frY⟩ := w.item (S := S) (f := F) (fo' := fun b => S.fo b ∨ b = D) (fun _ _ z => z) (fun b z => z.elim .inl fun z => .inr (by rw [z]; exact hD)) r' hlt y
      obtain ⟨W, hW, step⟩ := step j d acc Γ' ed pj
      have hDl2 : H2 D = some (.lst accV) := frY _ _ hDl
      have hacc2 : RpL c.K H2 (Exc (S.lc (· = D) F) Γ' (L2.wipe σ is) no) accV acc := hacc.mono fun b o e _ n => ⟨frY b o e, n⟩
      -- the accumulated list is pinned for this turn
      let F2 : Addr → HO → Prop := fun b o => F b o ∨ (H2 b = some o ∧ NT o ∧ ¬ Own Γ' (L2.wipe σ is) b)
      have r2' : RS c.K (S.lc (· = D) F2) no Γ' (L2.wipe σ is) H2 :=
        { r2 with nts := ⟨r2.nts.1, fun b o z => z.elim (fun z => r2.nts.2 b o (.inl z)) fun z => z.elim (fun z => r2.nts.2 b o (.inr z)) fun z => z.2.1⟩, pin := fun b o z => z.elim (fun z => r2.pin b o (.inl z)) fun z => z.elim (fun z => r2.pin b o (.inr z)) fun z => ⟨z.1, z.2.2, id⟩ }
      have r2w : RS c.K (S.lc (· = D) F2) no (wipeD Γ' is) (L2.wipe σ is) H2 := by
        have := r2'.wipe hl
        rw [wipe_wipe] at this
        exact this
      have ow2 : ∀ p, Own (wipeD Γ' is) (L2.wipe σ is) p → Own Γ' (L2.wipe σ is) p := fun p z => by
        rw [← wipe_wipe σ is] at z
        exact own_wipe z
      have hd2 : Rp c.K H2 (Exc (S.lc (· = D) F2) (wipeD Γ' is) (L2.wipe σ is) no) x d := Rp.sub (fun b z => z.elim (fun z => .inl (ow2 b z)) .inr) hd
      refine step (· = D) F2 _ H2 x _ r2w hd2 fun σ3 Γ3 q3 r3 o3 w3 => ?_
      have ew : L2.wipe σ3 is = L2.wipe σ is := by
        rw [wipe_eq (σ := L2.wipe σ is) (by rw [r3.len, r2w.len]) fun i hi => w3 i fun z => hi (hW i z)]
        exact wipe_wipe σ is
      refine ⟨ew, ?_⟩
      have nOwnD : ∀ {Γx : List AV} {σx : Sg} {Hx : Hp}, RS c.K (S.lc (· = D) F2) no Γx σx Hx → ¬ Own Γx σx D := fun rx z => rx.nfo D z (.inr rfl)
      -- the end of a turn, from its last state
      have back : ∀ {Γx : List AV} {Hx : Hp}, RS c.K (S.lc (· = D) F2) no Γx σ3 Hx → (∀ p, Own Γx σ3 p → Own Γ3 σ3 p) → RS c.K (S.lc (· = D) F) no (wipeD Γx is) (L2.wipe σ is) Hx ∧ (∀ p, Own (wipeD Γx is) (L2.wipe σ is) p → Own Γ1 σ p) ∧ Hx D = some (.lst accV) ∧
          (∀ b o, H2 b = some o → NT o → ¬ Own Γ' (L2.wipe σ is) b → Hx b = some o) := fun {Γx Hx} rx ox => by
        have z := rx.wipe hl
        rw [ew] at z
        refine ⟨{ z with nts := ⟨z.nts.1, fun b o y => z.nts.2 b o (y.elim .inl fun y => .inr (.inl y))⟩, pin := fun b o y => z.pin b o (y.elim .inl fun y => .inr (.inl y)) }, fun p y => ?_, (rx.pin D _ (.inr (.inr ⟨hDl2, trivial, ?_⟩))).1, fun b o e t n => (rx.pin b o (.inr (.inr ⟨e, t, n⟩))).1⟩
        · rw [← ew] at y
          exact ow p (ow2 p (o3 p (ox p (own_wipe y))))
        · exact fun z => r2.nfo D z (.inr rfl)
      refine q3 σ3 H2 _ r3 fun b H4 Γ4 q4 r4 s4 => ?_
      cases b with
      | false =>
        refine iteF ?_
        obtain ⟨z1, z2, z3, z4⟩ := back r4 fun p y => s4.own p y
        refine ⟨acc, accV, wipeD Γ4 is, by omega, q4.2 rfl, fun i hi => wipeD_un Γ4 hi, z3, hacc2.mono fun b o e t n => ⟨z4 b o e t fun z => n (.inl z), fun z => n ?_⟩, z1, z2⟩
        rcases z with z | z
        · refine .inl (ow2 b (o3 b (s4.own b (own_wipe (is := is) ?_))))
          rw [ew]
          exact z
        · exact .inr z
      | true =>
        refine iteT ?_
        refine q4.1 rfl σ3 H4 _ r4 fun y5 H5 a Γ5 ⟨dy, ey, q5⟩ hr5 s5 _ => ?_
        have r5 := hr5.rs
        obtain ⟨z1, z2, z3, z4⟩ := back r5 fun p y => s4.own p (s5.own p y)
        have oo : ∀ b, Own (wipeD Γ5 is) (L2.wipe σ is) b → Own Γ5 σ3 b := fun b z => by
          rw [← ew] at z
          exact own_wipe z
        have ry : Rp c.K H5 (Exc (S.lc (· = D) F) (wipeD Γ5 is) (L2.wipe σ is) no) y5 dy := Rp.sub (fun b z => z.elim (fun z => .inl (oo b z)) .inr) (akD_of (k := .d a) (σ := σ3) ey hr5.rpa)
        have rac : RpL c.K H5 (Exc (S.lc (· = D) F) (wipeD Γ5 is) (L2.wipe σ is) no) accV acc := hacc2.mono fun b o e t n => ⟨z4 b o e t fun z => n (.inl z), fun z => n (z.elim (fun z => .inl (ow2 b (o3 b (s4.own b (s5.own b (oo b z)))))) .inr)⟩
        refine ⟨accV, z3, ?_, acc ++ [dy], accV ++ [y5], wipeD Γ5 is, by rw [List.length_append]; exact Nat.add_le_add ha (Nat.le_refl 1), q5, fun i hi => wipeD_un Γ5 hi, upd_same, (rac.append (.cons ry .nil)).write (.inr (.inl (.inr rfl))), ?_, z2⟩
        · rw [hacc2.len]
          have := line1 (n := acc.length + 1) (by omega)
          omega
        · -- the list has grown: nothing else leans on it
          have nD5 : ¬ Own (wipeD Γ5 is) (L2.wipe σ is) D := fun z => nOwnD r5 (oo D z)
          have up : ∀ b o, H5 b = some o → b ≠ D → (upd H5 D (.lst (accV ++ [y5]))) b = some o := fun b o e n => by rw [upd_ne n]; exact e
          exact { z1 with
            slots := fun i a e => (z1.slots i a e).mono (fun b o e _ n => ⟨up b o e fun z => n (.inr (.inl (.inr z))), n⟩) fun ds p xs ea es ep _ => up p _ ep fun z => nD5 ⟨i, ds, by rw [← ea]; exact e, by rw [← z]; exact es⟩
            fr := fun b o e n => up b o (z1.fr b o e n) fun z => by rw [z, nD.2.2] at e; cases e
            fo := fun b z => by
              refine ⟨?_, (z1.fo b z).2⟩
              by_cases e : b = D
              · rw [e, upd_same]
                exact ⟨_, rfl, trivial⟩
              · rw [upd_ne e]
                exact (z1.fo b z).1
            tabs := tabs_write z1.tabs z3 trivial
            pin := fun b o z => by
              have nb : b ≠ D := fun e => by
                rcases z with z | z
                · have := (r1.pin b o z).1
                  rw [e, hD] at this
                  cases this
                · have := z.1
                  rw [e, hD] at this
                  cases this
              exact ⟨up b o (z1.pin b o z).1 nb, (z1.pin b o z).2⟩ }
    · -- the end
      have e : j = ds.length := by omega
      subst e
      have z := r'.wipe hl
      rw [wipe_wipe] at z
      obtain ⟨z1, z2⟩ := RS.unwipe z (fun i hi => wipeD_un Γ' hi) hl
      have oo : ∀ p, Own (wipeD Γ' is) σ p → Own Γ' (L2.wipe σ is) p := fun p y => by
        have := z2 p y
        rw [← wipe_wipe σ is] at this
        exact own_wipe this
      have s' : Step Γ (wipeD Γ' is) σ H H' := ⟨fun b o e t n => fr b o (s.fr b o e t n) t fun z => n (s.own b z), fun p y => s.own p (ow p (oo p y))⟩
      refine .inl ⟨w.stop _ H' fr (Nat.le_refl _), kk _ _ _ _ (done acc Γ' pj) ⟨D, .lst accV, rfl, ?_, hDl, ⟨accV, rfl, hacc.sub fun b y => ?_⟩, fun y => nD.2.1 y, nD.2.2⟩ s' ?_⟩
      · exact RS.move_fo (S := S) (f := (· = D)) { z1 with nts := ⟨z1.nts.1, fun b o y => z1.nts.2 b o (.inl y)⟩, pin := fun b o y => z1.pin b o (.inl y) } fun b o y e => by
          have := (r1.pin b o y).1
          rw [e, hD] at this
          cases this
      · rcases y with y | y | y
        · exact .inl (oo b y)
        · exact .inr (.inl (.inl y))
        · exact .inr (.inl (.inr y))
      · exact New.back (H' := H1) (Γ' := Γ1) ⟨D, rfl, .inl fun o e => by rw [hD] at e; cases e⟩ s
end
end DL

namespace DL
open PySem PySem.Spec
open PyProof.Rows L2

/-! ### what a def promises over plain data: its arguments, what it gives, what becomes of the lists lent to it -/
abbrev DSp := List AV → (AV → List AV → Prop) → Prop
def lentOf (as : List AV) (vs : List V) : List (Nat × Addr) := (List.range as.length).filterMap fun (i : Nat) => match as[i]?, vs[i]? with
  | some (AV.own _), some (V.ref p) => some (i, p)
  | _, _ => none
theorem lent_mem {as : List AV} {vs : List V} {i : Nat} {p : Addr} : (i, p) ∈ lentOf as vs ↔ ∃ ds, as[i]? = some (.own ds) ∧ vs[i]? = some (.ref p) := by
  unfold lentOf
  rw [List.mem_filterMap]
  constructor
  · rintro ⟨j, hj, e⟩
    split at e
    · rename_i ds q e1 e2
      cases e
      exact ⟨ds, e1, e2⟩
    · cases e
  · rintro ⟨ds, e1, e2⟩
    refine ⟨i, List.mem_range.mpr (ltOf e1), ?_⟩
    rw [e1, e2]
theorem no_lent {as : List AV} {vs : List V} {i : Nat} (h : ∀ ds, as[i]? ≠ some (.own ds)) : ∀ p, (i, p) ∉ lentOf as vs := fun p z => by
  obtain ⟨ds, e, _⟩ := lent_mem.mp z
  exact h ds e
abbrev Ent.call (H : Hp) (as : List AV) (vs : List V) (fo : AP) (n : Nat) : Ent := { H := noTb H, lent := lentOf as vs, fo := fo, pn := fun _ _ => False, n := n }
def spD (K : PySem.W.Frag) [Tb K] (DS : DSp) : Sp := fun vs H Q E => ∃ (as : List AV) (fo : AP) (post : AV → List AV → Prop), DS as post ∧ RS K (Ent.call H as vs fo as.length) no as (vs.map some) H ∧
  ∀ x H' a as', post a as' → Res K (Ent.call H as vs fo as.length) as' (vs.map some) H' x a → Q x H'
theorem spD_len {K : PySem.W.Frag} [Tb K] {DS : DSp} {vs : List V} {H : Hp} {Q : VK} {E : XK} {n : Nat} (hn : ∀ as post, DS as post → as.length = n) (h : spD K DS vs H Q E) : vs.length = n := by
  obtain ⟨as, fo, post, h1, h2, _⟩ := h
  have := h2.len
  rw [List.length_map] at this
  exact this.trans (hn as post h1)
/-- a def that keeps a promise where no container is being written out (repr) -/
structure FnG (P : Program) (w : World) (K : PySem.W.Frag) (mg : Str → Option Value) (base : Heap) (k : Nat) (f : Addr) (fd : FuncData) (ps : List Str) (sp : Sp) : Prop where
  len : ∀ as G Q E, sp as G Q E → as.length = ps.length
  run : ∀ (A : Around) (outer : List Env) (s : Shared) (H : Hp) (args : Args) (us : List Value) (vs : List V) (Q : VK), Room k A → A.guards = some [] → Env0 P w K mg base A outer s H → BindsTo s fd args (ps.zip us) → Vals vs us → sp vs H Q E0 →
    codeAny (model P w) A (.call (.ref f) args) (CR CX0 outer P w H s Q E0) s
theorem FnG.mono {P : Program} {w : World} {K : PySem.W.Frag} [Tb K] {mg : Str → Option Value} {base : Heap} {j k : Nat} {f : Addr} {fd : FuncData} {ps : List Str} {sp : Sp} (F : FnG P w K mg base j f fd ps sp) (h : j ≤ k) : FnG P w K mg base k f fd ps sp :=
  ⟨F.len, fun A outer s H args us vs Q hr => F.run A outer s H args us vs Q (hr.mono h)⟩

section
variable {X : Cx} {k : Nat} {f : Addr} {fd : FuncData} {ps ks : List Str} {sp : Sp} {ds : List Value} {x : Str} {p pos : Pos} {e : Expr} {es : List Expr} {t tk : TA}
theorem runG {pins : List (Addr × Obj)} {σ : Sg} {H : Hp} {s : Shared} {Q : VK} {args : Args} {us : List Value} {vs : List V} (F : FnG X.prog X.w X.K X.mg X.base k f fd ps sp) (hr : Room k X.A) (hgu : X.A.guards = some [])
    (hb : BindsTo s fd args (ps.zip us)) (I : Inv X pins σ H s) (r : Vals vs us) (h : sp vs H Q E0) : codeAny (model X.prog X.w) X.A (.call (.ref f) args) (fun r s' => match r with
      | .ok (.ret u) => EP X pins σ Q u s'
      | _ => False) s := by
  refine codeAny_mono (F.run X.A X.stack s H args us vs Q hr hgu I.env0 hb r h) fun r s' hq => ?_
  cases r with
  | error _ => exact False.elim hq
  | ok fl =>
    cases fl with
    | ret u => exact I.after hq
    | next => exact False.elim hq
    | brk => exact False.elim hq
    | cont => exact False.elim hq
/-- f(e, ..), every parameter given -/
theorem pe_callG (F : FnG X.prog X.w X.K X.mg X.base k f fd ps sp) (hr : Room k X.A) (hgu : X.A.guards = some []) (hg : Gl X x) (hm : X.mg x = some (.ref f)) (hk : PySem.W.keepIn X.K (.ref f) = true) (hb : Binds X.K fd ps [])
    (ha : PA X (e :: es) t) (hdb : (x == ("__debug__" : Str)) = false) (he : starEach (e :: es) X.env = (false, eval e X.env) :: starEach es X.env) (hpl : (backTo pos (starEach es X.env)).any (·.1) = false) :
    PE X (.Call (.Name x p) (e :: es) [] pos) (fun σ H Q => t σ H fun vs H1 => sp vs H1 Q E0) := by
  refine (⟨fun pins s σ H Q I h => ?_⟩)
  refine wpAny_Call_Name_kw (ld_glob I hg hm ?_ hdb); refine PySem.W.callWith_K (h₀ := X.base) I.ok.mod.kin hk (thn (ha.run pos pins s σ H _ I h) fun us s1 ⟨vs, H1, I1, r, q⟩ => ⟨I1.kIn, ?_⟩) he hpl
  have hl : (us ++ ([] : List Value)).length = ps.length := by rw [List.append_nil, ← r.length]; exact F.len _ _ _ _ q
  have hb' := hb s1 us I1.kIn hl
  rw [List.append_nil] at hb'
  refine wpAny_call (codeAny_mono (runG F hr hgu hb' I1 r q) fun r s' hq => ?_)
  cases r with
  | error _ => exact False.elim hq
  | ok fl =>
    cases fl with
    | ret u => exact hq
    | next => exact False.elim hq
    | brk => exact False.elim hq
    | cont => exact False.elim hq
/-- a call with keywords alone, named in the parameters' order or not, fills the parameters with the keywords' values -/
def KwB (K : PySem.W.Frag) (fd : FuncData) (ps ks : List Str) : Prop := ∀ (s : Shared) (given : List Value), K.In s.heap → given.length = ps.length → BindsTo s fd ⟨[], ks.zip given⟩ (ps.zip given)
theorem KwB.mk {K : PySem.W.Frag} [Tb K] {qual x : Str} {st : Stmt} (F : Fun K x qual st f fd) {ks : List Str} (h : ∀ (kV doc pm : Value) (an : Option Addr) (cdv ct : Value) (given : List Value), given.length = ps.length → bindArgs (PySem.W.fnOf x qual (defArgs st) (defBody st) (defScope st) .none kV doc pm an cdv ct) ⟨[], ks.zip given⟩ = pure (ps.zip given)) : KwB K fd ps ks := by
  obtain ⟨_, _, kV, doc, pm, an, cdv, ct, _, rfl, _, _⟩ := F.ex
  exact fun s given _ e => BindsTo.of_eq (h kV doc pm an cdv ct given e)
/-- f(k = v, ..): keywords alone -/
theorem pe_callGK {kws : List Keyword} {ks : List Str} (F : FnG X.prog X.w X.K X.mg X.base k f fd ps sp) (hr : Room k X.A) (hgu : X.A.guards = some []) (hg : Gl X x) (hm : X.mg x = some (.ref f)) (hk : PySem.W.keepIn X.K (.ref f) = true)
    (kwb : KwB X.K fd ps ks) (vals : PK X kws tk) (named : (backToKw pos (keywordEach kws X.env)).all (·.1.isSome) = true) (these : (backToKw pos (keywordEach kws X.env)).filterMap (·.1) = ks) (nodbg : (x == ("__debug__" : Str)) = false)
    (nostar : ((backTo pos (starEach [] X.env)).any (·.1) || (backToKw pos (keywordEach kws X.env)).any (·.1.isNone)) = false) :
    PE X (.Call (.Name x p) [] kws pos) (fun σ H Q => tk σ H fun zs H1 => sp zs H1 Q E0) := by
  refine (⟨fun pins s σ H Q I h => ?_⟩)
  refine wpAny_Call_Name_kw (ld_glob I hg hm ?_ nodbg)
  refine PySem.W.callWith_KW0 (h₀ := X.base) I.ok.mod.kin hk named (thn (vals.run pos pins s σ H _ I h) fun ws s1 ⟨zs, H1, I1, rz, q⟩ => ⟨I1.kIn, ?_⟩) nostar
  rw [these]
  have many : ws.length = ps.length := rz.length ▸ F.len _ _ _ _ q
  refine wpAny_call (codeAny_mono (runG F hr hgu (kwb s1 ws I1.kIn many) I1 rz q) fun res s' done => ?_)
  match res, done with
  | .ok (.ret _), done => exact done
  | .ok .next, done => exact done.elim
  | .ok .brk, done => exact done.elim
  | .ok .cont, done => exact done.elim
  | .error _, done => exact done.elim
end

/-! ### a call over plain data -/
def AV.fz : AV → AV
  | .un => .un
  | .dt d => .dt d
  | .own (.l ds) => .dt (.lst ds)
  | .own _ => .un
def argA (Γ : List AV) : AK → Option AV
  | .d a => some a.fz
  | .ln i => match Γ[i]? with
    | some (.own ds) => some (.own ds)
    | _ => none
def argsA (Γ : List AV) (as : List AK) : Option (List AV) := as.mapM (argA Γ)
def backA (Γ : List AV) : List AK → List AV → List AV
  | .ln m :: as, a :: vs => (backA Γ as vs).set m a
  | _ :: as, _ :: vs => backA Γ as vs
  | _, _ => Γ
/-- no slot is lent twice -/
def lnsOk : List AK → Bool
  | [] => true
  | .ln m :: as => as.all (fun | .ln j => decide (j ≠ m) | _ => true) && lnsOk as
  | _ :: as => lnsOk as
theorem argsA_get {Γ : List AV} : ∀ {as : List AK} {avs : List AV} {i : Nat} {a : AV}, argsA Γ as = some avs → avs[i]? = some a → ∃ k, as[i]? = some k ∧ argA Γ k = some a
  | [], _, i, a, e, h => by cases e; simp at h
  | k :: as, avs, i, a, e, h => by
    unfold argsA at e
    rw [List.mapM_cons] at e
    cases h1 : argA Γ k with
    | none => rw [h1] at e; cases e
    | some b =>
      rw [h1] at e
      cases h2 : as.mapM (argA Γ) with
      | none => rw [h2] at e; cases e
      | some bs =>
        rw [h2] at e
        cases e
        cases i with
        | zero => cases h; exact ⟨k, rfl, h1⟩
        | succ i => exact argsA_get (as := as) h2 (by simpa using h)
theorem argsA_len {Γ : List AV} : ∀ {as : List AK} {avs : List AV}, argsA Γ as = some avs → avs.length = as.length
  | [], _, e => by cases e; rfl
  | k :: as, avs, e => by
    unfold argsA at e
    rw [List.mapM_cons] at e
    cases h1 : argA Γ k with
    | none => rw [h1] at e; cases e
    | some b =>
      rw [h1] at e
      cases h2 : as.mapM (argA Γ) with
      | none => rw [h2] at e; cases e
      | some bs =>
        rw [h2] at e
        cases e
        exact congrArg (· + 1) (argsA_len (as := as) h2)
theorem RpKL.get {K : PySem.W.Frag} {H : Hp} {ex : AP} {σ : Sg} : ∀ {xs : List V} {as : List AK} {i : Nat} {k : AK}, RpKL K H ex σ xs as → as[i]? = some k → ∃ x, xs[i]? = some x ∧ RpK K H ex σ x k
  | x :: xs, a :: as, 0, k, q, e => by
    cases e
    exact ⟨x, rfl, q.1⟩
  | x :: xs, a :: as, i + 1, k, q, e => by
    obtain ⟨y, h1, h2⟩ := RpKL.get (i := i) q.2 (by simpa using e)
    exact ⟨y, by simpa using h1, h2⟩
  | [], [], _, _, _, e => by simp at e
  | [], _ :: _, _, _, q, _ => q.elim
  | _ :: _, [], _, _, q, _ => q.elim
theorem RpKL.len {K : PySem.W.Frag} {H : Hp} {ex : AP} {σ : Sg} : ∀ {xs : List V} {as : List AK}, RpKL K H ex σ xs as → xs.length = as.length
  | [], [], _ => rfl
  | _ :: _, _ :: _, q => congrArg (· + 1) (RpKL.len q.2)
  | [], _ :: _, q => q.elim
  | _ :: _, [], q => q.elim
theorem lns_inj : ∀ {as : List AK} {i j m : Nat}, lnsOk as = true → as[i]? = some (AK.ln m) → as[j]? = some (AK.ln m) → i = j
  | k :: as, 0, 0, _, _, _, _ => rfl
  | k :: as, 0, j + 1, m, h, e1, e2 => by
    cases e1
    have h' := (Bool.and_eq_true_iff.mp h).1
    have := List.all_eq_true.mp h' (.ln m) (List.mem_of_getElem? (by simpa using e2))
    simp at this
  | k :: as, i + 1, 0, m, h, e1, e2 => by
    cases e2
    have h' := (Bool.and_eq_true_iff.mp h).1
    have := List.all_eq_true.mp h' (.ln m) (List.mem_of_getElem? (by simpa using e1))
    simp at this
  | k :: as, i + 1, j + 1, m, h, e1, e2 => by
    have h' : lnsOk as = true := by
      cases k with
      | d a => exact h
      | ln m => exact (Bool.and_eq_true_iff.mp h).2
    rw [lns_inj (i := i) (j := j) h' (by simpa using e1) (by simpa using e2)]
theorem backA_len (Γ : List AV) : ∀ (as : List AK) (vs : List AV), (backA Γ as vs).length = Γ.length
  | [], _ => by cases ‹List AV› <;> rfl
  | .ln m :: as, [] => rfl
  | .d a :: as, [] => rfl
  | .ln m :: as, b :: vs => by
    show ((backA Γ as vs).set m b).length = _
    rw [List.length_set]
    exact backA_len Γ as vs
  | .d a :: as, b :: vs => backA_len Γ as vs
theorem backA_get {Γ : List AV} {m : Nat} {b : AV} : ∀ {as : List AK} {vs : List AV}, vs.length = as.length → (backA Γ as vs)[m]? = some b → (∃ i : Nat, as[i]? = some (AK.ln m) ∧ vs[i]? = some b) ∨ ((∀ i : Nat, as[i]? ≠ some (AK.ln m)) ∧ Γ[m]? = some b)
  | [], [], _, e => .inr ⟨fun i z => by simp at z, e⟩
  | .ln j :: as, a :: vs, h, e => by
    rcases getSet (show ((backA Γ as vs).set j a)[m]? = some b from e) with ⟨rfl, rfl, _⟩ | ⟨n, e⟩
    · exact .inl ⟨0, rfl, rfl⟩
    · rcases backA_get (as := as) (vs := vs) (by simpa using h) e with ⟨i, h1, h2⟩ | ⟨h1, h2⟩
      · exact .inl ⟨i + 1, by simpa using h1, by simpa using h2⟩
      · refine .inr ⟨fun i z => ?_, h2⟩
        cases i with
        | zero =>
          have z' : AK.ln j = .ln m := Option.some.inj z
          cases z'
          exact n rfl
        | succ i => exact h1 i (by simpa using z)
  | .d c :: as, a :: vs, h, e => by
    rcases backA_get (as := as) (vs := vs) (by simpa using h) (show (backA Γ as vs)[m]? = some b from e) with ⟨i, h1, h2⟩ | ⟨h1, h2⟩
    · exact .inl ⟨i + 1, by simpa using h1, by simpa using h2⟩
    · refine .inr ⟨fun i z => ?_, h2⟩
      cases i with
      | zero =>
        have z' : AK.d c = .ln m := Option.some.inj z
        cases z'
      | succ i => exact h1 i (by simpa using z)
  | [], _ :: _, z, _ => by cases z
  | _ :: _, [], z, _ => by cases z
theorem backA_at {Γ : List AV} {m i : Nat} : ∀ {as : List AK} {vs : List AV}, vs.length = as.length → lnsOk as = true → m < Γ.length → as[i]? = some (AK.ln m) → (backA Γ as vs)[m]? = vs[i]? := fun {as vs} hl ho hm e => by
  have : m < (backA Γ as vs).length := by rw [backA_len]; exact hm
  obtain ⟨b, hb⟩ : ∃ b, (backA Γ as vs)[m]? = some b := ⟨_, List.getElem?_eq_getElem this⟩
  rcases backA_get hl hb with ⟨j, h1, h2⟩ | ⟨h1, _⟩
  · rw [lns_inj ho e h1, hb, h2]
  · exact absurd e (h1 i)
end DL

namespace DL
open PySem PySem.Spec
open PyProof.Rows L2

section
variable {K : PySem.W.Frag} [Tb K] {S : Ent} {Γ : List AV} {σ : Sg} {H H' : Hp} {xs : List V} {as : List AK} {avs avs' : List AV} {x : V} {a : AV}
/-- foreign for the callee: the caller's lists but those that are lent -/
def Fo (S : Ent) (Γ : List AV) (σ : Sg) (avs : List AV) (xs : List V) : AP := fun b => (Own Γ σ b ∨ S.fo b) ∧ ¬ ∃ i, (i, b) ∈ lentOf avs xs
theorem lent_own (r : RS K S no Γ σ H) (q : RpKL K H (Exc S Γ σ no) σ xs as) (ea : argsA Γ as = some avs) {i : Nat} {p : Addr} (h : (i, p) ∈ lentOf avs xs) : ∃ m ds, as[i]? = some (.ln m) ∧ Γ[m]? = some (.own ds) ∧ avs[i]? = some (.own ds) ∧ σ[m]? = some (some (.ref p)) ∧ xs[i]? = some (.ref p) := by
  obtain ⟨ds, e1, e2⟩ := lent_mem.mp h
  obtain ⟨k, ek, ea'⟩ := argsA_get ea e1
  cases k with
  | d b =>
    exfalso
    rcases b with (_ | _ | _ | _ | _) <;> cases ea'
  | ln m =>
    obtain ⟨y, ey, hy⟩ := q.get ek
    rw [e2] at ey
    cases ey
    have ea' : (match Γ[m]? with | some (AV.own ds) => some (AV.own ds) | _ => none) = some (AV.own ds) := ea'
    split at ea'
    · rename_i g
      cases ea'
      exact ⟨m, ds, ek, g, e1, hy, e2⟩
    · cases ea'
theorem call_in (r : RS K S no Γ σ H) (q : RpKL K H (Exc S Γ σ no) σ xs as) (ea : argsA Γ as = some avs) (ho : lnsOk as = true) : RS K (Ent.call H avs xs (Fo S Γ σ avs xs) avs.length) no avs (xs.map some) H := by
  have hl : xs.length = avs.length := by rw [q.len, argsA_len ea]
  have own : ∀ p, Own avs (xs.map some) p → ∃ i m ds, avs[i]? = some (.own ds) ∧ xs[i]? = some (.ref p) ∧ as[i]? = some (.ln m) ∧ Γ[m]? = some (.own ds) ∧ σ[m]? = some (some (.ref p)) ∧ (i, p) ∈ lentOf avs xs := fun p ⟨i, ds, e1, e2⟩ => by
    rw [List.getElem?_map] at e2
    cases h : xs[i]? with
    | none => rw [h] at e2; cases e2
    | some y =>
      rw [h] at e2
      cases e2
      have m := lent_mem.mpr ⟨ds, e1, h⟩
      obtain ⟨m', ds', h1, h2, h3, h4, h5⟩ := lent_own r q ea m
      rw [e1] at h3
      cases h3
      exact ⟨i, m', ds, e1, h, h1, h2, h4, m⟩
  have ownΓ : ∀ p, Own avs (xs.map some) p → Own Γ σ p := fun p z => by
    obtain ⟨i, m, ds, _, _, _, g, e, _⟩ := own p z
    exact ⟨m, ds, g, e⟩
  have sub : ∀ p, Exc (Ent.call H avs xs (Fo S Γ σ avs xs) avs.length) avs (xs.map some) no p → Exc S Γ σ no p := fun p z => by
    rcases z with z | z | z
    · exact .inl (ownΓ p z)
    · exact z.1.elim .inl fun z => .inr (.inl z)
    · exact z.elim
  have lx : ∀ p, (Ent.call H avs xs (Fo S Γ σ avs xs) avs.length).x p → Own Γ σ p := fun p ⟨i, h⟩ => by
    obtain ⟨m, ds, _, g, _, e, _⟩ := lent_own r q ea h
    exact ⟨m, ds, g, e⟩
  refine ⟨fun i b e => ?_, fun i j ds es p e1 e2 e3 e4 => ?_, fun _ _ e _ => (noTb_some e).1, fun p z => ?_, fun i p h => ?_, fun _ _ z => z, fun p z w => ?_, fun p z => ⟨?_, fun ⟨i, h⟩ => z.2 ⟨i, h⟩⟩, fun p z => ?_, fun _ _ z => z.elim, ⟨fun _ _ e => (noTb_some e).2, fun _ _ z => z.elim⟩, r.tabs, by rw [List.length_map]; exact hl, rfl⟩
  · obtain ⟨k, ek, eb⟩ := argsA_get ea e
    obtain ⟨y, ey, hy⟩ := q.get ek
    rw [List.getElem?_map, ey]
    cases k with
    | d c =>
      cases c with
      | un => cases eb; trivial
      | dt d => cases eb; exact ⟨y, rfl, Rp.sub sub hy⟩
      | own ct =>
        cases ct with
        | l ds => cases eb; exact ⟨y, rfl, Rp.sub sub hy⟩
        | dk _ => cases eb; trivial
        | dt _ => cases eb; trivial
    | ln m =>
      have eb : (match Γ[m]? with | some (AV.own ds) => some (AV.own ds) | _ => none) = some b := eb
      split at eb
      · rename_i es g
        cases eb
        obtain ⟨p, ys, e1, e2, w⟩ := r.slots m _ g
        have hy : σ[m]? = some (some y) := hy
        rw [hy] at e1
        cases e1
        exact ⟨p, ys, rfl, e2, w.sub sub⟩
      · cases eb
  · obtain ⟨_, _, _, _, _, _, _, _, h1⟩ := own p ⟨i, ds, e1, e3⟩
    obtain ⟨ki, eki, eai⟩ := argsA_get ea e1
    obtain ⟨kj, ekj, eaj⟩ := argsA_get ea e2
    have at1 : ∀ {i : Nat} {ds : Ct}, avs[i]? = some (.own ds) → (xs.map some)[i]? = some (some (.ref p)) → ∃ m es, as[i]? = some (.ln m) ∧ Γ[m]? = some (.own es) ∧ σ[m]? = some (some (.ref p)) := fun {i ds} e1 e2 => by
      rw [List.getElem?_map] at e2
      cases h : xs[i]? with
      | none => rw [h] at e2; cases e2
      | some y =>
        rw [h] at e2
        cases e2
        obtain ⟨m', ds', h1, h2, _, h4, _⟩ := lent_own r q ea (lent_mem.mpr ⟨ds, e1, h⟩)
        exact ⟨m', ds', h1, h2, h4⟩
    obtain ⟨m1, f1, a1, g1, s1⟩ := at1 e1 e3
    obtain ⟨m2, f2, a2, g2, s2⟩ := at1 e2 e4
    have := r.dist m1 m2 f1 f2 p g1 g2 s1 s2
    subst this
    exact lns_inj ho a1 a2
  · obtain ⟨i, _, _, _, _, _, _, _, h⟩ := own p z
    exact .inl ⟨i, h⟩
  · obtain ⟨m, ds, _, _, h3, _, h5⟩ := lent_own r q ea h
    exact ⟨by rw [List.getElem?_map, h5]; rfl, .inl ⟨ds, h3⟩⟩
  · obtain ⟨i, _, _, _, _, _, _, _, h⟩ := own p z
    exact w.2 ⟨i, h⟩
  · rcases z.1 with z | z
    · obtain ⟨ys, e, mt⟩ := r.own_tr z
      exact ⟨ys, e, mt.nt⟩
    · exact (r.fo p z).1
  · obtain ⟨ys, e, mt⟩ := r.own_tr (lx p z)
    show noTb H p ≠ none
    rw [noTb_of e mt.nt]
    exact fun z => nomatch z
theorem call_out (r : RS K S no Γ σ H) (q : RpKL K H (Exc S Γ σ no) σ xs as) (ea : argsA Γ as = some avs) (ho : lnsOk as = true) (hr : Res K (Ent.call H avs xs (Fo S Γ σ avs xs) avs.length) avs' (xs.map some) H' x a) :
    Res K S (backA Γ as avs') σ H' x a ∧ Step Γ (backA Γ as avs') σ H H' ∧ New H Γ σ x a := by
  have r' := hr.rs
  have hl : xs.length = avs.length := by rw [q.len, argsA_len ea]
  have hl' : avs'.length = as.length := by rw [r'.lenΓ]; exact argsA_len ea
  have lentΓ : ∀ {i : Nat} {p : Addr}, (i, p) ∈ lentOf avs xs → Own Γ σ p := fun {i p} h => by
    obtain ⟨m, ds, _, g, _, e, _⟩ := lent_own r q ea h
    exact ⟨m, ds, g, e⟩
  have frame : ∀ b o, H b = some o → NT o → ¬ Own Γ σ b → H' b = some o := fun b o e t n => r'.fr b o (noTb_of e t) fun ⟨i, h⟩ => n (lentΓ h)
  -- an argument on loan
  have loan : ∀ {i m : Nat} {b : AV}, as[i]? = some (.ln m) → avs'[i]? = some b → ∃ p ds, σ[m]? = some (some (.ref p)) ∧ xs[i]? = some (.ref p) ∧ (i, p) ∈ lentOf avs xs ∧ Γ[m]? = some (.own ds) ∧ avs[i]? = some (.own ds) := fun {i m b} e1 e2 => by
    have hi : i < avs.length := by rw [argsA_len ea]; exact ltOf e1
    obtain ⟨k, ek, eb⟩ := argsA_get ea (List.getElem?_eq_getElem hi)
    rw [e1] at ek
    cases ek
    have eb : (match Γ[m]? with | some (AV.own ds) => some (AV.own ds) | _ => none) = some avs[i] := eb
    split at eb
    · rename_i es g
      obtain ⟨y, ey, hy⟩ := q.get e1
      obtain ⟨p, ys, s1, s2, w⟩ := r.slots m _ g
      have hy : σ[m]? = some (some y) := hy
      rw [hy] at s1
      cases s1
      have ea' : avs[i]? = some (.own es) := by rw [List.getElem?_eq_getElem hi, ← eb]
      exact ⟨p, es, hy, ey, lent_mem.mpr ⟨es, ea', ey⟩, g, ea'⟩
    · cases eb
  have own' : ∀ p, Own (backA Γ as avs') σ p → (Own avs' (xs.map some) p ∧ Own Γ σ p) ∨ (Own Γ σ p ∧ ¬ ∃ i, (i, p) ∈ lentOf avs xs) := fun p ⟨m, es, e1, e2⟩ => by
    rcases backA_get hl' e1 with ⟨i, h1, h2⟩ | ⟨h1, h2⟩
    · obtain ⟨p', ds, s1, s2, s3, g, _⟩ := loan h1 h2
      rw [e2] at s1
      cases s1
      exact .inl ⟨⟨i, es, h2, by rw [List.getElem?_map, s2]; rfl⟩, m, ds, g, e2⟩
    · refine .inr ⟨⟨m, es, h2, e2⟩, fun ⟨i, h⟩ => ?_⟩
      obtain ⟨m', ds, a1, g, _, s1, _⟩ := lent_own r q ea h
      have := r.dist m m' es ds p h2 g e2 s1
      subst this
      exact h1 i a1
  have ownΓ : ∀ p, Own (backA Γ as avs') σ p → Own Γ σ p := fun p z => (own' p z).elim (·.2) (·.1)
  have lentC : ∀ {i : Nat} {p : Addr}, (i, p) ∈ lentOf avs xs → (Ent.call H avs xs (Fo S Γ σ avs xs) avs.length).x p := fun h => ⟨_, h⟩
  have foN : ∀ p, S.fo p → ¬ ∃ i, (i, p) ∈ lentOf avs xs := fun p z ⟨i, h⟩ => r.nfo p (lentΓ h) z
  have sub : ∀ {ex : AP} p, Exc S (backA Γ as avs') σ ex p → Exc (Ent.call H avs xs (Fo S Γ σ avs xs) avs.length) avs' (xs.map some) ex p := fun {ex} p z => by
    rcases z with z | z | z
    · rcases own' p z with z | z
      · exact .inl z.1
      · exact .inr (.inl ⟨.inl z.1, z.2⟩)
    · exact .inr (.inl ⟨.inr z, foN p z⟩)
    · exact .inr (.inr z)
  have subΓ : ∀ {ex : AP}, (∀ p, ex p → noTb H p = none) → ∀ b o, H b = some o → NT o → ¬ Exc S Γ σ no b → H' b = some o ∧ ¬ Exc S (backA Γ as avs') σ ex b := fun {ex} hex b o e t n => by
    refine ⟨frame b o e t fun z => n (.inl z), fun z => ?_⟩
    rcases z with z | z | z
    · exact n (.inl (ownΓ b z))
    · exact n (.inr (.inl z))
    · have e := noTb_of e t
      rw [hex b z] at e
      cases e
  have main : ∀ ex : AP, (∀ p, ex p → noTb H p = none) → RS K (Ent.call H avs xs (Fo S Γ σ avs xs) avs.length) ex avs' (xs.map some) H' → RS K S ex (backA Γ as avs') σ H' := fun ex hex rc => by
    refine ⟨fun m b e => ?_, fun m1 m2 ds es p e1 e2 e3 e4 => ?_, fun b o e n => ?_, fun p z => r.own p (ownΓ p z), fun i p h => ?_, fun p z w => ?_, fun p z => r.nfo p (ownΓ p z), fun p z => ⟨?_, (r.fo p z).2⟩, r.xtr, fun b o z => ?_, r.nts, rc.tabs, r.len, by rw [backA_len]; exact r.lenΓ⟩
    · rcases backA_get hl' e with ⟨i, h1, h2⟩ | ⟨h1, h2⟩
      · obtain ⟨p, ds, s1, s2, s3, g, _⟩ := loan h1 h2
        have z := rc.slots i b h2
        rw [List.getElem?_map, s2] at z
        rw [s1]
        exact z.mono (fun b o e _ n => ⟨e, fun z => n (sub b z)⟩) fun _ _ _ _ _ e _ => e
      · refine (r.slots m b h2).mono (subΓ hex) fun ds p ys eb ep e3 m3 => ?_
        subst eb
        refine rc.fr p _ (noTb_of e3 m3.nt) fun ⟨i, h⟩ => ?_
        obtain ⟨m', ds', a1, g, _, s1, _⟩ := lent_own r q ea h
        have := r.dist m m' ds ds' p h2 g ep s1
        subst this
        exact h1 i a1
    · rcases backA_get hl' e1 with ⟨i1, h1, h2⟩ | ⟨h1, h2⟩
      · obtain ⟨p1, d1, s1, s2, s3, g1, _⟩ := loan h1 h2
        rw [e3] at s1
        cases s1
        rcases backA_get hl' e2 with ⟨i2, k1, k2⟩ | ⟨k1, k2⟩
        · obtain ⟨p2, d2, t1, t2, t3, g2, _⟩ := loan k1 k2
          rw [e4] at t1
          cases t1
          exact r.dist m1 m2 d1 d2 p g1 g2 e3 e4
        · exact r.dist m1 m2 d1 es p g1 k2 e3 e4
      · rcases backA_get hl' e2 with ⟨i2, k1, k2⟩ | ⟨k1, k2⟩
        · obtain ⟨p2, d2, t1, t2, t3, g2, _⟩ := loan k1 k2
          exact r.dist m1 m2 ds d2 p h2 g2 e3 e4
        · exact r.dist m1 m2 ds es p h2 k2 e3 e4
    · have := r.fr b o e n
      refine rc.fr b o (noTb_of this (r.nts.1 b o e)) fun ⟨i, h⟩ => ?_
      rcases r.own b (lentΓ h) with z | z
      · exact n z
      · rw [z] at e
        cases e
    · obtain ⟨z1, z2⟩ := r.lent i p h
      refine ⟨z1, ?_⟩
      have hi : i < (backA Γ as avs').length := by
        rw [backA_len]
        exact z2.elim (fun z => ltOf z.choose_spec) fun z => ltOf z.choose_spec
      rcases backA_get hl' (List.getElem?_eq_getElem hi) with ⟨j, h1, h2⟩ | ⟨h1, h2⟩
      · obtain ⟨p1, d1, s1, s2, s3, g1, _⟩ := loan h1 h2
        rw [z1] at s1
        cases s1
        obtain ⟨_, w⟩ := rc.lent j p s3
        rw [List.getElem?_eq_getElem hi, ← h2]
        exact w
      · rw [List.getElem?_eq_getElem hi, ← h2]
        exact z2
    · obtain ⟨ys, e, mt⟩ := r.own_tr (ownΓ p z)
      have e := noTb_of e mt.nt
      rw [hex p w] at e
      cases e
    · obtain ⟨o, e, t⟩ := (r.fo p z).1
      exact ⟨o, rc.fr p o (noTb_of e t) fun ⟨i, h⟩ => foN p z ⟨i, h⟩, t⟩
    · obtain ⟨z1, z2, z3⟩ := r.pin b o z
      have z4 := noTb_of z1 (r.nts.2 b o z)
      refine ⟨rc.fr b o z4 fun ⟨i, h⟩ => z2 (lentΓ h), fun y => z2 (ownΓ b y), fun y => ?_⟩
      rw [hex b y] at z4
      cases z4
  refine ⟨?_, ⟨frame, ownΓ⟩, ?_⟩
  · cases a with
    | un => exact main no (fun _ z => z.elim) hr
    | dt d => exact ⟨main no (fun _ z => z.elim) hr.1, Rp.sub (fun b z => sub b z) hr.2⟩
    | own ds =>
      obtain ⟨p, ys, e, rc, e1, w, nf, n⟩ := hr
      have hn : noTb H p = none := n
      refine ⟨p, ys, e, main (· = p) (fun b z => by rw [z]; exact hn) rc, e1, w.sub fun b z => sub b z, (r.new' hn).1, (r.new' hn).2⟩
  · cases a with
    | own ds =>
      obtain ⟨p, ys, e, rc, e1, w, nf, n⟩ := hr
      have hn : noTb H p = none := n
      refine ⟨p, e, .inl fun o e t => ?_⟩
      have e := noTb_of e t
      rw [hn] at e
      cases e
    | _ => trivial
end

section
variable {c : Core} [Tb c.K] {ι : Type} {v : ι → Var} {S : Ent} {Γ : List AV} {Q : AV → List AV → Prop} {e : Expr} {es : List Expr} {kws : List Keyword} {pos p : Pos} {x : Str} {k : Nat} {f : Addr} {fd : FuncData} {ps : List Str} {DS : DSp}
/-- f(e, ..) -/
theorem ed_call (F : FnG c.prog c.w c.K c.mg c.base k f fd ps (spD c.K DS)) (hr : Room k c.A) (hgu : c.A.guards = some []) (hg : ∀ i, Gl (mkX c (v i)) x) (hm : c.mg x = some (.ref f)) (hk : PySem.W.keepIn c.K (.ref f) = true) (hb : Binds c.K fd ps [])
    (hdb : (x == ("__debug__" : Str)) = false) (he : NoStar v e es) (hpl : NoStarL v pos es)
    (h : EA c v S (e :: es) Γ fun as Γ1 => ∃ avs, argsA Γ1 as = some avs ∧ lnsOk as = true ∧ DS avs fun a avs' => avs'.length = avs.length → Q a (backA Γ1 as avs')) : ED c v S (.Call (.Name x p) (e :: es) [] pos) Γ Q := fun σ H R r kk => by
  refine ⟨_, fun i => (pe_callG (X := mkX c (v i)) F hr hgu (hg i) hm hk hb (wA.pa i) hdb (he i) (hpl i)), ?_⟩
  refine h σ H _ r fun xs H1 as Γ1 ⟨avs, ea, ho, hD⟩ r1 hx s => ?_
  refine ⟨avs, _, _, hD, call_in r1 hx ea ho, fun y H2 a as' q hres => ?_⟩
  obtain ⟨z1, z2, z3⟩ := call_out r1 hx ea ho hres
  exact kk _ _ _ _ (q hres.rs.lenΓ) z1 (s.trans z2) (z3.back s)
end

/-! ### a def's body -/
abbrev coreOf (P : Program) (w : World) (K : PySem.W.Frag) (mg : Str → Option Value) (base : Heap) (A : Around) (N : List Str) (stack : List Env) : Core := ⟨P, w, K, mg, base, A, N, stack, true⟩
abbrev varOf (s : Shared) (H : Hp) (env : Env) (outer : List Env) : Unit → Var := fun _ => ⟨s, H, env, outer, [], fun _ => true, [], fun _ _ => False⟩
/-- what is left of the arguments' lists -/
def outsA (as Γ : List AV) : List AV := (as.zip Γ).map fun z => match z.1 with
  | .own _ => z.2
  | _ => .un
/-- a def's first state, from the caller's -/
theorem entry_rs {K : PySem.W.Frag} [Tb K] {H : Hp} {as : List AV} {vs : List V} {fo : AP} {N ps : List Str} (rs : RS K (Ent.call H as vs fo as.length) no as (vs.map some) H) (la : as.length = ps.length) (ln : vs.length = ps.length) (hNl : ps.length ≤ N.length) :
    RS K (Ent.call H as vs fo N.length) no (as ++ List.replicate (N.length - as.length) .un) (start N vs) H := by
  have ge : ∀ {i : Nat} {b : AV}, (as ++ List.replicate (N.length - as.length) AV.un)[i]? = some b → as[i]? = some b ∨ b = .un := fun {i b} e => by
    by_cases hi : i < as.length
    · rw [List.getElem?_append_left hi] at e
      exact .inl e
    · rw [List.getElem?_append_right (by omega), List.getElem?_replicate] at e
      split at e
      · exact .inr (Option.some.inj e).symm
      · cases e
  have st0 : ∀ {i : Nat} {b : AV}, as[i]? = some b → (start N vs)[i]? = (vs.map some)[i]? := fun {i b} e => by
    have : i < (vs.map some).length := by rw [List.length_map, ln, ← la]; exact ltOf e
    unfold L2.start
    rw [List.getElem?_append_left this]
  have ow0 : ∀ q, Own (as ++ List.replicate (N.length - as.length) AV.un) (start N vs) q → Own as (vs.map some) q := fun q ⟨i, ds, e1, e2⟩ => by
    rcases ge e1 with z | z
    · exact ⟨i, ds, z, by rw [← st0 z]; exact e2⟩
    · cases z
  have sub0 : ∀ q, Exc (Ent.call H as vs fo N.length) (as ++ List.replicate (N.length - as.length) AV.un) (start N vs) no q → Exc (Ent.call H as vs fo as.length) as (vs.map some) no q := fun q z => z.elim (fun z => .inl (ow0 q z)) .inr
  refine ⟨fun i b e => ?_, fun i j ds es q e1 e2 e3 e4 => ?_, rs.fr, fun q z => rs.own q (ow0 q z), fun i q z => ?_, fun _ _ z => z, fun q z => rs.nfo q (ow0 q z), rs.fo, rs.xtr, fun _ _ z => z.elim, rs.nts, rs.tabs, ?_, ?_⟩
  · rcases ge e with z | z
    · rw [st0 z]
      exact (rs.slots i b z).mono (fun b o e _ n => ⟨e, fun z => n (sub0 b z)⟩) fun _ _ _ _ _ e _ => e
    · subst z
      trivial
  · rcases ge e1 with z1 | z1
    · rcases ge e2 with z2 | z2
      · rw [st0 z1] at e3
        rw [st0 z2] at e4
        exact rs.dist i j ds es q z1 z2 e3 e4
      · cases z2
    · cases z1
  · obtain ⟨z1, z2⟩ := rs.lent i q z
    have hi : i < as.length := z2.elim (fun z => ltOf z.choose_spec) fun z => ltOf z.choose_spec
    rw [List.getElem?_append_left hi]
    refine ⟨?_, z2⟩
    rcases z2 with ⟨_, z2⟩ | ⟨_, z2⟩ <;> (rw [st0 z2]; exact z1)
  · show (start N vs).length = N.length
    unfold L2.start
    rw [List.length_append, List.length_map, List.length_replicate]; omega
  · rw [List.length_append, List.length_replicate]
    show as.length + (N.length - as.length) = N.length
    omega
/-- a def's last state, for the caller -/
theorem outs_res {K : PySem.W.Frag} [Tb K] {H : Hp} {as : List AV} {vs : List V} {fo : AP} {n : Nat} (rs : RS K (Ent.call H as vs fo as.length) no as (vs.map some) H) (few : as.length ≤ n) {a : AV} {Γ : List AV} {σ' : Sg} {H' : Hp} {z : V} (hres : Res K (Ent.call H as vs fo n) Γ σ' H' z a) :
    Res K (Ent.call H as vs fo as.length) (outsA as Γ) (vs.map some) H' z a := by
  have r' := hres.rs
  have go : ∀ {i : Nat} {ds : Ct}, (outsA as Γ)[i]? = some (.own ds) → (∃ es, as[i]? = some (.own es)) ∧ Γ[i]? = some (.own ds) := fun {i ds} e => by
    unfold outsA at e
    rw [List.getElem?_map] at e
    cases h1 : (as.zip Γ)[i]? with
    | none => rw [h1] at e; cases e
    | some y =>
      rw [h1] at e
      rw [List.getElem?_zip_eq_some] at h1
      obtain ⟨y1, y2⟩ := y
      cases y1 with
      | own es =>
        cases (show y2 = AV.own ds from Option.some.inj e)
        exact ⟨⟨es, h1.1⟩, h1.2⟩
      | un => cases (Option.some.inj e)
      | dt d => cases (Option.some.inj e)
  have gd : ∀ {i : Nat} {b : AV}, (outsA as Γ)[i]? = some b → b = .un ∨ ((∃ es, as[i]? = some (.own es)) ∧ Γ[i]? = some b) := fun {i b} e => by
    unfold outsA at e
    rw [List.getElem?_map] at e
    cases h1 : (as.zip Γ)[i]? with
    | none => rw [h1] at e; cases e
    | some y =>
      rw [h1] at e
      rw [List.getElem?_zip_eq_some] at h1
      obtain ⟨y1, y2⟩ := y
      cases y1 with
      | own es =>
        cases (show y2 = b from Option.some.inj e)
        exact .inr ⟨⟨es, h1.1⟩, h1.2⟩
      | un => exact .inl (Option.some.inj e).symm
      | dt d => exact .inl (Option.some.inj e).symm
  -- a lent place is where it was
  have lentV : ∀ {i : Nat} {es : Ct}, as[i]? = some (.own es) → ∃ q, (vs.map some)[i]? = some (some (.ref q)) ∧ σ'[i]? = some (some (.ref q)) ∧ (i, q) ∈ lentOf as vs := fun {i es} e => by
    obtain ⟨q, ys, e1, _, _⟩ := rs.slots i _ e
    have ev : vs[i]? = some (.ref q) := by
      rw [List.getElem?_map] at e1
      cases h : vs[i]? with
      | none => rw [h] at e1; cases e1
      | some y => rw [h] at e1; cases e1; rfl
    have m := lent_mem.mpr ⟨es, e, ev⟩
    exact ⟨q, e1, (r'.lent i q m).1, m⟩
  have owo : ∀ q, Own (outsA as Γ) (vs.map some) q → Own Γ σ' q := fun q ⟨i, ds, e1, e2⟩ => by
    obtain ⟨⟨es, z1⟩, z2⟩ := go e1
    obtain ⟨q', y1, y2, _⟩ := lentV z1
    rw [e2] at y1
    cases y1
    exact ⟨i, ds, z2, y2⟩
  have subo : ∀ {ex : AP} q, Exc (Ent.call H as vs fo as.length) (outsA as Γ) (vs.map some) ex q → Exc (Ent.call H as vs fo n) Γ σ' ex q := fun {ex} q z => z.elim (fun z => .inl (owo q z)) .inr
  have rso : ∀ ex : AP, RS K (Ent.call H as vs fo n) ex Γ σ' H' → RS K (Ent.call H as vs fo as.length) ex (outsA as Γ) (vs.map some) H' := fun ex rc => by
    refine ⟨fun i b e => ?_, fun i j ds es q e1 e2 e3 e4 => ?_, rc.fr, fun q z => rc.own q (owo q z), fun i q z => ?_, fun q z => rc.nex q (owo q z), fun q z => rc.nfo q (owo q z), rc.fo, rc.xtr, fun _ _ z => z.elim, rc.nts, rc.tabs, rs.len, ?_⟩
    · rcases gd e with z | ⟨⟨es, z1⟩, z2⟩
      · subst z
        trivial
      · obtain ⟨q, y1, y2, _⟩ := lentV z1
        rw [y1, ← y2]
        exact (rc.slots i b z2).mono (fun b o e _ n => ⟨e, fun z => n (subo b z)⟩) fun _ _ _ _ _ e _ => e
    · obtain ⟨⟨_, z1⟩, z2⟩ := go e1
      obtain ⟨⟨_, w1⟩, w2⟩ := go e2
      obtain ⟨q1, y1, y2, _⟩ := lentV z1
      obtain ⟨q2, x1, x2, _⟩ := lentV w1
      rw [e3] at y1
      cases y1
      rw [e4] at x1
      cases x1
      exact rc.dist i j ds es q z2 w2 y2 x2
    · obtain ⟨z1, _⟩ := rs.lent i q z
      obtain ⟨_, z2⟩ := rc.lent i q z
      obtain ⟨es, z3, _⟩ := lent_mem.mp z
      refine ⟨z1, ?_⟩
      have : (outsA as Γ)[i]? = Γ[i]? := by
        unfold outsA
        rw [List.getElem?_map]
        have hz : ∃ y, Γ[i]? = some y := z2.elim (fun z => ⟨_, z.choose_spec⟩) fun z => ⟨_, z.choose_spec⟩
        obtain ⟨y, hy⟩ := hz
        have : (as.zip Γ)[i]? = some (AV.own es, y) := List.getElem?_zip_eq_some.mpr ⟨z3, hy⟩
        rw [this, hy]
        rfl
      rw [this]
      exact z2
    · unfold outsA
      rw [List.length_map, List.length_zip, rc.lenΓ]
      show min as.length n = as.length
      omega
  cases a with
  | un => exact rso _ hres
  | dt d => exact ⟨rso _ hres.1, Rp.sub (fun b z => subo b z) hres.2⟩
  | own ds =>
    obtain ⟨q, ys, e, rc, e1, w1, nf, n⟩ := hres
    exact ⟨q, ys, e, rso _ rc, e1, w1.sub fun b z => subo b z, nf, n⟩
theorem FnG.of {P : Program} {w : World} {K : PySem.W.Frag} [Tb K] {mg : Str → Option Value} {base : Heap} {x qual : Str} {st : Stmt} {f : Addr} {fd : FuncData} {N ps : List Str} {k : Nat} {DS : DSp} (F : Fun K x qual st f fd) (SC : FnScope N ps (defScope st)) (hn : ∀ as post, DS as post → as.length = ps.length)
    (hbody : ∀ (cdv : Value) (A : Around) (outer : List Env) (s : Shared) (H : Hp) (vs : List V) (fo : AP) (as : List AV) (post : AV → List AV → Prop), Room k (A.deeper (envOfC qual (defScope st) s.heap.objs.size f cdv)) → A.guards = some [] → DS as post →
      BD (coreOf P w K mg base (A.deeper (envOfC qual (defScope st) s.heap.objs.size f cdv)) N (envOfC qual (defScope st) s.heap.objs.size f cdv :: outer)) (varOf s H (envOfC qual (defScope st) s.heap.objs.size f cdv) outer) (Ent.call H as vs fo N.length) (defBody st)
        { nx := fun Γ => post (.dt .non) (outsA as Γ), rt := fun a Γ => post a (outsA as Γ) } (as ++ List.replicate (N.length - as.length) .un)) : FnG P w K mg base (k + 1) f fd ps (spD K DS) := by
  obtain ⟨oc, od, kV, doc, pm, an, cdv, ct, osl, rfl, lk, hcd⟩ := F.ex; refine ⟨fun vs H Q E h => spD_len hn h, fun A outer s H args us vs Q hr hgu e0 hb rv h => ?_⟩
  have ln : vs.length = ps.length := spD_len hn h
  have inK : K.In s.heap := e0.mod.kin.keeps (fun b o z => (e0.bs b o z).1)
  have nolim : s.heap.NoLimit := e0.mod.nolimit.keeps (fun b o z => (e0.bs b o z).1)
  have kinds : ∀ y ∈ ps.zip us, (defScope st).names.lookup y.1 = some .local ∨ ((defScope st).names.lookup y.1 = some .cell ∧ ((cellsFrom (s.heap.objs.size + 1) (defScope st).names []).lookup y.1).isSome = true) := by
    rintro ⟨n, u⟩ hy
    rcases SC.par n (List.of_mem_zip hy).1 with z | z
    · exact .inl z
    · exact .inr ⟨z, PySem.W.cellsFrom_some _ _ _ (.inl z)⟩
  refine codeAny_call_function hr.depth (inK _ _ lk) rfl SC.co SC.gen rfl (PySem.W.codeRec_of inK hcd) (hb _ _ _ _ (wpAny_newFunctionEnv_cells SC.kind kinds fun env henv s1 ic => ?_))
  subst henv
  refine ⟨nolim.keeps ic.toInCall.keep, codeAny_func ?_⟩
  -- the body
  obtain ⟨as, fo, post, hD, rs, hQ⟩ := h
  have la : as.length = ps.length := hn as post hD
  have hNl : ps.length ≤ N.length := by
    have := congrArg List.length SC.pre
    rw [List.length_take] at this
    omega
  have room : Room k (A.deeper (envOfC qual (defScope st) s.heap.objs.size f cdv)) := hr.deeper _
  have bd := hbody cdv A outer s H vs fo as post room hgu hD
  have I0 : Inv (cxOf CX0 P w K mg base N qual (defScope st) f cdv A outer s H E0) [] (start N vs) H s1 := inv_start SC hr.hd e0 ln rv ic
  have I1 : Inv (mkX (coreOf P w K mg base (A.deeper (envOfC qual (defScope st) s.heap.objs.size f cdv)) N (envOfC qual (defScope st) s.heap.objs.size f cdv :: outer)) (varOf s H (envOfC qual (defScope st) s.heap.objs.size f cdv) outer ())) [] (start N vs) H s1 := I0.wish _
  have rs0 := entry_rs rs la ln hNl
  have fin : ∀ (a : AV) (Γ : List AV) (σ' : Sg) (H' : Hp) (z : V), post a (outsA as Γ) → Res K (Ent.call H as vs fo N.length) Γ σ' H' z a → Q z H' := fun a Γ σ' H' z hp hres => hQ z H' a (outsA as Γ) hp (outs_res rs (by omega) hres)
  obtain ⟨t, ht, hq⟩ := bd { nx := fun _ H' => Q .non H', rt := Q } (start N vs) H ⟨fun Γ σ' H' hp hr => fin (.dt .non) Γ σ' H' .non hp ⟨hr, .non⟩, fun a Γ σ' H' z hp hr => fin a Γ σ' H' z hp hr, fun _ _ _ z => z.elim, fun _ _ _ z => z.elim⟩ rs0
  refine wpAny_mono ((ht ()).run [] s1 (start N vs) H _ I1 hq) (fun fl s' hs => ?_) fun e s' hs => hs.elim
  have done : ∀ {σ' : Sg} {H' : Hp} {z : V} {u : Value}, Inv (mkX (coreOf P w K mg base (A.deeper (envOfC qual (defScope st) s.heap.objs.size f cdv)) N (envOfC qual (defScope st) s.heap.objs.size f cdv :: outer)) (varOf s H (envOfC qual (defScope st) s.heap.objs.size f cdv) outer ())) [] σ' H' s' → RelV z u → Q z H' → CE outer P w H s Q u s' :=
    fun {σ' H' z u} J hrel hq => ⟨z, H', J.os, J.bare, J.base, J.hok, hrel, hq⟩
  cases fl with
  | ret u =>
    obtain ⟨z, σ', H', J, hrel, hq⟩ := hs
    exact done J hrel hq
  | next =>
    obtain ⟨σ', H', J, hq⟩ := hs
    exact done (z := V.non) (u := Value.none) J rfl hq
  | brk => obtain ⟨_, _, _, hq⟩ := hs; exact hq.elim
  | cont => obtain ⟨_, _, _, hq⟩ := hs; exact hq.elim
end DL

/-! exceptions: raised, let through by a call, caught -/
namespace DL
open PySem PySem.Spec
open PyProof.Rows L2
/-- what is wished of an exception: its class, and what the slots are then -/
abbrev XD := Value → List AV → Prop
def wX (K : PySem.W.Frag) [Tb K] (S : Ent) (X : XD) : WX := fun cls d σ H => d = none ∧ ∃ Γ, X cls Γ ∧ RS K S no Γ σ H
/-- the context takes such exceptions -/
def TX (c : Core) [Tb c.K] {ι : Type} (v : ι → Var) (S : Ent) (X : XD) : Prop := ∀ i, L2N.Takes (mkX c (v i)) (wX c.K S X)
/-- a promise about a call that may raise -/
abbrev DXp := List AV → (AV → List AV → Prop) → XD → Prop
def spX (K : PySem.W.Frag) [Tb K] (DS : DXp) : Sp := fun vs H Q E => ∃ (as : List AV) (fo : AP) (post : AV → List AV → Prop) (out : XD), DS as post out ∧ RS K (Ent.call H as vs fo as.length) no as (vs.map some) H ∧
  (∀ x H' a as', post a as' → Res K (Ent.call H as vs fo as.length) as' (vs.map some) H' x a → Q x H') ∧ ∀ cls H' as', out cls as' → RS K (Ent.call H as vs fo as.length) no as' (vs.map some) H' → E cls none H'
theorem spX_len {K : PySem.W.Frag} [Tb K] {DS : DXp} {vs : List V} {H : Hp} {Q : VK} {E : XK} {n : Nat} (hn : ∀ as post out, DS as post out → as.length = n) (h : spX K DS vs H Q E) : vs.length = n := by
  obtain ⟨as, fo, post, out, h1, h2, _⟩ := h
  have := h2.len
  rw [List.length_map] at this
  exact this.trans (hn as post out h1)
structure FnX (P : Program) (w : World) (K : PySem.W.Frag) (mg : Str → Option Value) (base : Heap) (k : Nat) (f : Addr) (fd : FuncData) (ps : List Str) (sp : Sp) : Prop where
  len : ∀ as G Q E, sp as G Q E → as.length = ps.length
  run : ∀ (A : Around) (outer : List Env) (s : Shared) (H : Hp) (args : Args) (us : List Value) (vs : List V) (Q : VK) (E : XK), Room k A → A.guards = some [] → Env0 P w K mg base A outer s H → BindsTo s fd args (ps.zip us) → Vals vs us → sp vs H Q E →
    codeAny (model P w) A (.call (.ref f) args) (CR (L2N.CX P w) outer P w H s Q E) s
theorem FnX.mono {P : Program} {w : World} {K : PySem.W.Frag} [Tb K] {mg : Str → Option Value} {base : Heap} {j k : Nat} {f : Addr} {fd : FuncData} {ps : List Str} {sp : Sp} (F : FnX P w K mg base j f fd ps sp) (h : j ≤ k) : FnX P w K mg base k f fd ps sp :=
  ⟨F.len, fun A outer s H args us vs Q E hr => F.run A outer s H args us vs Q E (hr.mono h)⟩
abbrev varX (s : Shared) (H : Hp) (env : Env) (outer : List Env) (xe : Value → Shared → Prop) : Unit → Var := fun _ => ⟨s, H, env, outer, [], fun _ => true, [], xe⟩
/-- a def's body, exceptions taken -/
theorem FnX.of {P : Program} {w : World} {K : PySem.W.Frag} [Tb K] {mg : Str → Option Value} {base : Heap} {x qual : Str} {st : Stmt} {f : Addr} {fd : FuncData} {N ps : List Str} {k : Nat} {DS : DXp} (F : Fun K x qual st f fd) (SC : FnScope N ps (defScope st)) (hn : ∀ as post out, DS as post out → as.length = ps.length)
    (body : ∀ (cdv : Value) (A : Around) (outer : List Env) (s : Shared) (H : Hp) (vs : List V) (fo : AP) (as : List AV) (post : AV → List AV → Prop) (out : XD) (xe : Value → Shared → Prop), Room k (A.deeper (envOfC qual (defScope st) s.heap.objs.size f cdv)) → A.guards = some [] → DS as post out →
      TX (coreOf P w K mg base (A.deeper (envOfC qual (defScope st) s.heap.objs.size f cdv)) N (envOfC qual (defScope st) s.heap.objs.size f cdv :: outer)) (varX s H (envOfC qual (defScope st) s.heap.objs.size f cdv) outer xe) (Ent.call H as vs fo N.length) (fun cls Γ => out cls (outsA as Γ)) →
      PassesOwn (model P w) (A.deeper (envOfC qual (defScope st) s.heap.objs.size f cdv)) (envOfC qual (defScope st) s.heap.objs.size f cdv) xe →
      BD (coreOf P w K mg base (A.deeper (envOfC qual (defScope st) s.heap.objs.size f cdv)) N (envOfC qual (defScope st) s.heap.objs.size f cdv :: outer)) (varX s H (envOfC qual (defScope st) s.heap.objs.size f cdv) outer xe) (Ent.call H as vs fo N.length) (defBody st)
        { nx := fun Γ => post (.dt .non) (outsA as Γ), rt := fun a Γ => post a (outsA as Γ) } (as ++ List.replicate (N.length - as.length) .un)) : FnX P w K mg base (k + 1) f fd ps (spX K DS) := by
  obtain ⟨oc, od, kV, doc, pm, an, cdv, ct, osl, rfl, lk, code⟩ := F.ex
  refine ⟨fun vs H Q E h => spX_len hn h, fun A outer s H args us vs Q E hr hgu e0 hb rv h => ?_⟩
  have ln : vs.length = ps.length := spX_len hn h
  have inK : K.In s.heap := e0.mod.kin.keeps fun b o z => (e0.bs b o z).1
  have nolim : s.heap.NoLimit := e0.mod.nolimit.keeps fun b o z => (e0.bs b o z).1
  have kinds : ∀ y ∈ ps.zip us, (defScope st).names.lookup y.1 = some .local ∨ ((defScope st).names.lookup y.1 = some .cell ∧ ((cellsFrom (s.heap.objs.size + 1) (defScope st).names []).lookup y.1).isSome = true) := fun y hy =>
    (SC.par y.1 (List.of_mem_zip hy).1).imp id fun z => ⟨z, PySem.W.cellsFrom_some _ _ _ (.inl z)⟩
  refine codeAny_call_function hr.depth (inK _ _ lk) rfl SC.co SC.gen rfl (PySem.W.codeRec_of inK code) (hb _ _ _ _ (wpAny_newFunctionEnv_cells SC.kind kinds fun env henv s1 ic => ?_))
  subst henv
  refine ⟨nolim.keeps ic.toInCall.keep, codeAny_func ?_⟩
  obtain ⟨as, fo, post, out, hD, rs, back, thrown⟩ := h
  have la : as.length = ps.length := hn as post out hD
  have hNl : ps.length ≤ N.length := by
    have := congrArg List.length SC.pre
    rw [List.length_take] at this
    omega
  have I0 : Inv (cxOf (L2N.CX P w) P w K mg base N qual (defScope st) f cdv A outer s H E) [] (start N vs) H s1 := inv_start SC hr.hd e0 ln rv ic
  have takes := L2N.takes_of (X := cxOf (L2N.CX P w) P w K mg base N qual (defScope st) f cdv A outer s H E) (E := E) rfl rfl rfl rfl
  have passes := passes_of (X := cxOf (L2N.CX P w) P w K mg base N qual (defScope st) f cdv A outer s H E) (K := fun e s'' => L2N.CX P w outer H s E e s'') rfl
  have bd := body cdv A outer s H vs fo as post out (cxOf (L2N.CX P w) P w K mg base N qual (defScope st) f cdv A outer s H E).xe (hr.deeper _) hgu hD
    (fun _ => takes.imp fun cls d σ G ⟨nod, Γ, o, r⟩ => by
      subst nod
      exact thrown cls G _ o (outs_res (z := V.non) (a := .un) rs (by omega) r)) passes
  obtain ⟨t, ht, hq⟩ := bd { nx := fun _ G => Q .non G, rt := Q } (start N vs) H ⟨fun Γ σ' G hp hr => back .non G (.dt .non) _ hp (outs_res rs (by omega) ⟨hr, .non⟩), fun a Γ σ' G z hp hr => back z G a _ hp (outs_res rs (by omega) hr), fun _ _ _ z => z.elim, fun _ _ _ z => z.elim⟩ (entry_rs rs la ln hNl)
  refine wpAny_mono ((ht ()).run [] s1 (start N vs) H _ I0 hq) (fun fl s' hs => ?_) fun e s' hs => hs
  match fl, hs with
  | .ret u, ⟨z, σ', G, J, rel, q⟩ => exact ⟨z, G, J.os, J.bare, J.base, J.hok, rel, q⟩
  | .next, ⟨σ', G, J, q⟩ => exact ⟨.non, G, J.os, J.bare, J.base, J.hok, rfl, q⟩
  | .brk, ⟨_, _, _, no⟩ => exact no.elim
  | .cont, ⟨_, _, _, no⟩ => exact no.elim
end DL

/-! exceptions in statements: raise, a call that may raise, try -/
namespace DL
open PySem PySem.Spec
open PyProof.Rows L2
abbrev veRow : List Value := [.type "ValueError", .type "Exception", .type "BaseException", .type "object"]
/-- x names the class C of the module, an exception class without an own __init__ -/
structure OwnExc (K : PySem.W.Frag) (mg : Str → Option Value) (x : Str) (C : Addr) : Prop where
  named : mg x = some (.ref C)
  kept : PySem.W.keepIn K (.ref C) = true
  made : PySem.W.excIn K C veRow "ValueError.__new__" = true
  sub : PySem.W.subIn K (.ref C) (.type "BaseException") = some true
  ty : PySem.W.typeIn K (.ref C) = some (.type "type")
section
variable {c : Core} [Tb c.K] {ι : Type} {v : ι → Var} {S : Ent} {Γ : List AV} {D : DE}
variable {Q : AV → List AV → Prop} {e : Expr} {es : List Expr} {pos p : Pos} {x : Str} {k : Nat} {f : Addr} {fd : FuncData} {ps : List Str} {DS : DXp} {X : XD}
theorem TX.never (c : Core) [Tb c.K] {ι : Type} (v : ι → Var) (S : Ent) : TX c v S fun _ _ => False := fun i u s' ⟨_, _, _, _, _, _, _, _, _, _, _, _, _, _, _, _, _, _, no, _⟩ => no.elim
theorem TX.imp {Y : XD} (t : TX c v S X) (h : ∀ cls Γ, Y cls Γ → X cls Γ) : TX c v S Y := fun i => (t i).imp fun _ _ _ _ ⟨d, Γ, y, r⟩ => ⟨d, Γ, h _ _ y, r⟩
/-- C() -/
theorem pmk_none {Y : Cx} {C : Addr} (O : OwnExc Y.K Y.mg x C) (hg : Gl Y x) (hdb : (x == ("__debug__" : Str)) = false) : L2N.PMk Y (.Call (.Name x p) [] [] pos) (fun _ H R => R (.ref C) none H) := fun pins s σ H R I h => by
  refine wpAny_Call_Name_kw (ld_glob I hg O.named (PySem.W.callWith_K0 I.kIn O.kept ?_) hdb)
  obtain ⟨bm, N, nm, qn, bs, hdct, sn, sub, ab, col, dd, k0, k1, k2, k3, k5, mN, hC, hN, hni, T⟩ := exc_obj I.kIn O.made
  show wpAny _ _ (call (.ref C) []) _ _ _
  exact wpAny_call_exc_subT PySem.F.excBase_ValueError T hC hN hni (fun h' a made => L2N.mk_of I made (raises_own O.sub O.ty) h (I.hok.gone made.new)) (Nat.zero_le _)
/-- raise C() -/
theorem sd_raise {C : Addr} (tk : TX c v S X) (O : OwnExc c.K c.mg x C) (hg : ∀ i, Gl (mkX c (v i)) x) (hdb : (x == ("__debug__" : Str)) = false) (q : X (.ref C) Γ) (still : c.calm = true := by rfl) {pos2 : Pos} : SD c v S (.Raise (some (.Call (.Name x p) [] [] pos)) none pos2) D Γ := fun E σ H L r =>
  ⟨_, fun i => L2N.ps_raise (X := mkX c (v i)) still (tk i) (pmk_none (Y := mkX c (v i)) O (hg i) hdb), rfl, Γ, q, r⟩
theorem runX {Y : Cx} {W : WX} {sp : Sp} {pins : List (Addr × Obj)} {σ : Sg} {H : Hp} {s : Shared} {R : VK} {args : Args} {us : List Value} {vs : List V} (F : FnX Y.prog Y.w Y.K Y.mg Y.base k f fd ps sp) (hr : Room k Y.A) (hgu : Y.A.guards = some []) (tk : L2N.Takes Y W)
    (hb : BindsTo s fd args (ps.zip us)) (I : Inv Y pins σ H s) (r : Vals vs us) (h : sp vs H R fun cls d G => W cls d σ G) : codeAny (model Y.prog Y.w) Y.A (.call (.ref f) args) (fun res s' => match res with
      | .ok (.ret u) => EP Y pins σ R u s'
      | .ok _ => False
      | .error e => Y.xe e s') s :=
  codeAny_mono (F.run Y.A Y.stack s H args us vs R (fun cls d G => W cls d σ G) hr hgu I.env0 hb r h) fun res s' done => match res, done with
    | .ok (.ret _), done => I.after done
    | .ok .next, no => no.elim
    | .ok .brk, no => no.elim
    | .ok .cont, no => no.elim
    | .error e, out => tk e s' (L2N.XE.of_call I (fun _ _ _ z => z) out)
theorem pe_callX {Y : Cx} {W : WX} {sp : Sp} {t : TA} (F : FnX Y.prog Y.w Y.K Y.mg Y.base k f fd ps sp) (hr : Room k Y.A) (hgu : Y.A.guards = some []) (tk : L2N.Takes Y W) (hg : Gl Y x) (hm : Y.mg x = some (.ref f)) (hk : PySem.W.keepIn Y.K (.ref f) = true) (hb : Binds Y.K fd ps [])
    (ha : PA Y (e :: es) t) (hdb : (x == ("__debug__" : Str)) = false) (he : starEach (e :: es) Y.env = (false, eval e Y.env) :: starEach es Y.env) (hpl : (backTo pos (starEach es Y.env)).any (·.1) = false) :
    PE Y (.Call (.Name x p) (e :: es) [] pos) (fun σ H R => t σ H fun vs H1 => sp vs H1 R fun cls d G => W cls d σ G) where
  run pins s σ H R I given := by
    refine wpAny_Call_Name_kw (ld_glob I hg hm (PySem.W.callWith_K (h₀ := Y.base) I.ok.mod.kin hk (thn (ha.run pos pins s σ H _ I given) fun us s1 got => ?_) he hpl) hdb)
    obtain ⟨vs, H1, I1, rel, q⟩ := got
    refine ⟨I1.kIn, ?_⟩
    have many : (us ++ ([] : List Value)).length = ps.length := by rw [List.append_nil, ← rel.length]; exact F.len _ _ _ _ q
    have bound := hb s1 us I1.kIn many
    rw [List.append_nil] at bound
    exact wpAny_call (codeAny_mono (runX F hr hgu tk bound I1 rel q) fun res s' done => match res, done with
      | .ok (.ret _), done => done
      | .ok .next, no => no.elim
      | .ok .brk, no => no.elim
      | .ok .cont, no => no.elim
      | .error _, out => out)
/-- f(e, ..), f may raise -/
theorem ed_callX (F : FnX c.prog c.w c.K c.mg c.base k f fd ps (spX c.K DS)) (hr : Room k c.A) (hgu : c.A.guards = some []) (tk : TX c v S X) (hg : ∀ i, Gl (mkX c (v i)) x) (hm : c.mg x = some (.ref f)) (hk : PySem.W.keepIn c.K (.ref f) = true) (hb : Binds c.K fd ps [])
    (hdb : (x == ("__debug__" : Str)) = false) (he : NoStar v e es) (hpl : NoStarL v pos es)
    (h : EA c v S (e :: es) Γ fun as Γ1 => ∃ avs, argsA Γ1 as = some avs ∧ lnsOk as = true ∧ DS avs (fun a avs' => avs'.length = avs.length → Q a (backA Γ1 as avs')) fun cls avs' => avs'.length = avs.length → X cls (backA Γ1 as avs')) : ED c v S (.Call (.Name x p) (e :: es) [] pos) Γ Q := fun σ H R r kk => by
  refine ⟨_, fun i => pe_callX (Y := mkX c (v i)) F hr hgu (tk i) (hg i) hm hk hb (wA.pa i) hdb (he i) (hpl i), ?_⟩
  refine h σ H _ r fun xs H1 as Γ1 ⟨avs, ea, ho, hD⟩ r1 hx s => ?_
  refine ⟨avs, _, _, _, hD, call_in r1 hx ea ho, fun y H2 a as' q hres => ?_, fun cls H2 as' q rs2 => ?_⟩
  · obtain ⟨z1, z2, z3⟩ := call_out r1 hx ea ho hres
    exact kk _ _ _ _ (q hres.rs.lenΓ) z1 (s.trans z2) (z3.back s)
  · exact ⟨rfl, _, q rs2.lenΓ, (call_out (x := V.non) (a := .un) r1 hx ea ho rs2).1⟩

/-! ### keywords in any order -/
/-- the places of the parameters among the keywords -/
def pick {α : Type} (ord : List Nat) (xs : List α) : List α := ord.filterMap fun i => xs[i]?
/-- a call with keywords alone: ord tells for each parameter which keyword gives it -/
def KwP (K : PySem.W.Frag) (fd : FuncData) (ps ks : List Str) (ord : List Nat) : Prop := ∀ (s : Shared) (given : List Value), K.In s.heap → given.length = ks.length → BindsTo s fd ⟨[], ks.zip given⟩ (ps.zip (pick ord given))
theorem KwP.mk {K : PySem.W.Frag} [Tb K] {qual x : Str} {st : Stmt} (F : Fun K x qual st f fd) {ks : List Str} {ord : List Nat} (h : ∀ (kV doc pm : Value) (an : Option Addr) (cdv ct : Value) (given : List Value), given.length = ks.length → bindArgs (PySem.W.fnOf x qual (defArgs st) (defBody st) (defScope st) .none kV doc pm an cdv ct) ⟨[], ks.zip given⟩ = pure (ps.zip (pick ord given))) : KwP K fd ps ks ord := by
  obtain ⟨_, _, kV, doc, pm, an, cdv, ct, _, rfl, _, _⟩ := F.ex
  exact fun s given _ few => BindsTo.of_eq (h kV doc pm an cdv ct given few)
theorem vals_get {vs : List V} {us : List Value} (r : Vals vs us) : ∀ i : Nat, (vs[i]? = none ∧ us[i]? = none) ∨ ∃ a u, vs[i]? = some a ∧ us[i]? = some u ∧ RelV a u := by
  induction r with
  | nil => exact fun i => .inl ⟨by simp, by simp⟩
  | cons r _ ih => exact fun i => match i with
    | 0 => .inr ⟨_, _, rfl, rfl, r⟩
    | i + 1 => by simpa using ih i
theorem Vals.pick {vs : List V} {us : List Value} (r : Vals vs us) : ∀ ord : List Nat, Vals (pick ord vs) (pick ord us)
  | [] => .nil
  | i :: ord => by
    show Vals (List.filterMap _ (i :: ord)) (List.filterMap _ (i :: ord))
    rw [List.filterMap_cons, List.filterMap_cons]
    rcases vals_get r i with ⟨e1, e2⟩ | ⟨a, u, e1, e2, q⟩
    · rw [e1, e2]; exact Vals.pick r ord
    · rw [e1, e2]; exact .cons q (Vals.pick r ord)
theorem RpKL.pick {K : PySem.W.Frag} {H : Hp} {ex : AP} {σ : Sg} {xs : List V} {as : List AK} (q : RpKL K H ex σ xs as) : ∀ ord : List Nat, RpKL K H ex σ (pick ord xs) (pick ord as)
  | [] => trivial
  | i :: ord => by
    show RpKL K H ex σ (List.filterMap _ (i :: ord)) (List.filterMap _ (i :: ord))
    rw [List.filterMap_cons, List.filterMap_cons]
    cases e : as[i]? with
    | none =>
      have e2 : xs[i]? = none := List.getElem?_eq_none (by rw [q.len]; exact List.getElem?_eq_none_iff.mp e)
      rw [e2]; exact RpKL.pick q ord
    | some k =>
      obtain ⟨y, e2, z⟩ := q.get e
      rw [e2]; exact ⟨z, RpKL.pick q ord⟩
theorem pe_callKX {Y : Cx} {W : WX} {sp : Sp} {t : TA} {kws : List Keyword} {ks : List Str} {ord : List Nat} (F : FnX Y.prog Y.w Y.K Y.mg Y.base k f fd ps sp) (hr : Room k Y.A) (hgu : Y.A.guards = some []) (tk : L2N.Takes Y W) (hg : Gl Y x) (hm : Y.mg x = some (.ref f)) (hk : PySem.W.keepIn Y.K (.ref f) = true)
    (kwp : KwP Y.K fd ps ks ord) (vals : PK Y kws t) (named : (backToKw pos (keywordEach kws Y.env)).all (·.1.isSome) = true) (these : (backToKw pos (keywordEach kws Y.env)).filterMap (·.1) = ks) (nodbg : (x == ("__debug__" : Str)) = false)
    (nostar : ((backTo pos (starEach [] Y.env)).any (·.1) || (backToKw pos (keywordEach kws Y.env)).any (·.1.isNone)) = false) :
    PE Y (.Call (.Name x p) [] kws pos) (fun σ H R => t σ H fun zs H1 => zs.length = ks.length ∧ sp (pick ord zs) H1 R fun cls d G => W cls d σ G) where
  run pins s σ H R I given := by
    refine wpAny_Call_Name_kw (ld_glob I hg hm (PySem.W.callWith_KW0 (h₀ := Y.base) I.ok.mod.kin hk named (thn (vals.run pos pins s σ H _ I given) fun ws s1 got => ?_) nostar) nodbg)
    obtain ⟨zs, H1, I1, rel, len, q⟩ := got
    refine ⟨I1.kIn, ?_⟩
    rw [these]
    exact wpAny_call (codeAny_mono (runX F hr hgu tk (kwp s1 ws I1.kIn (rel.length ▸ len)) I1 (Vals.pick rel ord) q) fun res s' done => match res, done with
      | .ok (.ret _), done => done
      | .ok .next, no => no.elim
      | .ok .brk, no => no.elim
      | .ok .cont, no => no.elim
      | .error _, out => out)
end
section
variable (c : Core) [Tb c.K] {ι : Type} (v : ι → Var) (S : Ent)
/-- the keywords' values, from the left -/
def EKw (kws : List Keyword) (Γ : List AV) (Q : List AK → List AV → Prop) : Prop := ∀ (σ : Sg) (H : Hp) (R : List V → Hp → Prop), RS c.K S no Γ σ H →
  (∀ xs H' as Γ', Q as Γ' → RS c.K S no Γ' σ H' → RpKL c.K H' (Exc S Γ' σ no) σ xs as → as.length = kws.length → Step Γ Γ' σ H H' → R xs H') → wK c v kws σ H R
end
section
variable {c : Core} [Tb c.K] {ι : Type} {v : ι → Var} {S : Ent} {Γ : List AV}
variable {Q : AV → List AV → Prop} {QA : List AK → List AV → Prop} {e : Expr} {kws : List Keyword} {pos p : Pos} {x : Str} {k : Nat} {f : Addr} {fd : FuncData} {ps ks : List Str} {DS : DXp} {X : XD} {ord : List Nat}
theorem ekw_nil (q : QA [] Γ) : EKw c v S [] Γ QA := fun σ H R r kk => ⟨_, fun _ => pk_nil, kk _ _ _ _ q r trivial rfl .refl⟩
theorem ekw_cons {n : Option Str} {kp : Pos} (h : EK c v S e Γ fun a Γ1 => EKw c v S kws Γ1 fun as Γ2 => QA (a :: as) Γ2) : EKw c v S (⟨n, e, kp⟩ :: kws) Γ QA := fun σ H R r kk => by
  refine ⟨_, fun i => pk_cons (wE.pe i) (wK.pk i), h σ H _ r fun y H1 a Γ1 next r1 ra s1 => ?_⟩
  exact next σ H1 _ r1 fun ys H2 as Γ2 q r2 rs len s2 => kk _ _ _ _ q r2 ⟨ra.mono s2.keeps, rs⟩ (congrArg (· + 1) len) (s1.trans s2)
/-- f(k = e, ..), f may raise -/
theorem ed_callKX (F : FnX c.prog c.w c.K c.mg c.base k f fd ps (spX c.K DS)) (hr : Room k c.A) (hgu : c.A.guards = some []) (tk : TX c v S X) (hg : ∀ i, Gl (mkX c (v i)) x) (hm : c.mg x = some (.ref f)) (hk : PySem.W.keepIn c.K (.ref f) = true) (kwp : KwP c.K fd ps ks ord) (hdb : (x == ("__debug__" : Str)) = false)
    (named : ∀ i, (backToKw pos (keywordEach kws (v i).env)).all (·.1.isSome) = true) (these : ∀ i, (backToKw pos (keywordEach kws (v i).env)).filterMap (·.1) = ks) (lenk : kws.length = ks.length) (nostar : ∀ i, ((backTo pos (starEach [] (v i).env)).any (·.1) || (backToKw pos (keywordEach kws (v i).env)).any (·.1.isNone)) = false)
    (h : EKw c v S kws Γ fun as Γ1 => ∃ avs, argsA Γ1 (pick ord as) = some avs ∧ lnsOk (pick ord as) = true ∧ DS avs (fun a avs' => avs'.length = avs.length → Q a (backA Γ1 (pick ord as) avs')) fun cls avs' => avs'.length = avs.length → X cls (backA Γ1 (pick ord as) avs')) :
    ED c v S (.Call (.Name x p) [] kws pos) Γ Q := fun σ H R r kk => by
  refine ⟨_, fun i => pe_callKX (Y := mkX c (v i)) F hr hgu (tk i) (hg i) hm hk kwp (wK.pk i) (named i) (these i) hdb (nostar i), ?_⟩
  refine h σ H _ r fun xs H1 as Γ1 ⟨avs, ea, ho, hD⟩ r1 hx len s => ⟨by rw [hx.len, len, lenk], ?_⟩
  refine ⟨avs, _, _, _, hD, call_in r1 (hx.pick ord) ea ho, fun y H2 a as' q hres => ?_, fun cls H2 as' q rs2 => ?_⟩
  · obtain ⟨z1, z2, z3⟩ := call_out r1 (hx.pick ord) ea ho hres
    exact kk _ _ _ _ (q hres.rs.lenΓ) z1 (s.trans z2) (z3.back s)
  · exact ⟨rfl, _, q rs2.lenΓ, (call_out (x := V.non) (a := .un) r1 (hx.pick ord) ea ho rs2).1⟩
end
end DL

/-! the caught exception as an object that is tracked -/
namespace DL
open PySem PySem.Spec
open PyProof.Rows L2
/-- an exception of the class cls that was raised and caught, its context None -/
def ExK (cls : Value) (a : Addr) : HO := .ext fun h => ∃ (o : Obj) (vs : Array Value), h.get? a = some o ∧ o.cls = cls ∧ o.dict = none ∧ o.data = .fields vs ∧ vs[2]? = some .none
theorem exK_ok {P : Program} {w : World} {H : Hp} {h : Heap} {a : Addr} {cls : Value} {o : Obj} {vs : Array Value} (e : h.get? a = some o) (z : L2N.Zn cls none o) (d : o.data = .fields vs) : ObjOk P w H h a (ExK cls a) :=
  ⟨⟨o, vs, e, z.1, z.2.1, d, z.2.2 vs d⟩, ⟨o, e⟩, fun _ _ ⟨u, v, q, r⟩ k => ⟨u, v, k u q, r⟩⟩
section
variable {X : Cx} {pins : List (Addr × Obj)} {σ : Sg} {H : Hp} {s : Shared} {a : Addr} {o : HO}
/-- an object of ours that is young and not tracked yet, tracked from here on -/
theorem Inv.track (I : Inv X pins σ H s) (young : X.s_0.heap.get? a = none) (na : H a = none) (new : ObjOk X.prog X.w (upd H a o) s.heap a o) (nL : a ≠ X.env.locals) (nC : ∀ x c, X.env.cells.lookup x = some c → c ≠ a) (nP : ∀ p ∈ X.pn ++ pins, p.1 ≠ a) : Inv X pins σ (upd H a o) s := by
  have nh : ∀ {b : Addr} {u : HO}, H b = some u → b ≠ a := fun e z => by rw [z, na] at e; cases e
  refine ⟨I.ok, I.os, I.bare, ⟨I.base.keep, I.base.slot, fun b u e n q => ?_, I.base.there, fun b xs e => ?_, fun b u v e => ?_, fun b ps e => ?_⟩, I.loc, I.cell, ?_, fun x c e => ?_, fun p hp => ?_, fun b u e => ?_, I.len⟩
  · rw [upd_ne fun z => by rw [z, young] at e; cases e]
    exact I.base.free b u e n q
  · have old := I.base.tups b xs e
    rw [upd_ne (nh old)]; exact old
  · have old := I.base.frzs b u v e
    rw [upd_ne (nh old)]; exact old
  · obtain ⟨more, old⟩ := I.base.tbls b ps e
    exact ⟨more, by rw [upd_ne (nh old)]; exact old⟩
  · rw [upd_ne (Ne.symm nL)]; exact I.free
  · rw [upd_ne (nC x c e)]; exact I.freeC x c e
  · obtain ⟨e, n, r⟩ := I.pin p hp; exact ⟨e, by rw [upd_ne (nP p hp)]; exact n, r⟩
  · by_cases z : b = a
    · subst z
      rw [upd_same] at e
      cases e
      exact new
    · rw [upd_ne z] at e
      refine (I.hok b u e).stay (fun _ _ _ q => q) (fun c q => ?_) fun c xs q => ?_
      · rw [upd_ne (nh q)]; exact q
      · rw [upd_ne (nh q)]; exact q
end
/-- the context of a suite that handles the exception at a -/
abbrev heldX (X : Cx) (a : Addr) : Cx := { X with A := X.A.mark (some (.ref a)), calm := false, xe := fun _ _ => False }
/-- what 'except x as n' wishes of an exception of the body, n in slot i -/
def wHeld (K : PySem.W.Frag) (c : Value) (i : Nat) (ts : Addr → Value → TS) (Wout : WX) (D : Ends) : WX := fun cls d σ H => d = none ∧
  ∃ b, PySem.W.exmOne K cls c = some b ∧ (b = true → ∀ a, H a = none → ts a cls { nx := fun σ' G => D.nx (σ'.set i none) G, rt := D.rt, bk := fun σ' G => D.bk (σ'.set i none) G, ct := fun σ' G => D.ct (σ'.set i none) G } (σ.set i (some (.ref a))) (upd H a (ExK cls a))) ∧ (b = false → Wout cls d σ H)
section
variable {X : Cx} {x n : Str} {c : Value} {i : Nat} {body suite : List Stmt} {first : Stmt} {np pos pos' : Pos} {tb : WX → TS} {ts : Addr → Value → TS} {Wout : WX}
theorem Held.ok {a : Addr} (ok : X.Ok) : (heldX X a).Ok :=
  ⟨ok.mod,
    ok.kind, ok.glob, ok.blt, ok.above, ok.inj, ok.has, ok.cab, (fun z => absurd (show false = true from z) Bool.false_ne_true), ok.frames, ok.stk, ok.exf, ok.bs, ok.bsz, ok.noex, ok.exfs, ok.funs, ok.frf⟩
theorem Held.inv {a : Addr} {pins : List (Addr × Obj)} {σ : Sg} {H : Hp} {s : Shared} (I : Inv X pins σ H s) : Inv (heldX X a) pins σ H s := ⟨Held.ok I.ok, I.os, I.bare, I.base, I.loc, I.cell, I.free, I.freeC, I.pin, I.hok, I.len⟩
theorem Held.back {a : Addr} {pins : List (Addr × Obj)} {σ : Sg} {H : Hp} {s : Shared} (I : Inv (heldX X a) pins σ H s) (ok : X.Ok) : Inv X pins σ H s := ⟨ok, I.os, I.bare, I.base, I.loc, I.cell, I.free, I.freeC, I.pin, I.hok, I.len⟩
theorem ps_try_held (hs : X.stack = X.env :: X.outer) (hf : X.env.frame = some X.env.locals) (hex : X.ex = []) (hN : X.N.Nodup) (hi : X.N[i]? = some n) (loc : X.env.kindOf n = some .local) (hc : Names X x c) (tk : L2N.Takes X Wout)
    (hb : ∀ (W : WX) (pn : List (Addr × Obj)) (xe : Value → Shared → Prop), L2N.Takes (X.tr pn xe) W → PassesOwn (model X.prog X.w) X.A X.env xe → PSs (X.tr pn xe) body (tb W))
    (hsu : ∀ (a : Addr) (cls : Value), PSs (heldX X a) (first :: suite) (ts a cls)) :
    PS X (.Try body [.ExceptHandler (some (.Name x np)) (some n) (first :: suite) pos'] [] [] pos) (fun D σ H => tb (wHeld X.K c i ts Wout D) D σ H) where
  run pins s σ H D I given := by
    have ok := I.ok
    have frames : X.A.frames = some (X.env :: X.outer) := by rw [ok.frames, hs]
    refine wpAny_Try_except (wpAny_mono ((hb (wHeld X.K c i ts Wout D) (X.pn ++ pins) (fun e s₁ => wpAny (model X.prog X.w) X.A (noteFrame e X.env) (fun _ s₂ => wpAny (model X.prog X.w) X.A (setFlight e none) (fun _ s₃ =>
      wpAny (model X.prog X.w) X.A (handleBy e X.env [.ExceptHandler (some (.Name x np)) (some n) (first :: suite) pos']) (SP X pins D) X.xe s₃) X.xe s₂) X.xe s₁) (fun u s' air => ?_) PassesOwn.looking).run [] s σ H D (I.toTry _) given) (fun fl s1 ended => ?_) fun _ _ out => out)
    · obtain ⟨a, B, sI, pins', τ, G, cls, d, rfl, J0, ground, up, sky, na, os, bare, nod, b, matched, yes, no⟩ := air
      subst nod
      have J := J0.ofTry ok
      rw [hs] at sky
      show wpAny (model X.prog X.w) X.A (noteFrame (.ref a) (X.env)) _ _ _
      refine L2N.Sky.land L2N.Zn.steady frames hf sky fun h3 fl3 up3 => ?_
      have J3 : Inv X pins τ G { s' with heap := h3 } := J.landed ground fl3.1 (up.trans up3) os bare
      have apart : ∀ {h : Heap} {o : Obj} {vs : Array Value}, h.FunFrames B (X.env :: X.outer) → h.get? a = some o → o.data = .fields vs → a ∉ frs (X.env :: X.outer) := fun {h o vs} ff at_a shape m => by
        obtain ⟨_, o', at_a', nof⟩ := ff.mem m
        cases at_a.symm.trans at_a'
        exact nof _ shape
      have nofr : a ∉ frs (X.env :: X.outer) := by
        obtain ⟨_, _, at_a, _, shape⟩ := fl3.there
        exact apart fl3.2.2.1 at_a shape
      have nL : a ≠ X.env.locals := fun z => nofr (List.mem_filterMap.mpr ⟨X.env, List.mem_cons_self, by rw [hf, z]⟩)
      -- the object is younger than the state without it
      have noI : sI.heap.get? a = none := by
        cases q : sI.heap.get? a with
        | none => rfl
        | some o => exact absurd ((ground a o q (by rw [hs]; exact nofr)).symm.trans fl3.2.1) (fun z => nomatch z)
      have young : X.s_0.heap.get? a = none := by
        cases q : X.s_0.heap.get? a with
        | none => rfl
        | some o =>
          obtain ⟨o', z⟩ := J.base.there a o q (by rw [hex]; exact fun z => nomatch z)
          rw [noI] at z; cases z
      have nC : ∀ y k, X.env.cells.lookup y = some k → k ≠ a := fun y k e z => by
        obtain ⟨_, o, at_k, _⟩ := J.cell y k e
        rw [z, noI] at at_k; cases at_k
      have nP : ∀ p ∈ X.pn ++ pins, p.1 ≠ a := fun p hp z => by
        have := (J.pin p hp).1
        rw [z, noI] at this; cases this
      have tracked : ∀ {h : Heap}, Inv X pins τ G { s' with heap := h } → (∃ o vs, h.get? a = some o ∧ L2N.Zn cls none o ∧ o.data = .fields vs) → Inv X pins τ (upd G a (ExK cls a)) { s' with heap := h } := fun {h} K ⟨o, vs, at_a, z, shape⟩ =>
        Inv.track K young na (exK_ok at_a z shape) nL nC nP
      have I3 := Held.inv (a := a) (tracked J3 fl3.there)
      refine (wpAny_handleBy_cons (codeAny_handlers_test ?_) (by intro q; cases q))
      obtain ⟨oe, _, at_e, kind, _⟩ := fl3.there
      have typ : PySem.W.Looks (model X.prog X.w) h3 (typeOf (.ref a)) cls := fun A Q E s k q => wpAny_typeOf_ref (k _ _ at_e) (by rw [kind.1]; exact q)
      have asks : ∀ {Q E : Value → Shared → Prop}, Q c { s' with heap := h3 } → wpAny (model X.prog X.w) (X.A.mark (some (.ref a))) (eval (.Name x np) X.env) Q E { s' with heap := h3 } := fun {Q E} q => by
        obtain ⟨g, dbg, m | ⟨m, bt, nn⟩⟩ := hc
        · exact ld_glob (X := heldX X a) I3 g m q dbg
        · exact ld_blt (X := heldX X a) I3 g m bt q nn dbg
      refine asks ((PySem.W.exm_one (M := model X.prog X.w) J3.kIn typ matched).here ?_)
      cases b with
      | true =>
        refine codeAny_handlers_suite_as (HandSPX.lands_againZ fl3 fun h4 fl4 up4 => ?_)
        have J4 : Inv X pins τ G { s' with heap := h4 } := J.landed ground fl4.1 ((up.trans up3).trans up4) os bare
        refine store_ok (X := heldX X a) (v := .ref a) (Held.inv (tracked J4 fl4.there)) hN hi (.inl loc) rfl (fun s5 I5 => ?_) (.inr loc)
        refine wpAny_mono ((hsu a cls).run pins s5 _ _ _ I5 (yes rfl a na)) (fun fl s6 ended => ?_) fun _ _ no => no.elim
        have close : ∀ {τ6 : Sg} {G6 : Hp} {Q : Shared → Prop}, Inv (heldX X a) pins τ6 G6 s6 → (∀ s7, Inv X pins (τ6.set i none) G6 s7 → Q s7) → wpAny (model X.prog X.w) X.A (do bindName X.env n .none; unbindBehindTheSuite X.env n pos') (fun _ s7 => Q s7) X.xe s6 := fun I6 q => gone_ok (Held.back I6 ok) hN hi loc q
        match fl, ended with
        | .next, ⟨τ6, G6, I6, q⟩ => exact close I6 fun s7 I7 => ⟨_, _, I7, q⟩
        | .brk, ⟨τ6, G6, I6, q⟩ => exact close I6 fun s7 I7 => ⟨_, _, I7, q⟩
        | .cont, ⟨τ6, G6, I6, q⟩ => exact close I6 fun s7 I7 => ⟨_, _, I7, q⟩
        | .ret u, ⟨v6, τ6, G6, I6, r6, q⟩ => exact close I6 fun s7 I7 => ⟨_, _, _, I7, r6, q⟩
      | false =>
        show wpAny _ X.A (handleBy (.ref a) (X.env) []) _ _ _
        refine wpAny_handleBy_nil ?_
        obtain ⟨_, _, _, o, vs, T, _, _, at_a, _, shape, tb1, _⟩ := id fl3
        have on : wpAny (model X.prog X.w) X.A (setFlight (.ref a) X.env.frame) (fun _ s4 => wpAny (model X.prog X.w) X.A (throw (.ref a) : Sem Flow) (SP X pins D) X.xe s4) X.xe { s' with heap := h3 } := by
          rw [hf]
          exact HandSPX.setFlight_upZ fl3 fun h4 held up4 => wpAny_throw (tk _ _ ⟨a, B, sI, pins, τ, G, cls, none, rfl, J, ground, (up.trans up3).trans up4, .inr (.inr (by rw [hs]; exact held)), na, os, bare, no rfl⟩)
        unfold PySem.passOn
        refine wpAny_bind (wpAny_field at_a shape tb1 ?_)
        rw [if_neg (show ¬ ((Value.ref T == Value.none) = true) by simp)]
        first
          | exact wpAny_bind (wpAny_pure (wpAny_bind on))
          | exact wpAny_bind on
    · match fl, ended with
      | .next, ⟨τ, G, J, q⟩ => exact wpAny_execs_nil ⟨τ, G, J.ofTry ok, q⟩
      | .brk, ⟨τ, G, J, q⟩ => exact ⟨τ, G, J.ofTry ok, q⟩
      | .cont, ⟨τ, G, J, q⟩ => exact ⟨τ, G, J.ofTry ok, q⟩
      | .ret u, ⟨v, τ, G, J, r, q⟩ => exact ⟨v, τ, G, J.ofTry ok, r, q⟩
end
end DL

namespace DL
open PySem PySem.Spec
open PyProof.Rows L2

/-! ### operators whose rule the values choose -/
section
variable {X : Cx}
theorem OpR.or2 {f : Value → Value → Sem Value} {r r' : R2} (h : OpR X f r) (h' : OpR X f r') : OpR X f (fun x y H Q => r x y H Q ∨ r' x y H Q) := by
  intro pins s σ H x y v u Q I rx ry q; rcases q with q | q
  · exact h _ _ _ _ _ _ _ _ _ I rx ry q
  · exact h' _ _ _ _ _ _ _ _ _ I rx ry q
/-- ** of ints whose power has less than 2 ^ 27 bits -/
def CPowW (i j : Int) : Prop := 0 ≤ j ∧ (Builtin.Int.intBits i : Int) * j ≤ 2 ^ 27
theorem op_powW : OpR X (binaryOp .Pow) (rI CPowW fun i j => .int (i ^ j.toNat)) := by
  intro pins s σ H x y v u Q I rx ry h; obtain ⟨i, j, rfl, rfl, ⟨h0, h1⟩, q⟩ := h
  obtain ⟨t, rfl⟩ := rx
  obtain ⟨t', rfl⟩ := ry
  exact pow_int h0 h1 ⟨.int _, H, I.tok _, ⟨_, rfl⟩, q⟩
theorem bits_le {i : Int} {n : Nat} (h : i.natAbs < 2 ^ n) : Builtin.Int.intBits i ≤ n := by
  unfold Builtin.Int.intBits
  split
  · omega
  · rename_i hi
    have : i.natAbs ≠ 0 := by simpa using hi
    have := (Nat.log2_lt this).mpr h
    omega
theorem powW_ok {i j : Int} {n : Nat} (h : i.natAbs < 2 ^ n) (h0 : 0 ≤ j) (h1 : (n : Int) * j ≤ 2 ^ 27) : CPowW i j := by
  refine ⟨h0, Int.le_trans (Int.mul_le_mul_of_nonneg_right ?_ h0) h1⟩
  exact Int.ofNat_le.mpr (bits_le h)
end
section
variable {c : Core} [Tb c.K] {ι : Type} {v : ι → Var} {S : Ent} {Γ : List AV} {Q : AV → List AV → Prop} {QK : AK → List AV → Prop} {e a b : Expr} {es : List Expr} {pos p2 : Pos}
theorem akT_whole {K : PySem.W.Frag} [Tb K] {H : Hp} {ex : AP} {σ : Sg} {j : AK} {gs : List Dt} {z : V} (e : akT Γ j = some gs) (q : RpK K H ex σ z j) : Rp K H ex z (.tup gs) := by
  rcases j with (_ | d | es) | i
  · cases e
  · cases d with
    | tup es => cases e; exact q
    | _ => cases e
  · cases e
  · cases e
/-- what + gives -/
def AddR (Q : AV → List AV → Prop) (k l : AK) (Γ : List AV) : Prop :=
  (∃ i j, akD Γ k = some (.int i) ∧ akD Γ l = some (.int j) ∧ Q (.dt (.int (i + j))) Γ) ∨
  (∃ ds es, akT Γ k = some ds ∧ akT Γ l = some es ∧ ds.length + es.length ≤ 1000 ∧ Q (.dt (.tup (ds ++ es))) Γ) ∨
  (∃ ds es, akL Γ k = some ds ∧ akL Γ l = some es ∧ noScr k = true ∧ noScr l = true ∧ ds.length + es.length ≤ 1000000 ∧ Q (.ow (ds ++ es)) Γ) ∨
  (∃ x y : Str, akD Γ k = some (.str x) ∧ akD Γ l = some (.str y) ∧ x.length + y.length ≤ 1000000 ∧ Q (.dt (.str (x ++ y))) Γ)
theorem ed_add (h : EK c v S a Γ fun k Γ1 => EK c v S b Γ1 fun l Γ2 => AddR Q k l Γ2) : ED c v S (.BinOp a .Add b pos) Γ Q := fun σ H R r kk =>
  ⟨_, fun i => pe_op (OpR.or2 op_add (OpR.or2 (show OpR (mkX c (v i)) (binaryOp .Add) (rCatA c.K) from op_catA) (OpR.or2 op_cat op_add_str))) (wE.pe i) (wE.pe i), EK.two h r fun x y H' k l Γ' q r' hk hl s => by
    rcases q with ⟨i, j, e1, e2, q⟩ | ⟨ds, es, e1, e2, hz, q⟩ | ⟨ds, es, e1, e2, n1, n2, hz, q⟩ | ⟨i, j, e1, e2, hz, q⟩
    · cases akD_of e1 hk
      cases akD_of e2 hl
      exact .inl ⟨i, j, rfl, rfl, kk _ _ _ _ q ⟨r', .int _⟩ s trivial⟩
    · have w1 := akT_whole e1 hk
      have w2 := akT_whole e2 hl
      obtain ⟨p1, xs, rfl, hs1, hx⟩ := akT_of e1 hk
      obtain ⟨p2, ys, rfl, hs2, hy⟩ := akT_of e2 hl
      refine .inr (.inl ⟨p1, p2, xs, ys, rfl, rfl, .of hs1, .of hs2, ?_, fun z => ?_, fun _ z => ?_, fun _ _ p hn => kk _ _ _ _ q (Res.newT r' hn (hx.append hy)) (s.alloc hn) trivial⟩)
      · rw [hx.len, hy.len]
        exact line1 (by omega)
      · subst z
        have : ds = [] := List.length_eq_zero_iff.mp hx.len.symm
        subst this
        exact kk _ _ _ _ q ⟨r', w2⟩ s trivial
      · subst z
        have : es = [] := List.length_eq_zero_iff.mp hy.len.symm
        subst this
        rw [List.append_nil] at q
        exact kk _ _ _ _ q ⟨r', w1⟩ s trivial
    · obtain ⟨p1, xs, rfl, hs1, hx⟩ := akL_trk e1 (noScr_of n1) r' hk
      obtain ⟨p2, ys, rfl, hs2, hy⟩ := akL_trk e2 (noScr_of n2) r' hl
      refine .inr (.inr (.inl ⟨p1, p2, xs, ys, rfl, rfl, hs1, hs2, ?_, fun p hn => kk _ _ _ _ q (Res.newL r' hn (hx.append hy)) (s.alloc hn) (New.ofL s hn)⟩))
      rw [hx.len, hy.len]
      exact line1 (by omega)
    · cases akD_of e1 hk
      cases akD_of e2 hl
      exact .inr (.inr (.inr ⟨i, j, rfl, rfl, line1 hz, kk _ _ _ _ q ⟨r', .str _⟩ s trivial⟩))⟩
def MulR (Q : AV → List AV → Prop) (k l : AK) (Γ : List AV) : Prop :=
  (∃ i j, akD Γ k = some (.int i) ∧ akD Γ l = some (.int j) ∧ CMulW i j ∧ Q (.dt (.int (i * j))) Γ) ∨
  (∃ ds n, akL Γ k = some ds ∧ noScr k = true ∧ akD Γ l = some (.int n) ∧ (-1000000 ≤ n ∧ n ≤ 1000000 ∧ ds.length * n.toNat ≤ 1000000) ∧ Q (.ow (List.replicate n.toNat ds).flatten) Γ)
theorem ed_mul (h : EK c v S a Γ fun k Γ1 => EK c v S b Γ1 fun l Γ2 => MulR Q k l Γ2) : ED c v S (.BinOp a .Mult b pos) Γ Q := fun σ H R r kk =>
  ⟨_, fun i => pe_op (OpR.or2 op_mulW op_rep) (wE.pe i) (wE.pe i), EK.two h r fun x y H' k l Γ' q r' hk hl s => by
    rcases q with ⟨i, j, e1, e2, hc, q⟩ | ⟨ds, n, e1, n1, e2, ⟨h1, h2, hz⟩, q⟩
    · cases akD_of e1 hk
      cases akD_of e2 hl
      exact .inl ⟨i, j, rfl, rfl, hc, kk _ _ _ _ q ⟨r', .int _⟩ s trivial⟩
    · obtain ⟨p1, xs, rfl, hs1, hx⟩ := akL_trk e1 (noScr_of n1) r' hk
      cases akD_of e2 hl
      refine .inr ⟨p1, n, xs, rfl, rfl, hs1, by omega, by omega, ?_, fun p hn => kk _ _ _ _ q (Res.newL r' hn (hx.rep _)) (s.alloc hn) (New.ofL s hn)⟩
      rw [hx.len]
      exact line1 (by omega)⟩
/-- int operators with a condition: -, //, %, ** -/
def IntR (C : Int → Int → Prop) (g : Int → Int → Int) (Q : AV → List AV → Prop) (k l : AK) (Γ : List AV) : Prop := ∃ i j, akD Γ k = some (.int i) ∧ akD Γ l = some (.int j) ∧ C i j ∧ Q (.dt (.int (g i j))) Γ
theorem ed_intop {op : Operator} {C : Int → Int → Prop} {g : Int → Int → Int} (ho : ∀ i, OpR (mkX c (v i)) (binaryOp op) (rI C fun i j => .int (g i j))) (h : EK c v S a Γ fun k Γ1 => EK c v S b Γ1 fun l Γ2 => IntR C g Q k l Γ2) : ED c v S (.BinOp a op b pos) Γ Q := fun σ H R r kk =>
  ⟨_, fun i => pe_op (ho i) (wE.pe i) (wE.pe i), EK.two h r fun x y H' k l Γ' ⟨i, j, e1, e2, hc, q⟩ r' hk hl s => by
    cases akD_of e1 hk
    cases akD_of e2 hl
    exact ⟨i, j, rfl, rfl, hc, kk _ _ _ _ q ⟨r', .int _⟩ s trivial⟩⟩
theorem op_subC {X : Cx} : OpR X (binaryOp .Sub) (rI (fun _ _ => True) fun i j => .int (i - j)) := fun pins s σ H x y v u Q I rx ry ⟨i, j, e1, e2, _, q⟩ => op_sub pins s σ H x y v u Q I rx ry ⟨i, j, e1, e2, q⟩
theorem ed_sub (h : EK c v S a Γ fun k Γ1 => EK c v S b Γ1 fun l Γ2 => IntR (fun _ _ => True) (fun i j => i - j) Q k l Γ2) : ED c v S (.BinOp a .Sub b pos) Γ Q := ed_intop (fun _ => op_subC) h
theorem ed_mod (h : EK c v S a Γ fun k Γ1 => EK c v S b Γ1 fun l Γ2 => IntR (fun _ j => j ≠ 0) (fun i j => i.fmod j) Q k l Γ2) : ED c v S (.BinOp a .Mod b pos) Γ Q := ed_intop (fun _ => op_modN) h
theorem ed_div (h : EK c v S a Γ fun k Γ1 => EK c v S b Γ1 fun l Γ2 => IntR CDivW (fun i j => i / j) Q k l Γ2) : ED c v S (.BinOp a .FloorDiv b pos) Γ Q := ed_intop (fun _ => op_fdivW) h
theorem ed_pow (h : EK c v S a Γ fun k Γ1 => EK c v S b Γ1 fun l Γ2 => IntR CPowW (fun i j => i ^ j.toNat) Q k l Γ2) : ED c v S (.BinOp a .Pow b pos) Γ Q := ed_intop (fun _ => op_powW) h
theorem ed_neg (h : ED c v S a Γ fun x Γ' => ∃ i, x = .dt (.int i) ∧ Q (.dt (.int (-i))) Γ') : ED c v S (.UnaryOp .USub a pos) Γ Q := fun σ H R r kk =>
  ⟨_, fun i => pe_un un_neg (wE.pe i), h σ H _ r fun x H' u Γ' ⟨i, e, q⟩ hr s _ => by
    subst e
    obtain ⟨r', z⟩ := hr
    cases z
    exact ⟨i, rfl, kk _ _ _ _ q ⟨r', .int _⟩ s trivial⟩⟩
/-- comparisons of ints -/
def CmpR (g : Int → Int → Bool) (Q : AV → List AV → Prop) (k l : AK) (Γ : List AV) : Prop := ∃ i j, akD Γ k = some (.int i) ∧ akD Γ l = some (.int j) ∧ Q (.dt (.bl (g i j))) Γ
theorem ed_cmp {op : CmpOp} {g : Int → Int → Bool} (ho : ∀ i, OpR (mkX c (v i)) (compareOp op) (rI0 fun i j => .bl (g i j))) (hm : behindInMarks op b = false) (h : EK c v S a Γ fun k Γ1 => EK c v S b Γ1 fun l Γ2 => CmpR g Q k l Γ2) : ED c v S (.Compare a [op] [b] pos) Γ Q := fun σ H R r kk =>
  ⟨_, fun i => pe_cmpR (ho i) (wE.pe i) (wE.pe i) hm, EK.two h r fun x y H' k l Γ' ⟨i, j, e1, e2, q⟩ r' hk hl s => by
    cases akD_of e1 hk
    cases akD_of e2 hl
    exact ⟨i, j, rfl, rfl, kk _ _ _ _ q ⟨r', .bl _⟩ s trivial⟩⟩
theorem ed_lt (h : EK c v S a Γ fun k Γ1 => EK c v S b Γ1 fun l Γ2 => CmpR (fun i j => decide (i < j)) Q k l Γ2) : ED c v S (.Compare a [.Lt] [b] pos) Γ Q := ed_cmp (fun _ => op_lt) (nomark _) h
theorem ed_le (h : EK c v S a Γ fun k Γ1 => EK c v S b Γ1 fun l Γ2 => CmpR (fun i j => decide (i ≤ j)) Q k l Γ2) : ED c v S (.Compare a [.LtE] [b] pos) Γ Q := ed_cmp (fun _ => op_le) (nomark _) h
theorem ed_gt (h : EK c v S a Γ fun k Γ1 => EK c v S b Γ1 fun l Γ2 => CmpR (fun i j => decide (j < i)) Q k l Γ2) : ED c v S (.Compare a [.Gt] [b] pos) Γ Q := ed_cmp (fun _ => op_gt) (nomark _) h
theorem ed_ge (h : EK c v S a Γ fun k Γ1 => EK c v S b Γ1 fun l Γ2 => CmpR (fun i j => decide (j ≤ i)) Q k l Γ2) : ED c v S (.Compare a [.GtE] [b] pos) Γ Q := ed_cmp (fun _ => op_ge) (nomark _) h
/-- x is None -/
def Dt.isNon : Dt → Option Bool
  | .non => some true
  | .raw _ => none
  | _ => some false
theorem ed_isN {k : Nat} {pn : Pos} (h : ED c v S a Γ fun x Γ' => ∃ d t, akD Γ' (.d x) = some d ∧ d.isNon = some t ∧ Q (.dt (.bl t)) Γ') : ED c v S (.Compare a [.Is] [.Constant .none k pn] pos) Γ Q := fun σ H R r kk =>
  ⟨_, fun i => pe_cmp (pc_isN (wE.pe i)) rfl, h σ H _ r fun x H' u Γ' ⟨d, t, e1, e2, q⟩ hr s _ => by
    have z := akD_of (σ := σ) e1 hr.rpa
    have : decide (x = .non) = t := by
      cases z <;> cases e2 <;> rfl
    rw [this]
    exact kk _ _ _ _ q ⟨hr.rs, .bl _⟩ s trivial⟩
theorem ed_notN {k : Nat} {pn : Pos} (h : ED c v S a Γ fun x Γ' => ∃ d t, akD Γ' (.d x) = some d ∧ d.isNon = some t ∧ Q (.dt (.bl (!t))) Γ') : ED c v S (.Compare a [.IsNot] [.Constant .none k pn] pos) Γ Q := fun σ H R r kk =>
  ⟨_, fun i => pe_cmp (pc_notN (wE.pe i)) rfl, h σ H _ r fun x H' u Γ' ⟨d, t, e1, e2, q⟩ hr s _ => by
    have z := akD_of (σ := σ) e1 hr.rpa
    have : decide (x = .non) = t := by
      cases z <;> cases e2 <;> rfl
    rw [this]
    exact kk _ _ _ _ q ⟨hr.rs, .bl _⟩ s trivial⟩
end
end DL

namespace DL
open PySem PySem.Spec
open PyProof.Rows L2

mutual
/-- plain data as the library's data -/
def Dt.py : Dt → Option PyData
  | .non => some .none
  | .bl b => some (.bool b)
  | .int i => some (.int i)
  | .str s => some (.str s)
  | .tup xs => (Dt.pyAll xs).map .tuple
  | .lst xs => (Dt.pyAll xs).map .list
  | .dct [] [] => some (.dict [])
  | .dct _ _ => none
  | .raw _ => none
  | .scr _ => none
  | .obj _ => none
  | .exa _ _ => none
def Dt.pyAll : List Dt → Option (List PyData)
  | [] => some []
  | x :: xs => match x.py, Dt.pyAll xs with
    | some x, some xs => some (x :: xs)
    | _, _ => none
end
mutual
/-- no list stands within -/
def Dt.noL : Dt → Bool
  | .lst _ => false
  | .tup xs => Dt.noLAll xs
  | _ => true
def Dt.noLAll : List Dt → Bool
  | [] => true
  | x :: xs => x.noL && Dt.noLAll xs
end
section
variable {X : Cx} {pins : List (Addr × Obj)} {σ : Sg} {H : Hp} {ex : AP} {s : Shared}
mutual
theorem Rp.reads (I : Inv X pins σ H s) : ∀ {d : Dt} {x : V} {u : Value} {pd : PyData}, Rp X.K H ex x d → RelV x u → d.py = some pd → ∃ as, Reads s.heap u pd as ∧ (d.noL = true → sysModules ∉ as)
  | .non, _, _, _, .non, r, e => by
    cases e
    cases r
    exact ⟨_, .none, fun _ z => nomatch z⟩
  | .bl b, _, _, _, .bl _, r, e => by
    cases e
    cases r
    exact ⟨_, .bool b, fun _ z => nomatch z⟩
  | .int i, _, _, _, .int _, r, e => by
    cases e
    obtain ⟨t, rfl⟩ := r
    exact ⟨_, .int i t, fun _ z => nomatch z⟩
  | .str x, _, _, _, .str _, r, e => by
    cases e
    obtain ⟨t, rfl⟩ := r
    exact ⟨_, .str x t, fun _ z => nomatch z⟩
  | .tup ds, _, _, _, .tup h n q, r, e => by
    cases (show _ = Value.ref _ from r)
    simp only [Dt.py] at e
    cases hp : Dt.pyAll ds with
    | none => rw [hp] at e; cases e
    | some pds =>
      rw [hp] at e
      cases e
      obtain ⟨its, rv, ⟨o, ho, hc, n, hd⟩, _⟩ := I.tuple (.of h)
      obtain ⟨as, hr, hs⟩ := RpL.readsAll I q rv hp
      exact ⟨_, .tuple ho hc hd hr, fun z => hs (by simpa [Dt.noL] using z)⟩
  | .lst ds, _, _, _, .lst h n q, r, e => by
    cases (show _ = Value.ref _ from r)
    simp only [Dt.py] at e
    cases hp : Dt.pyAll ds with
    | none => rw [hp] at e; cases e
    | some pds =>
      rw [hp] at e
      cases e
      obtain ⟨its, rv, ⟨o, n, ho, hc, _, hd⟩, _⟩ := I.list (.of h)
      obtain ⟨as, hr, hs⟩ := RpL.readsAll I q rv hp
      exact ⟨_, .list ho hc hd hr, fun z => by simp [Dt.noL] at z⟩
  | .dct [] [], _, _, _, .dct0 (a := a) h n, r, e => by
    cases (show _ = Value.ref _ from r)
    cases (show some (PyData.dict []) = some _ from e)
    obtain ⟨_, hs, vs, kv, o, es, ep, ho, hx, hd, hm⟩ := (show ObjOk X.prog X.w H s.heap a (.dK []) from I.hok a _ h)
    cases kv
    have hes : es.toList = [] := by
      have := hm.2.1
      generalize es.toList = l at this
      cases this
      rfl
    refine ⟨_, .dict ho hx.1 hd (as := []) (bs := []) ?_ ?_, fun _ z => ?_⟩
    · rw [hes]
      exact .nil
    · rw [hes]
      exact .nil
    · have : sysModules = a := by simpa using z
      rw [this] at hs
      simp at hs
theorem RpL.readsAll (I : Inv X pins σ H s) : ∀ {ds : List Dt} {xs : List V} {us : List Value} {pds : List PyData}, RpL X.K H ex xs ds → Vals xs us → Dt.pyAll ds = some pds → ∃ as, ReadsAll s.heap us pds as ∧ (Dt.noLAll ds = true → sysModules ∉ as)
  | [], _, _, _, .nil, r, e => by
    cases e
    cases r
    exact ⟨_, .nil, fun _ z => nomatch z⟩
  | d :: ds, _, _, _, .cons h t, r, e => by
    cases r with
    | cons r1 r2 =>
      simp only [Dt.pyAll] at e
      cases h1 : d.py with
      | none => rw [h1] at e; cases e
      | some pd =>
        cases h2 : Dt.pyAll ds with
        | none => rw [h1, h2] at e; cases e
        | some pds =>
          rw [h1, h2] at e
          cases e
          obtain ⟨as, q1, n1⟩ := Rp.reads I h r1 h1
          obtain ⟨bs, q2, n2⟩ := RpL.readsAll I t r2 h2
          refine ⟨_, .cons q1 q2, fun z => ?_⟩
          have z := Bool.and_eq_true_iff.mp (show (d.noL && Dt.noLAll ds) = true by simpa [Dt.noLAll] using z)
          exact fun y => (List.mem_append.mp y).elim (n1 z.1) (n2 z.2)
end
/-- what repr shows -/
structure Shows (d : Dt) (pd : PyData) : Prop where
  py : d.py = some pd
  sh : pd.showable = true
  lf : pd.leavesShort 1921 = true
  bu : pd.bulk ≤ 5000
  dp : pd.depth ≤ 60
  dc : pd.hasDict = true → d.noL = true
theorem Shows.fits {d : Dt} {pd : PyData} (h : Shows d pd) : pd.shown.length ≤ sizeLine := by
  have := PyData.shown_le_bulk 1921 (by omega) pd h.lf
  have := h.bu
  rw [sizeLine_eq]
  omega
def rRepr (K : PySem.W.Frag) : List V → Hp → VK → Prop := fun xs H Q => ∃ x d pd ex, xs = [x] ∧ Rp K H ex x d ∧ Shows d pd ∧ Q (.str pd.shown) H
theorem call_reprD (hg : X.A.guards = some []) (hu : X.A.units + 64 < cLine) : CallR X (.builtin "repr") (rRepr X.K) := by
  intro pins s σ H xs us Q I r h; obtain ⟨x, d, pd, ex, rfl, hr, hs, q⟩ := h
  obtain ⟨u, rfl, ru⟩ := r.one
  have fit := hs.fits
  have ref : ∀ {a : Addr}, u = .ref a → wpAny (model X.prog X.w) X.A (call (.builtin "repr") [u]) (EP X pins σ Q) X.xe s := fun {a} e => by
    obtain ⟨as, rd, nd⟩ := Rp.reads I hr ru hs.py
    subst e
    have dp := hs.dp
    exact repr_of_reads' rd hs.sh (fun z => nd (hs.dc z)) hg (by omega) (fun _ _ z => z) (fun h' t tk hk => ⟨.str pd.shown, H, I.kept hk, ⟨_, rfl⟩, q⟩) fit
  cases hr with
  | non =>
    cases hs.py
    cases ru
    exact P.repr_of_none ⟨.str _, H, I.tok _, ⟨_, rfl⟩, q⟩
  | bl b =>
    cases hs.py
    cases ru
    exact P.repr_of_bool ⟨.str _, H, I.tok _, ⟨_, rfl⟩, q⟩
  | int i =>
    cases hs.py
    obtain ⟨t, rfl⟩ := ru
    exact P.repr_of_int (by simpa [PyData.showable] using hs.sh) ⟨.str _, H, I.tok _, ⟨_, rfl⟩, q⟩
  | str y =>
    cases hs.py
    obtain ⟨t, rfl⟩ := ru
    exact P.repr_of_str ⟨.str _, H, I.tok _, ⟨_, rfl⟩, q⟩ fit
  | raw y => cases hs.py
  | tup _ _ _ => exact ref ru
  | lst _ _ _ => exact ref ru
  | dct0 _ _ => exact ref ru
  | scrF _ _ => cases hs.py
  | scrK _ => cases hs.py
  | obj _ _ => cases hs.py
  | exa _ _ _ _ => cases hs.py
end

section
variable {c : Core} [Tb c.K] {ι : Type} {v : ι → Var} {S : Ent} {Γ : List AV} {Q : AV → List AV → Prop} {e a b : Expr} {es : List Expr} {pos : Pos}
def pRepr : List AK → List AV → (AV → List AV → Prop) → Prop := fun as Γ Q => ∃ k d pd, as = [k] ∧ akD Γ k = some d ∧ Shows d pd ∧ Q (.dt (.str pd.shown)) Γ
theorem cb_repr : CB c S (rRepr c.K) pRepr := by
  rintro as Γ Q σ H xs R ⟨k, d, pd, rfl, e, hs, q⟩ r hx kk
  obtain ⟨x, rfl, hk⟩ := hx.one
  exact ⟨x, d, pd, _, rfl, akD_of e hk, hs, kk _ _ _ _ q ⟨r, .str _⟩ .refl trivial⟩
/-- == and != of data -/
def rEqP (K : PySem.W.Frag) (g : Bool → Bool) : R2 := fun x y H Q => ∃ d e pd pe ex, Rp K H ex x d ∧ Rp K H ex y e ∧ d.py = some pd ∧ e.py = some pe ∧ SeqAt.shaped pd = true ∧ SeqAt.shaped pe = true ∧ Q (.bl (g (PyData.eqv pd pe))) H
theorem op_eqP {X : Cx} (hu : X.A.units + 64 < cLine) : OpR X (compareOp .Eq) (rEqP X.K id) := by
  intro pins s σ H x y v u Q I rx ry h; obtain ⟨d, e, pd, pe, ex, hd, he, p1, p2, sd, se, q⟩ := h
  obtain ⟨as, r1, _⟩ := Rp.reads I hd rx p1
  obtain ⟨bs, r2, _⟩ := Rp.reads I he ry p2
  exact (SeqAt.compareEq_shaped r1 r2 sd se hu ⟨.bl _, H, I, rfl, q⟩)
theorem op_neP {X : Cx} (hu : X.A.units + 64 < cLine) : OpR X (compareOp .NotEq) (rEqP X.K not) := by
  intro pins s σ H x y v u Q I rx ry h; obtain ⟨d, e, pd, pe, ex, hd, he, p1, p2, sd, se, q⟩ := h
  obtain ⟨as, r1, _⟩ := Rp.reads I hd rx p1
  obtain ⟨bs, r2, _⟩ := Rp.reads I he ry p2
  exact (SeqAt.compareNe_shaped r1 r2 sd se hu ⟨.bl _, H, I, rfl, q⟩)
def akDL (Γ : List AV) (k : AK) : Option Dt := (akD Γ k).or ((akL Γ k).map .lst)
theorem akDL_of {K : PySem.W.Frag} [Tb K] {H : Hp} {σ : Sg} {x : V} {k : AK} {d : Dt} (e : akDL Γ k = some d) (r : RS K S no Γ σ H) (q : RpK K H (Exc S Γ σ no) σ x k) : Rp K H no x d := by
  unfold akDL at e
  cases h : akD Γ k with
  | some d' =>
    rw [h] at e
    cases e
    exact (akD_of h q).sub fun _ z => z.elim
  | none =>
    rw [h] at e
    rcases k with (_ | d' | es | _ | _) | i
    · cases e
    · cases h
    · cases h
    · cases e
    · cases e
    · have e' : ((match Γ[i]? with | some (AV.own (.l ds)) => some ds | _ => none).map Dt.lst) = some d := e
      split at e'
      · rename_i es g
        cases e'
        obtain ⟨p, _, e1, e2, xs, rfl, q2⟩ := r.slots i _ g
        have q' : σ[i]? = some (some x) := q
        rw [q'] at e1
        cases e1
        exact .lst e2 id (q2.sub fun _ z => z.elim)
      · cases e'
def EqR (g : Bool → Bool) (Q : AV → List AV → Prop) (k l : AK) (Γ : List AV) : Prop := ∃ d e pd pe, akDL Γ k = some d ∧ akDL Γ l = some e ∧ d.py = some pd ∧ e.py = some pe ∧ (SeqAt.shaped pd = true ∧ SeqAt.shaped pe = true) ∧ Q (.dt (.bl (g (PyData.eqv pd pe)))) Γ
theorem ed_eq (hu : c.A.units + 64 < cLine) (h : EK c v S a Γ fun k Γ1 => EK c v S b Γ1 fun l Γ2 => EqR id Q k l Γ2) : ED c v S (.Compare a [.Eq] [b] pos) Γ Q := fun σ H R r kk =>
  ⟨_, fun i => pe_cmpR (show OpR (mkX c (v i)) (compareOp .Eq) (rEqP c.K id) from op_eqP hu) (wE.pe i) (wE.pe i) (nomark _), EK.two h r fun x y H' k l Γ' ⟨d, e, pd, pe, e1, e2, p1, p2, ⟨s1, s2⟩, q⟩ r' hk hl s =>
    ⟨d, e, pd, pe, _, akDL_of e1 r' hk, akDL_of e2 r' hl, p1, p2, s1, s2, kk _ _ _ _ q ⟨r', .bl _⟩ s trivial⟩⟩
theorem ed_ne (hu : c.A.units + 64 < cLine) (h : EK c v S a Γ fun k Γ1 => EK c v S b Γ1 fun l Γ2 => EqR not Q k l Γ2) : ED c v S (.Compare a [.NotEq] [b] pos) Γ Q := fun σ H R r kk =>
  ⟨_, fun i => pe_cmpR (show OpR (mkX c (v i)) (compareOp .NotEq) (rEqP c.K not) from op_neP hu) (wE.pe i) (wE.pe i) (nomark _), EK.two h r fun x y H' k l Γ' ⟨d, e, pd, pe, e1, e2, p1, p2, ⟨s1, s2⟩, q⟩ r' hk hl s =>
    ⟨d, e, pd, pe, _, akDL_of e1 r' hk, akDL_of e2 r' hl, p1, p2, s1, s2, kk _ _ _ _ q ⟨r', .bl _⟩ s trivial⟩⟩
end
end DL

namespace DL
open PySem PySem.Spec
open PyProof.Rows L2
section
variable {c : Core} [Tb c.K] {ι : Type} {v : ι → Var} {S : Ent} {Γ : List AV} {Q : Bool → List AV → Prop} {e a b : Expr} {es : List Expr} {pos : Pos}
def CmpT (g : Int → Int → Bool) (Q : Bool → List AV → Prop) (k l : AK) (Γ : List AV) : Prop := ∃ i j, akD Γ k = some (.int i) ∧ akD Γ l = some (.int j) ∧ Q (g i j) Γ
theorem td_cmp {op : CmpOp} {g : Int → Int → Bool} (ho : ∀ i, OpR (mkX c (v i)) (compareOp op) (rI0 fun i j => .bl (g i j))) (hm : behindInMarks op b = false) (h : EK c v S a Γ fun k Γ1 => EK c v S b Γ1 fun l Γ2 => CmpT g Q k l Γ2) : TD c v S (.Compare a [op] [b] pos) Γ Q := fun σ H R r kk =>
  ⟨_, fun i => pt_cmpR (ho i) (wE.pe i) (wE.pe i) hm, EK.two h r fun x y H' k l Γ' ⟨i, j, e1, e2, q⟩ r' hk hl s => by
    cases akD_of e1 hk
    cases akD_of e2 hl
    exact ⟨i, j, rfl, rfl, _, rfl, kk _ _ _ q r' s⟩⟩
theorem td_lt (h : EK c v S a Γ fun k Γ1 => EK c v S b Γ1 fun l Γ2 => CmpT (fun i j => decide (i < j)) Q k l Γ2) : TD c v S (.Compare a [.Lt] [b] pos) Γ Q := td_cmp (fun _ => op_lt) (nomark _) h
theorem td_le (h : EK c v S a Γ fun k Γ1 => EK c v S b Γ1 fun l Γ2 => CmpT (fun i j => decide (i ≤ j)) Q k l Γ2) : TD c v S (.Compare a [.LtE] [b] pos) Γ Q := td_cmp (fun _ => op_le) (nomark _) h
theorem td_gt (h : EK c v S a Γ fun k Γ1 => EK c v S b Γ1 fun l Γ2 => CmpT (fun i j => decide (j < i)) Q k l Γ2) : TD c v S (.Compare a [.Gt] [b] pos) Γ Q := td_cmp (fun _ => op_gt) (nomark _) h
theorem td_ge (h : EK c v S a Γ fun k Γ1 => EK c v S b Γ1 fun l Γ2 => CmpT (fun i j => decide (j ≤ i)) Q k l Γ2) : TD c v S (.Compare a [.GtE] [b] pos) Γ Q := td_cmp (fun _ => op_ge) (nomark _) h
def EqT (g : Bool → Bool) (Q : Bool → List AV → Prop) (k l : AK) (Γ : List AV) : Prop := ∃ d e pd pe, akDL Γ k = some d ∧ akDL Γ l = some e ∧ d.py = some pd ∧ e.py = some pe ∧ (SeqAt.shaped pd = true ∧ SeqAt.shaped pe = true) ∧ Q (g (PyData.eqv pd pe)) Γ
theorem td_eq (hu : c.A.units + 64 < cLine) (h : EK c v S a Γ fun k Γ1 => EK c v S b Γ1 fun l Γ2 => EqT id Q k l Γ2) : TD c v S (.Compare a [.Eq] [b] pos) Γ Q := fun σ H R r kk =>
  ⟨_, fun i => pt_cmpR (show OpR (mkX c (v i)) (compareOp .Eq) (rEqP c.K id) from op_eqP hu) (wE.pe i) (wE.pe i) (nomark _), EK.two h r fun x y H' k l Γ' ⟨d, e, pd, pe, e1, e2, p1, p2, ⟨s1, s2⟩, q⟩ r' hk hl s =>
    ⟨d, e, pd, pe, _, akDL_of e1 r' hk, akDL_of e2 r' hl, p1, p2, s1, s2, _, rfl, kk _ _ _ q r' s⟩⟩
theorem td_ne (hu : c.A.units + 64 < cLine) (h : EK c v S a Γ fun k Γ1 => EK c v S b Γ1 fun l Γ2 => EqT not Q k l Γ2) : TD c v S (.Compare a [.NotEq] [b] pos) Γ Q := fun σ H R r kk =>
  ⟨_, fun i => pt_cmpR (show OpR (mkX c (v i)) (compareOp .NotEq) (rEqP c.K not) from op_neP hu) (wE.pe i) (wE.pe i) (nomark _), EK.two h r fun x y H' k l Γ' ⟨d, e, pd, pe, e1, e2, p1, p2, ⟨s1, s2⟩, q⟩ r' hk hl s =>
    ⟨d, e, pd, pe, _, akDL_of e1 r' hk, akDL_of e2 r' hl, p1, p2, s1, s2, _, rfl, kk _ _ _ q r' s⟩⟩
/-- == and != of ints -/
theorem td_eqI (h : EK c v S a Γ fun k Γ1 => EK c v S b Γ1 fun l Γ2 => CmpT (fun i j => decide (i = j)) Q k l Γ2) : TD c v S (.Compare a [.Eq] [b] pos) Γ Q := td_cmp (fun _ => fun pins s σ H x y v u Q I rx ry ⟨i, j, e1, e2, q⟩ => by
  subst e1 e2
  refine op_eq pins s σ H _ _ v u Q I rx ry ⟨rfl, ?_⟩
  have : decide (V.int i = V.int j) = decide (i = j) := by
    by_cases h : i = j
    · rw [h, decide_eq_true rfl, decide_eq_true rfl]
    · rw [decide_eq_false h, decide_eq_false fun z => h (V.int.inj z)]
  rw [this]
  exact q) (nomark _) h
theorem td_neI (h : EK c v S a Γ fun k Γ1 => EK c v S b Γ1 fun l Γ2 => CmpT (fun i j => !decide (i = j)) Q k l Γ2) : TD c v S (.Compare a [.NotEq] [b] pos) Γ Q := td_cmp (fun _ => fun pins s σ H x y v u Q I rx ry ⟨i, j, e1, e2, q⟩ => by
  subst e1 e2
  refine op_ne pins s σ H _ _ v u Q I rx ry ⟨rfl, ?_⟩
  have : decide (V.int i = V.int j) = decide (i = j) := by
    by_cases h : i = j
    · rw [h, decide_eq_true rfl, decide_eq_true rfl]
    · rw [decide_eq_false h, decide_eq_false fun z => h (V.int.inj z)]
  rw [this]
  exact q) (nomark _) h
theorem td_isN {k : Nat} {pn : Pos} (h : ED c v S a Γ fun x Γ' => ∃ d t, akD Γ' (.d x) = some d ∧ d.isNon = some t ∧ Q t Γ') : TD c v S (.Compare a [.Is] [.Constant .none k pn] pos) Γ Q := fun σ H R r kk =>
  ⟨_, fun i => pt_cmp (pc_isN (wE.pe i)) rfl, h σ H _ r fun x H' u Γ' ⟨d, t, e1, e2, q⟩ hr s _ => by
    have z := akD_of (σ := σ) e1 hr.rpa
    have : decide (x = .non) = t := by
      cases z <;> cases e2 <;> rfl
    exact ⟨_, rfl, by rw [this]; exact kk _ _ _ q hr.rs s⟩⟩
theorem td_notN {k : Nat} {pn : Pos} (h : ED c v S a Γ fun x Γ' => ∃ d t, akD Γ' (.d x) = some d ∧ d.isNon = some t ∧ Q (!t) Γ') : TD c v S (.Compare a [.IsNot] [.Constant .none k pn] pos) Γ Q := fun σ H R r kk =>
  ⟨_, fun i => pt_cmp (pc_notN (wE.pe i)) rfl, h σ H _ r fun x H' u Γ' ⟨d, t, e1, e2, q⟩ hr s _ => by
    have z := akD_of (σ := σ) e1 hr.rpa
    have : decide (x = .non) = t := by
      cases z <;> cases e2 <;> rfl
    exact ⟨_, rfl, by rw [this]; exact kk _ _ _ q hr.rs s⟩⟩
end
end DL

namespace DL
open PySem PySem.Spec
open PyProof.Rows L2

/-! ### leaves as terms -/
section
variable {Γ : List AV} {Q : AV → List AV → Prop} {QB : Bool → List AV → Prop} {k l : AK} {i j : Int} {ds es : List Dt} {d e : Dt}
theorem AddR.int (h1 : akD Γ k = some (.int i)) (h2 : akD Γ l = some (.int j)) (q : Q (.dt (.int (i + j))) Γ) : AddR Q k l Γ := .inl ⟨i, j, h1, h2, q⟩
theorem AddR.tup (h1 : akT Γ k = some ds) (h2 : akT Γ l = some es) (h3 : ds.length + es.length ≤ 1000) (q : Q (.dt (.tup (ds ++ es))) Γ) : AddR Q k l Γ := .inr (.inl ⟨ds, es, h1, h2, h3, q⟩)
theorem AddR.lst (h1 : akL Γ k = some ds) (h2 : akL Γ l = some es) (n1 : noScr k = true) (n2 : noScr l = true) (h3 : ds.length + es.length ≤ 1000000) (q : Q (.ow (ds ++ es)) Γ) : AddR Q k l Γ := .inr (.inr (.inl ⟨ds, es, h1, h2, n1, n2, h3, q⟩))
theorem AddR.str {x y : Str} (h1 : akD Γ k = some (.str x)) (h2 : akD Γ l = some (.str y)) (h3 : x.length + y.length ≤ 1000000) (q : Q (.dt (.str (x ++ y))) Γ) : AddR Q k l Γ := .inr (.inr (.inr ⟨x, y, h1, h2, h3, q⟩))
theorem MulR.int (h1 : akD Γ k = some (.int i)) (h2 : akD Γ l = some (.int j)) (h3 : CMulW i j) (q : Q (.dt (.int (i * j))) Γ) : MulR Q k l Γ := .inl ⟨i, j, h1, h2, h3, q⟩
theorem MulR.rep (h1 : akL Γ k = some ds) (n1 : noScr k = true) (h2 : akD Γ l = some (.int j)) (h3 : -1000000 ≤ j ∧ j ≤ 1000000 ∧ ds.length * j.toNat ≤ 1000000) (q : Q (.ow (List.replicate j.toNat ds).flatten) Γ) : MulR Q k l Γ := .inr ⟨ds, j, h1, n1, h2, h3, q⟩
theorem IntR.mk {C : Int → Int → Prop} {g : Int → Int → Int} (h1 : akD Γ k = some (.int i)) (h2 : akD Γ l = some (.int j)) (h3 : C i j) (q : Q (.dt (.int (g i j))) Γ) : IntR C g Q k l Γ := ⟨i, j, h1, h2, h3, q⟩
theorem CmpR.mk {g : Int → Int → Bool} (h1 : akD Γ k = some (.int i)) (h2 : akD Γ l = some (.int j)) (q : Q (.dt (.bl (g i j))) Γ) : CmpR g Q k l Γ := ⟨i, j, h1, h2, q⟩
theorem CmpT.mk {g : Int → Int → Bool} (h1 : akD Γ k = some (.int i)) (h2 : akD Γ l = some (.int j)) (q : QB (g i j) Γ) : CmpT g QB k l Γ := ⟨i, j, h1, h2, q⟩
theorem EqR.mk {g : Bool → Bool} {pd pe : PyData} (h1 : akDL Γ k = some d) (h2 : akDL Γ l = some e) (p1 : d.py = some pd) (p2 : e.py = some pe) (s : SeqAt.shaped pd = true ∧ SeqAt.shaped pe = true) (q : Q (.dt (.bl (g (PyData.eqv pd pe)))) Γ) : EqR g Q k l Γ := ⟨d, e, pd, pe, h1, h2, p1, p2, s, q⟩
theorem EqT.mk {g : Bool → Bool} {pd pe : PyData} (h1 : akDL Γ k = some d) (h2 : akDL Γ l = some e) (p1 : d.py = some pd) (p2 : e.py = some pe) (s : SeqAt.shaped pd = true ∧ SeqAt.shaped pe = true) (q : QB (g (PyData.eqv pd pe)) Γ) : EqT g QB k l Γ := ⟨d, e, pd, pe, h1, h2, p1, p2, s, q⟩
/-- what a subscript gives -/
def IxD (Q : AV → List AV → Prop) (k l : AK) (Γ : List AV) : Prop := ∃ ds i d, akS Γ k = some ds ∧ akD Γ l = some (.int i) ∧ atI ds i = some d ∧ Q (.dt d) Γ
theorem IxD.mk (h1 : akS Γ k = some ds) (h2 : akD Γ l = some (.int i)) (h3 : atI ds i = some d) (q : Q (.dt d) Γ) : IxD Q k l Γ := ⟨ds, i, d, h1, h2, h3, q⟩
theorem lt1 {a b : Nat} (h : Nat.ble (a + 1) b = true) : a < b := Nat.le_of_ble_eq_true h
theorem le1 {a b : Nat} (h : Nat.ble a b = true) : a ≤ b := Nat.le_of_ble_eq_true h
theorem nl {as : List AV} {vs : List V} {i : Nat} (h : (match as[i]? with | some (AV.own _) => false | _ => true) = true) : ∀ p, (i, p) ∉ lentOf as vs := no_lent fun ds e => by
  rw [e] at h
  cases h
end

/-! ### built-ins by name -/
section
variable {c : Core} [Tb c.K] {ι : Type} {v : ι → Var} {S : Ent} {Γ : List AV} {Q : AV → List AV → Prop} {QK : AK → List AV → Prop} {e a b : Expr} {es : List Expr} {pos p p2 : Pos}
theorem ea1 (hs : NoStar v a []) {QA : List AK → List AV → Prop} (h : EK c v S a Γ fun k Γ1 => QA [k] Γ1) : EA c v S [a] Γ QA := ea_cons hs fun σ H R r kk => h σ H R r fun x H' k Γ' q => kk x H' k Γ' (ea_nil q)
theorem ea2 (hs : NoStar v a [b]) (hs2 : NoStar v b []) {QA : List AK → List AV → Prop} (h : EK c v S a Γ fun k Γ1 => EK c v S b Γ1 fun l Γ2 => QA [k, l] Γ2) : EA c v S [a, b] Γ QA := ea_cons hs fun σ H R r kk => h σ H R r fun x H' k Γ' q => kk x H' k Γ' (ea1 hs2 q)
theorem ed_len (hg : ∀ i, Gl (mkX c (v i)) "len") (hm : c.mg "len" = none) (he : NoStar v a []) (h : EK c v S a Γ fun k Γ1 => ∃ ds, akS Γ1 k = some ds ∧ Q (.dt (.int ds.length)) Γ1) : ED c v S (.Call (.Name "len" p) [a] [] pos) Γ Q :=
  ed_callB (fun _ => call_len_seq) cb_len hg hm PySem.boot_len (by decide) (by decide) he (fun _ => rfl) (ea1 he fun σ H R r kk => h σ H R r fun x H' k Γ' ⟨ds, e, q⟩ => kk x H' k Γ' ⟨k, ds, rfl, e, q⟩)
theorem ed_abs (hg : ∀ i, Gl (mkX c (v i)) "abs") (hm : c.mg "abs" = none) (he : NoStar v a []) (h : EK c v S a Γ fun k Γ1 => ∃ i, akD Γ1 k = some (.int i) ∧ Q (.dt (.int (if i < 0 then -i else i))) Γ1) : ED c v S (.Call (.Name "abs" p) [a] [] pos) Γ Q :=
  ed_callB (fun _ => call_abs) cb_abs hg hm (by decide +kernel) (by decide) (by decide) he (fun _ => rfl) (ea1 he fun σ H R r kk => h σ H R r fun x H' k Γ' ⟨i, e, q⟩ => kk x H' k Γ' ⟨k, i, rfl, e, q⟩)
theorem ed_max2 (hg : ∀ i, Gl (mkX c (v i)) "max") (hm : c.mg "max" = none) (he : NoStar v a [b]) (he2 : NoStar v b []) (hp : NoStarL v pos [b]) (h : EK c v S a Γ fun k Γ1 => EK c v S b Γ1 fun l Γ2 => ∃ i j, akD Γ2 k = some (.int i) ∧ akD Γ2 l = some (.int j) ∧ Q (.dt (.int (if j > i then j else i))) Γ2) (still : c.calm = true := by rfl) : ED c v S (.Call (.Name "max" p) [a, b] [] pos) Γ Q :=
  ed_callB (fun _ => call_max2 still) cb_int2 hg hm (by decide +kernel) (by decide) (by decide) he hp (ea2 he he2 fun σ H R r kk => h σ H R r fun x H' k Γ' q => kk x H' k Γ' fun σ H R r kk => q σ H R r fun y H2 l Γ2 ⟨i, j, e1, e2, q⟩ => kk y H2 l Γ2 ⟨k, l, i, j, rfl, e1, e2, q⟩)
theorem ed_min2 (hg : ∀ i, Gl (mkX c (v i)) "min") (hm : c.mg "min" = none) (he : NoStar v a [b]) (he2 : NoStar v b []) (hp : NoStarL v pos [b]) (h : EK c v S a Γ fun k Γ1 => EK c v S b Γ1 fun l Γ2 => ∃ i j, akD Γ2 k = some (.int i) ∧ akD Γ2 l = some (.int j) ∧ Q (.dt (.int (if j < i then j else i))) Γ2) (still : c.calm = true := by rfl) : ED c v S (.Call (.Name "min" p) [a, b] [] pos) Γ Q :=
  ed_callB (fun _ => call_min2 still) cb_int2 hg hm (by decide +kernel) (by decide) (by decide) he hp (ea2 he he2 fun σ H R r kk => h σ H R r fun x H' k Γ' q => kk x H' k Γ' fun σ H R r kk => q σ H R r fun y H2 l Γ2 ⟨i, j, e1, e2, q⟩ => kk y H2 l Γ2 ⟨k, l, i, j, rfl, e1, e2, q⟩)
theorem ed_minL (hg : ∀ i, Gl (mkX c (v i)) "min") (hm : c.mg "min" = none) (he : NoStar v a []) (h : EK c v S a Γ fun k Γ1 => ∃ ns : List Int, akL Γ1 k = some (ns.map .int) ∧ 0 < ns.length ∧ ∀ m, m ∈ ns → (∀ y, y ∈ ns → m ≤ y) → Q (.dt (.int m)) Γ1) (still : c.calm = true := by rfl) : ED c v S (.Call (.Name "min" p) [a] [] pos) Γ Q :=
  ed_callB (fun i => (show CallR (mkX c (v i)) (.builtin "min") (rMin c.K) from cr_min still)) cb_min hg hm (by decide +kernel) (by decide) (by decide) he (fun _ => rfl) (ea1 he fun σ H R r kk => h σ H R r fun x H' k Γ' ⟨ns, e, h0, q⟩ => kk x H' k Γ' ⟨k, ns, rfl, e, h0, q⟩)
theorem ed_intB (hg : ∀ i, Gl (mkX c (v i)) "int") (hm : c.mg "int" = none) (he : NoStar v a []) (h : EK c v S a Γ fun k Γ1 => ∃ b, akD Γ1 k = some (.bl b) ∧ Q (.dt (.int (if b then 1 else 0))) Γ1) : ED c v S (.Call (.Name "int" p) [a] [] pos) Γ Q :=
  ed_callTy (fun _ => call_int1) cb_int hg hm (by decide +kernel) (by decide) (by decide) he (fun _ => rfl) (ea1 he fun σ H R r kk => h σ H R r fun x H' k Γ' ⟨b, e, q⟩ => kk x H' k Γ' ⟨k, rfl, .inr ⟨b, e, q⟩⟩)
theorem ed_tuple (hg : ∀ i, Gl (mkX c (v i)) "tuple") (hm : c.mg "tuple" = none) (he : NoStar v a []) (h : EK c v S a Γ fun k Γ1 => ∃ ds, akS Γ1 k = some ds ∧ Q (.dt (.tup ds)) Γ1) : ED c v S (.Call (.Name "tuple" p) [a] [] pos) Γ Q :=
  ed_callTy (fun i => (show CallR (mkX c (v i)) (.type "tuple") (fun xs H Q => ∃ p ys, xs = [.ref p] ∧ ((SqL c.K H p ys ∧ ∀ l, H l = none → Q (.ref l) (upd H l (.tup ys))) ∨ (SqT c.K H p ys ∧ Q (.ref p) H))) from call_tuple_of)) cb_tup hg hm (by decide +kernel) (by decide) (by decide) he (fun _ => rfl) (ea1 he fun σ H R r kk => h σ H R r fun x H' k Γ' ⟨ds, e, q⟩ => kk x H' k Γ' ⟨k, ds, rfl, e, q⟩)
theorem ed_list (hg : ∀ i, Gl (mkX c (v i)) "list") (hm : c.mg "list" = none) (he : NoStar v a []) (h : EK c v S a Γ fun k Γ1 => ∃ ds, akS Γ1 k = some ds ∧ Q (.ow ds) Γ1) : ED c v S (.Call (.Name "list" p) [a] [] pos) Γ Q :=
  ed_callTy (fun i => (show CallR (mkX c (v i)) (.type "list") (fun xs H Q => ∃ p ys, xs = [.ref p] ∧ (SqL c.K H p ys ∨ SqT c.K H p ys) ∧ ∀ l, H l = none → Q (.ref l) (upd H l (.lst ys))) from call_list_of)) cb_list hg hm (by decide +kernel) (by decide) (by decide) he (fun _ => rfl) (ea1 he fun σ H R r kk => h σ H R r fun x H' k Γ' ⟨ds, e, q⟩ => kk x H' k Γ' ⟨k, ds, rfl, e, q⟩)
theorem ed_sorted (hg : ∀ i, Gl (mkX c (v i)) "sorted") (hm : c.mg "sorted" = none) (he : NoStar v a []) (h : EK c v S a Γ fun k Γ1 => ∃ ns : List Int, akL Γ1 k = some (ns.map .int) ∧ ns.length < 64 ∧ ∀ ns' : List Int, ns'.Perm ns → ns'.Pairwise (· ≤ ·) → Q (.ow (ns'.map .int)) Γ1) : ED c v S (.Call (.Name "sorted" p) [a] [] pos) Γ Q :=
  ed_callB (fun i => (show CallR (mkX c (v i)) (.builtin "sorted") (rSorted c.K) from cr_sorted)) cb_sorted hg hm (by decide +kernel) (by decide) (by decide) he (fun _ => rfl) (ea1 he fun σ H R r kk => h σ H R r fun x H' k Γ' ⟨ns, e, h0, q⟩ => kk x H' k Γ' ⟨k, ns, rfl, e, h0, q⟩)
theorem ed_all (hg : ∀ i, Gl (mkX c (v i)) "all") (hm : c.mg "all" = none) (he : NoStar v a []) (h : EK c v S a Γ fun k Γ1 => ∃ bs : List Bool, akL Γ1 k = some (bs.map .bl) ∧ Q (.dt (.bl (bs.all fun z => z))) Γ1) (still : c.calm = true := by rfl) : ED c v S (.Call (.Name "all" p) [a] [] pos) Γ Q :=
  ed_callB (fun i => (show CallR (mkX c (v i)) (.builtin "all") (rAll c.K) from cr_all still)) cb_all hg hm (by decide +kernel) (by decide) (by decide) he (fun _ => rfl) (ea1 he fun σ H R r kk => h σ H R r fun x H' k Γ' ⟨bs, e, q⟩ => kk x H' k Γ' ⟨k, bs, rfl, e, q⟩)
theorem ed_repr (hgu : c.A.guards = some []) (hu : c.A.units + 64 < cLine) (hg : ∀ i, Gl (mkX c (v i)) "repr") (hm : c.mg "repr" = none) (he : NoStar v a []) (h : EK c v S a Γ fun k Γ1 => ∃ d pd, akD Γ1 k = some d ∧ Shows d pd ∧ Q (.dt (.str pd.shown)) Γ1) : ED c v S (.Call (.Name "repr" p) [a] [] pos) Γ Q :=
  ed_callB (fun i => (show CallR (mkX c (v i)) (.builtin "repr") (rRepr c.K) from call_reprD hgu hu)) cb_repr hg hm (by decide +kernel) (by decide) (by decide) he (fun _ => rfl) (ea1 he fun σ H R r kk => h σ H R r fun x H' k Γ' ⟨d, pd, e, hs, q⟩ => kk x H' k Γ' ⟨k, d, pd, rfl, e, hs, q⟩)
/-- isinstance(a, T), T a built-in class -/
theorem ed_isT {T : Str} {u : String} (hg : ∀ i, Gl (mkX c (v i)) "isinstance") (hm : c.mg "isinstance" = none) (hgT : ∀ i, Gl (mkX c (v i)) T) (hmT : c.mg T = none) (hT : bootBuiltins T = some (.type u)) (hnT : T ≠ "__name__") (hdT : (T == ("__debug__" : Str)) = false) (he : NoStar v a [.Name T p2]) (he2 : NoStar v (.Name T p2) []) (hp : NoStarL v pos [.Name T p2])
    (h : EK c v S a Γ fun k Γ1 => ∃ d t b, akD Γ1 k = some d ∧ d.ty = some t ∧ kitB t u = some b ∧ Q (.dt (.bl b)) Γ1) : ED c v S (.Call (.Name "isinstance" p) [a, .Name T p2] [] pos) Γ Q :=
  ed_callB (fun i => (show CallR (mkX c (v i)) (.builtin "isinstance") (rIsi c.K) from call_isi)) cb_is hg hm (by decide +kernel) (by decide) (by decide) he hp (ea2 he he2 fun σ H R r kk => h σ H R r fun x H' k Γ' ⟨d, t, b, e1, e2, e3, q⟩ => kk x H' k Γ' (ek_type hgT hmT hT hnT hdT ⟨k, d, b, t, u, rfl, e1, e2, e3, q⟩))
theorem ed_ixD (hb : PlainIx b) (h : EK c v S a Γ fun k Γ1 => EK c v S b Γ1 fun l Γ2 => IxD Q k l Γ2) : ED c v S (.Subscript a b pos) Γ Q := ed_ix hb h
theorem dec_V {i j : Int} : decide (V.int i = V.int j) = decide (i = j) := by
  by_cases h : i = j
  · rw [h, decide_eq_true rfl, decide_eq_true rfl]
  · rw [decide_eq_false h, decide_eq_false fun z => h (V.int.inj z)]
theorem ed_eqI (h : EK c v S a Γ fun k Γ1 => EK c v S b Γ1 fun l Γ2 => CmpR (fun i j => decide (i = j)) Q k l Γ2) : ED c v S (.Compare a [.Eq] [b] pos) Γ Q := ed_cmp (fun _ => fun pins s σ H x y v u Q I rx ry ⟨i, j, e1, e2, q⟩ => by
  subst e1 e2
  exact op_eq pins s σ H _ _ v u Q I rx ry ⟨rfl, by rw [dec_V]; exact q⟩) (nomark _) h
theorem ed_neI (h : EK c v S a Γ fun k Γ1 => EK c v S b Γ1 fun l Γ2 => CmpR (fun i j => !decide (i = j)) Q k l Γ2) : ED c v S (.Compare a [.NotEq] [b] pos) Γ Q := ed_cmp (fun _ => fun pins s σ H x y v u Q I rx ry ⟨i, j, e1, e2, q⟩ => by
  subst e1 e2
  exact op_ne pins s σ H _ _ v u Q I rx ry ⟨rfl, by rw [dec_V]; exact q⟩) (nomark _) h
/-- f(k = v): one keyword -/
theorem pk1 {t : TE} {X : Cx} {n : Str} (h : PE X a t) : PK X [⟨some n, a, p⟩] (tCons t tNil) := pk_cons h pk_nil
theorem ed_callK1 {x : Str} {k : Nat} {f : Addr} {fd : FuncData} {ps ks : List Str} {DS : DSp} {n : Str} {kp : Pos} (F : FnG c.prog c.w c.K c.mg c.base k f fd ps (spD c.K DS)) (hr : Room k c.A) (hgu : c.A.guards = some []) (hg : ∀ i, Gl (mkX c (v i)) x) (hm : c.mg x = some (.ref f)) (hk : PySem.W.keepIn c.K (.ref f) = true)
    (hb : KwB c.K fd ps ks) (hdb : (x == ("__debug__" : Str)) = false) (hall : ∀ i, (backToKw pos (keywordEach [⟨some n, a, kp⟩] (v i).env)).all (·.1.isSome) = true) (hks : ∀ i, (backToKw pos (keywordEach [⟨some n, a, kp⟩] (v i).env)).filterMap (·.1) = ks)
    (hpl : ∀ i, ((backTo pos (starEach [] (v i).env)).any (·.1) || (backToKw pos (keywordEach [⟨some n, a, kp⟩] (v i).env)).any (·.1.isNone)) = false)
    (h : EK c v S a Γ fun kk Γ1 => ∃ avs, argsA Γ1 [kk] = some avs ∧ DS avs fun a avs' => avs'.length = avs.length → Q a (backA Γ1 [kk] avs')) : ED c v S (.Call (.Name x p) [] [⟨some n, a, kp⟩] pos) Γ Q := fun σ H R r kk => by
  refine ⟨_, fun i => (pe_callGK (X := mkX c (v i)) F hr hgu (hg i) hm hk hb (pk1 (wE.pe i)) (hall i) (hks i) hdb (hpl i)), ?_⟩
  refine h σ H _ r fun y H1 k1 Γ1 ⟨avs, ea, hD⟩ r1 hx s => ?_
  have hx' : RpKL c.K H1 (Exc S Γ1 σ no) σ [y] [k1] := ⟨hx, trivial⟩
  have ho : lnsOk [k1] = true := by cases k1 <;> rfl
  refine ⟨avs, _, _, hD, call_in r1 hx' ea ho, fun y H2 a as' q hres => ?_⟩
  obtain ⟨z1, z2, z3⟩ := call_out r1 hx' ea ho hres
  exact kk _ _ _ _ (q hres.rs.lenΓ) z1 (s.trans z2) (z3.back s)
end
end DL

/-! enumerate over what stays as it is while it is gone through; over a tuple in the layer -/
namespace DL
open PySem PySem.Spec
open PyProof.Rows L2

section
variable {prog : Program}
variable {w : World}
variable {A : Around}
variable {s : Shared} {E : Value → Shared → Prop}
/-- the two cells of enumerate(v): where v's own iterator is, and the counting one behind it -/
theorem enum_begun {v : Value} {o : Obj} {At : Heap → Prop} (B : Begins v o At) (ready : At s.heap) {Q : Value → Shared → Prop}
    (go : ∀ h₂, IsEnum h₂ (s.heap.objs.size + 1) s.heap.objs.size 0 .none ∧ h₂.get? s.heap.objs.size = some o ∧ (∀ b u, s.heap.get? b = some u → h₂.get? b = some u) → Q (.ref (s.heap.objs.size + 1)) { s with heap := h₂ }) :
    wpAny (model prog w) A (call (.type "enumerate") [v]) Q E s := by
  have made : Meets (Builtin.«enumerate.__new__» ⟨[.type "enumerate", v], []⟩) fun _ R s => At s.heap ∧ R (.ok (.ret (.ref (s.heap.push o).objs.size)))
      { s with heap := (s.heap.push o).push { cls := .type "enumerate", data := .fields #[.none, .bool false, .ref s.heap.objs.size, rawInt 0, .none, .none] } } := .of_wp fun prog w A R s ⟨at0, fin⟩ => by
    obtain ⟨heap, gens, dt, toks, os⟩ := s
    have sub := sub_enumerate
    have first : ∀ {A' : Around} {E Q : Value → Shared → Prop}, Q (.ref heap.objs.size) ⟨heap.push o, gens, dt, toks, os⟩ → wpAny (model prog w) A' (pyIter v) Q E ⟨heap, gens, dt, toks, os⟩ := fun q => B.iter prog w _ _ ⟨heap, gens, dt, toks, os⟩ _ at0 q
    wp_walk using first
    refine wpAny_stack_any fun _ => wpAny_pure ?_
    split
    · rename_i cls _ _ _ _ _
      by_cases z : (cls == Value.type "enumerate") = true
      · rw [z]
        wp_walk using first
        exact ⟨_, rfl, fin⟩
      · rw [Bool.not_eq_true] at z
        rw [z]
        wp_walk using first
        exact ⟨_, rfl, fin⟩
    · wp_walk using first
      exact ⟨_, rfl, fin⟩
  refine callType_new F.called_enumerate (by decide) (F.typeCall_enumerate_1 _) (F.newCall_enumerate_1 _) (fun _ => F.args_object_init_2 _ _) F.entry_enumerate_new made ⟨ready, ?_⟩
  have one : (s.heap.push o).objs.size = s.heap.objs.size + 1 := Heap.size_push ..
  have cell := Heap.get?_push_size (s.heap.push o) (o := { cls := .type "enumerate", data := .fields #[.none, .bool false, .ref s.heap.objs.size, rawInt 0, .none, .none] }) rfl
  rw [one] at cell
  rw [one]
  exact ⟨⟨_, cell, rfl⟩, go _ ⟨cell, Heap.get?_push_of_some _ (Heap.get?_push_size _ B.free), fun _ _ z => Heap.get?_push_of_some _ (Heap.get?_push_of_some _ z)⟩⟩
end
/-- the tuple at a, of m items, as it stands at each turn, each item in a new pair -/
def IteT (K : PySem.W.Frag) (a : Addr) (m : Nat) : It where
  go i H := ∃ ys : List V, SqT K H a ys ∧ ys.length = m ∧ i < m
  yld i H v H' := ∃ (T : Addr) (y : V), v = .ref T ∧ H T = none ∧ H' = upd H T (.tup [.int (i : Nat), y]) ∧ ∀ ys, SqT K H a ys → ys[i]? = some y
  stop i H := ∃ ys : List V, SqT K H a ys ∧ ys.length = m ∧ m ≤ i
/-- the counting cell at e, with the tuple's own iterator at it, ahead of the i-th item -/
structure CountsT (a e it : Addr) (m i : Nat) (h : Heap) : Prop where
  counts : ∃ old, IsEnum h e it ((i : Nat) : Int) old
  inner : h.IsTupleIter it a i
  two : e ≠ it
  most : i ≤ m
theorem CountsT.apart {a e it : Addr} {m i : Nat} {h : Heap} {items : Array Value} (C : CountsT a e it m i h) (t : h.IsTuple a items) : a ≠ e ∧ a ≠ it := by
  obtain ⟨o, at_a, cls_a, _⟩ := t
  constructor <;> intro z <;> subst z
  · obtain ⟨_, at_e⟩ := C.counts
    cases at_a.symm.trans at_e
    exact nomatch (show Value.type "enumerate" = Value.type "tuple" from cls_a)
  · obtain ⟨o', at_i, cls_i, _⟩ := C.inner
    cases at_a.symm.trans at_i
    exact absurd (Value.type.inj (cls_i.symm.trans cls_a)) (by decide)
theorem CountsT.below {a e it : Addr} {m i : Nat} {h : Heap} (C : CountsT a e it m i h) : e < h.objs.size ∧ it < h.objs.size :=
  ⟨C.counts.elim fun _ z => Heap.lt_size z, C.inner.elim fun _ z => Heap.lt_size z.1⟩
theorem turn_enumT {P : Program} {w : World} {K : PySem.W.Frag} {elts : List Expr} {kk : Nat} {tpos : Pos} (a e it : Addr) (m : Nat) : Turn P w K (.Tuple elts kk tpos) (IteT K a m) [e, it] e (CountsT a e it m) where
  mem := List.mem_cons_self ..
  obj := fun i h C b hb => by
    obtain ⟨_, z⟩ := C.counts
    obtain ⟨o, z', _, shape⟩ := C.inner
    rcases (List.mem_cons.mp hb).imp_right List.mem_singleton.mp with rfl | rfl
    · exact ⟨_, z, fun _ no => nomatch no⟩
    · exact ⟨o, z', fun _ no => nomatch shape.symm.trans no⟩
  keep := fun i h h' C same => by
    obtain ⟨old, z⟩ := C.counts
    exact ⟨⟨old, same e (by simp) _ z⟩, C.inner.at fun o y => same it (by simp) o y, C.two, C.most⟩
  item := fun X eP ew eK calm i pins s σ H E I free C go => by
    subst eP ew eK
    obtain ⟨ys, at_ys, many, lt⟩ := go
    obtain ⟨items, related, T0, _⟩ := I.tuple at_ys
    have T1 : s.heap.IsTuple a items.toArray := T0
    have size : items.toArray.size = m := by rw [List.size_toArray, ← related.length, many]
    obtain ⟨not_e, not_it⟩ := C.apart T1
    obtain ⟨below_e, below_it⟩ := C.below
    obtain ⟨old, now⟩ := C.counts
    have D := Draws.tuple (prog := X.prog) (w := X.w) (A := X.A.in1) (I.ok.hd calm) it a not_it items.toArray
    refine wpAny_pyNext_enum_itemD D now ⟨C.inner, T1⟩ (by omega) C.two (by simp [C.two, Ne.symm not_e]) fun u h1 tk isu out st1 pair _ rest => ⟨_, rfl, ?_⟩
    refine wpAny_letOwnedTupleGo_enum (s := { s with heap := h1, toks := tk + 1 }) out fun h2 next same => ?_
    obtain ⟨y, at_y, ry⟩ : ∃ y, ys[i]? = some y ∧ RelV y u := by
      obtain ⟨y, hy⟩ : ∃ y, ys[i]? = some y := ⟨_, List.getElem?_eq_getElem (many.symm ▸ lt)⟩
      obtain ⟨u', hu', ru⟩ := related.get hy
      rw [List.getElem?_toArray] at isu
      cases hu'.symm.trans isu
      exact ⟨y, hy, ru⟩
    have stays : ∀ b ob, b ∉ [e, it] → s.heap.get? b = some ob → h2.get? b = some ob := fun b ob no z => by
      rw [List.mem_cons, List.mem_singleton, not_or] at no
      exact (same.2 b no.1).trans (rest b ob no.1 no.2 z)
    have fresh : ObjOk X.prog X.w (upd H s.heap.objs.size (.tup [.int (i : Nat), y])) h2 s.heap.objs.size (.tup [.int (i : Nat), y]) :=
      ⟨(by show 2 ≤ sizeLine; decide), [.int i tk, u], .cons ⟨_, rfl⟩ (.cons ry .nil), _, (same.2 _ (Nat.ne_of_gt below_e)).trans pair, rfl, _, rfl⟩
    refine ⟨.ref s.heap.objs.size, _, I.turnedNew (ch := [e, it]) stays free (Nat.le_refl _) fresh, rfl, ⟨_, y, rfl, I.hok.fresh (Nat.le_refl _), rfl, fun zs at_zs => I.tuple_inj at_zs at_ys ▸ at_y⟩, ⟨⟨u, ?_⟩, ?_, C.two, lt⟩, fun b hb => ?_⟩
    · rw [Int.natCast_succ]
      exact next
    · exact st1.1.at fun o z => (same.2 it (Ne.symm C.two)).trans z
    · have young : b < s.heap.objs.size := by
        rcases (List.mem_cons.mp hb).imp_right List.mem_singleton.mp with rfl | rfl
        · exact below_e
        · exact below_it
      rw [upd_ne (Nat.ne_of_lt young)]; exact (free b hb).1
  done := fun X eP ew eK calm i pins s σ H E I free C fin => by
    subst eP ew eK
    obtain ⟨ys, at_ys, many, le⟩ := fin
    obtain ⟨items, related, T0, _⟩ := I.tuple at_ys
    have T1 : s.heap.IsTuple a items.toArray := T0
    obtain ⟨old, now⟩ := C.counts
    have last : i = items.toArray.size := by
      have top := C.most
      rw [List.size_toArray, ← related.length]
      omega
    have D := Draws.tuple (prog := X.prog) (w := X.w) (A := X.A.in1) (I.ok.hd calm) it a (C.apart T1).2 items.toArray
    obtain ⟨f0, f1, f2, f3, f4, f5⟩ := free it (List.mem_cons_of_mem _ (List.mem_singleton.mpr rfl))
    exact wpAny_pyNext_enum_endD D now (last ▸ ⟨C.inner, T1⟩) fun h1 ext => ⟨rfl, I.turned (t' := s.toks) (fun b o no z => ext b o no z) f0 f1 f3 f4 f5⟩
  self := fun A i s Q E C fin => C.counts.elim fun _ z => wpAny_pyIter_enum z fin
def iEnumT (K : PySem.W.Frag) (ta : TA) : TI := fun σ H R => ta σ H fun vs H1 => ∃ a ys, vs = [.ref a] ∧ SqT K H1 a ys ∧ R (IteT K a ys.length) H1
theorem pi_enumT {X : Cx} {a : Expr} {ta : TA} {p pos tpos : Pos} {elts : List Expr} {kk : Nat} (hg : Gl X "enumerate") (hm : X.mg "enumerate" = none) (ha : PA X [a] ta) (hs : starEach [a] X.env = [(false, eval a X.env)]) :
    PI X (.Tuple elts kk tpos) (.Call (.Name "enumerate" p) [a] [] pos) (iEnumT X.K ta) where
  run pins s σ H R I given := by
    refine Call_ (ld_blt I hg hm boot_enumerate (PyProof.Rows.callWith_type1 (thn (ha.run pos pins s σ H _ I given) fun us s1 got => ?_) hs rfl))
    obtain ⟨_, H1, I1, rels, t, ys, rfl, at_ys, fin⟩ := got
    match us, rels with
    | [_], .cons rel .nil =>
      cases rel
      obtain ⟨items, related, T0, _⟩ := I1.tuple at_ys
      refine enum_begun (begins_tuple t items.toArray) T0 fun h1 ⟨cell, inner, keeps⟩ => wpAny_pyIter_enum cell ?_
      refine ⟨s1.heap.objs.size + 1, [s1.heap.objs.size + 1, s1.heap.objs.size], _, _, H1, rfl, I1.kept (t' := s1.toks) keeps, turn_enumT t (s1.heap.objs.size + 1) s1.heap.objs.size ys.length, ⟨⟨.none, cell⟩, ⟨_, inner, rfl, rfl⟩, Nat.succ_ne_self _, Nat.zero_le _⟩, fun b hb => ?_, fin⟩
      have old : s1.heap.objs.size ≤ b := by
        rcases (List.mem_cons.mp hb).imp_right List.mem_singleton.mp with rfl | rfl <;> omega
      exact I1.fpOk old (I1.hok.fresh old)

/-! ### in the layer -/
section
variable {c : Core} [Tb c.K] {ι : Type} {v : ι → Var} {S : Ent}
variable {Γ : List AV} {a : Expr} {es : List Expr} {p pos tpos : Pos} {kk : Nat} {QS : List Dt → List AV → Prop}
/-- (0, d0), (1, d1), .. -/
def enD (ds : List Dt) : List Dt := ds.zipIdx.map fun p => .tup [.int (p.2 : Nat), p.1]
theorem enD_len (ds : List Dt) : (enD ds).length = ds.length := by unfold enD; rw [List.length_map, List.length_zipIdx]
theorem enD_get {ds : List Dt} {j : Nat} {d : Dt} (h : ds[j]? = some d) : (enD ds)[j]? = some (.tup [.int (j : Nat), d]) := by
  unfold enD
  rw [List.getElem?_map, List.getElem?_zipIdx, h]; simp
theorem src_enumT (hg : ∀ i, Gl (mkX c (v i)) "enumerate") (hm : c.mg "enumerate" = none) (hs : ∀ i, starEach [a] (v i).env = [(false, eval a (v i).env)])
    (h : EA c v S [a] Γ fun as Γ1 => ∃ k ds, as = [k] ∧ akT Γ1 k = some ds ∧ QS (enD ds) Γ1) : SrcD c v S (.Tuple es kk tpos) (.Call (.Name "enumerate" p) [a] [] pos) Γ QS := fun σ H R r kc => by
  refine ⟨_, fun i => (show PI (mkX c (v i)) (.Tuple es kk tpos) (.Call (.Name "enumerate" p) [a] [] pos) (iEnumT c.K (wA c v [a])) from pi_enumT (hg i) hm (wA.pa i) (hs i)), ?_⟩
  refine h σ H _ r fun xs H1 as Γ1 ⟨k, ds, e, ek, q⟩ r1 hx s => ?_
  subst e
  obtain ⟨x, rfl, hk⟩ := hx.one
  obtain ⟨b, ys, rfl, hb, hy⟩ := akT_of ek hk
  have nb : ¬ Own Γ1 σ b := r1.not_own hb id
  have stands : ∀ H', (∀ b o, H1 b = some o → NT o → ¬ Own Γ1 σ b → H' b = some o) → SqT c.K H' b ys := fun H' fr => .of (fr _ _ hb trivial nb)
  refine ⟨b, ys, rfl, .of hb, kc _ _ _ _ q r1 s ⟨fun j H' fr hj => ⟨ys, stands H' fr, rfl, ?_⟩, fun j H' fr hj => ⟨ys, stands H' fr, rfl, ?_⟩, fun j H' z H'' fr hj y => ?_⟩⟩
  · rw [hy.len, ← enD_len]; exact hj
  · rw [hy.len, ← enD_len]; exact hj
  · obtain ⟨T, u, rfl, nT, rfl, hu⟩ := y
    obtain ⟨d, ed, hd⟩ := hy.get' (hu ys (stands H' fr))
    exact ⟨_, enD_get ed, .inr ⟨T, _, _, nT, rfl, rfl, rfl, .cons (.int _) (.cons hd .nil)⟩⟩
end
end DL

/-! itertools.combinations, at the library's level -/
namespace Cmb
open PySem PySem.Spec L2
open Sem (wp)

theorem mro_cb : mroOf (.type "itertools.combinations") = pure [.type "itertools.combinations", .type "object"] := by rw [mroOf_type]; kernel_rfl
theorem lookup_cb_new : typeLookup (.type "itertools.combinations") "__new__" = pure (some (.builtin "itertools.combinations.__new__")) := by rw [typeLookup_type, builtinLookup_eq_fast]; kernel_rfl
theorem slot_cb_init : Slot "itertools.combinations" "__init__" "object.__init__" :=
  .of (owner := "object") (n := "__init__") (by rw [typeLookup_type, builtinLookup_eq_fast]; kernel_rfl) (by decide +kernel) (by decide +kernel) (by decide +kernel) (by first | exact .inl (by decide +kernel) | exact .inr (by decide +kernel)) (by rw [isSubtype_type]; kernel_rfl)
theorem sub_cb : isSubtype (.type "itertools.combinations") (.type "itertools.combinations") = pure true := by rw [isSubtype_type]; kernel_rfl
theorem called_cb : TypeCalled "itertools.combinations" "itertools.combinations.__new__" "object.__init__" :=
  ⟨by decide +kernel, by decide +kernel, ⟨_, _, mro_cb⟩, madeBy_type mro_cb lookup_cb_new (by decide +kernel), by decide +kernel, sub_cb, slot_cb_init⟩
theorem typeCall_cb (a b : Value) : checkTypeCall "itertools.combinations" ⟨[a, b], []⟩ = pure () := by kernel_rfl
theorem newCall_cb (a b : Value) : checkBuiltinCall "itertools.combinations.__new__" ⟨[.type "itertools.combinations", a, b], []⟩ = pure () := by kernel_rfl
theorem entry_cb_new : entryFor table "itertools.combinations.__new__" = some Builtin.«itertools.combinations.__new__» := entryFor_of_tree (by kernel_rfl)
theorem slot_cb_iter : Slot "itertools.combinations" "__iter__" "itertools.combinations.__iter__" :=
  .of (owner := "itertools.combinations") (n := "__iter__") (by rw [typeLookup_type, builtinLookup_eq_fast]; kernel_rfl) (by decide +kernel) (by decide +kernel) (by decide +kernel) (by first | exact .inl (by decide +kernel) | exact .inr (by decide +kernel)) sub_cb
theorem slot_cb_next : Slot "itertools.combinations" "__next__" "itertools.combinations.__next__" :=
  .of (owner := "itertools.combinations") (n := "__next__") (by rw [typeLookup_type, builtinLookup_eq_fast]; kernel_rfl) (by decide +kernel) (by decide +kernel) (by decide +kernel) (by first | exact .inl (by decide +kernel) | exact .inr (by decide +kernel)) sub_cb
theorem entry_cb_iter : entryFor table "itertools.combinations.__iter__" = some Builtin.«dict_keyiterator.__iter__» :=
  entryFor_alias (id' := "dict_keyiterator.__iter__") (by kernel_rfl)
    (by first | rfl | decide +kernel | (unfold String.splitOn; simp +decide [String.splitOnAux])) (by decide +kernel) (by kernel_rfl)
theorem entry_cb_next : entryFor table "itertools.combinations.__next__" = some Builtin.«itertools.combinations.__next__» := entryFor_of_tree (by kernel_rfl)
theorem plain_cb_new : plainId "itertools.combinations.__new__" = true := by decide +kernel
theorem noDict_cb : typeHasDict (.type "itertools.combinations") = false := by decide +kernel
theorem owner_cb : Manifest.owners.lookup (String.ofList ['s', 'n', 'o', 'i', 't', 'a', 'n', 'i', 'b', 'm', 'o', 'c', '.', 's', 'l', 'o', 'o', 't', 'r', 'e', 't', 'i'].reverse) = some Manifest.sig_itertools_combinations := by kernel_rfl
theorem args_cb_iter (a : Value) : argsOk "itertools.combinations.__iter__" ⟨[a], []⟩ := by
  unfold argsOk
  rw [signature?_of (id := "itertools.combinations.__iter__") (n := ['_', '_', 'r', 'e', 't', 'i', '_', '_']) (o := ['s', 'n', 'o', 'i', 't', 'a', 'n', 'i', 'b', 'm', 'o', 'c', '.', 's', 'l', 'o', 'o', 't', 'r', 'e', 't', 'i']) (by kernel_rfl) owner_cb]
  kernel_rfl
theorem args_cb_next (a : Value) : argsOk "itertools.combinations.__next__" ⟨[a], []⟩ := by
  unfold argsOk
  rw [signature?_of (id := "itertools.combinations.__next__") (n := ['_', '_', 't', 'x', 'e', 'n', '_', '_']) (o := ['s', 'n', 'o', 'i', 't', 'a', 'n', 'i', 'b', 'm', 'o', 'c', '.', 's', 'l', 'o', 'o', 't', 'r', 'e', 't', 'i']) (by kernel_rfl) owner_cb]
  kernel_rfl

abbrev recF (pool : Value) (st : Int) (last : Value) (idx : List Nat) : Array Value := ([pool, rawInt st, last] ++ idx.map fun i : Nat => rawInt i).toArray
abbrev IsCb (h : Heap) (cm : Addr) (pool : Value) (st : Int) (last : Value) (idx : List Nat) : Prop := h.get? cm = some { cls := .type "itertools.combinations", dict := none, data := .fields (recF pool st last idx), slots := #[] }
section
variable {prog : Program}
variable {w : World}
variable {A : Around}
variable {s : Shared}
variable {E : Value → Shared → Prop}
/-- what collect does with the value v -/
def Coll (prog : Program) (w : World) (A : Around) (s : Shared) (v : Value) (P : List Value → Prop) : Prop :=
  ∀ (E : Value → Shared → Prop) (Q : List Value → Shared → Prop), (∀ (h' : Heap) (tk : Nat) its, (∀ b o, s.heap.get? b = some o → h'.get? b = some o) → P its → Q its { s with heap := h', toks := tk }) → wpAny (model prog w) A (collect v) Q E s
end
section
variable {prog : Program}
variable {w : World}
variable {A : Around}
variable {s : Shared}
variable {E : Value → Shared → Prop}
theorem code_cb_new {v : Value} {t : Tok} {r : Nat} {P : List Value → Prop} {Q₁ : Value → Shared → Prop} (hr : r < 1000) (hC : Coll prog w A.in1 s v P) (hl : ∀ its, P its → its.length ≤ sizeLine)
    (h : ∀ (h' : Heap) (tk : Nat) its, (∀ b o, s.heap.get? b = some o → h'.get? b = some o) → P its →
      Q₁ (.ref (h'.push { cls := .type "tuple", data := .seq its.toArray }).objs.size) { s with heap := (h'.push { cls := .type "tuple", data := .seq its.toArray }).push { cls := .type "itertools.combinations", data := .fields (recF (.ref h'.objs.size) (if r > its.length then 2 else 0) .none (List.range r)) }, toks := tk }) :
    codeAny (model prog w) A (.call (.builtin "itertools.combinations.__new__") ⟨[.type "itertools.combinations", v, .int r t], []⟩) (wants Q₁ E) s := by
  refine codeAny_of_tree ?_
  show wpAny _ A.in1 (do checkBuiltinCall "itertools.combinations.__new__" ⟨[.type "itertools.combinations", v, .int r t], []⟩; again (.builtin "itertools.combinations.__new__" ⟨[.type "itertools.combinations", v, .int r t], []⟩)) _ _ s
  refine wpAny_bind (wpAny_of_eq (newCall_cb _ _) (wpAny_pure ⟨plainId_quiet plain_cb_new _, codeAny_builtin entry_cb_new ?_⟩))
  rw [Around.under_plainId plain_cb_new _]
  have hsub := sub_cb
  have hd := noDict_cb
  have hn : ¬ ((!(decide (-(2 ^ 63 : Int) ≤ (r : Int)) && decide ((r : Int) < (2 ^ 63 : Int)))) = true) := by
    have a : decide (-(2 ^ 63 : Int) ≤ (r : Int)) = true := decide_eq_true (by omega)
    have b : decide ((r : Int) < (2 ^ 63 : Int)) = true := decide_eq_true (by omega)
    rw [a, b]
    decide
  unfold Builtin.«itertools.combinations.__new__»
  refine wpAny_bind ?_
  show wpAny _ _ (Builtin.Itertools.itClassAndRest "combinations" ⟨[.type "itertools.combinations", v, .int r t], []⟩ >>= _) _ _ _
  refine wpAny_bind ?_
  have e1 : Builtin.Itertools.itClassAndRest "combinations" ⟨[.type "itertools.combinations", v, .int r t], []⟩ = pure (.type "itertools.combinations", [v, .int r t]) := by
    unfold Builtin.Itertools.itClassAndRest
    rw [show ("itertools." ++ "combinations" : String) = "itertools.combinations" by decide +kernel]
    dsimp only
    rw [show isType (.type "itertools.combinations") = pure true from rfl, pure_bind, sub_cb, pure_bind]
    rfl
  refine wpAny_of_eq e1 ?_
  show wpAny _ _ (Builtin.Itertools.itBindNamed "combinations" ["iterable", "r"] 2 2 [v, .int r t] [] >>= _) _ _ _
  refine wpAny_bind (wpAny_of_eq (a := [some v, some (.int r t)]) rfl ?_)
  show wpAny _ _ (Builtin.Itertools.itSsizeArg (.int r t) >>= _) _ _ _
  have e2 : Builtin.Itertools.itSsizeArg (.int r t) = pure (r : Int) := by
    have a : decide ((r : Int) < -(2 ^ 63 : Int)) = false := decide_eq_false (by omega)
    have b : decide ((r : Int) ≥ (2 ^ 63 : Int)) = false := decide_eq_false (by omega)
    unfold Builtin.Itertools.itSsizeArg
    rw [show asIndex (.int r t) = pure (r : Int) from rfl, pure_bind]
    dsimp only
    rw [a, b]
    rfl
  refine wpAny_bind (wpAny_of_eq e2 ?_)
  show wpAny _ _ (collect v >>= _) _ _ _
  refine wpAny_bind (hC _ _ fun h' tk its hk hp => ?_)
  dsimp only
  rw [if_neg (by omega)]
  have e3 : Builtin.Itertools.itTooMany (r : Int) = false := by
    unfold Builtin.Itertools.itTooMany; exact decide_eq_false (by omega)
  rw [e3, if_neg Bool.false_ne_true]
  refine wpAny_bind (wpAny_newTuple ?_ (hl its hp))
  refine wpAny_pure ?_
  dsimp only
  rw [Int.toNat_natCast]
  show wpAny _ _ (Builtin.Itertools.itNewRecord _ _ >>= _) _ _ _
  have e4 : ∀ fs, Builtin.Itertools.itNewRecord (.type "itertools.combinations") fs = newObj (.type "itertools.combinations") (.fields fs.toArray) := fun fs => by
    unfold Builtin.Itertools.itNewRecord
    rw [noDict_cb]
    rfl
  rw [e4]
  refine wpAny_bind (wpAny_newObj_type (wpAny_pure ?_) (by
    show (List.toArray ([Value.ref h'.objs.size, rawInt (if r > its.length then 2 else 0), .none] ++ (List.range r).map fun i : Nat => rawInt i)).size ≤ sizeLine + 2
    rw [List.size_toArray, List.length_append, List.length_map, List.length_range, sizeLine_eq]
    show 3 + r ≤ _
    omega))
  exact h h' tk its hk hp
theorem call_cb {v : Value} {t : Tok} {r : Nat} {P : List Value → Prop} {Q : Value → Shared → Prop} (hr : r < 1000) (hC : ∀ A', A'.handled = A.handled → Coll prog w A' s v P) (hl : ∀ its, P its → its.length ≤ sizeLine)
    (h : ∀ (h' : Heap) (tk : Nat) its h2, (∀ b o, s.heap.get? b = some o → h'.get? b = some o) → P its → (∀ b o, h'.get? b = some o → h2.get? b = some o) → h2.IsTuple h'.objs.size its.toArray → IsCb h2 (h'.objs.size + 1) (.ref h'.objs.size) (if r > its.length then 2 else 0) .none (List.range r) →
      Q (.ref (h'.objs.size + 1)) { s with heap := h2, toks := tk }) :
    wpAny (model prog w) A (call (.type "itertools.combinations") [v, .int r t]) Q E s := by
  refine callType_codes (Q₁ := fun obj s₁ => s₁.TypeIs obj "itertools.combinations" ∧ Q obj s₁) called_cb (typeCall_cb _ _) F.entry_object_init
    (code_cb_new (A := A.in1) hr (hC _ rfl) hl fun h' tk its hk hp => ⟨⟨_, Heap.get?_push_size _ rfl, rfl⟩, ?_⟩) fun obj s₁ h₁ => ?_
  · have hz : (h'.push { cls := .type "tuple", data := .seq its.toArray }).objs.size = h'.objs.size + 1 := Heap.size_push ..
    have hI : IsCb ((h'.push { cls := .type "tuple", data := .seq its.toArray }).push { cls := .type "itertools.combinations", data := .fields (recF (.ref h'.objs.size) (if r > its.length then 2 else 0) .none (List.range r)) }) (h'.objs.size + 1) (.ref h'.objs.size) (if r > its.length then 2 else 0) .none (List.range r) := by
      rw [← hz]; exact Heap.get?_push_size _ rfl
    rw [hz]
    exact h h' tk its _ hk hp (fun b o e => Heap.get?_push_of_some _ (Heap.get?_push_of_some _ e)) ⟨_, Heap.get?_push_of_some _ (Heap.get?_push_size _ rfl), rfl, 0, rfl⟩ hI
  · exact ⟨h₁.1, F.args_object_init_3 obj _ _, object_init_meets called_cb.init.lookup called_cb.made (by decide +kernel) prog w A.in1 _ s₁ ⟨h₁.1, rfl, h₁.2⟩⟩
theorem iter_cb {cm : Addr} {pool last : Value} {st : Int} {idx : List Nat} {Q : Value → Shared → Prop} (hit : IsCb s.heap cm pool st last idx) (h : Q (.ref cm) s) : wpAny (model prog w) A (pyIter (.ref cm)) Q E s := by
  have hT : s.TypeIs (.ref cm) "itertools.combinations" := ⟨_, hit, rfl⟩
  refine wpAny_pyIter_slot hT slot_cb_iter (wpAny_call_entry slot_cb_iter hT entry_cb_iter ?_ (args_cb_iter _))
  show wpAny _ _ (ret (.ref cm)) _ _ s
  exact wpAny_pure ⟨_, rfl, "itertools.combinations", _, hT, slot_cb_next.lookup, h⟩
theorem newTup {xs : List Value} {Q : Value → Shared → Prop} (hz : xs.length ≤ sizeLine) (h : Q (.ref s.heap.objs.size) { s with heap := s.heap.push { cls := .type "tuple", data := .seq xs.toArray } }) : wpAny (model prog w) A (newTuple xs) Q E s :=
  wpAny_newTuple h hz
/-- handing out the items at the indices idx -/
def nextIdx (n : Nat) (idx : List Nat) : Option (List Nat) :=
  match (List.range idx.length).reverse.find? fun i => idx.getD i 0 != i + n - idx.length with
  | none => none
  | some i => some (idx.take i ++ (List.range (idx.length - i)).map (idx.getD i 0 + 1 + ·))
theorem numbers {cm : Addr} {pool last : Value} {st : Int} {idx : List Nat} {Q : List Nat → Shared → Prop} (hit : IsCb s.heap cm pool st last idx) (h : Q idx s) : wpAny (model prog w) A (Builtin.Itertools.itNumbersFrom (.ref cm) 3) Q E s := by
  unfold Builtin.Itertools.itNumbersFrom
  show wpAny _ _ (load cm >>= _) _ _ s
  refine wpAny_bind (wpAny_load hit (wpAny_pure ?_))
  have e : ((recF pool st last idx).toList.drop 3).map (fun | .int n _ => n.toNat | _ => 0) = idx := by
    show (idx.map fun i : Nat => rawInt i).map _ = idx
    rw [List.map_map]
    conv => rhs; rw [← List.map_id idx]
    exact List.map_congr_left fun i _ => rfl
  exact (congrArg (fun z => Q z s) e).mpr h
theorem recF1 (pool last : Value) (st u : Int) (idx : List Nat) : (recF pool st last idx).setIfInBounds 1 (rawInt u) = recF pool u last idx := by
  unfold recF
  rw [List.setIfInBounds_toArray]
  rfl
theorem recF2 (pool last r : Value) (st : Int) (idx : List Nat) : (recF pool st last idx).setIfInBounds 2 r = recF pool st r idx := by
  unfold recF
  rw [List.setIfInBounds_toArray]
  rfl
theorem hand {cm pl : Addr} {st : Int} {last : Value} {items : Array Value} {fi idx : List Nat} {Q : Value → Shared → Prop} (hit : IsCb s.heap cm (.ref pl) st last fi) (hp : s.heap.IsTuple pl items) (hz : idx.length ≤ sizeLine)
    (hQ : ∀ h', IsCb h' cm (.ref pl) st (.ref s.heap.objs.size) fi → h'.get? s.heap.objs.size = some { cls := .type "tuple", data := .seq (idx.map fun i => items.getD i .none).toArray } → h'.objs.size = s.heap.objs.size + 1 →
      (∀ b o, b ≠ cm → s.heap.get? b = some o → h'.get? b = some o) → Q (.ref s.heap.objs.size) { s with heap := h' }) :
    wpAny (model prog w) A (do
      let result ← (do
        let items ← Builtin.Itertools.itPoolItems (.ref pl)
        newTuple (idx.map fun i => items.getD i .none))
      let before ← field (.ref cm) 2
      setField (.ref cm) 2 result
      letGo [before] [result]
      ret result) (fun fin s' => ∃ v, fin = Fin.done (Flow.ret v) ∧ Q v s') E s := by
  obtain ⟨ol, hol, _, nl, hdl⟩ := hp
  have hil : cm < s.heap.objs.size := Heap.lt_size hit
  refine wpAny_bind (wpAny_bind ?_); unfold Builtin.Itertools.itPoolItems
  refine wpAny_bind (wpAny_seqItems hol hdl (wpAny_pure ?_))
  refine newTup (by rw [List.length_map]; exact hz) ?_
  have hit1 := Heap.get?_push_of_some { cls := .type "tuple", data := .seq (idx.map fun i => items.getD i .none).toArray } hit
  refine wpAny_bind (wpAny_field hit1 rfl (x := last) rfl ?_)
  refine wpAny_bind (wpAny_setField_rec hit1 (by simp) fun h2 hit2 hs2 => ?_)
  refine wpAny_bind (wpAny_letGo (wpAny_pure ⟨_, rfl, hQ h2 ?_ ?_ ?_ fun b o hb e => ?_⟩))
  · rw [recF2] at hit2; exact hit2
  · exact hs2.extBut _ _ (Nat.ne_of_gt hil) (Heap.get?_push_size _ rfl)
  · rw [hs2.1, Heap.size_push]
  · exact hs2.extBut _ _ hb (Heap.get?_push_of_some _ e)
theorem first_cb {cm pl : Addr} {items : Array Value} {idx : List Nat} {Q : Option Value → Shared → Prop} (hit : IsCb s.heap cm (.ref pl) 0 .none idx) (hp : s.heap.IsTuple pl items) (hne : pl ≠ cm) (hz : idx.length ≤ sizeLine)
    (hQ : ∀ h', IsCb h' cm (.ref pl) 1 (.ref s.heap.objs.size) idx → h'.get? s.heap.objs.size = some { cls := .type "tuple", data := .seq (idx.map fun i => items.getD i .none).toArray } → h'.objs.size = s.heap.objs.size + 1 →
      (∀ b o, b ≠ cm → s.heap.get? b = some o → h'.get? b = some o) → Q (some (.ref s.heap.objs.size)) { s with heap := h' }) : wpAny (model prog w) A (callSpecial? (.ref cm) "__next__") Q E s := by
  have hT : s.TypeIs (.ref cm) "itertools.combinations" := ⟨_, hit, rfl⟩
  refine wpAny_callSpecial?_slot (name := Str.ofString "__next__") hT slot_cb_next (wpAny_call_entry slot_cb_next hT entry_cb_next ?_ (args_cb_next _))
  unfold Builtin.«itertools.combinations.__next__»
  show wpAny _ _ (field (.ref cm) 0 >>= _) _ _ s
  refine wpAny_bind (wpAny_field hit rfl (x := .ref pl) rfl ?_)
  show wpAny _ _ (Builtin.Itertools.itNumbersFrom (.ref cm) 3 >>= _) _ _ s
  refine wpAny_bind (numbers hit ?_)
  show wpAny _ _ ((field (.ref cm) 1 >>= _) >>= _) _ _ s
  refine wpAny_bind (wpAny_bind (wpAny_field hit rfl (x := .int 0 0) rfl (wpAny_pure ?_))); dsimp only
  refine wpAny_bind (wpAny_setField_rec hit (by simp) fun h1 hit1 hs1 => ?_)
  rw [recF1] at hit1
  exact hand hit1 (hp.extBut hs1.extBut hne) hz fun h' a b d k => by
    rw [hs1.1] at a b d
    rw [hs1.1]
    exact hQ h' a b d fun b o hb e => k b o hb (hs1.extBut _ _ hb e)
theorem step_cb {cm pl : Addr} {last : Value} {items : Array Value} {idx idx' : List Nat} {Q : Option Value → Shared → Prop} (hit : IsCb s.heap cm (.ref pl) 1 last idx) (hp : s.heap.IsTuple pl items) (hne : pl ≠ cm) (hz : idx'.length ≤ sizeLine) (hn : nextIdx items.size idx = some idx')
    (hQ : ∀ h', IsCb h' cm (.ref pl) 1 (.ref s.heap.objs.size) idx' → h'.get? s.heap.objs.size = some { cls := .type "tuple", data := .seq (idx'.map fun i => items.getD i .none).toArray } → h'.objs.size = s.heap.objs.size + 1 →
      (∀ b o, b ≠ cm → s.heap.get? b = some o → h'.get? b = some o) → Q (some (.ref s.heap.objs.size)) { s with heap := h' }) : wpAny (model prog w) A (callSpecial? (.ref cm) "__next__") Q E s := by
  have hT : s.TypeIs (.ref cm) "itertools.combinations" := ⟨_, hit, rfl⟩
  obtain ⟨ol, hol, _, nl, hdl⟩ := id hp
  refine wpAny_callSpecial?_slot (name := Str.ofString "__next__") hT slot_cb_next (wpAny_call_entry slot_cb_next hT entry_cb_next ?_ (args_cb_next _))
  unfold Builtin.«itertools.combinations.__next__»
  show wpAny _ _ (field (.ref cm) 0 >>= _) _ _ s
  refine wpAny_bind (wpAny_field hit rfl (x := .ref pl) rfl ?_)
  show wpAny _ _ (Builtin.Itertools.itNumbersFrom (.ref cm) 3 >>= _) _ _ s
  refine wpAny_bind (numbers hit ?_)
  show wpAny _ _ ((field (.ref cm) 1 >>= _) >>= _) _ _ s
  refine wpAny_bind (wpAny_bind (wpAny_field hit rfl (x := .int 1 0) rfl (wpAny_pure ?_)))
  show wpAny _ _ (Builtin.Itertools.itPoolItems (.ref pl) >>= _) _ _ s
  unfold Builtin.Itertools.itPoolItems
  refine wpAny_bind (wpAny_bind (wpAny_seqItems hol hdl (wpAny_pure ?_)))
  split
  · rename_i nx he
    have he' : nextIdx items.size idx = some nx := he
    rw [hn] at he'
    cases he'
    unfold Builtin.Itertools.itSetNumbersFrom
    refine wpAny_bind (wpAny_updateFields hit rfl ?_ ?_)
    · have hit1 : IsCb (s.heap.update cm (Obj.mapFields fun fs => fs.extract 0 3 ++ (idx'.map fun n : Nat => rawInt n).toArray)) cm (.ref pl) 1 last idx' := by
        have q := Heap.get?_update_self (Obj.mapFields fun fs => fs.extract 0 3 ++ (idx'.map fun n : Nat => rawInt n).toArray) hit rfl
        have e : Obj.mapFields (fun fs => fs.extract 0 3 ++ (idx'.map fun n : Nat => rawInt n).toArray) { cls := .type "itertools.combinations", dict := none, data := .fields (recF (.ref pl) 1 last idx), slots := #[] } = { cls := .type "itertools.combinations", dict := none, data := .fields (recF (.ref pl) 1 last idx'), slots := #[] } := by
          show Obj.mk _ _ (.fields _) _ = Obj.mk _ _ (.fields _) _
          congr 2
          unfold recF
          simp
        rw [e] at q
        exact q
      have hs1 : Heap.SameBut cm s.heap (s.heap.update cm (Obj.mapFields fun fs => fs.extract 0 3 ++ (idx'.map fun n : Nat => rawInt n).toArray)) := Heap.SameBut.update ..
      exact hand hit1 (hp.extBut hs1.extBut hne) hz fun h' a b d k => by
        rw [hs1.1] at a b d
        rw [hs1.1]
        exact hQ h' a b d fun b o hb e => k b o hb (hs1.extBut _ _ hb e)
    · have : ((recF (.ref pl) 1 last idx).extract 0 3 ++ (idx'.map fun n : Nat => rawInt n).toArray).size ≤ 3 + idx'.length := by
        unfold recF
        simp
        omega
      omega
  · rename_i he
    have he' : nextIdx items.size idx = none := he
    rw [hn] at he'
    cases he'
theorem stop_cb (hh : A.handled = none) {cm : Addr} {Q : Fin → Shared → Prop} (hQ : ∀ e h', CpRep.StopE e h' → (∀ b o, b ≠ cm → s.heap.get? b = some o → h'.get? b = some o) → E e { s with heap := h' }) : wpAny (model prog w) A (Builtin.Itertools.itStop : Sem Fin) Q E s := by
  unfold Builtin.Itertools.itStop
  show wpAny _ _ (newExc (.type "StopIteration") [] >>= fun e => raiseNew e) _ _ _
  have no_args : firstArgMember (.type "StopIteration") [] = pure Value.none := by
    first | rfl | simp only [firstArgMember]
  simp only [newExc, newTuple, raiseNew]
  refine wpAny_bind (wpAny_bind (wpAny_newObj_type (wpAny_bind (wpAny_of_eq no_args (wpAny_newObj_type (wpAny_bind (wpAny_handled ?_)) (by size_fits)))) (by size_fits)))
  rw [hh]
  exact wpAny_bind (wpAny_pure (wpAny_throw (hQ _ _ ⟨_, _, _, rfl, Heap.get?_push_size _ rfl, rfl, rfl, rfl⟩ fun b o _ e => Heap.get?_push_of_some _ (Heap.get?_push_of_some _ e))))
/-- the end: none are left, or there were none -/
theorem end_cb {cm pl : Addr} {last : Value} {items : Array Value} {idx : List Nat} {st : Int} {Q : Option Value → Shared → Prop} (hh : A.handled = none) (hit : IsCb s.heap cm (.ref pl) st last idx) (hp : s.heap.IsTuple pl items) (hn : st = 2 ∨ (st = 1 ∧ nextIdx items.size idx = none))
    (hQ : ∀ e h', CpRep.StopE e h' → (∀ b o, b ≠ cm → s.heap.get? b = some o → h'.get? b = some o) → E e { s with heap := h' }) : wpAny (model prog w) A (callSpecial? (.ref cm) "__next__") Q E s := by
  have hT : s.TypeIs (.ref cm) "itertools.combinations" := ⟨_, hit, rfl⟩
  obtain ⟨ol, hol, _, nl, hdl⟩ := id hp
  refine wpAny_callSpecial?_slot (name := Str.ofString "__next__") hT slot_cb_next (wpAny_call_entry slot_cb_next hT entry_cb_next ?_ (args_cb_next _))
  unfold Builtin.«itertools.combinations.__next__»
  show wpAny _ _ (field (.ref cm) 0 >>= _) _ _ s
  refine wpAny_bind (wpAny_field hit rfl (x := .ref pl) rfl ?_)
  show wpAny _ _ (Builtin.Itertools.itNumbersFrom (.ref cm) 3 >>= _) _ _ s
  refine wpAny_bind (numbers hit ?_)
  show wpAny _ _ ((field (.ref cm) 1 >>= _) >>= _) _ _ s
  rcases hn with rfl | ⟨rfl, hn⟩
  · refine wpAny_bind (wpAny_bind (wpAny_field hit rfl (x := .int 2 0) rfl (wpAny_pure ?_)))
    dsimp only
    refine wpAny_bind (wpAny_rule ?_); exact stop_cb (show A.in1.handled = none from hh) hQ
  · refine wpAny_bind (wpAny_bind (wpAny_field hit rfl (x := .int 1 0) rfl (wpAny_pure ?_)))
    show wpAny _ _ (Builtin.Itertools.itPoolItems (.ref pl) >>= _) _ _ s
    unfold Builtin.Itertools.itPoolItems
    refine wpAny_bind (wpAny_bind (wpAny_seqItems hol hdl (wpAny_pure ?_)))
    split
    · rename_i nx he
      have he' : nextIdx items.size idx = some nx := he
      rw [hn] at he'
      cases he'
    · refine wpAny_bind (wpAny_setField_rec hit (by simp) fun h2 hit2 hs2 => ?_)
      exact stop_cb (cm := cm) (show A.in1.handled = none from hh) fun e h' a b => hQ e h' a fun b' o hb e' => b b' o hb (hs2.extBut _ _ hb e')
end
end Cmb

/-! combinations: the walk -/
namespace Cmb
/-! ### which indices follow one another -/
/-- the lists of r numbers lo ≤ .. < lo + m, ascending, in order -/
def cs : Nat → Nat → Nat → List (List Nat)
  | _, 0, _ => [[]]
  | 0, _ + 1, _ => []
  | m + 1, r + 1, lo => (cs m r (lo + 1)).map (lo :: ·) ++ cs m (r + 1) (lo + 1)
/-- f leads from each to the next, and from the last one to e -/
def Ch {α : Type} (f : α → Option α) : List α → Option α → Prop
  | [], _ => False
  | [a], e => f a = e
  | a :: b :: l, e => f a = some b ∧ Ch f (b :: l) e
theorem Ch.app {α : Type} {f : α → Option α} {e : Option α} {b : α} {l2 : List α} (h2 : Ch f (b :: l2) e) : ∀ {l1 : List α}, Ch f l1 (some b) → Ch f (l1 ++ b :: l2) e
  | [a], h => ⟨h, h2⟩
  | _ :: c :: l, h => ⟨h.1, Ch.app h2 (l1 := c :: l) h.2⟩
theorem Ch.map {α : Type} {f : α → Option α} {g : α → α} {e' : Option α} (P : α → Prop) (h1 : ∀ a b, P a → f a = some b → f (g a) = some (g b)) (h2 : ∀ a, P a → f a = none → f (g a) = e') : ∀ {l : List α}, (∀ a ∈ l, P a) → Ch f l none → Ch f (l.map g) e'
  | [a], p, h => h2 a (p a List.mem_cons_self) h
  | a :: c :: l, p, h => ⟨h1 a c (p a List.mem_cons_self) h.1, Ch.map P h1 h2 (l := c :: l) (fun x hx => p x (List.mem_cons_of_mem _ hx)) h.2⟩
theorem Ch.get {α : Type} {f : α → Option α} : ∀ {l : List α} {i : Nat} {x : α}, Ch f l none → l[i]? = some x → f x = l[i + 1]?
  | [a], 0, x, h, e => by cases e; exact h
  | [a], i + 1, x, h, e => by cases e
  | a :: c :: l, 0, x, h, e => by cases e; exact h.1
  | a :: c :: l, i + 1, x, h, e => Ch.get (l := c :: l) (i := i) h.2 (by simpa using e)
theorem nextIdx_cons (n a : Nat) (t : List Nat) : nextIdx n (a :: t) = match nextIdx n t with
    | some t' => some (a :: t')
    | none => if a ≠ n - (t.length + 1) then some ((List.range (t.length + 1)).map (a + 1 + ·)) else none := by
  unfold nextIdx
  rw [List.length_cons, List.range_succ_eq_map, List.reverse_cons, List.find?_append, ← List.map_reverse, List.find?_map]
  have e : ((fun i => (a :: t).getD i 0 != i + n - (t.length + 1)) ∘ Nat.succ) = fun i => t.getD i 0 != i + n - t.length := by
    funext i
    show (t.getD i 0 != (i + 1) + n - (t.length + 1)) = _
    rw [show (i + 1) + n - (t.length + 1) = i + n - t.length by omega]
  rw [e]
  cases hf : (List.range t.length).reverse.find? (fun i => t.getD i 0 != i + n - t.length) with
  | some i =>
    simp only [Option.map_some, Option.some_or]
    show some ((a :: t).take (i + 1) ++ (List.range (t.length + 1 - (i + 1))).map ((a :: t).getD (i + 1) 0 + 1 + ·)) = _
    rw [show t.length + 1 - (i + 1) = t.length - i by omega]
    rfl
  | none =>
    simp only [Option.map_none, Option.none_or]
    by_cases h : a = n - (t.length + 1)
    · have : ([0] : List Nat).find? (fun i => (a :: t).getD i 0 != i + n - (t.length + 1)) = none := by
        simp [h]
      rw [this]
      simp [h]
    · have : ([0] : List Nat).find? (fun i => (a :: t).getD i 0 != i + n - (t.length + 1)) = some 0 := by
        simp [h]
      rw [this]
      simp [h]
      rw [List.range_succ_eq_map]; rw [List.map_cons, List.map_map]
theorem cs_len : ∀ (m r lo : Nat), ∀ t ∈ cs m r lo, t.length = r
  | m, 0, lo, t, h => by
    unfold cs at h
    rw [List.mem_singleton.mp h]
    rfl
  | 0, r + 1, _, t, h => by cases h
  | m + 1, r + 1, lo, t, h => by
    rcases (List.mem_append.mp h) with h | h
    · obtain ⟨u, hu, rfl⟩ := List.mem_map.mp h
      rw [List.length_cons, cs_len m r (lo + 1) u hu]
    · exact cs_len m (r + 1) (lo + 1) t h
theorem rng_cons (r lo : Nat) : (List.range (r + 1)).map (lo + ·) = lo :: (List.range r).map (lo + 1 + ·) := by
  rw [List.range_succ_eq_map]; rw [List.map_cons, List.map_map]
  congr 1
  exact List.map_congr_left fun i _ => by show lo + (i + 1) = _; omega
theorem cs_nil : ∀ (m r lo : Nat), m < r → cs m r lo = []
  | 0, r + 1, _, _ => rfl
  | m + 1, r + 1, lo, h => by
    show (cs m r (lo + 1)).map (lo :: ·) ++ cs m (r + 1) (lo + 1) = []
    rw [cs_nil m r _ (by omega), cs_nil m (r + 1) _ (by omega)]
    rfl
theorem cs_head : ∀ (m r lo : Nat), r ≤ m → ∃ l, cs m r lo = ((List.range r).map (lo + ·)) :: l
  | _, 0, _, _ => by unfold cs; exact ⟨[], rfl⟩
  | m + 1, r + 1, lo, h => by
    obtain ⟨l, e⟩ := cs_head m r (lo + 1) (by omega)
    refine ⟨l.map (lo :: ·) ++ cs m (r + 1) (lo + 1), ?_⟩
    show (cs m r (lo + 1)).map (lo :: ·) ++ cs m (r + 1) (lo + 1) = _
    rw [e, rng_cons]
    rfl
theorem cs_ch : ∀ (m r lo n : Nat), lo + m = n → r ≤ m → Ch (nextIdx n) (cs m r lo) none
  | m, 0, lo, n, _, _ => by
    unfold cs
    show nextIdx n [] = none
    rfl
  | m + 1, r + 1, lo, n, e, h => by
    show Ch _ ((cs m r (lo + 1)).map (lo :: ·) ++ cs m (r + 1) (lo + 1)) none
    have c1 := cs_ch m r (lo + 1) n (by omega) (by omega)
    by_cases hr : r + 1 ≤ m
    · have c2 := cs_ch m (r + 1) (lo + 1) n (by omega) hr
      obtain ⟨l, el⟩ := cs_head m (r + 1) (lo + 1) hr
      rw [el] at c2 ⊢
      refine Ch.app c2 (Ch.map (fun t => t.length = r) (fun a b p q => ?_) (fun a p q => ?_) (cs_len m r (lo + 1)) c1)
      · rw [nextIdx_cons, q]
      · rw [nextIdx_cons, q, p]
        show (if lo ≠ n - (r + 1) then _ else _) = _
        rw [if_pos (by omega)]
    · rw [cs_nil m (r + 1) _ (by omega), List.append_nil]
      refine Ch.map (fun t => t.length = r) (fun a b p q => ?_) (fun a p q => ?_) (cs_len m r (lo + 1)) c1
      · rw [nextIdx_cons, q]
      · rw [nextIdx_cons, q, p]
        show (if lo ≠ n - (r + 1) then _ else _) = _
        rw [if_neg (by omega)]
/-- the index lists of combinations(.., r) of n items -/
def combs (n r : Nat) : List (List Nat) := cs n r 0
theorem combs_zero {n r : Nat} (h : r ≤ n) : (combs n r)[0]? = some (List.range r) := by
  obtain ⟨l, e⟩ := cs_head n r 0 h
  unfold combs
  rw [e]
  simp
theorem combs_none {n r : Nat} (h : n < r) : combs n r = [] := cs_nil n r 0 h
theorem combs_next {n r i : Nat} {x : List Nat} (h : r ≤ n) (e : (combs n r)[i]? = some x) : nextIdx n x = (combs n r)[i + 1]? := (cs_ch n r 0 n (Nat.zero_add _) h).get e
theorem combs_len {n r i : Nat} {x : List Nat} (e : (combs n r)[i]? = some x) : x.length = r := cs_len n r 0 x (List.mem_of_getElem? e)
theorem cs_lt : ∀ (m r lo : Nat), ∀ t ∈ cs m r lo, ∀ i ∈ t, lo ≤ i ∧ i < lo + m
  | m, 0, lo, t, h => by
    unfold cs at h
    rw [List.mem_singleton.mp h]
    intro i hi
    cases hi
  | 0, r + 1, _, t, h => by cases h
  | m + 1, r + 1, lo, t, h => by
    rcases (List.mem_append.mp h) with h | h
    · obtain ⟨u, hu, rfl⟩ := List.mem_map.mp h
      intro i hi
      rcases List.mem_cons.mp hi with rfl | hi
      · omega
      · have := cs_lt m r (lo + 1) u hu i hi
        omega
    · intro i hi
      have := cs_lt m (r + 1) (lo + 1) t h i hi
      omega
theorem combs_lt {n r j : Nat} {x : List Nat} (e : (combs n r)[j]? = some x) : ∀ i ∈ x, i < n := fun i hi => by
  have := cs_lt n r 0 x (List.mem_of_getElem? e) i hi
  omega
end Cmb
namespace DL
open PySem PySem.Spec
open PyProof.Rows L2
/-- the items at the indices -/
def pickV (xs : List V) (idx : List Nat) : List V := idx.map fun i => xs.getD i .non
theorem pick_vals {xs : List V} {its : List Value} (rv : Vals xs its) : ∀ (idx : List Nat), Vals (pickV xs idx) (idx.map fun i => its.toArray.getD i Value.none)
  | [] => .nil
  | i :: r => .cons (by
      by_cases h : i < xs.length
      · obtain ⟨u, hu, ru⟩ := rv.get (List.getElem?_eq_getElem h)
        have e1 : xs.getD i .non = xs[i] := by simp [List.getD, List.getElem?_eq_getElem h]
        have e2 : its.toArray.getD i Value.none = u := by
          have := (List.getElem?_eq_some_iff.mp hu)
          obtain ⟨hl, e⟩ := this
          simp [Array.getD, hl, e]
        show RelV (xs.getD i .non) (its.toArray.getD i Value.none)
        rw [e1, e2]
        exact ru
      · have e1 : xs.getD i .non = .non := by simp [List.getD, List.getElem?_eq_none (Nat.le_of_not_lt h)]
        have e2 : its.toArray.getD i Value.none = Value.none := by
          have hl := rv.length
          simp [Array.getD, show ¬ i < its.length by omega]
        show RelV (xs.getD i .non) (its.toArray.getD i Value.none)
        rw [e1, e2]
        rfl) (pick_vals rv r)
/-- the items xs, r at a time, in new tuples -/
def Itcb (xs : List V) (r : Nat) : It :=
  ⟨fun i _ => i < (Cmb.combs xs.length r).length, fun i H v H' => ∃ T idx, v = .ref T ∧ H T = none ∧ H' = upd H T (.tup (pickV xs idx)) ∧ (Cmb.combs xs.length r)[i]? = some idx, fun i _ => (Cmb.combs xs.length r).length ≤ i⟩
def CbSt (it pl : Addr) (its : List Value) (r : Nat) (i : Nat) (h : Heap) : Prop :=
  h.IsTuple pl its.toArray ∧ pl ≠ it ∧ ((its.length < r ∧ ∃ last idx, Cmb.IsCb h it (.ref pl) 2 last idx) ∨ (r ≤ its.length ∧ i = 0 ∧ Cmb.IsCb h it (.ref pl) 0 .none (List.range r)) ∨
    (r ≤ its.length ∧ ∃ j last idx, i = j + 1 ∧ (Cmb.combs its.length r)[j]? = some idx ∧ Cmb.IsCb h it (.ref pl) 1 last idx))
theorem turn_cb {P : Program} {w : World} {K : PySem.W.Frag} {tg : Expr} {xs : List V} {its : List Value} (rv : Vals xs its) (it pl : Addr) (r : Nat) (hr : r < 1000) :
    Turn P w K tg (Itcb xs r) [it, pl] it (CbSt it pl its r) where
  mem := by simp
  obj := fun i h st b hb => by
    obtain ⟨hp, hne, st⟩ := st
    have hc : ∃ fs, h.get? it = some { cls := .type "itertools.combinations", dict := none, data := .fields fs, slots := #[] } := by
      rcases st with ⟨_, l, x, e⟩ | ⟨_, _, e⟩ | ⟨_, _, l, x, _, _, e⟩ <;> exact ⟨_, e⟩
    have e' : b = it ∨ b = pl := by simpa using hb
    rcases e' with z | z
    · obtain ⟨fs, e⟩ := hc
      rw [z]; exact ⟨_, e, fun v q => nomatch q⟩
    · obtain ⟨o, ho, _, nn, hd⟩ := hp
      rw [z]; exact ⟨o, ho, fun v q => by rw [hd] at q; cases q⟩
  keep := fun i h h' st k => by
    obtain ⟨⟨o, ho, q⟩, hne, st⟩ := st
    refine ⟨⟨o, k pl (by simp) o ho, q⟩, hne, ?_⟩
    rcases st with ⟨a, l, x, e⟩ | ⟨a, b, e⟩ | ⟨a, j, l, x, b, d, e⟩
    · exact .inl ⟨a, l, x, k it (by simp) _ e⟩
    · exact .inr (.inl ⟨a, b, k it (by simp) _ e⟩)
    · exact .inr (.inr ⟨a, j, l, x, b, d, k it (by simp) _ e⟩)
  item := by
    intro X hP hw hK hc i pins s σ H E I hf st hg; subst hP hw hK
    obtain ⟨hp, hne, st⟩ := st
    have hl := rv.length
    have hg : i < (Cmb.combs xs.length r).length := hg
    have hsz : its.length ≤ sizeLine → True := fun _ => trivial
    have fin : ∀ (idx : List Nat) (h' : Heap), (Cmb.combs xs.length r)[i]? = some idx → r ≤ its.length → Cmb.IsCb h' it (.ref pl) 1 (.ref s.heap.objs.size) idx → h'.get? s.heap.objs.size = some { cls := .type "tuple", data := .seq (idx.map fun i => its.toArray.getD i .none).toArray } → h'.objs.size = s.heap.objs.size + 1 →
        (∀ b o, b ≠ it → s.heap.get? b = some o → h'.get? b = some o) → ∃ u, some (Value.ref s.heap.objs.size) = some u ∧
        wpAny (model X.prog X.w) X.A (letOwnedTupleGo tg (.ref it) u) (fun _ s2 => ∃ x H', Inv X pins σ H' s2 ∧ RelV x u ∧ (Itcb xs r).yld i H x H' ∧ CbSt it pl its r (i + 1) s2.heap ∧ ∀ b ∈ [it, pl], H' b = none) E { s with heap := h' } := fun idx h' hi hrn a b d k => by
      have hil : it < s.heap.objs.size := by
        rcases st with ⟨_, l, x, e⟩ | ⟨_, _, e⟩ | ⟨_, _, l, x, _, _, e⟩ <;> exact Heap.lt_size e
      have hpl : pl < s.heap.objs.size := by
        obtain ⟨o, ho, _⟩ := hp
        exact Heap.lt_size ho
      have pv := pick_vals rv idx
      have new : ObjOk X.prog X.w (upd H s.heap.objs.size (.tup (pickV xs idx))) h' s.heap.objs.size (.tup (pickV xs idx)) :=
        ⟨by unfold pickV; rw [List.length_map, Cmb.combs_len hi, sizeLine_eq]; omega, _, pv, ⟨_, b, rfl, _, rfl⟩⟩
      have I1 : Inv X pins σ (upd H s.heap.objs.size (.tup (pickV xs idx))) { s with heap := h' } :=
        I.turnedNew (t' := s.toks) (ch := [it, pl]) (fun c ob hb q => k c ob (fun z => hb (by simp [z])) q) hf (Nat.le_refl _) new
      refine ⟨_, rfl, go_of (s := { s with heap := h' }) a rfl rfl (by decide) ⟨.ref s.heap.objs.size, _, I1, rfl, ⟨_, idx, rfl, I.hok.fresh (Nat.le_refl _), rfl, hi⟩, ⟨?_, hne, .inr (.inr ⟨hrn, i, _, idx, rfl, by rw [← hl]; exact hi, a⟩)⟩, fun c hb => ?_⟩⟩
      · obtain ⟨o, ho, q⟩ := hp
        exact ⟨o, k _ _ hne ho, q⟩
      · have hb' : c < s.heap.objs.size := by
          have e' : c = it ∨ c = pl := by simpa using hb
          rcases e' with z | z
          · rw [z]; exact hil
          · rw [z]; exact hpl
        rw [upd_ne (Nat.ne_of_lt hb')]; exact (hf c hb).1
    unfold pyNext
    rcases st with ⟨a, l, x, e⟩ | ⟨a, b, e⟩ | ⟨a, j, l, x, b, d, e⟩
    · rw [Cmb.combs_none (by omega)] at hg
      exact absurd hg (Nat.not_lt_zero _)
    · subst b
      refine wpAny_bind (wpAny_attempt (Cmb.first_cb e hp hne (by rw [List.length_range, sizeLine_eq]; omega) fun h' a1 b1 d1 k => wpAny_pure ?_))
      exact fin (List.range r) h' (Cmb.combs_zero (by omega)) a a1 b1 d1 k
    · subst b
      have hn := Cmb.combs_next (i := j) (by omega) d
      rw [← hl, List.getElem?_eq_getElem hg] at hn
      refine wpAny_bind (wpAny_attempt (Cmb.step_cb e hp hne (by rw [Cmb.combs_len (List.getElem?_eq_getElem hg), sizeLine_eq]; omega) (by rw [List.size_toArray, ← hl]; exact hn) fun h' a1 b1 d1 k => wpAny_pure ?_))
      exact fin _ h' (List.getElem?_eq_getElem hg) a a1 b1 d1 k
  done := by
    intro X hP hw hK hc i pins s σ H E I hf st hg; subst hP hw hK
    obtain ⟨hp, hne, st⟩ := st
    have hl := rv.length
    have hg : (Cmb.combs xs.length r).length ≤ i := hg
    have hend : ∃ u last idx, Cmb.IsCb s.heap it (.ref pl) u last idx ∧ (u = 2 ∨ (u = 1 ∧ Cmb.nextIdx its.toArray.size idx = none)) := by
      rcases st with ⟨a, l, x, e⟩ | ⟨a, b, e⟩ | ⟨a, j, l, x, b, d, e⟩
      · exact ⟨_, _, _, e, .inl rfl⟩
      · subst b
        have q := Cmb.combs_zero (n := xs.length) (r := r) (by omega)
        have := (List.getElem?_eq_some_iff.mp q).1
        omega
      · refine ⟨_, _, _, e, .inr ⟨rfl, ?_⟩⟩
        rw [List.size_toArray, Cmb.combs_next a d, ← hl]
        exact List.getElem?_eq_none (by omega)
    obtain ⟨u, last, idx, e, hu⟩ := hend
    unfold pyNext
    refine wpAny_bind (wpAny_attempt (Cmb.end_cb (I.ok.hd hc) e hp hu fun ev h' he k => ?_))
    obtain ⟨a, o, vs, rfl, ho, hcl, _, _⟩ := he
    refine wpAny_bind (wpAny_isInstance (T := "StopIteration") (b := true) ⟨o, ho, hcl⟩ isSubtype_stop ?_)
    exact wpAny_pure ⟨rfl, I.turnedL (t' := s.toks) (ch := [it, pl]) (fun c ob hb q => k c ob (fun z => hb (by simp [z])) q) hf⟩
  self A i s Q E st h := by
    obtain ⟨hp, hne, st⟩ := st
    rcases st with ⟨_, l, x, e⟩ | ⟨_, _, e⟩ | ⟨_, _, l, x, _, _, e⟩ <;> exact Cmb.iter_cb e h
end DL

/-! combinations, in the layer -/
namespace DL
open PySem PySem.Spec
open PyProof.Rows L2
theorem coll_range {prog : Program} {w : World} {A : Around} {s : Shared} {r : Addr} {a b : Int} {t u v : Tok} (hh : A.handled = none) (hr : IsRange s.heap r a b 1 t u v) (ok : RgOk a b) : Cmb.Coll prog w A s (.ref r) fun its => Vals (rgV a b) its := fun E Q hQ => by
  obtain ⟨b1, b2, b3, b4, b5⟩ := ok; exact collect_range (n := (b - a).toNat) hh hr (small_one b1 b2 b3 b4) (rangeSize_nat a b) b5 fun h' tk acc hk hi => hQ h' tk acc.toList hk (vals_rg hi)
theorem coll_list {prog : Program} {w : World} {A : Around} {s : Shared} {p : Addr} {its : List Value} {xs : List V} (rv : Vals xs its) (hp : s.heap.IsList p its.toArray) (hz : its.length ≤ sizeLine) : Cmb.Coll prog w A s (.ref p) fun its => Vals xs its := fun E Q hQ => by
  obtain ⟨o, ho, hc, n, hd⟩ := hp
  refine wpAny_collect_seq p (T := "list") (.inl rfl) ho hc hd (fun h' hk => ?_) (by rw [List.size_toArray]; exact hz)
  exact hQ h' s.toks _ hk rv
theorem coll_tuple {prog : Program} {w : World} {A : Around} {s : Shared} {p : Addr} {its : List Value} {xs : List V} (rv : Vals xs its) (hp : s.heap.IsTuple p its.toArray) (hz : its.length ≤ sizeLine) : Cmb.Coll prog w A s (.ref p) fun its => Vals xs its := fun E Q hQ => by
  obtain ⟨o, ho, hc, n, hd⟩ := hp
  refine wpAny_collect_seq p (T := "tuple") (.inr rfl) ho hc hd (fun h' hk => ?_) (by rw [List.size_toArray]; exact hz)
  exact hQ h' s.toks _ hk rv
section
variable {X : Cx} {tg e a : Expr} {ta te : TE} {p pos p2 pos2 p3 : Pos} {n : Int} {r : Nat} {jj : Nat}
/-- combinations(v, r), v collected as xs -/
theorem pi_cbOf {pins : List (Addr × Obj)} {σ : Sg} {H : Hp} {s : Shared} {R : It → Hp → Prop} {v : Value} {t : Tok} {xs : List V} (I : Inv X pins σ H s) (hr : r < 1000) (hC : ∀ A', A'.handled = X.A.handled → Cmb.Coll X.prog X.w A' s v fun its => Vals xs its) (hz : xs.length ≤ sizeLine) (q : R (Itcb xs r) H) :
    wpAny (model X.prog X.w) X.A (call (.type "itertools.combinations") [v, .int r t]) (fun v s1 => wpAny (model X.prog X.w) X.A (pyIter v) (PIE X pins σ tg R) X.xe s1) X.xe s := by
  refine Cmb.call_cb hr hC (fun its rv => by rw [← rv.length]; exact hz) fun h' tk its h2 hk rv hk2 hp hi => Cmb.iter_cb hi ?_
  have I1 : Inv X pins σ H { s with heap := h', toks := tk } := I.kept hk; have I2 : Inv X pins σ H { s with heap := h2, toks := tk } := I.kept fun b o e => hk2 _ _ (hk b o e)
  refine ⟨h'.objs.size + 1, [h'.objs.size + 1, h'.objs.size], _, _, H, rfl, I2, turn_cb rv (h'.objs.size + 1) h'.objs.size r hr, ⟨hp, Nat.ne_of_lt (Nat.lt_succ_self _), ?_⟩, fun b hb => ?_, q⟩
  · by_cases h : r > its.length
    · rw [if_pos h] at hi
      exact .inl ⟨h, _, _, hi⟩
    · rw [if_neg h] at hi
      exact .inr (.inl ⟨by omega, rfl, hi⟩)
  · have hle : h'.objs.size ≤ b := by
      have e' : b = h'.objs.size + 1 ∨ b = h'.objs.size := by simpa using hb
      rcases e' with z | z
      · rw [z]; apply Nat.le_add_right
      · rw [z]; exact Nat.le_refl _
    have q := I1.fpOk hle (I1.hok.fresh hle)
    exact q
/-- combinations(range(n), r) -/
def iCbR (ta : TE) (r : Nat) : TI := fun σ H R => ta σ H fun x H1 => ∃ n, x = .int n ∧ RgOk 0 n ∧ R (Itcb (rgV 0 n) r) H1
theorem pi_cbR (hr : r < 1000) (hn : n = (r : Int)) (hg : Gl X "combinations") (hm : X.mg "combinations" = some (.type "itertools.combinations")) (hg2 : Gl X "range") (hm2 : X.mg "range" = none) (hc : X.calm = true) (ha : PE X a ta) (na : starEach [a] X.env = (false, eval a X.env) :: starEach [] X.env)
    (hs : starEach [.Call (.Name "range" p2) [a] [] pos2, .Constant (.int n) jj p3] X.env = (false, eval (.Call (.Name "range" p2) [a] [] pos2) X.env) :: starEach [.Constant (.int n) jj p3] X.env) (hs2 : starEach [.Constant (.int n) jj p3] X.env = (false, eval (.Constant (.int n) jj p3) X.env) :: starEach [] X.env)
    (hpl : (backTo pos (starEach [.Constant (.int n) jj p3] X.env)).any (·.1) = false) :
    PI X tg (.Call (.Name "combinations" p) [.Call (.Name "range" p2) [a] [] pos2, .Constant (.int n) jj p3] [] pos) (iCbR ta r) := by
  refine (⟨fun pins s σ H R I h => ?_⟩)
  subst hn
  refine Call_ (ld_glob I hg hm (PyProof.Rows.callWith_type1 (args_cons (thn (prg_1 hg2 hm2 ha na pins s σ H (fun a b H1 => RgOk a b ∧ R (Itcb (rgV a b) r) H1) I h) fun v s1 ⟨ad, a, b, t, u, w, H1, ev, hr1, I1, ok, q⟩ => ?_) hs) hs hpl))
  · subst ev
    refine args_cons (wpAny_Constant_int (args_nil ?_)) hs2
    have hh := I1.ok.hd hc
    refine pi_cbOf (s := { s1 with toks := s1.toks + 1 }) (I1.tok _) hr (fun A' e => coll_range (e.trans hh) hr1 ok) ?_ q
    obtain ⟨b1, b2, b3, b4, b5⟩ := ok; rw [rgV_length, sizeLine_eq]
    omega
/-- combinations(xs, r) of a list or a tuple -/
def iCbS (K : PySem.W.Frag) (ta : TE) (r : Nat) : TI := fun σ H R => ta σ H fun x H1 => ∃ p xs, x = .ref p ∧ (SqL K H1 p xs ∨ SqT K H1 p xs) ∧ R (Itcb xs r) H1
theorem pi_cbS (hr : r < 1000) (hn : n = (r : Int)) (hg : Gl X "combinations") (hm : X.mg "combinations" = some (.type "itertools.combinations")) (hc : X.calm = true) (ha : PE X a ta)
    (hs : starEach [a, .Constant (.int n) jj p3] X.env = (false, eval a X.env) :: starEach [.Constant (.int n) jj p3] X.env) (hs2 : starEach [.Constant (.int n) jj p3] X.env = (false, eval (.Constant (.int n) jj p3) X.env) :: starEach [] X.env)
    (hpl : (backTo pos (starEach [.Constant (.int n) jj p3] X.env)).any (·.1) = false) :
    PI X tg (.Call (.Name "combinations" p) [a, .Constant (.int n) jj p3] [] pos) (iCbS X.K ta r) := by
  refine (⟨fun pins s σ H R I h => ?_⟩)
  subst hn
  refine Call_ (ld_glob I hg hm (PyProof.Rows.callWith_type1 (args_cons (thn (ha.run pins s σ H _ I h) fun v s1 ⟨x, H1, I1, rx, ad, xs, ex, hq, q⟩ => ?_) hs) hs hpl))
  subst ex
  obtain rfl : v = .ref ad := rx
  refine args_cons (wpAny_Constant_int (args_nil ?_)) hs2
  have I2 := I1.tok (s1.toks + 1)
  rcases hq with hq | hq
  · obtain ⟨its, rv, pl, hz⟩ := I2.list hq
    exact pi_cbOf I2 hr (fun A' e => coll_list rv pl.isList (by rw [← rv.length]; exact hz)) hz q
  · obtain ⟨its, rv, pl, hz⟩ := I2.tuple hq
    exact pi_cbOf I2 hr (fun A' e => coll_tuple rv pl (by rw [← rv.length]; exact hz)) hz q
end
/-! ### in the layer -/
section
variable {c : Core} [Tb c.K] {ι : Type} {v : ι → Var} {S : Ent} {Γ : List AV} {a tg : Expr} {p pos p2 pos2 p3 : Pos} {n : Int} {r jj : Nat} {QS : List Dt → List AV → Prop}
/-- the choices of r of ds -/
def cbD (ds : List Dt) (r : Nat) : List Dt := (Cmb.combs ds.length r).map fun idx => .tup (idx.map fun i => ds.getD i .non)
theorem cbD_len (ds : List Dt) (r : Nat) : (cbD ds r).length = (Cmb.combs ds.length r).length := by
  unfold cbD
  rw [List.length_map]
theorem RpL.pick {K : PySem.W.Frag} {H : Hp} {ex : AP} {xs : List V} {ds : List Dt} (h : RpL K H ex xs ds) : ∀ (idx : List Nat), (∀ i ∈ idx, i < ds.length) → RpL K H ex (pickV xs idx) (idx.map fun i => ds.getD i .non)
  | [], _ => .nil
  | i :: t, hi => by
    have hl : i < xs.length := by rw [h.len]; exact hi i List.mem_cons_self
    obtain ⟨d, ed, hd⟩ := h.get' (List.getElem?_eq_getElem hl)
    refine .cons ?_ (RpL.pick h t fun j hj => hi j (List.mem_cons_of_mem _ hj))
    have e1 : xs.getD i .non = xs[i] := by simp [List.getD, List.getElem?_eq_getElem hl]
    have e2 : ds.getD i .non = d := by simp [List.getD, ed]
    show Rp _ _ _ (xs.getD i .non) (ds.getD i .non)
    rw [e1, e2]
    exact hd
theorem walk_cb {K : PySem.W.Frag} [Tb K] {H1 : Hp} {own E : AP} {xs : List V} {ds : List Dt} {r : Nat} (h : RpL K H1 E xs ds) : Walk K (Itcb xs r) H1 own E (cbD ds r) := by
  have hl := h.len
  refine ⟨fun j H' _ hj => by rw [cbD_len, ← hl] at hj; exact hj, fun j H' _ hj => by rw [cbD_len, ← hl] at hj; exact hj, fun j H' x H'' _ hj y => ?_⟩
  obtain ⟨T, idx, rfl, nT, rfl, hi⟩ := y
  rw [hl] at hi
  refine ⟨.tup (idx.map fun i => ds.getD i .non), ?_, .inr ⟨T, _, _, nT, rfl, rfl, rfl, h.pick idx (Cmb.combs_lt hi)⟩⟩
  unfold cbD
  rw [List.getElem?_map, hi]
  rfl
theorem rg_RpL {K : PySem.W.Frag} {H : Hp} {ex : AP} (m : Int) : RpL K H ex (rgV 0 m) (rngD 0 m.toNat) := by
  unfold rgV rngD
  rw [Int.sub_zero]
  have : ∀ l : List Nat, RpL K H ex (l.map fun i => V.int (0 + (i : Nat))) (l.map fun i => Dt.int (0 + (i : Nat))) := fun l => by
    induction l with
    | nil => exact .nil
    | cons i t ih => exact .cons (.int _) ih
  exact this _
theorem src_cbR (hr : r < 1000) (hn : n = (r : Int)) (hg : ∀ i, Gl (mkX c (v i)) "combinations") (hm : c.mg "combinations" = some (.type "itertools.combinations")) (hg2 : ∀ i, Gl (mkX c (v i)) "range") (hm2 : c.mg "range" = none) (na : NoStar v a [])
    (hs : NoStar v (.Call (.Name "range" p2) [a] [] pos2) [.Constant (.int n) jj p3]) (hs2 : NoStar v (.Constant (.int n) jj p3) []) (hpl : NoStarL v pos [.Constant (.int n) jj p3])
    (h : EK c v S a Γ fun k Γ1 => ∃ m, akD Γ1 k = some (.int m) ∧ (0 ≤ m ∧ m ≤ 16777216) ∧ QS (cbD (rngD 0 m.toNat) r) Γ1) (still : c.calm = true := by rfl) : SrcD c v S tg (.Call (.Name "combinations" p) [.Call (.Name "range" p2) [a] [] pos2, .Constant (.int n) jj p3] [] pos) Γ QS := fun σ H R rr kk => by
  refine ⟨_, fun i => (show PI (mkX c (v i)) tg _ (iCbR (wE c v a) r) from pi_cbR hr hn (hg i) hm (hg2 i) hm2 still (wE.pe i) (na i) (hs i) (hs2 i) (hpl i)), ?_⟩
  refine h σ H _ rr fun x H1 k Γ1 ⟨m, ed, b, q⟩ r1 hk s => ?_
  cases akD_of ed hk
  exact ⟨m, rfl, .of_le (by omega) b.2 (by omega) b.1, kk _ _ _ _ q r1 s (walk_cb (rg_RpL m))⟩
theorem src_cbS (hr : r < 1000) (hn : n = (r : Int)) (hg : ∀ i, Gl (mkX c (v i)) "combinations") (hm : c.mg "combinations" = some (.type "itertools.combinations"))
    (hs : NoStar v a [.Constant (.int n) jj p3]) (hs2 : NoStar v (.Constant (.int n) jj p3) []) (hpl : NoStarL v pos [.Constant (.int n) jj p3])
    (h : EK c v S a Γ fun k Γ1 => ∃ ds, akS Γ1 k = some ds ∧ QS (cbD ds r) Γ1) (still : c.calm = true := by rfl) : SrcD c v S tg (.Call (.Name "combinations" p) [a, .Constant (.int n) jj p3] [] pos) Γ QS := fun σ H R rr kk => by
  refine ⟨_, fun i => (show PI (mkX c (v i)) tg _ (iCbS c.K (wE c v a) r) from pi_cbS hr hn (hg i) hm still (wE.pe i) (hs i) (hs2 i) (hpl i)), ?_⟩
  refine h σ H _ rr fun x H1 k Γ1 ⟨ds, ed, q⟩ r1 hk s => ?_
  obtain ⟨p, xs, rfl, hq, hx⟩ := akS_of ed r1 hk
  exact ⟨p, xs, rfl, hq, kk _ _ _ _ q r1 s (walk_cb hx)⟩
end
end DL

namespace DL
open PySem PySem.Spec
open PyProof.Rows L2
section
variable {c : Core} [Tb c.K] {ι : Type} {v : ι → Var} {x : Str} {i : Nat}
def visB (sc : Scope) (x : Str) : Bool := match sc.names.lookup x with
  | some .local => true
  | some .cell => true
  | some .free => true
  | _ => false
def locB (sc : Scope) (x : Str) : Bool := match sc.names.lookup x with
  | some .local => true
  | some .cell => true
  | _ => false
theorem vis_of {sc : Scope} (h : visB sc x = true) : Vis sc x := by
  unfold visB at h
  split at h
  · rename_i e; exact .inl e
  · rename_i e; exact .inr (.inl e)
  · rename_i e; exact .inr (.inr e)
  · cases h
theorem loc_of {sc : Scope} (h : locB sc x = true) : Loc sc x := by
  unfold locB at h
  split at h
  · rename_i e; exact .inl e
  · rename_i e; exact .inr e
  · cases h
theorem at_of (h1 : c.N[i]? = some x) (h : ∀ k, visB (v k).env.scope x = true) (d1 : (x == ("__debug__" : Str)) = false) (d2 : (x == ("__classdict__" : Str)) = false) : At c v x i := ⟨h1, fun k => vis_of (h k), d1, d2⟩
def hfB (w : Var) (x : Str) : Bool := w.fn x || (match w.env.scope.names.lookup x with
  | some .local => true
  | _ => false)
theorem ats_of (nd : c.N.Nodup) (h1 : c.N[i]? = some x) (h : ∀ k, locB (v k).env.scope x = true) (h2 : ∀ k, hfB (v k) x = true) : AtS c v x i := ⟨nd, h1, fun k => loc_of (h k), fun k => by
  have := h2 k
  unfold hfB at this
  rcases Bool.or_eq_true _ _ ▸ this with z | z
  · exact .inl z
  · split at z
    · rename_i e; exact .inr e
    · cases z⟩
end
theorem nls {as : List AV} {vs : List V} {is : List Nat} (h : (is.all fun i => match as[i]? with | some (AV.own _) => false | _ => true) = true) : ∀ i ∈ is, ∀ p, (i, p) ∉ lentOf as vs := fun i hi => nl (List.all_eq_true.mp h i hi)
/-! ### kinds -/
def isI : Dt → Bool
  | .int _ => true
  | .bl _ => true
  | _ => false
def isB : Dt → Bool
  | .bl _ => true
  | _ => false
def isT : Dt → Bool
  | .tup _ => true
  | _ => false
theorem ty_int {d : Dt} {t : String} (h : d.ty = some t) : kitB t "int" = some (isI d) := by
  unfold Dt.ty at h; split at h <;> first | cases h | skip
  all_goals first | (show _ = some true; decide +kernel) | (show _ = some false; decide +kernel)
theorem ty_bool {d : Dt} {t : String} (h : d.ty = some t) : kitB t "bool" = some (isB d) := by
  unfold Dt.ty at h; split at h <;> first | cases h | skip
  all_goals first | (show _ = some true; decide +kernel) | (show _ = some false; decide +kernel)
theorem ty_tuple {d : Dt} {t : String} (h : d.ty = some t) : kitB t "tuple" = some (isT d) := by
  unfold Dt.ty at h; split at h <;> first | cases h | skip
  all_goals first | (show _ = some true; decide +kernel) | (show _ = some false; decide +kernel)
end DL

/-! a list against the empty one -/
namespace DL
open PySem PySem.Spec
open PyProof.Rows L2
def rNeE (K : PySem.W.Frag) : R2 := fun x y H Q => ∃ p q xs, x = .ref p ∧ y = .ref q ∧ SqL K H p xs ∧ SqL K H q [] ∧ Q (.bl (!xs.isEmpty)) H
theorem op_neE {X : Cx} (hu : X.A.units < cLine) : OpR X (compareOp .NotEq) (rNeE X.K) := by
  intro pins s σ H x y v u Q I rx ry h; obtain ⟨p, q, xs, rfl, rfl, hp, hq, hQ⟩ := h
  obtain rfl : v = .ref p := rx
  obtain rfl : u = .ref q := ry
  obtain ⟨its, rv, pl, hz⟩ := I.list hp; obtain ⟨its2, rv2, pl2, hz2⟩ := I.list hq
  have l1 := rv.length
  have l2 := rv2.length
  cases xs with
  | nil =>
    have := PySem.SeqAt.RcNeAt.lists (e := fun _ => true) pl.isList pl2.isList (by rw [List.size_toArray, List.size_toArray, ← l1, ← l2]) hu (fun j h1 h2 => by
      rw [List.size_toArray, ← l1] at h1
      exact absurd h1 (Nat.not_lt_zero _))
    refine this X.prog X.w X.xe _ ?_
    refine ⟨.bl false, H, I, ?_, hQ⟩
    have e : its.length = 0 := l1.symm
    show Value.bool _ = Value.bool _
    rw [List.size_toArray, e]
    rfl
  | cons a b =>
    have := PySem.SeqAt.RcNeAt.lists_lengths (s := s) pl.isList pl2.isList (by
      rw [List.size_toArray, List.size_toArray, ← l1, ← l2]
      rfl) hu
    exact this X.prog X.w X.xe _ ⟨.bl true, H, I, rfl, hQ⟩
def rStr (g : Bool → Bool) : R2 := fun x y H Q => ∃ a b, x = .str a ∧ y = .str b ∧ Q (.bl (g (a == b))) H
theorem op_eqS {X : Cx} : OpR X (compareOp .Eq) (rStr id) := by
  intro pins s σ H x y v u Q I rx ry h; obtain ⟨a, b, rfl, rfl, hQ⟩ := h
  obtain ⟨t, rfl⟩ := rx
  obtain ⟨t', rfl⟩ := ry
  exact PySem.SeqAt.RcAt.str_str a t b t' X.prog X.w X.xe _ ⟨.bl _, H, I, rfl, hQ⟩
theorem op_neS {X : Cx} : OpR X (compareOp .NotEq) (rStr not) := by
  intro pins s σ H x y v u Q I rx ry h; obtain ⟨a, b, rfl, rfl, hQ⟩ := h
  obtain ⟨t, rfl⟩ := rx
  obtain ⟨t', rfl⟩ := ry
  exact PySem.SeqAt.RcNeAt.str_str a t b t' X.prog X.w X.xe _ ⟨.bl _, H, I, rfl, hQ⟩
section
variable {c : Core} [Tb c.K] {ι : Type} {v : ι → Var} {S : Ent} {Γ : List AV} {QB : Bool → List AV → Prop} {a : Expr} {pos p : Pos}
theorem td_neE (hu : c.A.units + 64 < cLine) (h : EK c v S a Γ fun k Γ1 => EK c v S (.List [] p) Γ1 fun l Γ2 => ∃ ds, akL Γ2 k = some ds ∧ akL Γ2 l = some [] ∧ QB (!ds.isEmpty) Γ2) : TD c v S (.Compare a [.NotEq] [.List [] p] pos) Γ QB := fun σ H R r kc =>
  ⟨_, fun i => pt_cmpR (show OpR (mkX c (v i)) (compareOp .NotEq) (rNeE c.K) from op_neE (show c.A.units < cLine by omega)) (wE.pe i) (wE.pe i) (nomark _), EK.two h r fun x y H' k l Γ' ⟨ds, e1, e2, q⟩ r' hk hl s => by
    obtain ⟨p1, xs, rfl, h1, r1⟩ := akL_of e1 r' hk
    obtain ⟨p2, ys, rfl, h2, r2⟩ := akL_of e2 r' hl
    cases r2
    refine ⟨p1, p2, xs, rfl, rfl, h1, h2, _, rfl, ?_⟩
    have : xs.isEmpty = ds.isEmpty := by
      cases r1 <;> rfl
    rw [this]
    exact kc _ _ _ q r' s⟩
/-- xs.count(e), xs a slot's own list of ints -/
theorem ed_count {x : Str} {e : Expr} {apos cpos : Pos} {Q : AV → List AV → Prop} (i : Nat) {ns : List Int} (hx : At c v x i) (g : Γ[i]? = some (.ow (ns.map .int))) (hb : Base0 v (.Name x p) "count") (hf : FewArgs v cpos e []) (hl : (apos.endLine == cpos.line) = true) (hs : NoStar v e [])
    (h : EK c v S e Γ fun k Γ1 => ∃ n, Γ1[i]? = some (.ow (ns.map .int)) ∧ akD Γ1 k = some (.int n) ∧ Q (.dt (.int (ns.count n : Nat))) Γ1) : ED c v S (.Call (.Attribute (.Name x p) "count" apos) [e] [] cpos) Γ Q := fun σ H R r kk => by
  obtain ⟨q0, _, e0, h0, xs0, rfl, w0⟩ := r.slots i _ g
  refine ⟨tBM c.K "list" (rCntI c.K) (tVar i) (tCons (wE c v e) tNil), fun k => pe_bm PySem.F.plainAttrs_list PySem.F.slot_list_count PySem.F.type_list_count (show MtR (mkX c (v k)) "list.count" (rCntI c.K) from mt_lcount) (hx.pe k) (pa_cons (wE.pe k) pa_nil (hs k)) (hb k) (hf k) hl (hs k) rfl, ?_⟩
  refine ⟨_, e0, .inl ⟨rfl, _, .of h0⟩, ?_⟩
  refine h σ H _ r fun y H1 k Γ1 ⟨n, g1, ed, q⟩ r1 hk s => ?_
  obtain ⟨q1, _, e1, h1, xs1, rfl, w1⟩ := r1.slots i _ g1
  rw [e0] at e1
  cases e1
  cases akD_of ed hk
  rw [w1.ints] at h1
  exact ⟨q0, ns, n, rfl, rfl, .of h1, kk _ _ _ _ q ⟨r1, .int _⟩ s trivial⟩
def StrR (g : Bool → Bool) (Q : AV → List AV → Prop) (k l : AK) (Γ : List AV) : Prop := ∃ a b, akD Γ k = some (.str a) ∧ akD Γ l = some (.str b) ∧ Q (.dt (.bl (g (a == b)))) Γ
def StrT (g : Bool → Bool) (Q : Bool → List AV → Prop) (k l : AK) (Γ : List AV) : Prop := ∃ a b, akD Γ k = some (.str a) ∧ akD Γ l = some (.str b) ∧ Q (g (a == b)) Γ
theorem ed_eqS {b : Expr} {Q : AV → List AV → Prop} (h : EK c v S a Γ fun k Γ1 => EK c v S b Γ1 fun l Γ2 => StrR id Q k l Γ2) : ED c v S (.Compare a [.Eq] [b] pos) Γ Q := fun σ H R r kk =>
  ⟨_, fun i => pe_cmpR (show OpR (mkX c (v i)) (compareOp .Eq) (rStr id) from op_eqS) (wE.pe i) (wE.pe i) (nomark _), EK.two h r fun x y H' k l Γ' ⟨s1, s2, e1, e2, q⟩ r' hk hl s => by
    cases akD_of e1 hk
    cases akD_of e2 hl
    exact ⟨s1, s2, rfl, rfl, kk _ _ _ _ q ⟨r', .bl _⟩ s trivial⟩⟩
theorem td_neS {b : Expr} (h : EK c v S a Γ fun k Γ1 => EK c v S b Γ1 fun l Γ2 => StrT not QB k l Γ2) : TD c v S (.Compare a [.NotEq] [b] pos) Γ QB := fun σ H R r kk =>
  ⟨_, fun i => pt_cmpR (show OpR (mkX c (v i)) (compareOp .NotEq) (rStr not) from op_neS) (wE.pe i) (wE.pe i) (nomark _), EK.two h r fun x y H' k l Γ' ⟨s1, s2, e1, e2, q⟩ r' hk hl s => by
    cases akD_of e1 hk
    cases akD_of e2 hl
    exact ⟨s1, s2, rfl, rfl, _, rfl, kk _ _ _ q r' s⟩⟩
end
end DL

/-! a tuple turned round; an empty dict -/
namespace DL
open PySem PySem.Spec
open PyProof.Rows L2
/-- what xs[::-1] takes: from the last place down to the first -/
theorem back_bounds (n : Nat) : Builtin.Slice.sliceAdjust none none (-1) (n : Int) = ((n : Int) - 1, -1) ∧ Builtin.Slice.slicePlaces ((n : Int) - 1) (-1) (-1) = n := by
  refine ⟨by simp [Builtin.Slice.sliceAdjust], ?_⟩
  simp [Builtin.Slice.slicePlaces]; omega
theorem fm_congr {α β : Type} {f g : α → Option β} : ∀ {l : List α}, (∀ m ∈ l, f m = g m) → l.filterMap f = l.filterMap g
  | [], _ => rfl
  | a :: t, h => by rw [List.filterMap_cons, List.filterMap_cons, h a List.mem_cons_self, fm_congr fun m hm => h m (List.mem_cons_of_mem _ hm)]
theorem back_items (xs : Array Value) : ((List.range xs.size).filterMap fun (m : Nat) => xs[((xs.size : Int) - 1 + (m : Int) * (-1)).toNat]?).toArray = xs.toList.reverse.toArray := by
  congr 1
  have each : ∀ m ∈ List.range xs.size, (fun (m : Nat) => xs[((xs.size : Int) - 1 + (m : Int) * (-1)).toNat]?) m = some (xs.toList.reverse.getD m .none) := fun m below => by
    replace below := List.mem_range.mp below
    show xs[((xs.size : Int) - 1 + (m : Int) * (-1)).toNat]? = _
    rw [show ((xs.size : Int) - 1 + (m : Int) * (-1)).toNat = xs.size - 1 - m by omega, List.getD, List.getElem?_reverse (by simpa using below), Array.length_toList, Array.getElem?_toList, Array.getElem?_eq_getElem (by omega)]
    rfl
  rw [fm_congr each, show (fun m => some (xs.toList.reverse.getD m Value.none)) = some ∘ (fun m => xs.toList.reverse.getD m Value.none) from rfl, List.filterMap_eq_map]
  apply List.ext_getElem?
  intro i
  by_cases inside : i < xs.size
  · rw [List.getElem?_map, List.getElem?_range inside, Option.map_some, List.getD, List.getElem?_eq_getElem (by simpa using inside)]
    rfl
  · rw [List.getElem?_eq_none (by simpa using inside), List.getElem?_eq_none (by simpa using inside)]
section
variable {prog : Program}
variable {w : World}
variable {A : Around}
variable {s : Shared} {E : Value → Shared → Prop}
/-- the cut of a tuple by a slice with the step -1 and no ends -/
theorem tuple_back {t sl : Addr} {items : Array Value} {lo up st : Value} {Q : Value → Shared → Prop} (tup : IsTup s.heap t items) (cut : s.heap.IsSliceOf sl lo up st) (plo : IsPart lo none) (pup : IsPart up none) (pst : IsPart st (some (-1))) (few : items.size ≤ sizeLine)
    (got : Q (.ref s.heap.objs.size) { s with heap := s.heap.push { cls := .type "tuple", data := .seq items.toList.reverse.toArray } }) : wpAny (model prog w) A (getItem (.ref t) (.ref sl)) Q E s := by
  obtain ⟨o, at_sl, cls_sl, data_sl⟩ := id cut
  have bounds : ∀ {A' : Around} {E' : Value → Shared → Prop} {R : Int × Int × Nat → Shared → Prop}, R ((items.size : Int) - 1, -1, items.size) s → wpAny (model prog w) A' (Builtin.Slice.sliceApplied (.ref sl) (pure (items.size : Int))) R E' s := fun {A' E' R} fin => by
    simp only [Builtin.Slice.sliceApplied, Builtin.Slice.sliceFields]
    refine wpAny_bind (wpAny_bind (wpAny_field at_sl data_sl (x := lo) rfl (wpAny_bind (wpAny_field at_sl data_sl (x := up) rfl (wpAny_bind (wpAny_field at_sl data_sl (x := st) rfl (wpAny_pure (wpAny_bind (HT.slicePart_ pst ?_)))))))))
    show wpAny _ _ (if ((-1 : Int) == 0) = true then _ else _) _ _ s
    refine (if_neg (show ¬ ((-1 : Int) == 0) = true by decide)).symm ▸ wpAny_bind (HT.slicePart_ plo (wpAny_bind (HT.slicePart_ pup (wpAny_bind (wpAny_pure ?_)))))
    show wpAny _ _ (match Builtin.Slice.sliceAdjust none none (-1) (items.size : Int) with | (lo, hi) => pure (lo, (-1 : Int), Builtin.Slice.slicePlaces lo hi (-1))) _ _ s
    rw [(back_bounds items.size).1]
    refine wpAny_pure ?_
    rw [(back_bounds items.size).2]
    exact fin
  have whole : ¬ ((((items.size : Int) - 1) == 0 && (-1 : Int) == 1 && items.size == items.size) = true) := by simp [show ((-1 : Int) == 1) = false by decide]
  have fits : sizeOk (.seq items.toList.reverse.toArray) := show items.toList.reverse.toArray.size ≤ sizeLine by rwa [List.size_toArray, List.length_reverse, Array.length_toList]
  have isl : s.TypeIs (.ref sl) "slice" := ⟨o, at_sl, cls_sl⟩
  unfold getItem
  try with_reducible refine wpAny_holding ?_; refine wpAny_bind (wpAny_sequenceKey tup.typeIs (by decide) (wpAny_bind (wpAny_callSpecial?_slot (name := Str.ofString "__getitem__") tup.typeIs PyProof.Rows.slot_tuple_getitem (wpAny_call_entry PyProof.Rows.slot_tuple_getitem tup.typeIs entry_tuple_getitem ?_ (args_tuple_getitem _ _)))))
  show wpAny _ _ (Builtin.Tuple.tupleItemsOf (.ref t) >>= fun _ => _) _ _ s
  refine wpAny_bind (tupleItemsOf_ tup (wpAny_bind (wpAny_typeOf isl ?_)))
  rw [if_pos (by decide)]
  refine wpAny_bind (bounds ?_)
  show wpAny _ _ (if (((items.size : Int) - 1) == 0 && (-1 : Int) == 1 && items.size == items.size) = true then _ else _) _ _ s
  rw [if_neg whole, back_items]
  first
    | exact wpAny_bind (m := Builtin.Tuple.tupleExact _) (wpAny_newObj_type (wpAny_pure ⟨_, rfl, wpAny_pure got⟩) fits)
    | exact wpAny_bind (m := Builtin.Tuple.tupleExact _) (wpAny_newObj_type (wpAny_bind (wpAny_pure (wpAny_pure ⟨_, rfl, wpAny_pure got⟩))) fits)
    | exact wpAny_bind (wpAny_bind (m := Builtin.Tuple.tupleExact _) (wpAny_newObj_type (wpAny_pure (wpAny_pure ⟨_, rfl, wpAny_pure got⟩)) fits))
    | exact wpAny_bind (wpAny_bind (m := Builtin.Tuple.tupleExact _) (wpAny_newObj_type (wpAny_pure ⟨_, rfl, wpAny_pure got⟩) fits))
end
abbrev backSl (k : Nat) (p1 p2 p3 : Pos) : Expr := .Slice none none (some (.UnaryOp .USub (.Constant (.int 1) k p1) p2)) p3
/-- the slice [::-1] itself -/
theorem eval_back {X : Cx} {pins : List (Addr × Obj)} {s : Shared} {σ : Sg} {H : Hp} {k : Nat} {p1 p2 p3 : Pos} {R : Value → Shared → Prop} (I : Inv X pins σ H s)
    (go : ∀ (s' : Shared) (sl : Addr) (lo up st : Value), Inv X pins σ H s' → s'.heap.IsSliceOf sl lo up st → IsPart lo none ∧ IsPart up none ∧ IsPart st (some (-1)) → R (.ref sl) s') : wpAny (model X.prog X.w) X.A (eval (backSl k p1 p2 p3) X.env) R X.xe s := by
  refine wpAny_Slice (thn (po_none.run pins s σ H (fun o G => o = none ∧ G = H) I ⟨rfl, rfl⟩) fun lo s1 ⟨_, _, I1, plo, rfl, rfl⟩ => ?_)
  refine thn (po_none.run pins s1 σ _ (fun o G => o = none ∧ G = _) I1 ⟨rfl, rfl⟩) fun up s2 ⟨_, _, I2, pup, rfl, rfl⟩ => ?_
  have minus : PO X (some (.UnaryOp .USub (.Constant (.int 1) k p1) p2)) (tPart (tUn (rU fun i => .int (-i)) (tC (.int 1)))) := po_some (pe_un un_neg pe_int)
  refine thn (minus.run pins s2 σ _ (fun o G => o = some (-1) ∧ G = _) I2 ⟨1, rfl, -1, rfl, rfl, rfl⟩) fun st s3 ⟨_, _, I3, pst, rfl, rfl⟩ => ?_
  exact go _ _ _ _ _ (I3.kept (t' := s3.toks) fun _ _ z => Heap.get?_push_of_some _ z) (Heap.IsSliceOf.new _ lo up st) ⟨plo, pup, pst⟩
def tRevT (K : PySem.W.Frag) (te : TE) : TE := fun σ H Q => te σ H fun x G => ∃ t ys, x = .ref t ∧ SqT K G t ys ∧ ∀ p, G p = none → Q (.ref p) (upd G p (.tup ys.reverse))
theorem pe_revT {X : Cx} {a : Expr} {te : TE} {k : Nat} {p1 p2 p3 pos : Pos} (he : PE X a te) : PE X (.Subscript a (backSl k p1 p2 p3) pos) (tRevT X.K te) where
  run pins s σ H Q I given := by
    refine Subscript_ (thn (he.run pins s σ H _ I given) fun v s1 got => ?_)
    obtain ⟨_, G, I1, rel, t, ys, rfl, at_ys, fin⟩ := got
    cases rel
    refine eval_back I1 fun s2 sl lo up st I2 cut parts => ?_
    obtain ⟨plo, pup, pst⟩ := parts
    obtain ⟨items, related, tup, few⟩ := I2.tuple at_ys
    refine tail_any (ops := [.ref t, .ref sl]) tup.typeIs (PyProof.Rows.slot_tuple_getitem.lookup) (tuple_back tup cut plo pup pst (by rw [List.size_toArray, ← related.length]; exact few) ?_) (by with_unfolding_all rfl)
    exact ⟨.ref _, _, I2.laid (t' := s2.toks) (o := .tup ys.reverse) (fun _ _ z => Heap.get?_push_of_some _ z) (Nat.le_refl _) ⟨by rw [List.length_reverse]; exact few, _, related.reverse, IsTup.new _ _⟩, rfl, fin _ (I2.hok.fresh (Nat.le_refl _))⟩
theorem Res.newD {K : PySem.W.Frag} [Tb K] {S : Ent} {Γ : List AV} {σ : Sg} {H : Hp} {p : Addr} (r : RS K S DL.no Γ σ H) (h : H p = none) : Res K S Γ σ (upd H p (.dK [])) (.ref p) (.dt (.dct [] [])) := by
  have n := r.new h
  refine ⟨(r.alloc h).no, .dct0 upd_same ?_⟩
  rintro (z | z | z)
  · exact n.1 z
  · exact n.2.1 z
  · exact z
section
variable {c : Core} [Tb c.K] {ι : Type} {v : ι → Var} {S : Ent} {Γ : List AV}
variable {Q : AV → List AV → Prop} {a : Expr} {pos p1 p2 p3 : Pos} {k : Nat}
theorem ed_revT (h : EK c v S a Γ fun k Γ1 => ∃ ds, akT Γ1 k = some ds ∧ Q (.dt (.tup ds.reverse)) Γ1) : ED c v S (.Subscript a (.Slice none none (some (.UnaryOp .USub (.Constant (.int 1) k p1) p2)) p3) pos) Γ Q := fun σ H R r kk =>
  ⟨_, fun i => (show PE (mkX c (v i)) (.Subscript a (.Slice none none (some (.UnaryOp .USub (.Constant (.int 1) k p1) p2)) p3) pos) (tRevT c.K (wE c v a)) from pe_revT (wE.pe i)), h σ H _ r fun x H1 k Γ1 ⟨ds, e, q⟩ r1 hk s => by
    obtain ⟨p, xs, rfl, hs, hx⟩ := akT_of e hk
    exact ⟨p, xs, rfl, .of hs, fun p hn => kk _ _ _ _ q (Res.newT r1 hn hx.rev) (s.alloc hn) trivial⟩⟩
theorem ed_dict0 (q : Q (.dt (.dct [] [])) Γ) : ED c v S (.Dict [] [] pos) Γ Q := fun σ H R r kk =>
  ⟨_, fun _ => pe_dnewK, fun p hn => kk _ _ _ _ q (Res.newD r hn) (Step.refl.alloc hn) trivial⟩
end
end DL

/-! which data can be shown: by parts -/
namespace DL
open PySem PySem.Spec
open PyProof.Rows L2
/-- d can be shown: at most b parts, q deep, with a dict only if D -/
def Sh (b q : Nat) (D : Bool) (d : Dt) : Prop := ∃ pd, d.py = some pd ∧ pd.showable = true ∧ pd.leavesShort 1921 = true ∧ pd.bulk ≤ b ∧ pd.depth ≤ q ∧ (pd.hasDict = true → D = true)
theorem Sh.mono {b q b' q' : Nat} {D D' : Bool} {d : Dt} (h : Sh b q D d) (hb : b ≤ b') (hq : q ≤ q') (hD : D = true → D' = true) : Sh b' q' D' d := by
  obtain ⟨pd, h1, h2, h3, h4, h5, h6⟩ := h
  exact ⟨pd, h1, h2, h3, by omega, by omega, fun z => hD (h6 z)⟩
theorem Sh.shows {b q : Nat} {D : Bool} {d : Dt} (h : Sh b q D d) (hb : b ≤ 5000) (hq : q ≤ 60) (hD : D = true → d.noL = true) : ∃ pd, Shows d pd := by
  obtain ⟨pd, h1, h2, h3, h4, h5, h6⟩ := h
  exact ⟨pd, h1, h2, h3, by omega, by omega, fun z => hD (h6 z)⟩
theorem sh_non : Sh 0 0 false .non := ⟨_, rfl, rfl, rfl, Nat.le_refl _, Nat.le_refl _, fun h => h⟩
theorem sh_bl (k : Bool) : Sh 0 0 false (.bl k) := ⟨_, rfl, rfl, rfl, Nat.le_refl _, Nat.le_refl _, fun h => h⟩
theorem sh_int {v : Int} (h : v.natAbs < 10 ^ 45) : Sh 0 0 false (.int v) := by
  refine ⟨_, rfl, ?_, ?_, Nat.le_refl _, Nat.le_refl _, fun h => h⟩
  · show decide (v.natAbs.log2 < 1920) = true
    have : v.natAbs < 2 ^ 200 := by
      have e : (2 : Nat) ^ 200 = 1606938044258990275541962092341162602522202993782792835301376 := by decide
      omega
    have := PySem.Flt.log2_lt_of (by decide) this
    exact (decide_eq_true (by omega))
  · have e := int_text_length_le10 (k := 45) (by decide) h
    show decide ((PyData.shown (.int v)).length ≤ 1921) = true
    refine decide_eq_true ?_
    show (Str.ofString (toString v)).length ≤ 1921
    rw [PySem.ofString_length]
    omega
theorem sh_str {x : Str} (h : (x.cps.toList.all fun c => decide (c < 16 ^ 8)) = true) : Sh x.cps.size 0 false (.str x) := ⟨_, rfl, rfl, h, Nat.le_refl _, Nat.le_refl _, fun h => h⟩
theorem sh_dct : Sh 0 1 true (.dct [] []) := ⟨_, rfl, rfl, rfl, Nat.le_refl _, le1 rfl, fun _ => rfl⟩
/-- the parts' texts -/
theorem sh_all {b q : Nat} {D : Bool} : ∀ {ds : List Dt}, (∀ e ∈ ds, Sh b q D e) → ∃ pds, Dt.pyAll ds = some pds ∧ PyData.showableAll pds = true ∧ PyData.leavesShortAll 1921 pds = true ∧ PyData.bulkAll pds ≤ ds.length * (b + 1) ∧ PyData.depthAll pds ≤ q ∧ (PyData.hasDictAll pds = true → D = true)
  | [], _ => ⟨[], rfl, rfl, rfl, by simp [PyData.bulkAll], Nat.zero_le _, fun h => by cases h⟩
  | e :: t, h => by
    obtain ⟨pd, h1, h2, h3, h4, h5, h6⟩ := h e List.mem_cons_self
    obtain ⟨pds, g1, g2, g3, g4, g5, g6⟩ := sh_all (ds := t) fun x hx => h x (List.mem_cons_of_mem _ hx)
    refine ⟨pd :: pds, ?_, ?_, ?_, ?_, ?_, fun z => ?_⟩
    · show (match e.py, Dt.pyAll t with
        | some x, some xs => some (x :: xs)
        | _, _ => none) = _
      rw [h1, g1]
    · show (pd.showable && PyData.showableAll pds) = true
      rw [h2, g2]
      rfl
    · show (pd.leavesShort 1921 && PyData.leavesShortAll 1921 pds) = true
      rw [h3, g3]
      rfl
    · show pd.bulk + 1 + PyData.bulkAll pds ≤ (t.length + 1) * (b + 1)
      rw [Nat.add_mul, Nat.one_mul]
      omega
    · show max pd.depth (PyData.depthAll pds) ≤ q
      omega
    · have z : (pd.hasDict || PyData.hasDictAll pds) = true := z
      rcases Bool.or_eq_true _ _ ▸ z with y | y
      · exact h6 y
      · exact g6 y
theorem sh_tup {b q : Nat} {D : Bool} {ds : List Dt} (h : ∀ e ∈ ds, Sh b q D e) : Sh (ds.length * (b + 1)) (q + 1) D (.tup ds) := by
  obtain ⟨pds, g1, g2, g3, g4, g5, g6⟩ := sh_all h
  refine ⟨.tuple pds, ?_, g2, g3, g4, ?_, g6⟩
  · show (Dt.pyAll ds).map PyData.tuple = _
    rw [g1]
    rfl
  · show PyData.depthAll pds + 1 ≤ q + 1
    omega
theorem sh_lst {b q : Nat} {D : Bool} {ds : List Dt} (h : ∀ e ∈ ds, Sh b q D e) : Sh (ds.length * (b + 1)) (q + 1) D (.lst ds) := by
  obtain ⟨pds, g1, g2, g3, g4, g5, g6⟩ := sh_all h
  refine ⟨.list pds, ?_, g2, g3, g4, ?_, g6⟩
  · show (Dt.pyAll ds).map PyData.list = _
    rw [g1]
    rfl
  · show PyData.depthAll pds + 1 ≤ q + 1
    omega
theorem noL_tup {ds : List Dt} (h : ∀ e ∈ ds, e.noL = true) : (Dt.tup ds).noL = true := by
  show Dt.noLAll ds = true
  induction ds with
  | nil => rfl
  | cons a t ih =>
    show (a.noL && Dt.noLAll t) = true
    rw [h a List.mem_cons_self, ih fun e he => h e (List.mem_cons_of_mem _ he)]
    rfl
end DL

/-! a law's call -/
namespace DL
open PySem PySem.Spec
open PyProof.Rows L2
/-- the script alone, where it is no object of the module -/
def hpS (K : PySem.W.Frag) (a : Addr) (vs : List Value) (ns : List Int) : Hp := fun b => if b = a ∧ K.lookup a = none then some (.frz { cls := .type "list", data := .seq vs.toArray } (.lst (ns.map V.int))) else none
section
variable {P : Program} {w : World} {K : PySem.W.Frag} [Tb K] {mg mb : Str → Option Value} {k : Nat} {fa a b : Addr} {fd : FuncData} {x : Str} {s₁ : Shared} {vs : List Value} {ns : List Int} {u : HO}
theorem hpS_some (h : hpS K a vs ns b = some u) : b = a ∧ K.lookup a = none ∧ u = .frz { cls := .type "list", data := .seq vs.toArray } (.lst (ns.map V.int)) := by
  unfold hpS at h
  split at h
  · rename_i z
    cases h
    exact ⟨z.1, z.2, rfl⟩
  · cases h
theorem hpS_none (h : b ≠ a) : hpS K a vs ns b = none := if_neg fun z => h z.1
theorem hpS_in (e : K.lookup a ≠ none) : hpS K a vs ns b = none := if_neg fun z => e z.2
theorem lawG {DS : DSp} (hT : Tb.tb K = []) (KX : K.In s₁.heap) (hns : s₁.heap.Ns mainGlobals mg) (hb : s₁.heap.Ns builtinsNs mb) (hbb : ∀ x : Str, x ≠ "__name__" → mb x = bootBuiltins x) (hlim : s₁.heap.NoLimit) (hg : s₁.gens = #[])
    (ha : s₁.heap.get? a = some { cls := .type "list", data := .seq vs.toArray }) 
    (hi : IntsAre vs ns) (hl : ns.length ≤ sizeLine) (hr : Room k callerA)
    (F : ∀ base : Heap, K.In base → base.Ns mainGlobals mg → FnG P w K mg base k fa fd [x] (spD K DS)) (hbind : ∀ (s : Shared) (u : Value), BindsTo s fd ⟨[u], []⟩ [(x, u)])
    (hD : DS [.dt (.scr ns)] fun r _ => r = .dt (.bl true)) :
    codeAny (model P w) callerA (.call (.ref fa) ⟨[.ref a], []⟩)
      (fun r s' => r = .ok (.ret (.bool true)) ∧ OldK s₁.heap s'.heap ∧ s'.os = s₁.os ∧ AllBare s'.gens) s₁ := by
  have rv := vals_ints hi
  have seen : ∀ {c : Addr} {o : Obj}, s₁.heap.get? c = some o → hpS K a vs ns c = none → (hidT s₁.heap (hpS K a vs ns)).get? c = some o := fun e n => hidT_get e n
  have dicts : ∀ {c : Addr} {m : Str → Option Value}, s₁.heap.Ns c m → (hidT s₁.heap (hpS K a vs ns)).Ns c m := by
    rintro c m ⟨o, es, ep, e, d, r⟩
    refine ⟨o, es, ep, seen e (hpS_none fun z => ?_), d, r⟩
    rw [z, ha] at e
    cases e
    exact nomatch (show Data.seq vs.toArray _ = Data.dict es ep from d)
  have inB : K.In (hidT s₁.heap (hpS K a vs ns)) := fun c o e => seen (KX c o e) (by
    by_cases z : c = a
    · subst z
      exact hpS_in (by rw [e]; exact fun y => nomatch y)
    · exact hpS_none z)
  have okH : HOk P w (hpS K a vs ns) s₁.heap := fun c v z => by
    obtain ⟨rfl, _, rfl⟩ := hpS_some z
    exact (⟨ha, by rw [List.length_map]; exact hl, vs, _, rv, ha⟩)
  have ent : Env0 P w K mg (hidT s₁.heap (hpS K a vs ns)) callerA [] s₁ (hpS K a vs ns) :=
    ⟨rfl, ⟨inB, dicts hns, ⟨mb, dicts hb, hbb⟩, hlim.elim fun mc h => ⟨mc, dicts h.1, h.2⟩⟩, fun c o e => of_hidT e, Nat.le_of_eq (hidT_size _ _), trivial, fun c hc => (nomatch (show c ∈ ([] : List Addr) from hc)), okH, .of_eq hg⟩
  have noOwn : ∀ (σ : Sg) (p : Addr), ¬ Own [AV.dt (.scr ns)] σ p := fun σ p ⟨j, es, e, _⟩ => by
    cases j with
    | zero => cases e
    | succ j => cases e
  have rp : ∀ ex : AP, (∀ p, ¬ ex p) → Rp K (hpS K a vs ns) ex (.ref a) (.scr ns) := fun ex hx => by
    cases hk : K.lookup a with
    | none => exact .scrF (if_pos ⟨rfl, hk⟩) (hx a)
    | some o =>
      have e := KX a o hk
      rw [ha] at e
      cases e
      exact .scrK ⟨_, vs.toArray, _, hk, rfl, rfl, rfl, by rw [List.size_toArray, hi.length]; exact hl, by simpa using rv⟩
  have rs : RS K (Ent.call (hpS K a vs ns) [AV.dt (.scr ns)] [.ref a] no 1) no [AV.dt (.scr ns)] [some (.ref a)] (hpS K a vs ns) := by
    have nx : ∀ p, ¬ Ent.x (Ent.call (hpS K a vs ns) [AV.dt (.scr ns)] [.ref a] no 1) p := fun p ⟨i, hm⟩ => by
      obtain ⟨ds, e, _⟩ := lent_mem.mp hm
      cases i with
      | zero => cases e
      | succ i => cases e
    refine ⟨fun i v e => ?_, fun i j ds es p e => ?_, fun b o e _ => (noTb_some e).1, fun p o => (noOwn _ p o).elim, fun i p hm => ((nx p) ⟨i, hm⟩).elim, fun p o => (noOwn _ p o).elim, fun p o => (noOwn _ p o).elim, fun p z => z.elim, fun p z => (nx p z).elim, fun b o z => z.elim, ⟨fun _ _ e => (noTb_some e).2, fun _ _ z => z.elim⟩, (by rw [hT]; intro q hq; cases hq), rfl, rfl⟩
    · cases i with
      | zero =>
        cases e
        refine ⟨.ref a, rfl, rp _ fun p z => ?_⟩
        rcases z with z | z | z
        · exact noOwn _ p z
        · exact z
        · exact z
      | succ i => cases e
    · cases i with
      | zero => cases e
      | succ i => cases e
  refine codeAny_mono ((F _ inB (dicts hns)).run callerA [] s₁ (hpS K a vs ns) ⟨[.ref a], []⟩ [.ref a] [.ref a] (fun v _ => v = .bl true) hr rfl ent (hbind s₁ (.ref a)) (.cons rfl .nil) ⟨_, no, _, hD, rs, fun z H' r as' hp hres => ?_⟩) fun r s' h => ?_
  · subst hp
    obtain ⟨_, z⟩ := hres
    cases z
    rfl
  · cases r with
    | error e => exact h.elim
    | ok fl =>
      cases fl with
      | ret y =>
        obtain ⟨v, H', os, bare, un, ok', ry, rfl⟩ := h
        obtain rfl : y = Value.bool true := ry
        refine ⟨rfl, OldK.of_keep fun c o e => ?_, os, bare⟩
        cases q : hpS K a vs ns c with
        | none => exact un.keep c o e q (by intro z; cases z) (by simp)
        | some u =>
          obtain ⟨rfl, hk, rfl⟩ := hpS_some q
          obtain ⟨e1, _⟩ := okH c _ q
          obtain ⟨e2, _⟩ := ok' c _ (un.frzs c _ _ q)
          rw [e] at e1
          cases e1
          exact e2
      | _ => exact False.elim h
end
/-- the head's goal, from the promise of the law's def -/
theorem walkG {l : PySem.W.OpenLaw} {n k : Nat} {q : Program} {loose : List Str} {XP : (Str → Option Value) → Heap → Prop} {YP : World → Heap → Prop} {d : DefRec} {K : Params → PySem.W.Frag} {DS : DSp} {x : Str}
    (most : l.most = some n) (fits : n ≤ sizeLine) (dfl : d.params.defaults = []) (room : Room k callerA) (part : ∀ (w : World) (h : Heap), YP w h → (K w.params).In h)
    (law : ∀ (w : World) (mg : Str → Option Value) (fa : Addr) (h : Heap), (K w.params).In h → h.Ns mainGlobals mg → mg d.name = some (.ref fa) → ∃ fd : FuncData, (∀ (s : Shared) (u : Value), BindsTo s fd ⟨[u], []⟩ [(x, u)]) ∧
      ∀ base : Heap, (K w.params).In base → base.Ns mainGlobals mg → FnG l.prog w (K w.params) mg base k fa fd [x] (@spD (K w.params) ⟨[]⟩ DS))
    (prom : ∀ ns : List Int, ns.length ≤ n → DS [.dt (.scr ns)] fun r _ => r = .dt (.bl true)) : PySem.W.WalkO q loose XP YP l.row.toRowW d [] (fun f vs => PySem.call f vs) := by
  refine Att.attach_call most dfl fun w _ s₁ mg mb fa _ _ _ _ a vs ns G Y _ _ _ hmg hobj hints hlen hg => ?_
  obtain ⟨fd, bd, okF⟩ := law w mg fa _ (part w _ Y) G.T.g hmg
  exact @lawG _ _ (K w.params) ⟨[]⟩ _ _ _ _ _ _ _ _ _ _ _ rfl (part w _ Y) G.T.g G.T.b G.T.builtins G.T.nolimit hg hobj hints (Nat.le_trans hlen fits) room okF bd (prom ns hlen)
end DL

/-! try .. except in the layer; calls where an exception is handled -/
namespace DL
open PySem PySem.Spec
open PyProof.Rows L2
/-- a try's body: any wish that takes the body's exceptions -/
def TryI (c : Core) [Tb c.K] {ι : Type} (v : ι → Var) (W : WX) : Type := { q : ι × List (Addr × Obj) × (Value → Shared → Prop) // L2N.Takes (mkX c { v q.1 with pn := q.2.1, xe := q.2.2 }) W ∧ PassesOwn (model c.prog c.w) c.A (v q.1).env q.2.2 }
abbrev tryV (c : Core) [Tb c.K] {ι : Type} (v : ι → Var) (W : WX) : TryI c v W → Var := fun q => { v q.1.1 with pn := q.1.2.1, xe := q.1.2.2 }
/-- a suite that handles the exception at a -/
abbrev heldC (c : Core) [Tb c.K] (a : Addr) : Core := { c with A := c.A.mark (some (.ref a)), calm := false }
abbrev heldV {ι : Type} (v : ι → Var) : ι → Var := fun i => { v i with xe := fun _ _ => False }
section
variable {c : Core} [Tb c.K] {ι : Type} {v : ι → Var} {S : Ent} {Γ : List AV} {D : DE}
theorem At.tr {x : Str} {i : Nat} {W : WX} (h : At c v x i) : At c (tryV c v W) x i := ⟨h.ix, fun k => h.vis k.1.1, h.d1, h.d2⟩
theorem AtS.tr {x : Str} {i : Nat} {W : WX} (h : AtS c v x i) : AtS c (tryV c v W) x i := ⟨h.nd, h.ix, fun k => h.loc k.1.1, fun k => h.hf k.1.1⟩
theorem At.held {x : Str} {i : Nat} {a : Addr} (h : At c v x i) : At (heldC c a) (heldV v) x i := ⟨h.ix, fun k => h.vis k, h.d1, h.d2⟩
theorem AtS.held {x : Str} {i : Nat} {a : Addr} (h : AtS c v x i) : AtS (heldC c a) (heldV v) x i := ⟨h.nd, h.ix, fun k => h.loc k, fun k => h.hf k⟩
/-- the ends of a suite whose name stands in slot i -/
def HeldD (i : Nat) (D : DE) : DE := { nx := fun Γ => D.nx (wipeD Γ [i]), rt := D.rt, bk := fun Γ => D.bk (wipeD Γ [i]), ct := fun Γ => D.ct (wipeD Γ [i]) }
/-- the handled exception stays where it is -/
abbrev heldS (S : Ent) (a : Addr) (cls : Value) : Ent := S.pin fun b o => b = a ∧ o = ExK cls a
/-- what try: body / except x as n: suite makes of the body's exceptions -/
def TryX (c : Core) [Tb c.K] {ι : Type} (v : ι → Var) (S : Ent) (cV : Value) (i : Nat) (suite : List Stmt) (D : DE) (X : XD) : XD := fun cls Γ =>
  ∃ b, PySem.W.exmOne c.K cls cV = some b ∧ (b = true → ∀ a, BD (heldC c a) (heldV v) (heldS S a cls) suite (HeldD i D) (Γ.set i (.dt (.obj (ExK cls))))) ∧ (b = false → X cls Γ)
theorem set_wipe (i : Nat) (σ : Sg) : σ.set i none = L2.wipe σ [i] := rfl
theorem sd_try {body suite : List Stmt} {first : Stmt} {x n : Str} {np pos pos' : Pos} {cV : Value} {X : XD} (i : Nat) (stack : ∀ k, c.stack = (v k).env :: (v k).outer) (frame : ∀ k, (v k).env.frame = some (v k).env.locals) (noex : ∀ k, (v k).ex = []) (hN : c.N.Nodup) (hi : c.N[i]? = some n) (loc : ∀ k, (v k).env.kindOf n = some .local)
    (few : i < S.n) (notlent : ∀ p, (i, p) ∉ S.lent) (names : ∀ k, Names (mkX c (v k)) x cV) (tk : TX c v S X)
    (run : ∀ W, TX c (tryV c v W) S (TryX c v S cV i (first :: suite) D X) → PassOwn c (tryV c v W) → BD c (tryV c v W) S body D Γ) :
    SD c v S (.Try body [.ExceptHandler (some (.Name x np)) (some n) (first :: suite) pos'] [] [] pos) D Γ := fun E σ H L r => by
  refine ⟨fun D σ H => wB c (tryV c v (wHeld c.K cV i (fun a cls => wB (heldC c a) (heldV v) (first :: suite)) (wX c.K S X) D)) body D σ H, fun k => ps_try_held (X := mkX c (v k)) (i := i) (Wout := wX c.K S X) (tb := fun W => wB c (tryV c v W) body) (ts := fun a cls => wB (heldC c a) (heldV v) (first :: suite)) (stack k) (frame k) (noex k) hN hi (loc k) (names k) (tk k)
    (fun W pn xe takes passes => ⟨fun pins s σ H D I ⟨t, all, q⟩ => (all ⟨(k, pn, xe), takes, passes⟩).run pins s σ H D I q⟩) (fun a cls => ⟨fun pins s σ H D I ⟨t, all, q⟩ => (all k).run pins s σ H D I q⟩), ?_⟩
  refine run (wHeld c.K cV i (fun a cls => wB (heldC c a) (heldV v) (first :: suite)) (wX c.K S X) E) (fun q => q.2.1.imp fun cls d τ G ⟨nod, Γ', ⟨b, matched, yes, past⟩, r'⟩ => ⟨nod, b, matched, fun hb a free => ?_, fun hb => ⟨nod, Γ', past hb, r'⟩⟩) (fun q => q.2.2) E σ H L r
  have new := r'.new free
  have tracked : Res c.K S Γ' τ (upd G a (ExK cls a)) (.ref a) (.dt (.obj (ExK cls))) := by
    refine ⟨(r'.alloc free).no, .obj upd_same trivial ?_⟩
    rintro (z | z | z)
    · exact new.1 z
    · exact new.2.1 z
    · exact z
  have clear : ∀ {Γ2 : List AV} {τ2 : Sg} {G2 : Hp}, RS c.K S no Γ2 τ2 G2 → RS c.K S no (wipeD Γ2 [i]) (τ2.set i none) G2 := fun r2 => by
    rw [set_wipe]
    exact r2.wipe fun j hj p => by rw [List.mem_singleton.mp hj]; exact notlent p
  have there := (RS.store tracked few notlent).dopin (f := fun b o => b = a ∧ o = ExK cls a) (fun b o z => by
    obtain ⟨rfl, rfl⟩ := z
    exact ⟨upd_same, (RS.store tracked few notlent).not_own upd_same id, id⟩) fun b o z => by
    obtain ⟨rfl, rfl⟩ := z
    trivial
  exact yes hb a _ _ _ ⟨fun Γ2 τ2 G2 q r2 => L.nx _ _ _ q (clear r2.unpin), fun u Γ2 τ2 G2 y q r2 => L.rt _ _ _ _ _ q r2.unpin, fun Γ2 τ2 G2 q r2 => L.bk _ _ _ q (clear r2.unpin), fun Γ2 τ2 G2 q r2 => L.ct _ _ _ q (clear r2.unpin)⟩ there
end
end DL

/-! walks and unpacked tuples where an exception may be handled -/
namespace DL
open PySem PySem.Spec
open PyProof.Rows L2
/-- nothing is handled, or an exception that has no context -/
def MildAt (A : Around) (h : Heap) : Prop := A.handled = none ∨ ∃ a, HotX.HotAt A a h
section
variable {prog : Program}
variable {w : World} {A : Around}
variable {s : Shared} {E : Value → Shared → Prop}
theorem MildAt.kept {h h' : Heap} (m : MildAt A h) (k : ∀ b o, h.get? b = some o → h'.get? b = some o) : MildAt A h' := m.imp id fun ⟨a, hh, o, vs, e, d, n⟩ => ⟨a, hh, o, vs, k a o e, d, n⟩
/-- a walk's end is told by an exception that no one sees -/
theorem told_end {α : Type} {Q : α → Shared → Prop} (mild : MildAt A s.heap) (out : ∀ h' e, (∀ b o, s.heap.get? b = some o → h'.get? b = some o) → (∃ o, h'.get? e = some o ∧ o.cls = .type "StopIteration") → E (.ref e) { s with heap := h' }) :
    wpAny (model prog w) A (newExc (.type "StopIteration") [] >>= fun e => raiseNew e : Sem α) Q E s := by
  have first : firstArgMember (.type "StopIteration") [] = pure Value.none := by
    first | rfl | simp only [firstArgMember]
  simp only [newExc, newTuple]
  refine wpAny_bind (wpAny_bind (wpAny_newObj_type (wpAny_bind (wpAny_of_eq first (wpAny_newObj_type ?_ (by size_fits)))) (by size_fits)))
  rcases mild with none | ⟨a, hh, o, vs, at_a, shape, nocx⟩
  · simp only [raiseNew]
    refine wpAny_bind (wpAny_handled ?_); rw [none]
    exact wpAny_bind (wpAny_pure (wpAny_throw (out _ _ (fun b o z => Heap.get?_push_of_some _ (Heap.get?_push_of_some _ z)) ⟨_, Heap.get?_push_size _ rfl, rfl⟩)))
  · have at2 := Heap.get?_push_of_some { cls := .type "StopIteration", data := .fields (#[Value.ref s.heap.objs.size, .none, .none, .none, .bool false, .none]) } (Heap.get?_push_of_some { cls := .type "tuple", data := .seq ([] : List Value).toArray } at_a)
    refine HotX.raiseNew_hot ⟨hh, o, vs, Heap.get?_push_of_some _ (Heap.get?_push_of_some _ at_a), shape, nocx⟩ (Nat.ne_of_lt (Heap.lt_size (Heap.get?_push_of_some _ at_a))) (Heap.get?_push_size _ rfl) rfl (by first | (simp; done) | (simp; omega) | (simp only [Array.size_append]; simp; omega)) ?_
    refine out _ _ (fun b u z => ?_) ⟨_, Heap.get?_update_self _ (Heap.get?_push_size _ rfl) rfl, rfl⟩
    rw [Heap.get?_update_other _ _ (Nat.ne_of_gt (Heap.lt_size (Heap.get?_push_of_some _ z)))]
    exact Heap.get?_push_of_some _ (Heap.get?_push_of_some _ z)
theorem seen_end {e : Addr} {Q : Option Value → Shared → Prop} (z : ∃ o, s.heap.get? e = some o ∧ o.cls = .type "StopIteration") (q : Q none s) : wpAny (model prog w) A (do if ← isInstance (.ref e) (.type "StopIteration") then pure none else throw (.ref e)) Q E s :=
  wpAny_bind (wpAny_isInstance (T := "StopIteration") (b := true) z isSubtype_stop (wpAny_pure q))
/-- a list's walk ends -/
theorem list_over {it l : Addr} {i : Nat} {items : Array Value} {Q : Option Value → Shared → Prop} (mild : MildAt A s.heap) (other : ∀ a, A.handled = some (.ref a) → a ≠ it) (hit : s.heap.IsListIter it l i) (hl : s.heap.IsList l items) (last : items[i]? = none)
    (q : ∀ h', Heap.ExtBut it s.heap h' → Q none { s with heap := h' }) : wpAny (model prog w) A (pyNext (.ref it)) Q E s := by
  obtain ⟨u, at_it, cls_it, shape⟩ := id hit
  obtain ⟨v, at_l, _, n, items_l⟩ := hl
  unfold pyNext
  refine wpAny_bind (wpAny_attempt (wpAny_callSpecial?_slot (name := Str.ofString "__next__") hit.typeIs slot_listiter_next (wpAny_call_entry slot_listiter_next hit.typeIs entry_listiter_next ?_ (args_listiter_next _))))
  show wpAny _ _ (field (.ref it) 0 >>= fun _ => _) _ _ s
  refine wpAny_bind (wpAny_field at_it shape (x := .ref l) rfl ?_)
  show wpAny _ _ (if (Value.ref l == Value.none) = true then _ else _) _ _ _
  refine (if_neg (show ¬ (Value.ref l == Value.none) = true from Bool.false_ne_true)).symm ▸ ?_
  show wpAny _ _ (field (.ref it) 1 >>= fun _ => _) _ _ s
  refine wpAny_bind (wpAny_field at_it shape (x := .int i 0) rfl ?_)
  show wpAny _ _ (seqItems? (.ref l) >>= fun _ => _) _ _ s
  refine wpAny_bind (wpAny_seqItems at_l items_l ?_)
  simp only [Int.toNat_natCast, last]
  refine wpAny_bind (wpAny_rule (wpAny_bind (wpAny_setField at_it shape (by simp) ?_)))
  have upd := Heap.SameBut.update s.heap it (Obj.mapFields fun x => x.setIfInBounds 0 .none)
  refine told_end (mild.imp id fun ⟨a, hh, o, vs, e, d, nc⟩ => ⟨a, hh, o, vs, (upd.2 a (other a hh)).trans e, d, nc⟩) fun h2 e keep stop => seen_end (s := { s with heap := h2 }) stop (q h2 fun b o nb z => keep b o ((upd.2 b nb).trans z))
/-- a tuple's walk ends -/
theorem tup_over {it t : Addr} {i : Nat} {items : Array Value} {Q : Option Value → Shared → Prop} (mild : MildAt A s.heap) (other : ∀ a, A.handled = some (.ref a) → a ≠ it) (hit : IsTupIter s.heap it t i) (ht : IsTup s.heap t items) (last : items[i]? = none)
    (q : ∀ h', Heap.ExtBut it s.heap h' → Q none { s with heap := h' }) : wpAny (model prog w) A (pyNext (.ref it)) Q E s := by
  obtain ⟨u, at_it, cls_it, shape⟩ := id hit
  obtain ⟨v, at_t, _, n, items_t⟩ := ht
  unfold pyNext
  refine wpAny_bind (wpAny_attempt (wpAny_callSpecial?_slot (name := Str.ofString "__next__") hit.typeIs slot_tupleiter_next (wpAny_call_entry slot_tupleiter_next hit.typeIs entry_tupleiter_next ?_ (args_tupleiter_next _))))
  show wpAny _ _ (field (.ref it) 0 >>= fun _ => _) _ _ s
  refine wpAny_bind (wpAny_field at_it shape (x := .ref t) rfl ?_)
  show wpAny _ _ (if (Value.ref t == Value.none) = true then _ else _) _ _ _
  refine (if_neg (show ¬ (Value.ref t == Value.none) = true from Bool.false_ne_true)).symm ▸ ?_
  show wpAny _ _ (field (.ref it) 1 >>= fun _ => _) _ _ s
  refine wpAny_bind (wpAny_field at_it shape (x := .int i 0) rfl ?_)
  show wpAny _ _ (seqItems? (.ref t) >>= fun _ => _) _ _ s
  refine wpAny_bind (wpAny_seqItems at_t items_t ?_)
  simp only [Int.toNat_natCast, last]
  refine wpAny_bind (wpAny_rule (wpAny_bind (wpAny_setField at_it shape (by simp) ?_)))
  have upd := Heap.SameBut.update s.heap it (Obj.mapFields fun x => x.setIfInBounds 0 .none)
  refine told_end (mild.imp id fun ⟨a, hh, o, vs, e, d, nc⟩ => ⟨a, hh, o, vs, (upd.2 a (other a hh)).trans e, d, nc⟩) fun h2 e keep stop => seen_end (s := { s with heap := h2 }) stop (q h2 fun b o nb z => keep b o ((upd.2 b nb).trans z))
/-- a, b, .. = a tuple -/
theorem unpack_mild {env : Env} {elts : List Expr} {k : Nat} {pos : Pos} {t : Addr} {items : Array Value} {Q : Unit → Shared → Prop} (mild : MildAt A s.heap) (alive : ∀ a, A.handled = some (.ref a) → a < s.heap.objs.size) (ht : IsTup s.heap t items) (many : (assignEach elts env).length = items.size) (nostar : (assignEach elts env).findIdx? (·.1) = none)
    (q : ∀ h', Heap.ExtBut s.heap.objs.size s.heap h' → wpAny (model prog w) A (assignInOrder ((assignEach elts env).map (·.2)) items.toList) Q E { s with heap := h' }) : wpAny (model prog w) A (assign (.Tuple elts k pos) env (.ref t)) Q E s := by
  have below : t ≠ s.heap.objs.size := ht.elim fun _ z => Nat.ne_of_lt (Heap.lt_size z.1)
  rw [PyProof.Rows.assign_Tuple]; refine wpAny_bind (wpAny_standAt ?_)
  unfold unpack
  rw [many, nostar]
  refine wpAny_bind (wpAny_holding (wpAny_bind ?_))
  unfold notIterableAtAll
  refine wpAny_bind (wpAny_specialOf ht.typeIs slot_tuple_iter.lookup (wpAny_pure ?_))
  simp only [Bool.false_eq_true, if_false]; refine wpAny_bind (wpAny_holding (PyProof.Rows.iter_tuple ht (wpAny_bind (wpAny_holding (PyProof.Rows.draw_tuple below items.size 0 _ _ ⟨_, Heap.get?_push_size _ rfl, rfl, rfl⟩ (ht.push _) (by omega) fun h1 it1 same1 => ?_)))))
  have all : List.take items.size (List.drop 0 items.toList) = items.toList := by rw [List.drop_zero]; exact List.take_of_length_le (by simp)
  rw [all, if_neg (by simp)]
  have keep1 : ∀ b o, b ≠ s.heap.objs.size → s.heap.get? b = some o → h1.get? b = some o := fun b o nb z => same1.extBut b o nb (Heap.get?_push_of_some _ z)
  have mild1 : MildAt A h1 := mild.imp id fun ⟨a, hh, o, vs, e, d, nc⟩ => ⟨a, hh, o, vs, keep1 a o (Nat.ne_of_lt (alive a hh)) e, d, nc⟩
  refine wpAny_bind (wpAny_holding (tup_over mild1 (fun a hh => Nat.ne_of_lt (alive a hh)) it1 ((ht.push _).extBut same1.extBut below) (by simp) fun h2 ext => ?_))
  simp only [Option.isSome_none, Bool.false_eq_true, if_false]; exact wpAny_pure (q h2 fun b o nb z => ext b o nb (keep1 b o nb z))
end
end DL

/-! calls where an exception may be handled -/
namespace DL
open PySem PySem.Spec
open PyProof.Rows L2
/-- nothing is handled, or a tracked exception -/
def Mild (A : Around) (H : Hp) : Prop := A.handled = none ∨ ∃ a cls, A.handled = some (.ref a) ∧ H a = some (ExK cls a)
theorem Mild.hot {P : Program} {w : World} {A : Around} {H : Hp} {h : Heap} (m : Mild A H) (ok : HOk P w H h) : MildAt A h := m.imp id fun ⟨a, cls, hh, e⟩ => by
  obtain ⟨⟨o, vs, at_a, _, _, shape, nc⟩, _⟩ := ok a _ e
  exact ⟨a, hh, o, vs, at_a, shape, nc⟩
theorem Mild.alive {P : Program} {w : World} {A : Around} {H : Hp} {h : Heap} (m : Mild A H) (ok : HOk P w H h) : ∀ a, A.handled = some (.ref a) → a < h.objs.size := fun a hh => by
  rcases m with z | ⟨b, cls, hb, e⟩
  · rw [z] at hh; cases hh
  · cases hb.symm.trans hh
    exact (ok _ _ e).lt
theorem Mild.not {A : Around} {H : Hp} (m : Mild A H) {b : Addr} (free : H b = none) : ∀ a, A.handled = some (.ref a) → a ≠ b := fun a hh z => by
  rcases m with y | ⟨d, cls, hb, e⟩
  · rw [y] at hh; cases hh
  · cases hb.symm.trans hh
    rw [z, free] at e; cases e
/-- what every state of a def knows of the exception that is handled -/
def Easy (c : Core) [Tb c.K] (S : Ent) : Prop := c.A.handled = none ∨ ∃ a cls, c.A.handled = some (.ref a) ∧ ((S.H a = some (ExK cls a) ∧ ¬ S.x a) ∨ S.pn a (ExK cls a))
theorem Easy.mild {c : Core} [Tb c.K] {S : Ent} {ex : AP} {Γ : List AV} {σ : Sg} {H : Hp} (e : Easy c S) (r : RS c.K S ex Γ σ H) : Mild c.A H := e.imp id fun ⟨a, cls, hh, z⟩ => ⟨a, cls, hh, z.elim (fun z => r.fr a _ z.1 z.2) fun z => (r.pin a _ z).1⟩
theorem Easy.pin {c : Core} [Tb c.K] {S : Ent} {f : Addr → HO → Prop} (e : Easy c S) : Easy c (S.pin f) := e.imp id fun ⟨a, cls, hh, z⟩ => ⟨a, cls, hh, z.imp id .inl⟩
theorem Easy.held (c : Core) [Tb c.K] (S : Ent) (a : Addr) (cls : Value) : Easy (heldC c a) (heldS S a cls) := .inr ⟨a, cls, rfl, .inr (.inr ⟨rfl, rfl⟩)⟩
/-- a def that keeps a promise also where an exception is handled -/
structure FnE (P : Program) (w : World) (K : PySem.W.Frag) (mg : Str → Option Value) (base : Heap) (k : Nat) (f : Addr) (fd : FuncData) (ps : List Str) (sp : Sp) : Prop where
  len : ∀ as G Q E, sp as G Q E → as.length = ps.length
  run : ∀ (A : Around) (outer : List Env) (s : Shared) (H : Hp) (args : Args) (us : List Value) (vs : List V) (Q : VK), L2H.RoomH k A → A.guards = some [] → Mild A H → Env0 P w K mg base A outer s H → BindsTo s fd args (ps.zip us) → Vals vs us → sp vs H Q E0 →
    codeAny (model P w) A (.call (.ref f) args) (CR CX0 outer P w H s Q E0) s
theorem FnE.mono {P : Program} {w : World} {K : PySem.W.Frag} [Tb K] {mg : Str → Option Value} {base : Heap} {j k : Nat} {f : Addr} {fd : FuncData} {ps : List Str} {sp : Sp} (F : FnE P w K mg base j f fd ps sp) (h : j ≤ k) : FnE P w K mg base k f fd ps sp :=
  ⟨F.len, fun A outer s H args us vs Q hr => F.run A outer s H args us vs Q (hr.mono h)⟩
/-- such a promise is one where nothing is handled -/
theorem FnE.calm {P : Program} {w : World} {K : PySem.W.Frag} [Tb K] {mg : Str → Option Value} {base : Heap} {k : Nat} {f : Addr} {fd : FuncData} {ps : List Str} {sp : Sp} (F : FnE P w K mg base k f fd ps sp) : FnG P w K mg base k f fd ps sp :=
  ⟨F.len, fun A outer s H args us vs Q hr hgu => F.run A outer s H args us vs Q (L2H.roomH_of hr) hgu (.inl hr.hd)⟩
abbrev coreE (P : Program) (w : World) (K : PySem.W.Frag) (mg : Str → Option Value) (base : Heap) (A : Around) (N : List Str) (stack : List Env) : Core := ⟨P, w, K, mg, base, A, N, stack, false⟩
theorem FnE.of {P : Program} {w : World} {K : PySem.W.Frag} [Tb K] {mg : Str → Option Value} {base : Heap} {x qual : Str} {st : Stmt} {f : Addr} {fd : FuncData} {N ps : List Str} {k : Nat} {DS : DSp} (F : Fun K x qual st f fd) (SC : FnScope N ps (defScope st)) (hn : ∀ as post, DS as post → as.length = ps.length)
    (body : ∀ (cdv : Value) (A : Around) (outer : List Env) (s : Shared) (H : Hp) (vs : List V) (fo : AP) (as : List AV) (post : AV → List AV → Prop), L2H.RoomH k (A.deeper (envOfC qual (defScope st) s.heap.objs.size f cdv)) → A.guards = some [] → DS as post →
      Easy (coreE P w K mg base (A.deeper (envOfC qual (defScope st) s.heap.objs.size f cdv)) N (envOfC qual (defScope st) s.heap.objs.size f cdv :: outer)) (Ent.call H as vs fo N.length) →
      BD (coreE P w K mg base (A.deeper (envOfC qual (defScope st) s.heap.objs.size f cdv)) N (envOfC qual (defScope st) s.heap.objs.size f cdv :: outer)) (varOf s H (envOfC qual (defScope st) s.heap.objs.size f cdv) outer) (Ent.call H as vs fo N.length) (defBody st)
        { nx := fun Γ => post (.dt .non) (outsA as Γ), rt := fun a Γ => post a (outsA as Γ) } (as ++ List.replicate (N.length - as.length) .un)) : FnE P w K mg base (k + 1) f fd ps (spD K DS) := by
  obtain ⟨oc, od, kV, doc, pm, an, cdv, ct, osl, rfl, lk, code⟩ := F.ex
  refine ⟨fun vs H Q E h => spD_len hn h, fun A outer s H args us vs Q hr hgu mild e0 hb rv h => ?_⟩
  have ln : vs.length = ps.length := spD_len hn h
  have inB : ∀ b o, K.lookup b = some o → base.get? b = some o := fun b o z => e0.mod.kin b o z
  have inK : K.In s.heap := e0.mod.kin.keeps fun b o z => (e0.bs b o z).1
  have nolim : s.heap.NoLimit := e0.mod.nolimit.keeps fun b o z => (e0.bs b o z).1
  have kinds : ∀ y ∈ ps.zip us, (defScope st).names.lookup y.1 = some .local ∨ ((defScope st).names.lookup y.1 = some .cell ∧ ((cellsFrom (s.heap.objs.size + 1) (defScope st).names []).lookup y.1).isSome = true) := fun y hy =>
    (SC.par y.1 (List.of_mem_zip hy).1).imp id fun z => ⟨z, PySem.W.cellsFrom_some _ _ _ (.inl z)⟩
  refine codeAny_call_function hr.depth (inK _ _ lk) rfl SC.co SC.gen rfl (PySem.W.codeRec_of inK code) (hb _ _ _ _ (wpAny_newFunctionEnv_cells SC.kind kinds fun env henv s1 ic => ?_))
  subst henv
  refine ⟨nolim.keeps ic.toInCall.keep, codeAny_func ?_⟩
  obtain ⟨as, fo, post, hD, rs, back⟩ := h
  have la : as.length = ps.length := hn as post hD
  have hNl : ps.length ≤ N.length := by
    have := congrArg List.length SC.pre
    rw [List.length_take] at this
    omega
  -- the def itself is pinned for the start alone
  have nofr : f ∉ frs outer := fun m => by
    have := (e0.funs.mem m).1
    rw [inB _ _ lk] at this
    cases this
  have pinned : L2H.PinOk outer H s (f, _) := { get := inK _ _ lk, free := (e0.bs _ _ (inB _ _ lk)).2, nofs := nofr, nocell := fun _ z => by cases z }
  have I0 : Inv (L2H.cxH CX0 P w K mg base N qual (defScope st) f cdv A outer s H E0 (f, _)) [] (start N vs) H s1 := L2H.inv_startH SC pinned e0 ln rv ic
  have I1 : Inv (mkX (coreE P w K mg base (A.deeper (envOfC qual (defScope st) s.heap.objs.size f cdv)) N (envOfC qual (defScope st) s.heap.objs.size f cdv :: outer)) (varOf s H (envOfC qual (defScope st) s.heap.objs.size f cdv) outer ())) [] (start N vs) H s1 :=
    ⟨⟨I0.ok.mod, I0.ok.kind, I0.ok.glob, I0.ok.blt, I0.ok.above, I0.ok.inj, I0.ok.has, I0.ok.cab, I0.ok.hd, I0.ok.frames, I0.ok.stk, I0.ok.exf, I0.ok.bs, I0.ok.bsz, I0.ok.noex, I0.ok.exfs, I0.ok.funs, I0.ok.frf⟩, I0.os, I0.bare, I0.base, I0.loc, I0.cell, I0.free, I0.freeC, fun p hp => (nomatch (show p ∈ ([] : List (Addr × Obj)) from hp)), I0.hok, I0.len⟩
  have rs0 := entry_rs rs la ln hNl
  have easy : Easy (coreE P w K mg base (A.deeper (envOfC qual (defScope st) s.heap.objs.size f cdv)) N (envOfC qual (defScope st) s.heap.objs.size f cdv :: outer)) (Ent.call H as vs fo N.length) := mild.imp id fun ⟨a, cls, hh, e⟩ => ⟨a, cls, hh, .inl ⟨noTb_of e trivial, fun ⟨i, l⟩ => by
    obtain ⟨ds, ow, at_v⟩ := lent_mem.mp l
    obtain ⟨q, xs, e1, e2, q2⟩ := rs.slots i _ ow
    rw [List.getElem?_map, at_v] at e1
    cases e1
    rw [e2] at e
    cases e
    exact q2.mt⟩⟩
  obtain ⟨t, ht, hq⟩ := body cdv A outer s H vs fo as post (hr.deeper _) hgu hD easy { nx := fun _ G => Q .non G, rt := Q } (start N vs) H ⟨fun Γ σ' G hp hr => back .non G (.dt .non) _ hp (outs_res rs (by omega) ⟨hr, .non⟩), fun a Γ σ' G z hp hr => back z G a _ hp (outs_res rs (by omega) hr), fun _ _ _ z => z.elim, fun _ _ _ z => z.elim⟩ rs0
  refine wpAny_mono ((ht ()).run [] s1 (start N vs) H _ I1 hq) (fun fl s' hs => ?_) fun e s' no => no.elim
  match fl, hs with
  | .ret u, ⟨z, σ', G, J, rel, q⟩ => exact ⟨z, G, J.os, J.bare, J.base, J.hok, rel, q⟩
  | .next, ⟨σ', G, J, q⟩ => exact ⟨.non, G, J.os, J.bare, J.base, J.hok, rfl, q⟩
  | .brk, ⟨_, _, _, no⟩ => exact no.elim
  | .cont, ⟨_, _, _, no⟩ => exact no.elim
section
variable {k : Nat} {f : Addr} {fd : FuncData} {ps : List Str} {x : Str} {p pos : Pos} {e : Expr} {es : List Expr}
theorem pe_callE {Y : Cx} {sp : Sp} {t : TA} (F : FnE Y.prog Y.w Y.K Y.mg Y.base k f fd ps sp) (hr : L2H.RoomH k Y.A) (hgu : Y.A.guards = some []) (hg : Gl Y x) (hm : Y.mg x = some (.ref f)) (hk : PySem.W.keepIn Y.K (.ref f) = true) (hb : Binds Y.K fd ps [])
    (ha : PA Y (e :: es) t) (hdb : (x == ("__debug__" : Str)) = false) (he : starEach (e :: es) Y.env = (false, eval e Y.env) :: starEach es Y.env) (hpl : (backTo pos (starEach es Y.env)).any (·.1) = false) :
    PE Y (.Call (.Name x p) (e :: es) [] pos) (fun σ H R => t σ H fun vs H1 => Mild Y.A H1 ∧ sp vs H1 R E0) where
  run pins s σ H R I given := by
    refine wpAny_Call_Name_kw (ld_glob I hg hm (PySem.W.callWith_K (h₀ := Y.base) I.ok.mod.kin hk (thn (ha.run pos pins s σ H _ I given) fun us s1 got => ?_) he hpl) hdb)
    obtain ⟨vs, H1, I1, rel, mild, q⟩ := got
    refine ⟨I1.kIn, ?_⟩
    have many : (us ++ ([] : List Value)).length = ps.length := by rw [List.append_nil, ← rel.length]; exact F.len _ _ _ _ q
    have bound := hb s1 us I1.kIn many
    rw [List.append_nil] at bound
    exact wpAny_call (codeAny_mono (F.run Y.A Y.stack s1 H1 ⟨us, []⟩ us vs R hr hgu mild I1.env0 bound rel q) fun res s' done => match res, done with
      | .ok (.ret _), done => I1.after done
      | .ok .next, no => no.elim
      | .ok .brk, no => no.elim
      | .ok .cont, no => no.elim
      | .error _, no => no.elim)
variable {c : Core} [Tb c.K] {ι : Type} {v : ι → Var} {S : Ent} {Γ : List AV} {Q : AV → List AV → Prop} {DS : DSp}
/-- f(e, ..), also where an exception is handled -/
theorem ed_callE (F : FnE c.prog c.w c.K c.mg c.base k f fd ps (spD c.K DS)) (hr : L2H.RoomH k c.A) (hgu : c.A.guards = some []) (easy : Easy c S) (hg : ∀ i, Gl (mkX c (v i)) x) (hm : c.mg x = some (.ref f)) (hk : PySem.W.keepIn c.K (.ref f) = true) (hb : Binds c.K fd ps [])
    (hdb : (x == ("__debug__" : Str)) = false) (he : NoStar v e es) (hpl : NoStarL v pos es)
    (h : EA c v S (e :: es) Γ fun as Γ1 => ∃ avs, argsA Γ1 as = some avs ∧ lnsOk as = true ∧ DS avs fun a avs' => avs'.length = avs.length → Q a (backA Γ1 as avs')) : ED c v S (.Call (.Name x p) (e :: es) [] pos) Γ Q := fun σ H R r kk => by
  refine ⟨fun σ H R => wA c v (e :: es) σ H fun vs H1 => Mild c.A H1 ∧ spD c.K DS vs H1 R E0, fun i => pe_callE (Y := mkX c (v i)) F hr hgu (hg i) hm hk hb (wA.pa i) hdb (he i) (hpl i), ?_⟩
  refine h σ H _ r fun xs H1 as Γ1 ⟨avs, ea, ho, hD⟩ r1 hx s => ⟨easy.mild r1, avs, _, _, hD, call_in r1 hx ea ho, fun y H2 a as' q hres => ?_⟩
  obtain ⟨z1, z2, z3⟩ := call_out r1 hx ea ho hres
  exact kk _ _ _ _ (q hres.rs.lenΓ) z1 (s.trans z2) (z3.back s)
end
end DL

/-! list comprehensions with any number of clauses, also where an exception is handled -/
namespace DL
open PySem PySem.Spec
open PyProof.Rows L2
section
variable {elt tg iter tg1 iter1 : Expr} {ifs ifs1 : List Expr} {gens : List Comprehension} {scope : Scope} {pos : Pos} {k : Nat} {it acc : Value} {env : Env}
theorem turn_last (hk : gens[k]? = some ⟨tg, iter, ifs, 0⟩) (h1 : gens[k + 1]? = none) : compTurn (.ListComp elt gens scope pos) k it acc env = (do
      standAt iter.pos
      match ← pyNext it with
      | none => pure (.done .next)
      | some v =>
        letOwnedTupleGo tg it v
        assign tg env v
        let mut ok := true
        for c in ifs do
          if ok then ok ← (isTrue c env (eval c env))
        if ok then
          (do let _ ← call (.builtin "list.append") [acc, ← (eval elt env)])
        again (.compLoop (.ListComp elt gens scope pos) k it acc env)) := by
  unfold compTurn
  simp only [hk, h1]
  rfl
theorem turn_mid (hk : gens[k]? = some ⟨tg, iter, ifs, 0⟩) (h1 : gens[k + 1]? = some ⟨tg1, iter1, ifs1, 0⟩) : compTurn (.ListComp elt gens scope pos) k it acc env = (do
      standAt iter.pos
      match ← pyNext it with
      | none => pure (.done .next)
      | some v =>
        letOwnedTupleGo tg it v
        assign tg env v
        let mut ok := true
        for c in ifs do
          if ok then ok ← (isTrue c env (eval c env))
        if ok then
          let x ← eval iter1 env
          standAt iter1.pos
          let x ← foldedSetIterable iter1 env x
          let _ ← runOwn (.compStart (.ListComp elt gens scope pos) (k + 1) (← holding [x] (pyIter x)) acc env) env
        again (.compLoop (.ListComp elt gens scope pos) k it acc env)) := by
  unfold compTurn
  simp only [hk, h1]
  rfl
end
/-- a walk's turns, under the condition Cd -/
structure TurnC (Cd : Cx → Hp → Prop) (P : Program) (w : World) (K : PySem.W.Frag) (tg : Expr) (J : It) (fp : List Addr) (it : Addr) (tn : Nat → Heap → Prop) : Prop where
  mem : it ∈ fp
  obj : ∀ i hh, tn i hh → ∀ b ∈ fp, ∃ o, hh.get? b = some o ∧ ∀ v, o.data ≠ .cell v
  keep : ∀ i h1 h2, tn i h1 → (∀ b ∈ fp, ∀ o, h1.get? b = some o → h2.get? b = some o) → tn i h2
  item : ∀ (X : Cx), X.prog = P → X.w = w → X.K = K → ∀ (i : Nat) (pins : List (Addr × Obj)) (s : Shared) (σ : Sg) (H : Hp) (E : Value → Shared → Prop), Cd X H → Inv X pins σ H s → (∀ b ∈ fp, FpOk X pins H b) → tn i s.heap → J.go i H →
    wpAny (model P w) X.A (pyNext (.ref it)) (fun r s1 => ∃ u, r = some u ∧ wpAny (model P w) X.A (letOwnedTupleGo tg (.ref it) u) (fun _ s2 => ∃ x H', Inv X pins σ H' s2 ∧ RelV x u ∧ J.yld i H x H' ∧ tn (i + 1) s2.heap ∧ ∀ b ∈ fp, H' b = none) E s1) E s
  done : ∀ (X : Cx), X.prog = P → X.w = w → X.K = K → ∀ (i : Nat) (pins : List (Addr × Obj)) (s : Shared) (σ : Sg) (H : Hp) (E : Value → Shared → Prop), Cd X H → Inv X pins σ H s → (∀ b ∈ fp, FpOk X pins H b) → tn i s.heap → J.stop i H →
    wpAny (model P w) X.A (pyNext (.ref it)) (fun res s1 => res = none ∧ Inv X pins σ H s1) E s
  self : ∀ (A : Around) (n : Nat) (s : Shared) (Q : Value → Shared → Prop) (E : Value → Shared → Prop), tn n s.heap → Q (.ref it) s → wpAny (model P w) A (pyIter (.ref it)) Q E s
abbrev CalmC : Cx → Hp → Prop := fun X _ => X.calm = true
abbrev MildC : Cx → Hp → Prop := fun X H => Mild X.A H
theorem TurnC.of {P : Program} {w : World} {K : PySem.W.Frag} {tg : Expr} {J : It} {fp : List Addr} {it : Addr} {tn : Nat → Heap → Prop} (T : Turn P w K tg J fp it tn) : TurnC CalmC P w K tg J fp it tn :=
  ⟨T.mem, T.obj, T.keep, fun X e1 e2 e3 i pins s σ H E c => T.item X e1 e2 e3 c i pins s σ H E, fun X e1 e2 e3 i pins s σ H E c => T.done X e1 e2 e3 c i pins s σ H E, T.self⟩
def PIEC (Cd : Cx → Hp → Prop) (X : Cx) (pins : List (Addr × Obj)) (σ : Sg) (tg : Expr) (R : It → Hp → Prop) (itv : Value) (s2 : Shared) : Prop :=
  ∃ (it : Addr) (fp : List Addr) (tn : Nat → Heap → Prop) (J : It) (H' : Hp), itv = .ref it ∧ Inv X pins σ H' s2 ∧ TurnC Cd X.prog X.w X.K tg J fp it tn ∧ tn 0 s2.heap ∧ (∀ b ∈ fp, FpOk X pins H' b) ∧ R J H'
/-- what is walked over -/
structure PIC (Cd : Cx → Hp → Prop) (X : Cx) (tg iter : Expr) (wi : TI) : Prop where
  run : ∀ (pins : List (Addr × Obj)) (s : Shared) (σ : Sg) (H : Hp) (R : It → Hp → Prop), Inv X pins σ H s → wi σ H R →
    wpAny (model X.prog X.w) X.A (eval iter X.env) (fun v s1 => wpAny (model X.prog X.w) X.A (pyIter v) (PIEC Cd X pins σ tg R) X.xe s1) X.xe s
theorem PIC.of {X : Cx} {tg iter : Expr} {wi : TI} (p : PI X tg iter wi) : PIC CalmC X tg iter wi := ⟨fun pins s σ H R I h => thn (p.run pins s σ H R I h) fun v s1 h1 => thn h1 fun itv s2 ⟨it, fp, tn, J, H', e, I', T, st, f, q⟩ => ⟨it, fp, tn, J, H', e, I', .of T, st, f, q⟩⟩
/-- a clause and its readings; vs: the slots of the names that it and the clauses behind it bind -/
structure Cla where
  tg : Expr
  iter : Expr
  ifs : List Expr
  wi : TI
  g : TG
  tt : TT
  vs : List Nat
abbrev Cla.comp (c : Cla) : Comprehension := ⟨c.tg, c.iter, c.ifs, 0⟩
abbrev Emit := Sg → Hp → (Hp → Prop) → Prop
/-- a clause's loop from its iterator J on -/
def tLoop (C : Hp → Prop) (J : It) (c : Cla) (next : Emit) : Emit := fun σ H1 Nx => ∃ W : Nat → Nat → Hp → Prop, (∃ m, W 0 m H1) ∧ ∀ i m H, W i m H → C H ∧ ((J.stop i H ∧ Nx H) ∨ (J.go i H ∧ ∃ N : Hp → Prop, (∀ H', N H' → ∃ m', m' < m ∧ W (i + 1) m' H') ∧
  ∀ x H', J.yld i H x H' → c.g x (wipe σ c.vs) H' fun σ2 H2 => wipe σ2 c.vs = wipe σ c.vs ∧ c.tt σ2 H2 fun b H3 => if b = true then next σ2 H3 N else N H3))
def tCls (C : Hp → Prop) (fin : Emit) : List Cla → Emit
  | [] => fin
  | c :: cs => fun σ H Nx => c.wi σ H fun J H1 => tLoop C J c (tCls C fin cs) σ H1 Nx
def vsOf : List Cla → List Nat
  | [] => []
  | c :: _ => c.vs
/-- the clauses in the block's context -/
structure ClaOk (Cd : Cx → Hp → Prop) (B : Cx) (c : Cla) : Prop where
  pg : PG B c.tg c.g
  pt : PTs B c.ifs c.tt
structure InnerOk (Cd : Cx → Hp → Prop) (B : Cx) (c : Cla) (before : List Nat) : Prop where
  pi : PIC Cd B c.tg c.iter c.wi
  nofold : ∀ x, foldedSetIterable c.iter B.env x = pure x
  sub : ∀ i ∈ c.vs, i ∈ before
def ClasOk (Cd : Cx → Hp → Prop) (B : Cx) : List Nat → List Cla → Prop
  | _, [] => True
  | before, c :: cs => InnerOk Cd B c before ∧ ClaOk Cd B c ∧ ClasOk Cd B c.vs cs
section
variable {Cd : Cx → Hp → Prop} {C : Hp → Prop} {B : Cx} {elt : Expr} {gens : List Comprehension} {scope : Scope} {pos : Pos} {acc : Value} {fin : Emit}
theorem wipe_sub {σ : Sg} {us vs : List Nat} (h : ∀ i ∈ us, i ∈ vs) {j : Nat} {v : V} (e : (wipe σ vs)[j]? = some (some v)) : (wipe σ us)[j]? = some (some v) := by
  obtain ⟨e1, e2⟩ := wipe_some e; rw [wipe_out fun z => e2 (h j z)]
  exact e1
/-- what stands behind a clause's tests -/
def Behind (B : Cx) (elt : Expr) (gens : List Comprehension) (scope : Scope) (pos : Pos) (acc : Value) (k : Nat) (Q : Shared → Prop) (s : Shared) : Prop := match gens[k]? with
  | none => wpAny (model B.prog B.w) B.A (eval elt B.env) (fun x s1 => wpAny (model B.prog B.w) B.A (call (.builtin "list.append") [acc, x]) (fun _ s2 => Q s2) (fun _ _ => False) s1) (fun _ _ => False) s
  | some g => g.is_async = 0 ∧ (∀ x, foldedSetIterable g.iter B.env x = pure x) ∧ wpAny (model B.prog B.w) B.A (eval g.iter B.env) (fun x s1 => wpAny (model B.prog B.w) B.A (pyIter x) (fun it s2 =>
      codeAny (model B.prog B.w) B.A (.compStart (.ListComp elt gens scope pos) k it acc B.env) (fun r s' => match r with
        | .ok _ => Q s'
        | .error _ => False) s2) (fun _ _ => False) s1) (fun _ _ => False) s
/-- one turn -/
theorem turn_wp {tg iter : Expr} {ifs : List Expr} {k : Nat} {it : Value} {Q R : Shared → Prop} {E : Value → Shared → Prop} {s : Shared} (at_k : gens[k]? = some ⟨tg, iter, ifs, 0⟩) (sync : ∀ g ∈ gens, g.is_async = 0)
    (h : wpAny (model B.prog B.w) B.A (pyNext it) (fun r s1 => match r with
      | none => R s1
      | some v => wpAny (model B.prog B.w) B.A (letOwnedTupleGo tg it v) (fun _ s2 => wpAny (model B.prog B.w) B.A (assign tg B.env v) (fun _ s3 =>
          wpAny (model B.prog B.w) B.A (forIn ifs true fun c r => if r = true then do let ok ← isTrue c B.env (eval c B.env); pure (ForInStep.yield ok) else pure (ForInStep.yield r)) (fun ok s4 =>
            if ok = true then Behind B elt gens scope pos acc (k + 1) Q s4 else Q s4) (fun _ _ => False) s3) (fun _ _ => False) s2) (fun _ _ => False) s1) (fun _ _ => False) s) :
    wpAny (model B.prog B.w) B.A (compTurn (.ListComp elt gens scope pos) k it acc B.env) (fun fin s' => match fin with
      | .done f => f = .next ∧ R s'
      | .again c' => c' = .compLoop (.ListComp elt gens scope pos) k it acc B.env ∧ Q s') E s := by
  cases nx : gens[k + 1]? with
  | none =>
    rw [turn_last at_k nx]
    refine wpAny_bind (wpAny_standAt (wpAny_bind (thnF h fun r s1 h1 => ?_)))
    cases r with
    | none => exact wpAny_pure ⟨rfl, h1⟩
    | some v =>
      refine wpAny_bind (thnF h1 fun _ s2 h2 => wpAny_bind (thnF h2 fun _ s3 h3 => wpAny_bind (thnF h3 fun ok s4 h4 => ?_)))
      cases ok with
      | false => exact wpAny_pure ⟨rfl, h4⟩
      | true =>
        have h4 : Behind B elt gens scope pos acc (k + 1) Q s4 := h4
        unfold Behind at h4
        rw [nx] at h4
        exact wpAny_bind (wpAny_bind (thnF h4 fun x s5 h5 => wpAny_bind (thnF h5 fun _ s6 h6 => wpAny_pure (wpAny_pure ⟨rfl, h6⟩))))
  | some g =>
    obtain ⟨t1, i1, f1, a1⟩ := g
    obtain rfl : a1 = 0 := sync _ (List.mem_of_getElem? nx)
    rw [turn_mid at_k nx]
    refine wpAny_bind (wpAny_standAt (wpAny_bind (thnF h fun r s1 h1 => ?_)))
    cases r with
    | none => exact wpAny_pure ⟨rfl, h1⟩
    | some v =>
      refine wpAny_bind (thnF h1 fun _ s2 h2 => wpAny_bind (thnF h2 fun _ s3 h3 => wpAny_bind (thnF h3 fun ok s4 h4 => ?_)))
      cases ok with
      | false => exact wpAny_pure ⟨rfl, h4⟩
      | true =>
        have h4 : Behind B elt gens scope pos acc (k + 1) Q s4 := h4
        unfold Behind at h4
        rw [nx] at h4
        obtain ⟨_, plain, h4⟩ := h4
        refine wpAny_bind (thnF h4 fun x s5 h5 => wpAny_bind (wpAny_standAt (wpAny_bind (wpAny_of_eq (plain x) (wpAny_bind (wpAny_holding (thnF h5 fun it1 s6 h6 => wpAny_bind (wpAny_runOwn ?_))))))))
        rw [Around.mark_none]
        refine codeAny_mono h6 fun res s' done => match res, done with
          | .ok f, done => ?_
          | .error _, no => no.elim
        first
          | exact wpAny_pure ⟨rfl, done⟩
          | exact wpAny_bind (wpAny_pure (wpAny_pure ⟨rfl, done⟩))
/-- one clause's loop -/
theorem loop_run {c : Cla} {next : Emit} {k : Nat} {it : Addr} {fp : List Addr} {tn : Nat → Heap → Prop} {J : It} {pins : List (Addr × Obj)} {σ : Sg} {H : Hp} {s : Shared} {Nx : Hp → Prop} {us : List Nat} (cd : ∀ H, C H → Cd B H) (at_k : gens[k]? = some c.comp) (sync : ∀ g ∈ gens, g.is_async = 0) (noxe : B.xe = fun _ _ => False) (ok : ClaOk Cd B c) (sub : ∀ i ∈ us, i ∈ c.vs)
    (T : TurnC Cd B.prog B.w B.K c.tg J fp it tn) (st : tn 0 s.heap) (fr : ∀ b ∈ fp, FpOk B pins H b) (I : Inv B pins σ H s) (h : tLoop C J c next σ H Nx)
    (rest : ∀ (pins : List (Addr × Obj)) (σ : Sg) (H : Hp) (s : Shared) (N : Hp → Prop), Inv B pins σ H s → next σ H N → Behind B elt gens scope pos acc (k + 1) (fun s' => ∃ H', Inv B pins (wipe σ us) H' s' ∧ N H') s) :
    codeAny (model B.prog B.w) B.A (.compLoop (.ListComp elt gens scope pos) k (.ref it) acc B.env) (fun r s' => match r with
      | .ok _ => ∃ H', Inv B pins (wipe σ c.vs) H' s' ∧ Nx H'
      | .error _ => False) s := by
  obtain ⟨W, ⟨m0, w0⟩, turn⟩ := h; have stay : ∀ {H' : Hp}, (∀ b ∈ fp, H' b = none) → ∀ b ∈ fp, FpOk B pins H' b := fun free b hb => ⟨free b hb, (fr b hb).2⟩
  refine codeAny_loop rfl (fun n s' => ∃ i H', Inv B pins (wipe σ c.vs) H' s' ∧ tn i s'.heap ∧ (∀ b ∈ fp, H' b = none) ∧ W i n H') (fun n s1 inv => ?_) m0 ⟨0, H, I.weak (wipe_length _ _) fun j v e => (wipe_some e).1, st, fun b hb => (fr b hb).1, w0⟩
  obtain ⟨i, H1, I1, st1, free1, w1⟩ := inv
  show wpAny _ B.A ((compTurn (.ListComp elt gens scope pos) k (.ref it) acc B.env).onRaise (fun x => do noteFrame x B.env; theTreesLotGoes x)) _ _ s1
  refine wpAny_noted (wpAny_mono (turn_wp (R := fun s' => ∃ H', Inv B pins (wipe σ c.vs) H' s' ∧ Nx H') (Q := fun s' => ∃ m, m < n ∧ ∃ i H', Inv B pins (wipe σ c.vs) H' s' ∧ tn i s'.heap ∧ (∀ b ∈ fp, H' b = none) ∧ W i m H') at_k sync ?_) (fun fin s' z => ?_) fun _ _ z => z)
  · obtain ⟨cH, stop | go⟩ := turn i n H1 w1
    · exact thnF (T.done B rfl rfl rfl i pins s1 _ H1 (fun _ _ => False) (cd H1 cH) I1 (stay free1) st1 stop.1) fun r s2 ⟨e, I2⟩ => by
        subst e
        exact ⟨H1, I2, stop.2⟩
    · obtain ⟨go, N, less, step⟩ := go
      refine thnF (T.item B rfl rfl rfl i pins s1 _ H1 (fun _ _ => False) (cd H1 cH) I1 (stay free1) st1 go) fun r s2 ⟨u, e, h2⟩ => ?_
      subst e
      refine thnF h2 fun _ s3 ⟨x, H3, I3, rx, y3, st3, free3⟩ => ?_
      have P3 := I3.pinned (stay free3) (T.obj _ _ st3)
      have still : ∀ {τ : Sg} {s' : Shared} {H' : Hp}, Inv B (pins ++ pinsAt fp s3.heap) τ H' s' → (∀ (j : Nat) v, (wipe σ c.vs)[j]? = some (some v) → τ[j]? = some (some v)) → τ.length = σ.length → N H' → ∃ m, m < n ∧ ∃ i H', Inv B pins (wipe σ c.vs) H' s' ∧ tn i s'.heap ∧ (∀ b ∈ fp, H' b = none) ∧ W i m H' := fun {τ s' H'} I' know len nx => by
        obtain ⟨m', lt, w'⟩ := less H' nx
        have there : ∀ b ∈ fp, ∀ o, s3.heap.get? b = some o → s'.heap.get? b = some o ∧ H' b = none := fun b hb o e =>
          have z := I'.pin (b, o) (List.mem_append_right _ (List.mem_append_right _ (mem_pinsAt hb e)))
          ⟨z.1, z.2.1⟩
        refine ⟨m', lt, i + 1, H', (I'.unpinned).weak (by rw [wipe_length, len]) know, T.keep _ _ _ st3 fun b hb o e => (there b hb o e).1, fun b hb => ?_, w'⟩
        obtain ⟨o, e, _⟩ := T.obj _ _ st3 b hb
        exact (there b hb o e).2
      have nox : ∀ {α : Type} {t : Sem α} {Q : α → Shared → Prop} {s' : Shared}, wpAny (model B.prog B.w) B.A t Q B.xe s' → wpAny (model B.prog B.w) B.A t Q (fun _ _ => False) s' := fun z => by rw [noxe] at z; exact z
      refine thnF (nox (ok.pg.run _ s3 _ H3 x u _ P3 rx (step x H3 y3))) fun _ s4 ⟨σ4, H4, I4, same, q4⟩ => ?_
      refine thnF (nox (ok.pt.run _ s4 σ4 H4 _ I4 q4)) fun b s5 ⟨H5, I5, q5⟩ => ?_
      have len4 : σ4.length = σ.length := by
        have := congrArg List.length same
        rw [wipe_length, wipe_length] at this
        exact this
      have know4 : ∀ (j : Nat) v, (wipe σ c.vs)[j]? = some (some v) → σ4[j]? = some (some v) := fun j v e => by
        rw [← same] at e
        exact (wipe_some e).1
      cases b with
      | false =>
        simp only [Bool.false_eq_true, if_false] at q5 ⊢
        exact still I5 know4 len4 q5
      | true =>
        simp only [if_true] at q5 ⊢
        have be := rest _ σ4 H5 s5 N I5 q5
        have up : ∀ s', (∃ H', Inv B (pins ++ pinsAt fp s3.heap) (wipe σ4 us) H' s' ∧ N H') → ∃ m, m < n ∧ ∃ i H', Inv B pins (wipe σ c.vs) H' s' ∧ tn i s'.heap ∧ (∀ b ∈ fp, H' b = none) ∧ W i m H' := fun s' ⟨H', I', q⟩ =>
          still I' (fun j v e => by rw [← same] at e; exact wipe_sub sub e) (by rw [wipe_length, len4]) q
        unfold Behind at be ⊢
        cases nx : gens[k + 1]? with
        | none =>
          rw [nx] at be
          exact thnF be fun x s6 h6 => thnF h6 fun _ s7 z => up s7 z
        | some g =>
          rw [nx] at be
          exact ⟨be.1, be.2.1, thnF be.2.2 fun x s6 h6 => thnF h6 fun it1 s7 h7 => codeAny_mono h7 fun res s' z => match res, z with
            | .ok _, z => up s' z
            | .error _, z => z.elim⟩
  · match fin, z with
    | .done f, ⟨e, z⟩ => subst e; exact z
    | .again c', ⟨e, z⟩ => exact ⟨e, z⟩
/-- a clause's start -/
theorem starts {k : Nat} {c : Comprehension} {it : Value} {R : Result → Shared → Prop} {s : Shared} {prog : Program} {w : World} {A : Around} {env : Env} (at_k : gens[k]? = some c) (sync : c.is_async = 0) (go : codeAny (model prog w) A (.compLoop (.ListComp elt gens scope pos) k it acc env) R s)
    (again : ∀ E : Value → Shared → Prop, wpAny (model prog w) A (pyIter it) (fun it' s' => codeAny (model prog w) A (.compLoop (.ListComp elt gens scope pos) k it' acc env) R s') E s) : codeAny (model prog w) A (.compStart (.ListComp elt gens scope pos) k it acc env) R s := by
  refine codeAny_of_tree ?_
  show wpAny _ _ ((compStart (.ListComp elt gens scope pos) k it acc env).onRaise (fun x => do noteFrame x env; standAt theWindowsPlace)) _ _ s
  refine wpAny_notedAt ?_
  unfold compStart
  have cl : clausesOf (.ListComp elt gens scope pos) = gens := rfl
  simp only [cl, at_k, sync, Option.elim_some]
  show wpAny _ _ (ask >>= fun _ => _) _ _ s
  refine (wpAny_bind (wpAny_askSetting (wpAny_ite ?_)))
  split
  · first
      | exact wpAny_bind (wpAny_pure (wpAny_pure (And.intro rfl go)))
      | exact wpAny_pure (And.intro rfl go)
  · first
      | exact wpAny_bind (wpAny_rule (wpAny_bind (wpAny_standAt (wpAny_bind (wpAny_mono (again _) (fun it' s' z => wpAny_pure (And.intro rfl z)) fun _ _ x => x)))))
      | (refine wpAny_bind (wpAny_rule ?_); show wpAny _ _ (standAt c.iter.pos >>= fun _ => _) _ _ s; exact wpAny_bind (wpAny_standAt (wpAny_bind (wpAny_mono (again _) (fun it' s' z => wpAny_pure (And.intro rfl z)) fun _ _ x => x))))
/-- an item appended to the list at D -/
def emitL (te : TE) (D : Addr) : Emit := fun σ H Nx => te σ H fun y H1 => ∃ xs, H1 D = some (.lst xs) ∧ xs.length < sizeLine ∧ Nx (upd H1 D (.lst (xs ++ [y])))
/-- the clauses behind a clause -/
theorem rest_run {te : TE} {D : Addr} (cd : ∀ H, C H → Cd B H) (sync : ∀ g ∈ gens, g.is_async = 0) (noxe : B.xe = fun _ _ => False) (pe : PE B elt te) : ∀ (cs : List Cla) (before : List Nat) (k : Nat), (∀ j, gens[k + j]? = (cs[j]?).map Cla.comp) → ClasOk Cd B before cs →
    ∀ (pins : List (Addr × Obj)) (σ : Sg) (H : Hp) (s : Shared) (N : Hp → Prop), Inv B pins σ H s → tCls C (emitL te D) cs σ H N → Behind B elt gens scope pos (.ref D) k (fun s' => ∃ H', Inv B pins (wipe σ (vsOf cs)) H' s' ∧ N H') s
  | [], before, k, at_k, _ => fun pins σ H s N I h => by
    have last : gens[k]? = none := at_k 0
    unfold Behind
    rw [last]
    have nox := pe.run pins s σ H _ I h
    rw [noxe] at nox
    refine thnF nox fun x s1 ⟨y, H1, I1, ry, xs, at_D, few, q⟩ => ?_
    exact app_ok (X := B) I1 at_D few ry fun s2 I2 => ⟨_, I2, q⟩
  | c :: cs, before, k, at_k, ok => fun pins σ H s N I h => by
    have here : gens[k]? = some c.comp := at_k 0
    obtain ⟨inner, ck, okr⟩ := ok
    have nox := inner.pi.run pins s σ H _ I h
    rw [noxe] at nox
    unfold Behind
    rw [here]
    refine ⟨rfl, inner.nofold, thnF nox fun xv s1 h1 => thnF h1 fun itv s2 ⟨it, fp, tn, J, H2, e, I2, T, st2, f2, q2⟩ => ?_⟩
    subst e
    have loop := fun (s' : Shared) (I' : Inv B pins σ H2 s') (st' : tn 0 s'.heap) => loop_run (elt := elt) (scope := scope) (pos := pos) (acc := .ref D) (us := vsOf cs) cd here sync noxe ck (fun i hi => ?_) T st' f2 I' q2
      (rest_run cd sync noxe pe cs c.vs (k + 1) (fun j => by have := at_k (j + 1); rw [show k + 1 + j = k + (j + 1) by omega, this, List.getElem?_cons_succ]) okr)
    · exact starts here rfl (loop s2 I2 st2) fun E => T.self B.A 0 s2 _ E st2 (loop s2 I2 st2)
    · cases cs with
      | nil => exact nomatch hi
      | cons d ds => exact okr.1.sub i hi
/-- [elt for .. if .. for .. if ..]: D the new list -/
def tLcs (C : Hp → Prop) (c0 : Cla) (cs : List Cla) (te : TE) : TE := fun σ H Q => c0.wi σ H fun J H1 => ∀ D, H1 D = none → tLoop C J c0 (tCls C (emitL te D) cs) (wipe σ c0.vs) (upd H1 D (.lst [])) fun G => Q (.ref D) G
theorem lcs_core {X : Cx} {pins : List (Addr × Obj)} {s : Shared} {σ : Sg} {H : Hp} {Q : VK} {pos' : Pos} {use : Option (Value → Sem Unit)} {Qf : Value → Shared → Prop} {c0 : Cla} {cs : List Cla} {te : TE} {own : List (Str × Nat)} (cd : ∀ (B : Cx) H, B.A = X.A → B.calm = X.calm → C H → Cd B H) (hN : X.N.Nodup) (pi : PIC Cd X c0.tg c0.iter c0.wi) (ok : BlkOk X.N X.env.scope scope own) (vs : c0.vs = own.map (·.2)) (nofold : ∀ x, foldedSetIterable c0.iter X.env x = pure x)
    (blocks : ∀ (s : Shared) (H : Hp) (a : Addr) (cl : List (Str × Addr)) (fp : List Addr), ClaOk Cd (X.blk s H scope (compEnvC scope cl a X.env) fp) c0 ∧ ClasOk Cd (X.blk s H scope (compEnvC scope cl a X.env) fp) c0.vs cs ∧ PE (X.blk s H scope (compEnvC scope cl a X.env) fp) elt te)
    (I : Inv X pins σ H s) (given : tLcs C c0 cs te σ H Q) (out : ∀ D L s' m H', Inv X pins σ H' s' → Q (.ref D) H' → s'.heap.Ns L m → FpOk X pins H' L → compPost (model X.prog X.w) X.A X.xe use Qf (.ref D) L (.ok .next) s') :
    wpAny (model X.prog X.w) X.A (comprehension (.ListComp elt (c0.comp :: cs.map Cla.comp) scope pos) scope X.env pos' (newList []) false (eval c0.iter X.env) use) Qf X.xe s := by
  have closed : ∀ y ∈ scope.names, y.2 = .free → ∃ a, X.env.cells.lookup y.1 = some a := fun y hy e => I.ok.has _ (ok.free y hy e)
  refine wpAny_comprehension_free (use := use) rfl nofold (closure_ok closed) ok.kind (fun y hy e => by rw [ok.uniq y hy, e]) (thn (pi.run pins s σ H _ I given) fun xv s1 h1 => thn h1 fun itv s2 got => ?_)
  obtain ⟨it, fp, tn, J, H2, e, I2, T, st2, f2, q⟩ := got
  subst e; refine wpAny_newObj_type (newEnv_comp ?_) (by show 0 ≤ sizeLine; decide)
  generalize dd : s2.heap.objs.size = D
  have freeD : H2 D = none := I2.hok.fresh (Nat.le_of_eq dd)
  have loop0 := q D freeD
  -- the new list
  have at_D : (s2.heap.push { cls := .type "list", data := .seq ([] : List Value).toArray }).get? D = some { cls := .type "list", data := .seq ([] : List Value).toArray } := by
    rw [← dd]; exact Heap.get?_push_size _ rfl
  generalize laid : ({ s2 with heap := s2.heap.push { cls := .type "list", data := .seq ([] : List Value).toArray } } : Shared) = s3
  have heap3 : s3.heap = s2.heap.push { cls := .type "list", data := .seq ([] : List Value).toArray } := by rw [← laid]
  have keep3 : ∀ b o, s2.heap.get? b = some o → s3.heap.get? b = some o := fun b o z => by rw [heap3]; exact Heap.get?_push_of_some _ z
  have I3 : Inv X pins σ (upd H2 D (.lst [])) (s3) := by
    rw [← laid]
    exact I2.laid (t' := s2.toks) (fun b o z => Heap.get?_push_of_some _ z) (Nat.le_of_eq dd) ⟨Nat.zero_le _, [], 0, .nil, at_D⟩
  have below : ∀ b ∈ fp, b < s2.heap.objs.size := fun b hb => (T.obj _ _ st2 b hb).elim fun _ z => Heap.lt_size z.1
  have f3 : ∀ b ∈ fp, FpOk X pins (upd H2 D (.lst [])) b ∧ (b < s3.heap.objs.size) := fun b hb => by
    refine ⟨⟨?_, (f2 b hb).2⟩, by rw [heap3, Heap.size_push]; exact Nat.lt_succ_of_lt (below b hb)⟩
    rw [upd_ne (by rw [← dd]; exact Nat.ne_of_lt (below b hb))]
    exact (f2 b hb).1
  have I4 := block_start I3 ok hN f3; obtain ⟨k0, kr, pe⟩ := blocks s3 (upd H2 D (.lst [])) s3.heap.objs.size (cellsFrom (s3.heap.objs.size + 1) scope.names (cloFrom X.env.cells scope.names [])) fp
  show codeAny _ _ (.compStart (.ListComp elt (c0.comp :: cs.map Cla.comp) scope pos) 0 (.ref it) (.ref D) (compEnvC scope (cellsFrom (s3.heap.objs.size + 1) scope.names (cloFrom X.env.cells scope.names [])) s3.heap.objs.size X.env)) (compPost (model X.prog X.w) X.A X.xe use Qf (.ref D) s3.heap.objs.size) { s3 with heap := pushCells (s3.heap.push { cls := .type "dict", data := .dict #[] }) scope.names }
  generalize hce : compEnvC scope (cellsFrom (s3.heap.objs.size + 1) scope.names (cloFrom X.env.cells scope.names [])) s3.heap.objs.size X.env = ce at I4 k0 kr pe ⊢
  have locals : ce.locals = s3.heap.objs.size := by subst hce; rfl
  have st4 : tn 0 ({ s3 with heap := pushCells (s3.heap.push { cls := .type "dict", data := .dict #[] }) scope.names } : Shared).heap := T.keep _ _ _ st2 fun b _ o z => pushCells_keeps _ _ _ _ (Heap.get?_push_of_some _ (keep3 b o z))
  generalize ({ s3 with heap := pushCells (s3.heap.push { cls := .type "dict", data := .dict #[] }) scope.names } : Shared) = s4 at I4 st4 ⊢
  generalize hB : X.blk s3 (upd H2 D (.lst [])) scope ce fp = B at I4 k0 kr pe
  have eA : B.A = X.A := by subst hB; rfl
  have eE : B.env = ce := by subst hB; rfl
  have fr4 : ∀ b ∈ fp, FpOk B [] (upd H2 D (.lst [])) b := fun b hb => by
    subst hB
    exact ⟨(f3 b hb).1.1, (I4.ok.exf b hb).1, I4.ok.exfs b hb, .inl hb, fun x a z => (I4.ok.exf b hb).2 x a z, fun p hp => (nomatch (show p ∈ ([] : List (Addr × Obj)) ++ [] from hp))⟩
  have sync : ∀ g ∈ c0.comp :: cs.map Cla.comp, g.is_async = 0 := fun g hg => by
    rcases List.mem_cons.mp hg with z | z
    · rw [z]
    · obtain ⟨c, _, z⟩ := List.mem_map.mp z
      rw [← z]
  have turns : TurnC Cd B.prog B.w B.K c0.tg J fp it tn := by subst hB; exact T
  have noxe : B.xe = fun _ _ => False := by subst hB; rfl
  have loop := loop_run (elt := elt) (scope := scope) (pos := pos) (acc := .ref D) (gens := c0.comp :: cs.map Cla.comp) (k := 0) (us := vsOf cs) (C := C) (fun H z => cd B H eA (by subst hB; rfl) z) rfl sync noxe k0 (fun i hi => by
    cases cs with
    | nil => exact nomatch hi
    | cons d ds => exact kr.1.sub i hi) turns st4 fr4 (vs ▸ I4) loop0 (rest_run (fun H z => cd B H eA (by subst hB; rfl) z) sync noxe pe cs c0.vs 1 (fun j => by rw [Nat.add_comm 1 j, List.getElem?_cons_succ, List.getElem?_map]) kr)
  have whole := codeAny_mono loop (R' := compPost (model X.prog X.w) X.A X.xe use Qf (.ref D) s3.heap.objs.size) fun res s5 done => ?_
  · have eP : B.prog = X.prog := by subst hB; rfl
    have ew : B.w = X.w := by subst hB; rfl
    rw [eA, eE, eP, ew] at whole
    exact starts rfl rfl whole fun E => T.self X.A 0 s4 _ E st4 whole
  · match res, done with
    | .error _, no => exact no.elim
    | .ok _, ⟨H5, I5, fin⟩ =>
      subst hB
      have I6 : Inv X pins σ H5 s5 := I3.call' (ch := fp) I5.os I5.base I5.hok I5.bare fun b hb => ⟨(f3 b hb).1.2.2.2.1, (f3 b hb).1.2.1, (f3 b hb).1.2.2.2.2.1, (f3 b hb).1.2.2.2.2.2⟩
      have free5 : H5 s3.heap.objs.size = none := by
        have z : H5 ce.locals = none := I5.free
        rw [locals] at z
        exact z
      obtain ⟨m, ns, _⟩ := I5.loc
      have ns : s5.heap.Ns ce.locals m := ns
      rw [locals] at ns
      obtain ⟨f0, f1, f2', f3', f4, f5⟩ := I3.fpOk (Nat.le_refl _) free5
      have last := out D _ s5 m H5 I6 fin ns ⟨f0, f1, f2', f3', f4, f5⟩
      cases use <;> exact last
theorem pe_lcs {X : Cx} {c0 : Cla} {cs : List Cla} {te : TE} {own : List (Str × Nat)} (cd : ∀ (B : Cx) H, B.A = X.A → B.calm = X.calm → C H → Cd B H) (hN : X.N.Nodup) (pi : PIC Cd X c0.tg c0.iter c0.wi) (ok : BlkOk X.N X.env.scope scope own) (vs : c0.vs = own.map (·.2)) (nofold : ∀ x, foldedSetIterable c0.iter X.env x = pure x)
    (blocks : ∀ (s : Shared) (H : Hp) (a : Addr) (cl : List (Str × Addr)) (fp : List Addr), ClaOk Cd (X.blk s H scope (compEnvC scope cl a X.env) fp) c0 ∧ ClasOk Cd (X.blk s H scope (compEnvC scope cl a X.env) fp) c0.vs cs ∧ PE (X.blk s H scope (compEnvC scope cl a X.env) fp) elt te) :
    PE X (.ListComp elt (c0.comp :: cs.map Cla.comp) scope pos) (tLcs C c0 cs te) where
  run pins s σ H Q I given := by
    rw [eval_ListComp]
    refine lcs_core cd hN pi ok vs nofold blocks I given fun D L s' m H' I' q ns f => ⟨m, ns, fun h' sb => ?_⟩
    obtain ⟨f0, f1, f2, f3, f4, f5⟩ := f; exact ⟨.ref D, H', I'.turned (t' := s'.toks) (fun b o hb z => (sb.2 b hb).trans z) f0 f1 f3 f4 f5, rfl, q⟩
/-- y = [..] on one line -/
theorem ps_setLcs {X : Cx} {i : Nat} {y : Str} {py spos : Pos} {c0 : Cla} {cs : List Cla} {te : TE} {own : List (Str × Nat)} (cd : ∀ (B : Cx) H, B.A = X.A → B.calm = X.calm → C H → Cd B H) (hN : X.N.Nodup) (hy : X.N[i]? = some y) (hyl : X.env.scope.names.lookup y = some .local) (hsw : swapsWith (.ListComp elt (c0.comp :: cs.map Cla.comp) scope pos) (some (.Name y py)) spos.line X.env = pure true) (pi : PIC Cd X c0.tg c0.iter c0.wi) (ok : BlkOk X.N X.env.scope scope own) (vs : c0.vs = own.map (·.2)) (nofold : ∀ x, foldedSetIterable c0.iter X.env x = pure x)
    (blocks : ∀ (s : Shared) (H : Hp) (a : Addr) (cl : List (Str × Addr)) (fp : List Addr), ClaOk Cd (X.blk s H scope (compEnvC scope cl a X.env) fp) c0 ∧ ClasOk Cd (X.blk s H scope (compEnvC scope cl a X.env) fp) c0.vs cs ∧ PE (X.blk s H scope (compEnvC scope cl a X.env) fp) elt te) :
    PS X (.Assign [.Name y py] (.ListComp elt (c0.comp :: cs.map Cla.comp) scope pos) spos) (tAsg (tLcs C c0 cs te) (gName i)) where
  run pins s σ H D I given := by
    rw [exec_Assign_Name_used _ _ _ _ hsw]; refine wpAny_bind (wpAny_standAt (wpAny_bind ?_))
    have there : tLcs C c0 cs te σ H (fun x H1 => gName i x σ H1 D.nx) := given
    refine wpAny_bind (thn (lcs_core (Qf := fun _ s' => SP X pins D .next s') cd hN pi ok vs nofold blocks I there fun L l s' m H' I' q ns f => ?_) fun _ s' done => wpAny_pure (wpAny_pure done))
    refine wpAny_assign_Name (store_ok2 (v := V.ref L) I' hN hy (.inl hyl) rfl (fun s2 I2 ⟨a, sb, at_a⟩ => ?_) (.inr hyl))
    obtain ⟨f0, f1, f2, f3, f4, f5⟩ := f; have apart : l ≠ a := at_a.elim (fun z => by rw [z]; exact f1) fun z e => f4 y a z e.symm
    exact ⟨m, ns.sameBut sb apart, fun h3 sb3 => ⟨_, H', I2.turned (t' := s2.toks) (fun b o hb z => (sb3.2 b hb).trans z) f0 f1 f3 f4 f5, q⟩⟩
end
end DL

/-! walks and comprehensions in the layer, also where an exception is handled -/
namespace DL
open PySem PySem.Spec
open PyProof.Rows L2
/-- a list's turns -/
theorem turnM_list {P : Program} {w : World} {K : PySem.W.Frag} {tg : Expr} (a it : Addr) : TurnC MildC P w K tg (Itl K a) [it] it (fun i h => h.IsListIter it a i) where
  mem := (turn_list (K := K) (w := w) (P := P) (tg := tg) a it).mem
  obj := (turn_list (P := P) (w := w) (K := K) (tg := tg) a it).obj
  keep := (turn_list (P := P) (w := w) (K := K) (tg := tg) a it).keep
  item := fun X eP ew eK i pins s σ H E mild I fr st go => by
    subst eP ew eK
    obtain ⟨xs, x, at_a, at_i⟩ := go
    obtain ⟨items, related, T, _⟩ := I.list at_a
    obtain ⟨u, at_u, ru⟩ := related.get at_i
    obtain ⟨f0, f1, f2, f3, f4, f5⟩ := fr it (List.mem_singleton.mpr rfl)
    refine wpAny_pyNext_list_item st T.isList (x := u) (by simpa using at_u) fun h' st' sb => ?_
    have I1 : Inv X pins σ H { s with heap := h' } := I.turned (t' := s.toks) (fun b o nb z => (sb.2 b nb).trans z) f0 f1 f3 f4 f5
    obtain ⟨o, e, c, d⟩ := id st'
    exact ⟨u, rfl, go_of (s := { s with heap := h' }) e c d (by decide) ⟨x, H, I1, ru, ⟨rfl, fun ys z => by rw [I.list_inj z at_a]; exact at_i⟩, st', fun b hb => (fr b hb).1⟩⟩
  done := fun X eP ew eK i pins s σ H E mild I fr st stop => by
    subst eP ew eK
    obtain ⟨xs, at_a, le⟩ := stop
    obtain ⟨items, related, T, _⟩ := I.list at_a
    obtain ⟨f0, f1, f2, f3, f4, f5⟩ := fr it (List.mem_singleton.mpr rfl)
    have len := related.length
    exact list_over (Mild.hot mild I.hok) (Mild.not mild f0) st T.isList (by simp; omega) fun h' ext => ⟨rfl, I.turned (t' := s.toks) (fun b o nb z => ext b o nb z) f0 f1 f3 f4 f5⟩
  self := (turn_list (P := P) (w := w) (K := K) (tg := tg) a it).self
theorem piM_list {X : Cx} {tg l : Expr} {tl : TE} (hl : PE X l tl) : PIC MildC X tg l (iList X.K tl) where
  run pins s σ H R I given := by
    refine thn (hl.run pins s σ H _ I given) fun v s1 got => ?_
    obtain ⟨_, H1, I1, rel, a, rfl, ⟨xs, at_a⟩, q⟩ := got
    cases rel
    obtain ⟨items, related, T, _⟩ := I1.list at_a
    refine wpAny_pyIter_list T.isList ⟨s1.heap.objs.size, [s1.heap.objs.size], _, _, H1, rfl, I1.kept (t' := s1.toks) fun b o z => Heap.get?_push_of_some _ z, turnM_list a _, ⟨_, Heap.get?_push_size _ rfl, rfl, rfl⟩, fun b hb => ?_, q⟩
    obtain rfl := List.mem_singleton.mp hb
    exact (I1.fpOk (Nat.le_refl _) (I1.hok.fresh (Nat.le_refl _)))
/-- (a, b, ..) = a tuple -/
def gTupM (A : Around) (K : PySem.W.Frag) (n : Nat) (t : TGs) : TG := fun v σ H Q => Mild A H ∧ ∃ a xs, v = .ref a ∧ SqT K H a xs ∧ xs.length = n ∧ t xs σ H Q
theorem pgM_tup {X : Cx} {es : List Expr} {k : Nat} {t : TGs} {n : Nat} {pos : Pos} (h : PGs X es t) (many : (assignEach es X.env).length = n) (nostar : (assignEach es X.env).findIdx? (·.1) = none) : PG X (.Tuple es k pos) (gTupM X.A X.K n t) where
  run pins s σ H v u Q I r given := by
    obtain ⟨mild, a, xs, rfl, at_a, len, q⟩ := given
    cases r
    obtain ⟨items, related, T, _⟩ := I.tuple at_a
    refine unpack_mild (mild.hot I.hok) (mild.alive I.hok) T (by simp [many, ← len, related.length]) nostar fun h' ext => ?_
    exact h.run pins _ σ H xs _ Q (I.kept (t' := s.toks) fun b o z => ext b o (Nat.ne_of_lt (Heap.lt_size z)) z) (by simpa using related) q
section
variable {c : Core} [Tb c.K] {ι : Type} {v : ι → Var} {S : Ent} {Γ : List AV}
variable {Q : AV → List AV → Prop} {QG : List AV → Prop} {QS : List Dt → List AV → Prop} {e elt tg iter : Expr} {tgs ifs : List Expr} {ds : List Dt} {pos : Pos}
theorem gdM_tup {k : Nat} {W : List Nat} (easy : Easy c S) (hn : ∀ i, (assignEach tgs (v i).env).length = ds.length) (hst : ∀ i, (assignEach tgs (v i).env).findIdx? (·.1) = none) (h : GDs c v S tgs ds W Γ QG) : GD c v S (.Tuple tgs k pos) (.tup ds) W Γ QG := fun σ H y R r hr kk => by
  cases hr with
  | tup e n q => exact ⟨gTupM c.A c.K ds.length (wGs c v tgs), fun i => pgM_tup (X := mkX c (v i)) (wGs.pgs i) (hn i) (hst i), easy.mild r, _, _, rfl, .of e, q.len, h σ H _ _ r q kk⟩
def wIC (Cd : Cx → Hp → Prop) (c : Core) [Tb c.K] {ι : Type} (v : ι → Var) (tg iter : Expr) : TI := fun σ H R => ∃ t : TI, (∀ i, PIC Cd (mkX c (v i)) tg iter t) ∧ t σ H R
theorem wIC.pi {Cd : Cx → Hp → Prop} (i : ι) : PIC Cd (mkX c (v i)) tg iter (wIC Cd c v tg iter) := ⟨fun pins s σ H R I ⟨_, h, q⟩ => (h i).run pins s σ H R I q⟩
def SrcC (Cd : Cx → Hp → Prop) (c : Core) [Tb c.K] {ι : Type} (v : ι → Var) (S : Ent) (tg iter : Expr) (Γ : List AV) (Q : List Dt → List AV → Prop) : Prop := ∀ (σ : Sg) (H : Hp) (R : It → Hp → Prop), RS c.K S no Γ σ H →
  (∀ J H1 ds Γ1, Q ds Γ1 → RS c.K S no Γ1 σ H1 → Step Γ Γ1 σ H H1 → Walk c.K J H1 (Own Γ1 σ) (Exc S Γ1 σ no) ds → R J H1) → wIC Cd c v tg iter σ H R
theorem srcM_L (h : EK c v S iter Γ fun k Γ1 => ∃ ds, akL Γ1 k = some ds ∧ noScr k = true ∧ noLn k = true ∧ QS ds Γ1) : SrcC MildC c v S tg iter Γ QS := fun σ H R r kk => by
  refine ⟨_, fun i => (show PIC MildC (mkX c (v i)) tg iter (iList c.K (wE c v iter)) from piM_list (X := mkX c (v i)) (wE.pe i)), ?_⟩
  refine h σ H _ r fun x H1 k Γ1 ⟨ds, ek, n1, n2, q⟩ r1 hk s => ?_
  obtain ⟨a, xs, rfl, ha, hx, na⟩ := akL_data ek n1 n2 r1 hk
  refine ⟨a, rfl, ⟨xs, .of ha⟩, kk _ _ _ _ q r1 s ⟨fun j H' fr hj => ⟨xs, xs[j]'(by rw [hx.len]; exact hj), .of (fr _ _ ha trivial na), List.getElem?_eq_getElem _⟩, fun j H' fr hj => ⟨xs, .of (fr _ _ ha trivial na), by rw [hx.len]; exact hj⟩, fun j H' z H'' fr _ y => ?_⟩⟩
  obtain ⟨d, ed, hd⟩ := hx.get' (y.2 xs (.of (fr _ _ ha trivial na)))
  exact ⟨d, ed, .inl ⟨y.1, hd⟩⟩
theorem Easy.lc {g : AP} {f : Addr → HO → Prop} (e : Easy c S) : Easy c (S.lc g f) := e.imp id fun ⟨a, cls, hh, z⟩ => ⟨a, cls, hh, z.imp id .inl⟩
/-- what such a comprehension's reading asks -/
theorem lcM_read {own : List (Str × Nat)} {scope : Scope} (easy : Easy c S) (hl : ∀ i ∈ own.map (·.2), ∀ p, (i, p) ∉ S.lent)
    (h : SrcC MildC c v S tg iter Γ fun ds Γ1 => ds.length ≤ 1000000 ∧ ∃ P : Nat → List Dt → List AV → Prop, P 0 [] (wipeD Γ1 (own.map (·.2))) ∧
      (∀ j d acc Γ2, ds[j]? = some d → P j acc Γ2 → LcTurn c (blkV c v scope) S (own.map (·.2)) tg ifs elt P j d acc Γ2) ∧ ∀ acc Γ2, P ds.length acc Γ2 → Q (.ow acc) (wipeD Γ2 (own.map (·.2))))
    {σ : Sg} {H : Hp} {R : VK} (r : RS c.K S no Γ σ H) (kk : ∀ x H' a Γ', Q a Γ' → Res c.K S Γ' σ H' x a → Step Γ Γ' σ H H' → New H Γ σ x a → R x H') :
    tLcs (Mild c.A) ⟨tg, iter, ifs, wIC MildC c v tg iter, wG c (blkV c v scope) tg, wTs c (blkV c v scope) ifs, own.map fun x : Str × Nat => x.2⟩ [] (wE c (blkV c v scope) elt) σ H R := by
  generalize own.map (·.2) = is at hl h ⊢
  refine h σ H _ r fun J H1 ds Γ1 ⟨hz, P, p0, step, done⟩ r1 s w => ?_
  intro D hD
  have nD := r1.new hD
  -- the invariant
  let F : Addr → HO → Prop := AllPin H1 Γ1 σ
  refine ⟨fun j m H' => m = ds.length - j ∧ j ≤ ds.length ∧ ∃ acc accV Γ', acc.length ≤ j ∧ P j acc Γ' ∧ (∀ i ∈ is, ∀ a, Γ'[i]? = some a → a = .un) ∧ H' D = some (.lst accV) ∧ RpL c.K H' (Exc (S.lc (· = D) F) Γ' (L2.wipe σ is) no) accV acc ∧
    RS c.K (S.lc (· = D) F) no Γ' (L2.wipe σ is) H' ∧ ∀ p, Own Γ' (L2.wipe σ is) p → Own Γ1 σ p, ⟨_, rfl, Nat.zero_le _, [], [], wipeD Γ1 is, Nat.le_refl _, p0, fun i hi => wipeD_un Γ1 hi, upd_same, .nil, ?_, fun p => own_wipe⟩, ?_⟩
  · have rw' := r1.wipe hl
    have rD := (rw'.alloc (o := .lst []) hD).ex_mono (ex' := (· = D)) fun _ z => .inr z
    have q := RS.to_fo rD fun p e => by
      subst e
      exact ⟨⟨_, upd_same, trivial⟩, fun z => r1.xtr _ z nD.2.2⟩
    exact q.dopin (fun b o ⟨z1, _, z2⟩ => ⟨by rw [upd_ne (ne_of_none z1 hD)]; exact z1, fun z => z2 (own_wipe z), id⟩) fun b o z => z.2.1
  · rintro j m H' ⟨rfl, hj, acc, accV, Γ', ha, pj, hu, hDl, hacc, r', ow⟩
    have fr : ∀ b o, H1 b = some o → NT o → ¬ Own Γ1 σ b → H' b = some o := fun b o e t n => (r'.pin b o (.inr ⟨e, t, n⟩)).1
    by_cases hlt : j < ds.length
    · -- a turn
      refine ⟨easy.lc.mild r', .inr ⟨w.go j H' fr hlt, fun H2 => ∃ acc accV Γ', acc.length ≤ j + 1 ∧ P (j + 1) acc Γ' ∧ (∀ i ∈ is, ∀ a, Γ'[i]? = some a → a = .un) ∧ H2 D = some (.lst accV) ∧ RpL c.K H2 (Exc (S.lc (· = D) F) Γ' (L2.wipe σ is) no) accV acc ∧
        RS c.K (S.lc (· = D) F) no Γ' (L2.wipe σ is) H2 ∧ ∀ p, Own Γ' (L2.wipe σ is) p → Own Γ1 σ p, fun H2 h2 => ⟨_, by omega, rfl, hlt, h2⟩, fun x H2 y => ?_⟩⟩
      simp only [L2.wipe_length, wipe_wipe]
      obtain ⟨d, ed, r2, hd, frY⟩ := w.item (S := S) (f := F) (fo' := fun b => S.fo b ∨ b = D) (fun _ _ z => z) (fun b z => z.elim .inl fun z => .inr (by rw [z]; exact hD)) r' hlt y
      obtain ⟨W, hW, step⟩ := step j d acc Γ' ed pj
      have hDl2 : H2 D = some (.lst accV) := frY _ _ hDl
      have hacc2 : RpL c.K H2 (Exc (S.lc (· = D) F) Γ' (L2.wipe σ is) no) accV acc := hacc.mono fun b o e _ n => ⟨frY b o e, n⟩
      -- the accumulated list is pinned for this turn
      let F2 : Addr → HO → Prop := fun b o => F b o ∨ (H2 b = some o ∧ NT o ∧ ¬ Own Γ' (L2.wipe σ is) b)
      have r2' : RS c.K (S.lc (· = D) F2) no Γ' (L2.wipe σ is) H2 :=
        { r2 with nts := ⟨r2.nts.1, fun b o z => z.elim (fun z => r2.nts.2 b o (.inl z)) fun z => z.elim (fun z => r2.nts.2 b o (.inr z)) fun z => z.2.1⟩, pin := fun b o z => z.elim (fun z => r2.pin b o (.inl z)) fun z => z.elim (fun z => r2.pin b o (.inr z)) fun z => ⟨z.1, z.2.2, id⟩ }
      have r2w : RS c.K (S.lc (· = D) F2) no (wipeD Γ' is) (L2.wipe σ is) H2 := by
        have := r2'.wipe hl
        rw [wipe_wipe] at this
        exact this
      have ow2 : ∀ p, Own (wipeD Γ' is) (L2.wipe σ is) p → Own Γ' (L2.wipe σ is) p := fun p z => by
        rw [← wipe_wipe σ is] at z
        exact own_wipe z
      have hd2 : Rp c.K H2 (Exc (S.lc (· = D) F2) (wipeD Γ' is) (L2.wipe σ is) no) x d := Rp.sub (fun b z => z.elim (fun z => .inl (ow2 b z)) .inr) hd
      refine step (· = D) F2 _ H2 x _ r2w hd2 fun σ3 Γ3 q3 r3 o3 w3 => ?_
      have ew : L2.wipe σ3 is = L2.wipe σ is := by
        rw [wipe_eq (σ := L2.wipe σ is) (by rw [r3.len, r2w.len]) fun i hi => w3 i fun z => hi (hW i z)]
        exact wipe_wipe σ is
      refine ⟨ew, ?_⟩
      have nOwnD : ∀ {Γx : List AV} {σx : Sg} {Hx : Hp}, RS c.K (S.lc (· = D) F2) no Γx σx Hx → ¬ Own Γx σx D := fun rx z => rx.nfo D z (.inr rfl)
      -- the end of a turn, from its last state
      have back : ∀ {Γx : List AV} {Hx : Hp}, RS c.K (S.lc (· = D) F2) no Γx σ3 Hx → (∀ p, Own Γx σ3 p → Own Γ3 σ3 p) → RS c.K (S.lc (· = D) F) no (wipeD Γx is) (L2.wipe σ is) Hx ∧ (∀ p, Own (wipeD Γx is) (L2.wipe σ is) p → Own Γ1 σ p) ∧ Hx D = some (.lst accV) ∧
          (∀ b o, H2 b = some o → NT o → ¬ Own Γ' (L2.wipe σ is) b → Hx b = some o) := fun {Γx Hx} rx ox => by
        have z := rx.wipe hl
        rw [ew] at z
        refine ⟨{ z with nts := ⟨z.nts.1, fun b o y => z.nts.2 b o (y.elim .inl fun y => .inr (.inl y))⟩, pin := fun b o y => z.pin b o (y.elim .inl fun y => .inr (.inl y)) }, fun p y => ?_, (rx.pin D _ (.inr (.inr ⟨hDl2, trivial, ?_⟩))).1, fun b o e t n => (rx.pin b o (.inr (.inr ⟨e, t, n⟩))).1⟩
        · rw [← ew] at y
          exact ow p (ow2 p (o3 p (ox p (own_wipe y))))
        · exact fun z => r2.nfo D z (.inr rfl)
      refine q3 σ3 H2 _ r3 fun b H4 Γ4 q4 r4 s4 => ?_
      cases b with
      | false =>
        refine iteF ?_
        obtain ⟨z1, z2, z3, z4⟩ := back r4 fun p y => s4.own p y
        refine ⟨acc, accV, wipeD Γ4 is, by omega, q4.2 rfl, fun i hi => wipeD_un Γ4 hi, z3, hacc2.mono fun b o e t n => ⟨z4 b o e t fun z => n (.inl z), fun z => n ?_⟩, z1, z2⟩
        rcases z with z | z
        · refine .inl (ow2 b (o3 b (s4.own b (own_wipe (is := is) ?_))))
          rw [ew]
          exact z
        · exact .inr z
      | true =>
        refine iteT ?_
        refine q4.1 rfl σ3 H4 _ r4 fun y5 H5 a Γ5 ⟨dy, ey, q5⟩ hr5 s5 _ => ?_
        have r5 := hr5.rs
        obtain ⟨z1, z2, z3, z4⟩ := back r5 fun p y => s4.own p (s5.own p y)
        have oo : ∀ b, Own (wipeD Γ5 is) (L2.wipe σ is) b → Own Γ5 σ3 b := fun b z => by
          rw [← ew] at z
          exact own_wipe z
        have ry : Rp c.K H5 (Exc (S.lc (· = D) F) (wipeD Γ5 is) (L2.wipe σ is) no) y5 dy := Rp.sub (fun b z => z.elim (fun z => .inl (oo b z)) .inr) (akD_of (k := .d a) (σ := σ3) ey hr5.rpa)
        have rac : RpL c.K H5 (Exc (S.lc (· = D) F) (wipeD Γ5 is) (L2.wipe σ is) no) accV acc := hacc2.mono fun b o e t n => ⟨z4 b o e t fun z => n (.inl z), fun z => n (z.elim (fun z => .inl (ow2 b (o3 b (s4.own b (s5.own b (oo b z)))))) .inr)⟩
        refine ⟨accV, z3, ?_, acc ++ [dy], accV ++ [y5], wipeD Γ5 is, by rw [List.length_append]; exact Nat.add_le_add ha (Nat.le_refl 1), q5, fun i hi => wipeD_un Γ5 hi, upd_same, (rac.append (.cons ry .nil)).write (.inr (.inl (.inr rfl))), ?_, z2⟩
        · rw [hacc2.len]
          have := line1 (n := acc.length + 1) (by omega)
          omega
        · -- the list has grown: nothing else leans on it
          have nD5 : ¬ Own (wipeD Γ5 is) (L2.wipe σ is) D := fun z => nOwnD r5 (oo D z)
          have up : ∀ b o, H5 b = some o → b ≠ D → (upd H5 D (.lst (accV ++ [y5]))) b = some o := fun b o e n => by rw [upd_ne n]; exact e
          exact { z1 with
            slots := fun i a e => (z1.slots i a e).mono (fun b o e _ n => ⟨up b o e fun z => n (.inr (.inl (.inr z))), n⟩) fun ds p xs ea es ep _ => up p _ ep fun z => nD5 ⟨i, ds, by rw [← ea]; exact e, by rw [← z]; exact es⟩
            fr := fun b o e n => up b o (z1.fr b o e n) fun z => by rw [z, nD.2.2] at e; cases e
            fo := fun b z => by
              refine ⟨?_, (z1.fo b z).2⟩
              by_cases e : b = D
              · rw [e, upd_same]
                exact ⟨_, rfl, trivial⟩
              · rw [upd_ne e]
                exact (z1.fo b z).1
            tabs := tabs_write z1.tabs z3 trivial
            pin := fun b o z => by
              have nb : b ≠ D := fun e => by
                rcases z with z | z
                · have := (r1.pin b o z).1
                  rw [e, hD] at this
                  cases this
                · have := z.1
                  rw [e, hD] at this
                  cases this
              exact ⟨up b o (z1.pin b o z).1 nb, (z1.pin b o z).2⟩ }
    · -- the end
      have e : j = ds.length := by omega
      subst e
      have z := r'.wipe hl
      rw [wipe_wipe] at z
      obtain ⟨z1, z2⟩ := RS.unwipe z (fun i hi => wipeD_un Γ' hi) hl
      have oo : ∀ p, Own (wipeD Γ' is) σ p → Own Γ' (L2.wipe σ is) p := fun p y => by
        have := z2 p y
        rw [← wipe_wipe σ is] at this
        exact own_wipe this
      have s' : Step Γ (wipeD Γ' is) σ H H' := ⟨fun b o e t n => fr b o (s.fr b o e t n) t fun z => n (s.own b z), fun p y => s.own p (ow p (oo p y))⟩
      refine ⟨easy.lc.mild r', .inl ⟨w.stop _ H' fr (Nat.le_refl _), kk _ _ _ _ (done acc Γ' pj) ⟨D, .lst accV, rfl, ?_, hDl, ⟨accV, rfl, hacc.sub fun b y => ?_⟩, fun y => nD.2.1 y, nD.2.2⟩ s' ?_⟩⟩
      · exact RS.move_fo (S := S) (f := (· = D)) { z1 with nts := ⟨z1.nts.1, fun b o y => z1.nts.2 b o (.inl y)⟩, pin := fun b o y => z1.pin b o (.inl y) } fun b o y e => by
          have := (r1.pin b o y).1
          rw [e, hD] at this
          cases this
      · rcases y with y | y | y
        · exact .inl (oo b y)
        · exact .inr (.inl (.inl y))
        · exact .inr (.inl (.inr y))
      · exact New.back (H' := H1) (Γ' := Γ1) ⟨D, rfl, .inl fun o e => by rw [hD] at e; cases e⟩ s
/-- [elt for tg in iter if ..], also where an exception is handled -/
theorem edM_lc {own : List (Str × Nat)} {scope : Scope} (easy : Easy c S) (hN : c.N.Nodup) (ok : ∀ i, BlkOk c.N (v i).env.scope scope own) (hs : NoFold v iter) (hl : ∀ i ∈ own.map (·.2), ∀ p, (i, p) ∉ S.lent)
    (h : SrcC MildC c v S tg iter Γ fun ds Γ1 => ds.length ≤ 1000000 ∧ ∃ P : Nat → List Dt → List AV → Prop, P 0 [] (wipeD Γ1 (own.map (·.2))) ∧
      (∀ j d acc Γ2, ds[j]? = some d → P j acc Γ2 → LcTurn c (blkV c v scope) S (own.map (·.2)) tg ifs elt P j d acc Γ2) ∧ ∀ acc Γ2, P ds.length acc Γ2 → Q (.ow acc) (wipeD Γ2 (own.map (·.2)))) :
    ED c v S (.ListComp elt [⟨tg, iter, ifs, 0⟩] scope pos) Γ Q := fun σ H R r kk =>
  ⟨_, fun k => pe_lcs (X := mkX c (v k)) (own := own) (c0 := ⟨tg, iter, ifs, wIC MildC c v tg iter, wG c (blkV c v scope) tg, wTs c (blkV c v scope) ifs, own.map fun x : Str × Nat => x.2⟩) (cs := []) (Cd := MildC) (C := Mild c.A)
    (fun B H eA _ z => by show Mild B.A H; rw [show B.A = c.A from eA]; exact z) hN (wIC.pi k) (ok k) rfl (hs k) fun s H a cl fp =>
    ⟨⟨(wG.pg (c := c) (v := blkV c v scope) (k, s, H, a, cl, fp) : PG (mkX c (blkV c v scope (k, s, H, a, cl, fp))) tg _), (wTs.pts (c := c) (v := blkV c v scope) (k, s, H, a, cl, fp) : PTs (mkX c (blkV c v scope (k, s, H, a, cl, fp))) ifs _)⟩, trivial, (wE.pe (c := c) (v := blkV c v scope) (k, s, H, a, cl, fp) : PE (mkX c (blkV c v scope (k, s, H, a, cl, fp))) elt _)⟩, lcM_read easy hl h r kk⟩
/-- name = [elt for tg in iter if ..] on one line, also where an exception is handled -/
theorem sdM_setLc {D : DE} {spos py : Pos} {y : Str} (i : Nat) {own : List (Str × Nat)} {scope : Scope} (easy : Easy c S) (hy : AtS c v y i) (ly : ∀ k, (v k).env.scope.names.lookup y = some .local) (hsw : ∀ k, swapsWith (.ListComp elt [⟨tg, iter, ifs, 0⟩] scope pos) (some (.Name y py)) spos.line (v k).env = pure true) (hi : i < S.n) (hli : ∀ p, (i, p) ∉ S.lent)
    (ok : ∀ k, BlkOk c.N (v k).env.scope scope own) (hs : NoFold v iter) (hl : ∀ i ∈ own.map (·.2), ∀ p, (i, p) ∉ S.lent)
    (h : SrcC MildC c v S tg iter Γ fun ds Γ1 => ds.length ≤ 1000000 ∧ ∃ P : Nat → List Dt → List AV → Prop, P 0 [] (wipeD Γ1 (own.map (·.2))) ∧
      (∀ j d acc Γ2, ds[j]? = some d → P j acc Γ2 → LcTurn c (blkV c v scope) S (own.map (·.2)) tg ifs elt P j d acc Γ2) ∧ ∀ acc Γ2, P ds.length acc Γ2 → D.nx ((wipeD Γ2 (own.map (·.2))).set i (.ow acc))) :
    SD c v S (.Assign [.Name y py] (.ListComp elt [⟨tg, iter, ifs, 0⟩] scope pos) spos) D Γ := fun E σ H L r =>
  ⟨_, fun k => ps_setLcs (X := mkX c (v k)) (own := own) (c0 := ⟨tg, iter, ifs, wIC MildC c v tg iter, wG c (blkV c v scope) tg, wTs c (blkV c v scope) ifs, own.map fun x : Str × Nat => x.2⟩) (cs := []) (Cd := MildC) (C := Mild c.A)
    (fun B H eA _ z => by show Mild B.A H; rw [show B.A = c.A from eA]; exact z) hy.nd hy.ix (ly k) (hsw k) (wIC.pi k) (ok k) rfl (hs k) fun s H a cl fp =>
    ⟨⟨(wG.pg (c := c) (v := blkV c v scope) (k, s, H, a, cl, fp) : PG (mkX c (blkV c v scope (k, s, H, a, cl, fp))) tg _), (wTs.pts (c := c) (v := blkV c v scope) (k, s, H, a, cl, fp) : PTs (mkX c (blkV c v scope (k, s, H, a, cl, fp))) ifs _)⟩, trivial, (wE.pe (c := c) (v := blkV c v scope) (k, s, H, a, cl, fp) : PE (mkX c (blkV c v scope (k, s, H, a, cl, fp))) elt _)⟩,
    lcM_read (Q := fun a Γ' => D.nx (Γ'.set i a)) easy hl h r fun x H' a Γ' q res _ _ => L.nx _ _ _ q (RS.store res hi hli)⟩
end
end DL

/-! isinstance of an exception that may have a dict -/
namespace DL
open PySem PySem.Spec
open PySem.Calls
open PyProof.Rows L2
section
variable {prog : Program} {w : World} {A : Around} {E : Value → Shared → Prop} {s : Shared} {K : PySem.W.Frag} {x D : Addr} {ox : Obj} {od : Option Obj}
/-- its class is found by a data descriptor, whatever stands in its dict -/
theorem cls_found (C : ExcC K D) : PySem.W.findObj K D od "__class__" = some (.bind (.builtin "getset_descriptor.__get__") (.builtin "object.__class__")) := by
  obtain ⟨cd, known, _⟩ := PySem.W.any_some C.hd
  unfold PySem.W.findObj
  rw [known, Option.bind_some, C.ha, Option.bind_some]
  simp [C.hn, C.ht]
theorem cls_attr {Q : Option Value → Shared → Prop} (C : ExcC K D) (inK : K.In s.heap) (inst : PySem.W.InstAt s.heap x ox D od) (q : Q (some (.ref D)) { s with toks := s.toks + 1 }) : wpAny (model prog w) A (getAttr? (.ref x) "__class__") Q E s := by
  obtain ⟨heap, gens, drawn, tick, os⟩ := s
  have see0 := inst.type (M := model prog w)
  have see1 := PySem.W.looks_findIn (M := model prog w) inK C.hg
  have see2 := PySem.W.looks_find (M := model prog w) inK inst (cls_found (od := od) C)
  have base : PySem.W.Looks (model prog w) heap (isInstance (.ref x) (.type "BaseException")) true := see0.andThen (PySem.W.looks_subIn inK C.hs)
  have other : (onTheHeap (Value.ref D) && Value.builtin "BaseException.__getattribute__" == Value.builtin "object.__getattribute__") = false := by
    rw [show (Value.builtin "BaseException.__getattribute__" == Value.builtin "object.__getattribute__") = false by decide +kernel]
    rfl
  unfold getAttr?
  unfold getAttrBy? getAttrBy
  refine wpAny_bind (wpAny_mkText (wpAny_bind (wpAny_attempt (wpAny_holding (wpAny_bind (see0.at (wpAny_bind (see1.at ?goal))))))))
  show wpAny (model prog w) A (if (onTheHeap (Value.ref D) && Value.builtin "BaseException.__getattribute__" == Value.builtin "object.__getattribute__") = true then _ else _) _ _ ⟨heap, gens, drawn, tick + 1, os⟩
  refine (if_neg (show ¬ (onTheHeap (Value.ref D) && Value.builtin "BaseException.__getattribute__" == Value.builtin "object.__getattribute__") = true by rw [other]; decide)).symm ▸ ?_
  have see3 := PySem.W.looks_findIn (M := model prog w) inK C.hk
  have plain : (false && onTheHeap (Value.builtin "BaseException.__getattribute__")) = false := rfl
  unfold getAttrByItsOwn
  unfold hookBefore
  refine wpAny_bind ((if_pos (show onTheHeap (Value.ref D) = true from rfl)).symm ▸ see3.at (wpAny_bind (wpAny_attempt (wpAny_holding ?_))))
  unfold callGetattribute boundAndCalled
  refine (if_neg (show ¬ (false && onTheHeap (Value.builtin "BaseException.__getattribute__")) = true by rw [plain]; decide)).symm ▸ ?_
  refine (PySem.F.excAttr_ValueError.ga.bind (.ref x)).symm ▸ wpAny_bind (wpAny_pure ?_)
  refine wpAny_call (A := A) (codeAny_call_builtin PySem.F.excAttr_ValueError.ga.plain PySem.F.entry_bexc_ga (PySem.W.check_slot (i := "BaseException.__getattribute__") (owner := "BaseException") (n := "__getattribute__") (by decide +kernel) (by decide +kernel) base (PySem.F.args_bexc_ga (.ref x) (.str "__class__" _)) ?_))
  unfold Builtin.«object.__getattribute__»; refine wpAny_bind (wpAny_of_eq (a := ((Value.ref x : Value), [Value.str "__class__" tick])) (by simp only [slotArgs]; rfl) ?_)
  refine wpAny_bind (wpAny_pure (wpAny_bind (see0.at (wpAny_bind (see2.at ?_)))))
  refine (show wpAny (model prog w) A.in1 (holding [Value.builtin "object.__class__"] (call (.builtin "getset_descriptor.__get__") [.builtin "object.__class__", .ref x, .ref D]) >>= ret) _ _ _ from ?_)
  refine wpAny_bind (wpAny_holding (wpAny_call (PySem.W.class_get (s := ⟨heap, gens, drawn, tick + 1, os⟩) (ox := ox) (od := od) inK inst C.hm (wpAny_pure ?_))))
  have out : (handedOut (.ref D) : Sem Value) = pure (.ref D) := PySem.W.handedOut_of (v := .ref D) rfl
  refine (show wpAny (model prog w) A (handedOut (.ref D)) _ _ _ from ?_)
  rw [out]
  first
    | exact wpAny_pure (wpAny_pure q)
    | exact wpAny_pure q
    | exact wpAny_pure (wpAny_bind (wpAny_pure (wpAny_pure q)))
/-- what isinstance asks of it -/
theorem kitx_exc (C : ExcC K D) : PySem.W.KitX K (.ref x) (.ref D) (fun h => PySem.W.InstAt h x ox D od) :=
  let none_case : PySem.W.KitX K (.ref x) (.ref D) (fun h => PySem.W.InstAt h x ox D none) := PySem.W.handS_kitx_exc C.hg C.hk C.hs C.hd C.ha C.hn C.ht C.hm
  { ty := fun _ _ _ inst => inst.type
    it := fun M h inK inst => by
      obtain ⟨cd, known, _⟩ := PySem.W.any_some C.hd
      unfold PySem.W.clsIn at known
      split at known
      · rename_i c' d' cd' sl' at_D
        intro A' Q' E' s' kept q
        unfold isType loadHead
        exact wpAny_bind (wpAny_loadPart (kept _ _ (inK _ _ at_D)) (wpAny_pure q))
      · cases known
    ne := none_case.ne
    ca := fun inK inst q => cls_attr C inK inst q }
end
end DL

/-! exceptions as objects: what they are, isinstance -/
namespace DL
open PySem PySem.Spec
open PyProof.Rows L2
/-- objects of the kind o are exceptions of the class D, without attributes -/
def ExcOf (D : Addr) (o : Addr → HO) : Prop := ∀ (P : Program) (w : World) (H : Hp) (h : Heap) (b : Addr), ObjOk P w H h b (o b) → ∃ (u : Obj) (vs : Array Value), h.get? b = some u ∧ u.cls = .ref D ∧ u.dict = none ∧ u.data = .fields vs
theorem excOf_K (D : Addr) : ExcOf D (ExK (.ref D)) := fun P w H h b ⟨⟨u, vs, e, c, d, s, _⟩, _⟩ => ⟨u, vs, e, c, d, s⟩
theorem excOf_O (D : Addr) : ExcOf D (ExO (.ref D)) := fun P w H h b ⟨⟨u, vs, e, z, s, _⟩, _⟩ => ⟨u, vs, e, z.1, z.2, s⟩
/-- d is an exception of the class D -/
def ExcD (D : Addr) (d : Dt) : Prop := (∃ o, d = .obj o ∧ ExcOf D o) ∨ ∃ fs, d = .exa D fs
def rIsD (K : PySem.W.Frag) (D : Addr) : List V → Hp → VK → Prop := fun xs H Q => ∃ (a : Addr) (t : V) (tv : Value) (b : Bool), xs = [.ref a, t] ∧ ((∃ o, ExcOf D o ∧ H a = some (o a)) ∨ ∃ d fs, H a = some (exo a D (some d)) ∧ H d = some (exd d fs)) ∧ (∀ u, RelV t u → u = tv) ∧ PySem.W.kitOne K (.ref D) tv = some b ∧ Q (.bl b) H
theorem call_isD {X : Cx} {D : Addr} (C : ExcC X.K D) : CallR X (.builtin "isinstance") (rIsD X.K D) := fun pins s σ H xs us Q I r given => by
  obtain ⟨a, t, tv, b, rfl, here, one, kit, q⟩ := given
  obtain ⟨u1, u2, rfl, r1, r2⟩ := (r.two)
  cases (show (u1 = Value.ref a) from r1)
  cases one _ r2
  have inst : ∃ ob od, PySem.W.InstAt s.heap a ob D od := by
    rcases here with ⟨o, kind, at_a⟩ | ⟨d, fs, at_a, at_d⟩
    · obtain ⟨ob, vs, e, c, d, shape⟩ := kind _ _ _ _ _ (I.hok a _ at_a)
      obtain ⟨oc, od, oda, osl⟩ := ob
      cases c
      cases d
      cases shape
      exact ⟨_, none, e, rfl, rfl, trivial⟩
    · obtain ⟨t1, there⟩ := exo_at I.hok at_a
      obtain ⟨mA, ns, _⟩ := exd_at I.hok at_d
      obtain ⟨od, ho, _⟩ := lookIn_ns ns
      exact ⟨_, some od, there, rfl, rfl, ho⟩
  obtain ⟨ob, od, inst⟩ := inst
  exact PySem.W.kia_one (kitx_exc (ox := ob) (od := od) C) I.kIn inst kit (fun z => nomatch z) fun tk => ⟨.bl b, H, I.tok tk, rfl, q⟩
section
variable {c : Core} [Tb c.K] {ι : Type} {v : ι → Var} {S : Ent} {Γ : List AV}
variable {Q : AV → List AV → Prop} {QK : AK → List AV → Prop} {a : Expr} {x : Str} {p p2 pos : Pos} {D : Addr} {o : Addr → HO}
/-- a class of the module as a value -/
theorem ek_cls {C : Addr} (hg : ∀ i, Gl (mkX c (v i)) x) (hm : c.mg x = some (.ref C)) (hd : (x == ("__debug__" : Str)) = false) (q : QK (.d (.dt (.raw (.ref C)))) Γ) : EK c v S (.Name x pos) Γ QK := fun σ H R r k =>
  ⟨_, fun i => pe_glob (v := .ref C) (hg i) hm rfl hd, k _ _ _ _ q r (Rp.raw _) .refl⟩
def pIsD (K : PySem.W.Frag) (D : Addr) : List AK → List AV → (AV → List AV → Prop) → Prop := fun as Γ Q => ∃ k e t tv b, as = [k, .d (.dt (.raw t))] ∧ akD Γ k = some e ∧ ExcD D e ∧ (∀ u, RelV t u → u = tv) ∧ PySem.W.kitOne K (.ref D) tv = some b ∧ Q (.dt (.bl b)) Γ
theorem cb_isD : CB c S (rIsD c.K D) (pIsD c.K D) := by
  rintro as Γ Q σ H xs R ⟨k, d, t, tv, b, rfl, e, kind, one, kit, q⟩ r hx kk
  obtain ⟨y, z, rfl, hk, hl⟩ := hx.pair
  have ho := akD_of e hk
  have hz : z = t := by
    have w : Rp c.K H (Exc S Γ σ no) z (.raw t) := hl
    cases w
    rfl
  subst hz
  have fin := kk _ _ _ _ q ⟨r, .bl _⟩ .refl trivial
  rcases kind with ⟨o, rfl, kind⟩ | ⟨fs, rfl⟩
  · cases ho with
    | obj at_a _ => exact ⟨_, _, tv, b, rfl, .inl ⟨o, kind, at_a⟩, one, kit, fin⟩
  · cases ho with
    | exa at_a _ at_d _ => exact ⟨_, _, tv, b, rfl, .inr ⟨_, fs, at_a, at_d⟩, one, kit, fin⟩
/-- isinstance(a, C), a an exception, C a class of the module -/
theorem ed_isC {C : Addr} {T : Str} {de : Dt} (E : ExcC c.K D) (kind : ExcD D de) (hg : ∀ i, Gl (mkX c (v i)) "isinstance") (hm : c.mg "isinstance" = none) (hgT : ∀ i, Gl (mkX c (v i)) T) (hmT : c.mg T = some (.ref C)) (hdT : (T == ("__debug__" : Str)) = false) (he : NoStar v a [.Name T p2]) (he2 : NoStar v (.Name T p2) []) (hp : NoStarL v pos [.Name T p2])
    (h : EK c v S a Γ fun k Γ1 => akD Γ1 k = some de ∧ ∃ b, PySem.W.kitOne c.K (.ref D) (.ref C) = some b ∧ Q (.dt (.bl b)) Γ1) : ED c v S (.Call (.Name "isinstance" p) [a, .Name T p2] [] pos) Γ Q :=
  ed_callB (fun i => (show CallR (mkX c (v i)) (.builtin "isinstance") (rIsD c.K D) from call_isD (X := mkX c (v i)) E)) cb_isD hg hm (by decide +kernel) (by decide) (by decide) he hp (ea2 he he2 fun σ H R r kk => h σ H R r fun x H' k Γ' ⟨e, b, kit, q⟩ => kk x H' k Γ' (ek_cls hgT hmT hdT ⟨k, de, .ref C, .ref C, b, rfl, e, kind, fun _ z => z, kit, q⟩))
/-- isinstance(a, T), T a built-in class -/
theorem ed_isB {u : String} {T : Str} {de : Dt} (E : ExcC c.K D) (kind : ExcD D de) (hg : ∀ i, Gl (mkX c (v i)) "isinstance") (hm : c.mg "isinstance" = none) (hgT : ∀ i, Gl (mkX c (v i)) T) (hmT : c.mg T = none) (hT : bootBuiltins T = some (.type u)) (hnT : T ≠ "__name__") (hdT : (T == ("__debug__" : Str)) = false) (he : NoStar v a [.Name T p2]) (he2 : NoStar v (.Name T p2) []) (hp : NoStarL v pos [.Name T p2])
    (h : EK c v S a Γ fun k Γ1 => akD Γ1 k = some de ∧ ∃ b, PySem.W.kitOne c.K (.ref D) (.type u) = some b ∧ Q (.dt (.bl b)) Γ1) : ED c v S (.Call (.Name "isinstance" p) [a, .Name T p2] [] pos) Γ Q :=
  ed_callB (fun i => (show CallR (mkX c (v i)) (.builtin "isinstance") (rIsD c.K D) from call_isD (X := mkX c (v i)) E)) cb_isD hg hm (by decide +kernel) (by decide) (by decide) he hp (ea2 he he2 fun σ H R r kk => h σ H R r fun x H' k Γ' ⟨e, b, kit, q⟩ => kk x H' k Γ' (ek_type hgT hmT hT hnT hdT ⟨k, de, .ty u, .type u, b, rfl, e, kind, fun _ z => z, kit, q⟩))
end
end DL

/-! a < b < c; *xs in a display; tuple(range(..)) -/
namespace DL
open PySem PySem.Spec
open PyProof.Rows L2
section
variable {c : Core} [Tb c.K] {ι : Type} {v : ι → Var} {S : Ent} {Γ : List AV}
variable {Q : AV → List AV → Prop} {QA : List AK → List AV → Prop} {a b d e : Expr} {es : List Expr} {pos p p2 pos2 : Pos}
/-- a op b op' d over ints -/
theorem ed_chain {op op' : CmpOp} {g g' : Int → Int → Bool} (ho : ∀ i, OpR (mkX c (v i)) (compareOp op) (rI0 fun i j => .bl (g i j))) (ho' : ∀ i, OpR (mkX c (v i)) (compareOp op') (rI0 fun i j => .bl (g' i j))) (hm : lastMarks [op, op'] [b, d] = false)
    (h : EK c v S a Γ fun k Γ1 => EK c v S b Γ1 fun l Γ2 => ∃ i j, akD Γ2 k = some (.int i) ∧ akD Γ2 l = some (.int j) ∧ (g i j = true → EK c v S d Γ2 fun m Γ3 => ∃ n, akD Γ3 m = some (.int n) ∧ Q (.dt (.bl (g' j n))) Γ3) ∧ (g i j = false → Q (.dt (.bl false)) Γ2)) :
    ED c v S (.Compare a [op, op'] [b, d] pos) Γ Q := fun σ H R r kk => by
  refine ⟨_, fun i => pe_chain (ho i) (ho' i) (wE.pe i) (wE.pe i) (wE.pe i) hm, h σ H _ r fun x H1 k Γ1 next r1 hk s1 => ?_⟩
  refine next σ H1 _ r1 fun y H2 l Γ2 ⟨i, j, e1, e2, yes, no⟩ r2 hl s2 => ?_
  cases akD_of e1 (hk.mono s2.keeps)
  cases akD_of e2 hl
  refine ⟨i, j, rfl, rfl, g i j, rfl, ?_⟩
  cases z : g i j with
  | false => exact kk _ _ _ _ (no z) ⟨r2, .bl _⟩ (s1.trans s2) trivial
  | true =>
    refine yes z σ H2 _ r2 fun w H3 m Γ3 ⟨n, e3, q⟩ r3 hm s3 => ?_
    cases akD_of e3 hm
    exact ⟨j, n, rfl, rfl, kk _ _ _ _ q ⟨r3, .bl _⟩ ((s1.trans s2).trans s3) trivial⟩
/-- *e among the items -/
theorem ea_star (hs : ∀ i, starEach (.Starred e p :: es) (v i).env = (true, eval e (v i).env) :: starEach es (v i).env)
    (h : EK c v S e Γ fun k Γ1 => ∃ ds, akS Γ1 k = some ds ∧ EA c v S es Γ1 fun as Γ2 => QA (ds.map (fun d => AK.d (.dt d)) ++ as) Γ2) : EA c v S (.Starred e p :: es) Γ QA := fun σ H R r kk => by
  refine ⟨StX.tStar c.K (wE c v e) (wA c v es), fun i => StX.pa_star (X := mkX c (v i)) (wE.pe i) (wA.pa i) (hs i), h σ H _ r fun x H1 k Γ1 ⟨ds, ek, next⟩ r1 hk s1 => ?_⟩
  obtain ⟨p, xs, rfl, sq, items⟩ := akS_of ek r1 hk
  refine ⟨p, xs, rfl, sq.symm, next σ H1 _ r1 fun ys H2 as Γ2 q r2 hys s2 => kk _ _ _ _ q r2 ?_ (s1.trans s2)⟩
  have all : ∀ {xs : List V} {ds : List Dt}, RpL c.K H2 (Exc S Γ2 σ no) xs ds → RpKL c.K H2 (Exc S Γ2 σ no) σ (xs ++ ys) (ds.map (fun d => AK.d (.dt d)) ++ as) := fun {xs ds} z => by
    induction ds generalizing xs with
    | nil => cases z; exact hys
    | cons d ds ih => cases z with | cons y ys => exact ⟨y, ih ys⟩
  exact all (items.mono s2.keeps)
theorem rgR {K : PySem.W.Frag} [Tb K] {H : Hp} {ex : AP} (a b : Int) : RpL K H ex (rgV a b) (rngD a (b - a).toNat) := by
  unfold rgV rngD
  have : ∀ l : List Nat, RpL K H ex (l.map fun i => V.int (a + (i : Nat))) (l.map fun i => Dt.int (a + (i : Nat))) := fun l => by
    induction l with
    | nil => exact .nil
    | cons i t ih => exact .cons (.int _) ih
  exact this _
/-- tuple(range(a, b)) -/
theorem ed_tupRg (hgT : ∀ i, Gl (mkX c (v i)) "tuple") (hmT : c.mg "tuple" = none) (hg : ∀ i, Gl (mkX c (v i)) "range") (hm : c.mg "range" = none) (na : NoStar v a [b]) (nb : NoStar v b []) (hp : NoStarL v pos2 [b]) (nr : NoStar v (.Call (.Name "range" p2) [a, b] [] pos2) [])
    (h : EK c v S a Γ fun k Γ1 => EK c v S b Γ1 fun l Γ2 => ∃ i j, akD Γ2 k = some (.int i) ∧ akD Γ2 l = some (.int j) ∧ (0 ≤ i ∧ i ≤ 1000000 ∧ 0 ≤ j ∧ j ≤ 1000000) ∧ Q (.dt (.tup (rngD i (j - i).toNat))) Γ2) (still : c.calm = true := by rfl) :
    ED c v S (.Call (.Name "tuple" p) [.Call (.Name "range" p2) [a, b] [] pos2] [] pos) Γ Q := fun σ H R r kk => by
  refine ⟨_, fun i => pe_tupRg (X := mkX c (v i)) still (hgT i) hmT (prg_2 (hg i) hm (wE.pe i) (wE.pe i) (na i) (nb i) (hp i)) (nr i), h σ H _ r fun x H1 k Γ1 next r1 hk s1 => ?_⟩
  refine next σ H1 _ r1 fun y H2 l Γ2 ⟨i, j, e1, e2, bd, q⟩ r2 hl s2 => ?_
  cases akD_of e1 (hk.mono s2.keeps)
  cases akD_of e2 hl
  refine ⟨i, j, rfl, rfl, ⟨by omega, by omega, by omega, by omega, by omega⟩, fun t free => kk _ _ _ _ q (Res.newT r2 free (rgR i j)) ((s1.trans s2).alloc free) trivial⟩
end
end DL

/-! name = [elt for ..] on one line -/
namespace DL
open PySem PySem.Spec
open PyProof.Rows L2
section
variable {c : Core} [Tb c.K] {ι : Type} {v : ι → Var} {S : Ent} {Γ : List AV}
variable {Q : AV → List AV → Prop} {D : DE} {elt tg iter : Expr} {ifs : List Expr} {pos spos py : Pos} {y : Str}
/-- what a comprehension's reading asks -/
theorem lc_read {own : List (Str × Nat)} {scope : Scope} (hl : ∀ i ∈ own.map (·.2), ∀ p, (i, p) ∉ S.lent)
    (h : SrcD c v S tg iter Γ fun ds Γ1 => ds.length ≤ 1000000 ∧ ∃ P : Nat → List Dt → List AV → Prop, P 0 [] (wipeD Γ1 (own.map (·.2))) ∧
      (∀ j d acc Γ2, ds[j]? = some d → P j acc Γ2 → LcTurn c (blkV c v scope) S (own.map (·.2)) tg ifs elt P j d acc Γ2) ∧ ∀ acc Γ2, P ds.length acc Γ2 → Q (.ow acc) (wipeD Γ2 (own.map (·.2))))
    {σ : Sg} {H : Hp} {R : VK} (r : RS c.K S no Γ σ H) (kk : ∀ x H' a Γ', Q a Γ' → Res c.K S Γ' σ H' x a → Step Γ Γ' σ H H' → New H Γ σ x a → R x H') :
    tLc (wI c v tg iter) (wG c (blkV c v scope) tg) (wTs c (blkV c v scope) ifs) (wE c (blkV c v scope) elt) (own.map (·.2)) σ H R := by
  generalize own.map (·.2) = is at hl h ⊢
  refine h σ H _ r fun J H1 ds Γ1 ⟨hz, P, p0, step, done⟩ r1 s w => ?_
  intro D hD
  have nD := r1.new hD
  -- the invariant
  let F : Addr → HO → Prop := AllPin H1 Γ1 σ
  refine ⟨fun j m H' => m = ds.length - j ∧ j ≤ ds.length ∧ ∃ acc accV Γ', acc.length ≤ j ∧ P j acc Γ' ∧ (∀ i ∈ is, ∀ a, Γ'[i]? = some a → a = .un) ∧ H' D = some (.lst accV) ∧ RpL c.K H' (Exc (S.lc (· = D) F) Γ' (L2.wipe σ is) no) accV acc ∧
    RS c.K (S.lc (· = D) F) no Γ' (L2.wipe σ is) H' ∧ ∀ p, Own Γ' (L2.wipe σ is) p → Own Γ1 σ p, ⟨_, rfl, Nat.zero_le _, [], [], wipeD Γ1 is, Nat.le_refl _, p0, fun i hi => wipeD_un Γ1 hi, upd_same, .nil, ?_, fun p => own_wipe⟩, ?_⟩
  · have rw' := r1.wipe hl
    have rD := (rw'.alloc (o := .lst []) hD).ex_mono (ex' := (· = D)) fun _ z => .inr z
    have q := RS.to_fo rD fun p e => by
      subst e
      exact ⟨⟨_, upd_same, trivial⟩, fun z => r1.xtr _ z nD.2.2⟩
    exact q.dopin (fun b o ⟨z1, _, z2⟩ => ⟨by rw [upd_ne (ne_of_none z1 hD)]; exact z1, fun z => z2 (own_wipe z), id⟩) fun b o z => z.2.1
  · rintro j m H' ⟨rfl, hj, acc, accV, Γ', ha, pj, hu, hDl, hacc, r', ow⟩
    have fr : ∀ b o, H1 b = some o → NT o → ¬ Own Γ1 σ b → H' b = some o := fun b o e t n => (r'.pin b o (.inr ⟨e, t, n⟩)).1
    by_cases hlt : j < ds.length
    · -- a turn
      refine .inr ⟨w.go j H' fr hlt, fun H2 => ∃ acc accV Γ', acc.length ≤ j + 1 ∧ P (j + 1) acc Γ' ∧ (∀ i ∈ is, ∀ a, Γ'[i]? = some a → a = .un) ∧ H2 D = some (.lst accV) ∧ RpL c.K H2 (Exc (S.lc (· = D) F) Γ' (L2.wipe σ is) no) accV acc ∧
        RS c.K (S.lc (· = D) F) no Γ' (L2.wipe σ is) H2 ∧ ∀ p, Own Γ' (L2.wipe σ is) p → Own Γ1 σ p, fun H2 h2 => ⟨_, by omega, rfl, hlt, h2⟩, fun x H2 y => ?_⟩
      obtain ⟨d, ed, r2, hd, frY⟩ := w.item (S := S) (f := F) (fo' := fun b => S.fo b ∨ b = D) (fun _ _ z => z) (fun b z => z.elim .inl fun z => .inr (by rw [z]; exact hD)) r' hlt y
      obtain ⟨W, hW, step⟩ := step j d acc Γ' ed pj
      have hDl2 : H2 D = some (.lst accV) := frY _ _ hDl
      have hacc2 : RpL c.K H2 (Exc (S.lc (· = D) F) Γ' (L2.wipe σ is) no) accV acc := hacc.mono fun b o e _ n => ⟨frY b o e, n⟩
      -- the accumulated list is pinned for this turn
      let F2 : Addr → HO → Prop := fun b o => F b o ∨ (H2 b = some o ∧ NT o ∧ ¬ Own Γ' (L2.wipe σ is) b)
      have r2' : RS c.K (S.lc (· = D) F2) no Γ' (L2.wipe σ is) H2 :=
        { r2 with nts := ⟨r2.nts.1, fun b o z => z.elim (fun z => r2.nts.2 b o (.inl z)) fun z => z.elim (fun z => r2.nts.2 b o (.inr z)) fun z => z.2.1⟩, pin := fun b o z => z.elim (fun z => r2.pin b o (.inl z)) fun z => z.elim (fun z => r2.pin b o (.inr z)) fun z => ⟨z.1, z.2.2, id⟩ }
      have r2w : RS c.K (S.lc (· = D) F2) no (wipeD Γ' is) (L2.wipe σ is) H2 := by
        have := r2'.wipe hl
        rw [wipe_wipe] at this
        exact this
      have ow2 : ∀ p, Own (wipeD Γ' is) (L2.wipe σ is) p → Own Γ' (L2.wipe σ is) p := fun p z => by
        rw [← wipe_wipe σ is] at z
        exact own_wipe z
      have hd2 : Rp c.K H2 (Exc (S.lc (· = D) F2) (wipeD Γ' is) (L2.wipe σ is) no) x d := Rp.sub (fun b z => z.elim (fun z => .inl (ow2 b z)) .inr) hd
      refine step (· = D) F2 _ H2 x _ r2w hd2 fun σ3 Γ3 q3 r3 o3 w3 => ?_
      have ew : L2.wipe σ3 is = L2.wipe σ is := by
        rw [wipe_eq (σ := L2.wipe σ is) (by rw [r3.len, r2w.len]) fun i hi => w3 i fun z => hi (hW i z)]
        exact wipe_wipe σ is
      refine ⟨ew, ?_⟩
      have nOwnD : ∀ {Γx : List AV} {σx : Sg} {Hx : Hp}, RS c.K (S.lc (· = D) F2) no Γx σx Hx → ¬ Own Γx σx D := fun rx z => rx.nfo D z (.inr rfl)
      -- the end of a turn, from its last state
      have back : ∀ {Γx : List AV} {Hx : Hp}, RS c.K (S.lc (· = D) F2) no Γx σ3 Hx → (∀ p, Own Γx σ3 p → Own Γ3 σ3 p) → RS c.K (S.lc (· = D) F) no (wipeD Γx is) (L2.wipe σ is) Hx ∧ (∀ p, Own (wipeD Γx is) (L2.wipe σ is) p → Own Γ1 σ p) ∧ Hx D = some (.lst accV) ∧
          (∀ b o, H2 b = some o → NT o → ¬ Own Γ' (L2.wipe σ is) b → Hx b = some o) := fun {Γx Hx} rx ox => by
        have z := rx.wipe hl
        rw [ew] at z
        refine ⟨{ z with nts := ⟨z.nts.1, fun b o y => z.nts.2 b o (y.elim .inl fun y => .inr (.inl y))⟩, pin := fun b o y => z.pin b o (y.elim .inl fun y => .inr (.inl y)) }, fun p y => ?_, (rx.pin D _ (.inr (.inr ⟨hDl2, trivial, ?_⟩))).1, fun b o e t n => (rx.pin b o (.inr (.inr ⟨e, t, n⟩))).1⟩
        · rw [← ew] at y
          exact ow p (ow2 p (o3 p (ox p (own_wipe y))))
        · exact fun z => r2.nfo D z (.inr rfl)
      refine q3 σ3 H2 _ r3 fun b H4 Γ4 q4 r4 s4 => ?_
      cases b with
      | false =>
        refine iteF ?_
        obtain ⟨z1, z2, z3, z4⟩ := back r4 fun p y => s4.own p y
        refine ⟨acc, accV, wipeD Γ4 is, by omega, q4.2 rfl, fun i hi => wipeD_un Γ4 hi, z3, hacc2.mono fun b o e t n => ⟨z4 b o e t fun z => n (.inl z), fun z => n ?_⟩, z1, z2⟩
        rcases z with z | z
        · refine .inl (ow2 b (o3 b (s4.own b (own_wipe (is := is) ?_))))
          rw [ew]
          exact z
        · exact .inr z
      | true =>
        refine iteT ?_
        refine q4.1 rfl σ3 H4 _ r4 fun y5 H5 a Γ5 ⟨dy, ey, q5⟩ hr5 s5 _ => ?_
        have r5 := hr5.rs
        obtain ⟨z1, z2, z3, z4⟩ := back r5 fun p y => s4.own p (s5.own p y)
        have oo : ∀ b, Own (wipeD Γ5 is) (L2.wipe σ is) b → Own Γ5 σ3 b := fun b z => by
          rw [← ew] at z
          exact own_wipe z
        have ry : Rp c.K H5 (Exc (S.lc (· = D) F) (wipeD Γ5 is) (L2.wipe σ is) no) y5 dy := Rp.sub (fun b z => z.elim (fun z => .inl (oo b z)) .inr) (akD_of (k := .d a) (σ := σ3) ey hr5.rpa)
        have rac : RpL c.K H5 (Exc (S.lc (· = D) F) (wipeD Γ5 is) (L2.wipe σ is) no) accV acc := hacc2.mono fun b o e t n => ⟨z4 b o e t fun z => n (.inl z), fun z => n (z.elim (fun z => .inl (ow2 b (o3 b (s4.own b (s5.own b (oo b z)))))) .inr)⟩
        refine ⟨accV, z3, ?_, acc ++ [dy], accV ++ [y5], wipeD Γ5 is, by rw [List.length_append]; exact Nat.add_le_add ha (Nat.le_refl 1), q5, fun i hi => wipeD_un Γ5 hi, upd_same, (rac.append (.cons ry .nil)).write (.inr (.inl (.inr rfl))), ?_, z2⟩
        · rw [hacc2.len]
          have := line1 (n := acc.length + 1) (by omega)
          omega
        · -- the list has grown: nothing else leans on it
          have nD5 : ¬ Own (wipeD Γ5 is) (L2.wipe σ is) D := fun z => nOwnD r5 (oo D z)
          have up : ∀ b o, H5 b = some o → b ≠ D → (upd H5 D (.lst (accV ++ [y5]))) b = some o := fun b o e n => by rw [upd_ne n]; exact e
          exact { z1 with
            slots := fun i a e => (z1.slots i a e).mono (fun b o e _ n => ⟨up b o e fun z => n (.inr (.inl (.inr z))), n⟩) fun ds p xs ea es ep _ => up p _ ep fun z => nD5 ⟨i, ds, by rw [← ea]; exact e, by rw [← z]; exact es⟩
            fr := fun b o e n => up b o (z1.fr b o e n) fun z => by rw [z, nD.2.2] at e; cases e
            fo := fun b z => by
              refine ⟨?_, (z1.fo b z).2⟩
              by_cases e : b = D
              · rw [e, upd_same]
                exact ⟨_, rfl, trivial⟩
              · rw [upd_ne e]
                exact (z1.fo b z).1
            tabs := tabs_write z1.tabs z3 trivial
            pin := fun b o z => by
              have nb : b ≠ D := fun e => by
                rcases z with z | z
                · have := (r1.pin b o z).1
                  rw [e, hD] at this
                  cases this
                · have := z.1
                  rw [e, hD] at this
                  cases this
              exact ⟨up b o (z1.pin b o z).1 nb, (z1.pin b o z).2⟩ }
    · -- the end
      have e : j = ds.length := by omega
      subst e
      have z := r'.wipe hl
      rw [wipe_wipe] at z
      obtain ⟨z1, z2⟩ := RS.unwipe z (fun i hi => wipeD_un Γ' hi) hl
      have oo : ∀ p, Own (wipeD Γ' is) σ p → Own Γ' (L2.wipe σ is) p := fun p y => by
        have := z2 p y
        rw [← wipe_wipe σ is] at this
        exact own_wipe this
      have s' : Step Γ (wipeD Γ' is) σ H H' := ⟨fun b o e t n => fr b o (s.fr b o e t n) t fun z => n (s.own b z), fun p y => s.own p (ow p (oo p y))⟩
      refine .inl ⟨w.stop _ H' fr (Nat.le_refl _), kk _ _ _ _ (done acc Γ' pj) ⟨D, .lst accV, rfl, ?_, hDl, ⟨accV, rfl, hacc.sub fun b y => ?_⟩, fun y => nD.2.1 y, nD.2.2⟩ s' ?_⟩
      · exact RS.move_fo (S := S) (f := (· = D)) { z1 with nts := ⟨z1.nts.1, fun b o y => z1.nts.2 b o (.inl y)⟩, pin := fun b o y => z1.pin b o (.inl y) } fun b o y e => by
          have := (r1.pin b o y).1
          rw [e, hD] at this
          cases this
      · rcases y with y | y | y
        · exact .inl (oo b y)
        · exact .inr (.inl (.inl y))
        · exact .inr (.inl (.inr y))
      · exact New.back (H' := H1) (Γ' := Γ1) ⟨D, rfl, .inl fun o e => by rw [hD] at e; cases e⟩ s
/-- name = [elt for tg in iter if ..] -/
theorem sd_setLc (i : Nat) {own : List (Str × Nat)} {scope : Scope} (hy : AtS c v y i) (ly : ∀ k, (v k).env.scope.names.lookup y = some .local) (hsw : ∀ k, swapsWith (.ListComp elt [⟨tg, iter, ifs, 0⟩] scope pos) (some (.Name y py)) spos.line (v k).env = pure true) (hi : i < S.n) (hli : ∀ p, (i, p) ∉ S.lent)
    (ok : ∀ k, BlkOk c.N (v k).env.scope scope own) (hs : NoFold v iter) (hl : ∀ i ∈ own.map (·.2), ∀ p, (i, p) ∉ S.lent)
    (h : SrcD c v S tg iter Γ fun ds Γ1 => ds.length ≤ 1000000 ∧ ∃ P : Nat → List Dt → List AV → Prop, P 0 [] (wipeD Γ1 (own.map (·.2))) ∧
      (∀ j d acc Γ2, ds[j]? = some d → P j acc Γ2 → LcTurn c (blkV c v scope) S (own.map (·.2)) tg ifs elt P j d acc Γ2) ∧ ∀ acc Γ2, P ds.length acc Γ2 → D.nx ((wipeD Γ2 (own.map (·.2))).set i (.ow acc))) (still : c.calm = true := by rfl) :
    SD c v S (.Assign [.Name y py] (.ListComp elt [⟨tg, iter, ifs, 0⟩] scope pos) spos) D Γ := fun E σ H L r =>
  ⟨_, fun k => ps_setLc (X := mkX c (v k)) still hy.nd hy.ix (ly k) (hsw k) (wI.pi k) (ok k) (fun s H C cl fp => (wG.pg (c := c) (v := blkV c v scope) (k, s, H, C, cl, fp) : PG (mkX c (blkV c v scope (k, s, H, C, cl, fp))) tg _))
    (fun s H C cl fp => (wTs.pts (c := c) (v := blkV c v scope) (k, s, H, C, cl, fp) : PTs (mkX c (blkV c v scope (k, s, H, C, cl, fp))) ifs _)) (fun s H C cl fp => (wE.pe (c := c) (v := blkV c v scope) (k, s, H, C, cl, fp) : PE (mkX c (blkV c v scope (k, s, H, C, cl, fp))) elt _)) (hs k),
    lc_read (Q := fun a Γ' => D.nx (Γ'.set i a)) hl h r fun x H' a Γ' q res _ _ => L.nx _ _ _ q (RS.store res hi hli)⟩

end
end DL

/-! small facts about arguments given one by one -/
namespace DL
open PySem PySem.Spec
open PyProof.Rows L2
theorem akF_cons {Γ : List AV} {a : AK} {as : List AK} {d : Dt} {ds : List Dt} (h : akD Γ a = some d) (hs : akF Γ as = some ds) : akF Γ (a :: as) = some (d :: ds) := by
  unfold akF at *
  rw [List.mapM_cons, h, hs]
  rfl
theorem akF_all {Γ : List AV} : ∀ ds : List Dt, akF Γ (ds.map (fun d => AK.d (.dt d)) ++ []) = some ds
  | [] => rfl
  | d :: ds => akF_cons (a := .d (.dt d)) rfl (akF_all ds)
end DL

/-! repr of a list whose parts can be shown one by one -/
namespace DL
open PySem PySem.Spec
open PyProof.Rows L2
inductive ShowsL : List Dt → List PyData → Prop
  | nil : ShowsL [] []
  | cons {d : Dt} {pd : PyData} {ds : List Dt} {pds : List PyData} : Shows d pd → ShowsL ds pds → ShowsL (d :: ds) (pd :: pds)
theorem ShowsL.py {ds : List Dt} {pds : List PyData} (h : ShowsL ds pds) : Dt.pyAll ds = some pds := by
  induction h with
  | nil => rfl
  | cons a _ ih =>
    show (match Dt.py _, Dt.pyAll _ with
      | some x, some xs => some (x :: xs)
      | _, _ => none) = _
    rw [a.py, ih]
theorem ShowsL.short {ds : List Dt} {pds : List PyData} (h : ShowsL ds pds) : PyData.leavesShortAll 1921 pds = true ∧ PyData.depthAll pds ≤ 60 := by
  induction h with
  | nil => exact ⟨rfl, Nat.zero_le _⟩
  | @cons d pd ds pds a _ ih =>
    obtain ⟨z1, z3⟩ := ih
    have q := a.dp
    refine ⟨?_, ?_⟩
    · show (pd.leavesShort 1921 && PyData.leavesShortAll 1921 pds) = true
      rw [a.lf, z1]; rfl
    · show max pd.depth (PyData.depthAll pds) ≤ 60
      omega
section
variable {X : Cx} {pins : List (Addr × Obj)} {σ : Sg} {H : Hp} {ex : AP} {s : Shared}
theorem ShowsL.run (I : Inv X pins σ H s) {ds : List Dt} {pds : List PyData} (h : ShowsL ds pds) : ∀ {xs : List V} {us : List Value}, RpL X.K H ex xs ds → Vals xs us → ∃ bs, ReadAtMost s.heap (PyData.depthAll pds) bs ∧ ReprAllK X.prog X.w bs s.heap (PyData.depthAll pds) us (PyData.shownAll pds) := by
  induction h with
  | nil =>
    intro xs us q r
    cases q
    cases r
    exact ⟨[], fun _ z => (nomatch z), .nil⟩
  | @cons d pd ds pds a _ ih =>
    intro xs us q r
    cases q with
    | cons q1 q2 =>
      cases r with
      | cons r1 r2 =>
        obtain ⟨as, rd, nd⟩ := Rp.reads I q1 r1 a.py
        obtain ⟨b1, m1, k1⟩ := ReprK.of_reads (prog := X.prog) (w := X.w) rd a.sh (fun z => nd (a.dc z)) a.fits
        obtain ⟨b2, m2, k2⟩ := ih q2 r2
        have l1 : pd.depth ≤ PyData.depthAll (pd :: pds) := Nat.le_max_left _ _
        have l2 : PyData.depthAll pds ≤ PyData.depthAll (pd :: pds) := Nat.le_max_right _ _
        refine ⟨b1 ++ b2, fun b hb => ?_, ?_⟩
        · rcases (List.mem_append.mp hb) with hb | hb
          · exact (m1 b hb).imp fun _ ⟨x, y, z⟩ => ⟨x, y, Nat.le_trans z l1⟩
          · exact (m2 b hb).imp fun _ ⟨x, y, z⟩ => ⟨x, y, Nat.le_trans z l2⟩
        · exact .cons ((k1.more fun b hb => List.mem_append_left _ hb).level_le l1) (k2.more_le (fun b hb => List.mem_append_right _ hb) l2)
def rReprL (K : PySem.W.Frag) : List V → Hp → VK → Prop := fun xs H Q => ∃ x d ds pd pds ex, xs = [x] ∧ Rp K H ex x (.lst (d :: ds)) ∧ ShowsL (d :: ds) (pd :: pds) ∧ PyData.bulkAll (pd :: pds) ≤ 8000 ∧ Q (.str (PyData.list (pd :: pds)).shown) H
theorem call_reprL (hg : X.A.guards = some []) (hu : X.A.units + 64 < cLine) : CallR X (.builtin "repr") (rReprL X.K) := by
  intro pins s σ H xs us Q I r given
  obtain ⟨x, d, ds, pd, pds, ex, rfl, hr, hs, few, q⟩ := given
  obtain ⟨u, rfl, ru⟩ := r.one
  cases hr with
  | @lst a ys _ at_a n parts =>
    cases (show _ = Value.ref _ from ru)
    obtain ⟨its, rv, ⟨o, m, ho, hc, hd, items⟩, _⟩ := I.list (.of at_a)
    obtain ⟨bs, most, k⟩ := hs.run I parts rv
    obtain ⟨z1, z3⟩ := hs.short
    cases rv with
    | nil => cases parts
    | @cons y u' ys us r1 r2 =>
      obtain ⟨as, reads, _⟩ := RpL.readsAll I parts (.cons r1 r2) hs.py
      have whole : Reads s.heap (.ref a) (.list (pd :: pds)) (a :: as) := .list ho hc items (by simpa using reads)
      have out : a ∉ bs := not_mem_of_deeper whole (by show PyData.depthAll (pd :: pds) < PyData.depthAll (pd :: pds) + 1; omega) most
      have shape : (PyData.list (pd :: pds)).shown = listText (PyData.shownAll (pd :: pds)) := by simp only [PyData.shown]
      have fit : (listText (PyData.shownAll (pd :: pds))).length ≤ sizeLine := by
        have short := PyData.shown_le_bulk 1921 (by omega) (.list (pd :: pds)) z1
        have bulk : (PyData.list (pd :: pds)).bulk = PyData.bulkAll (pd :: pds) := rfl
        rw [shape, bulk] at short
        rw [sizeLine_eq]
        omega
      refine call_repr_slot (by omega) ⟨o, ho, hc⟩ PySem.F.slot_list_repr.toG (call_list_reprK ho hc items out (by simpa using k.length_eq) (fun i y e => k.item i y (by simpa using e)) hg (fun b _ => Clear.nil b) (by show X.A.units + 1 + (PyData.depthAll (pd :: pds) + 1) < cLine; omega) (fun _ _ z => z) (fun h' t tk hk => ⟨_, _, rfl, .str (PyData.list (pd :: pds)).shown, H, I.kept hk, ⟨t, by rw [shape]⟩, q⟩) fit)
end
section
variable {c : Core} [Tb c.K] {ι : Type} {v : ι → Var} {S : Ent} {Γ : List AV} {Q : AV → List AV → Prop} {a : Expr} {p pos : Pos}
def pReprL : List AK → List AV → (AV → List AV → Prop) → Prop := fun as Γ Q => ∃ k d ds pd pds, as = [k] ∧ akD Γ k = some (.lst (d :: ds)) ∧ ShowsL (d :: ds) (pd :: pds) ∧ PyData.bulkAll (pd :: pds) ≤ 8000 ∧ Q (.dt (.str (PyData.list (pd :: pds)).shown)) Γ
theorem cb_reprL : CB c S (rReprL c.K) pReprL := by
  rintro as Γ Q σ H xs R ⟨k, d, ds, pd, pds, rfl, e, hs, few, q⟩ r hx kk
  obtain ⟨x, rfl, hk⟩ := hx.one
  exact ⟨x, d, ds, pd, pds, _, rfl, akD_of e hk, hs, few, kk _ _ _ _ q ⟨r, .str _⟩ .refl trivial⟩
/-- repr([a, ..]), at most four parts -/
theorem ed_reprL (hgu : c.A.guards = some []) (hu : c.A.units + 64 < cLine) (hg : ∀ i, Gl (mkX c (v i)) "repr") (hm : c.mg "repr" = none) (he : NoStar v a []) (h : EK c v S a Γ fun k Γ1 => ∃ d ds pd pds, akD Γ1 k = some (.lst (d :: ds)) ∧ ShowsL (d :: ds) (pd :: pds) ∧ PyData.bulkAll (pd :: pds) ≤ 8000 ∧ Q (.dt (.str (PyData.list (pd :: pds)).shown)) Γ1) : ED c v S (.Call (.Name "repr" p) [a] [] pos) Γ Q :=
  ed_callB (fun i => (show CallR (mkX c (v i)) (.builtin "repr") (rReprL c.K) from call_reprL hgu hu)) cb_reprL hg hm (by decide +kernel) (by decide) (by decide) he (fun _ => rfl) (ea1 he fun σ H R r kk => h σ H R r fun x H' k Γ' ⟨d, ds, pd, pds, e, hs, few, q⟩ => kk x H' k Γ' ⟨k, d, ds, pd, pds, rfl, e, hs, few, q⟩)
end
end DL

/-! two names set at once -/
namespace DL
open PySem PySem.Spec
open PyProof.Rows L2
section
variable {c : Core} [Tb c.K] {ι : Type} {v : ι → Var} {S : Ent} {Γ : List AV} {D : DE} {e tg : Expr} {pos : Pos}
/-- a, b = e, the parts unpacked in turn -/
theorem sd_unp (W : List Nat) (sole : ∀ i, swapsWithSole [tg] e pos.line (v i).env = pure false) (plain : ∀ i, swappedStores [tg] e (v i).env = pure none) (one : ∀ i, (assignEach [tg] (v i).env).map (·.2) = [assign tg (v i).env])
    (h : ED c v S e Γ fun a Γ1 => ∃ d, a = .dt d ∧ GD c v S tg d W Γ1 D.nx) : SD c v S (.Assign [tg] e pos) D Γ := fun E σ H L r =>
  ⟨_, fun i => ps_asg (wE.pe i) (wG.pg i) (sole i) (plain i) (one i), h σ H _ r fun x H1 a Γ1 ⟨d, ea, g⟩ res _ _ => by
    subst ea
    exact g σ H1 x _ res.rs (res.rpa) fun σ' Γ' q r' _ _ => L.nx _ _ _ q r'⟩
end
section
variable {Y : Cx} {k : Nat} {f : Addr} {fd : FuncData} {x : Str} {p pos : Pos}
theorem pe_call0 {sp : Sp} (F : FnG Y.prog Y.w Y.K Y.mg Y.base k f fd [] sp) (hr : Room k Y.A) (hgu : Y.A.guards = some []) (hg : Gl Y x) (hm : Y.mg x = some (.ref f)) (hk : PySem.W.keepIn Y.K (.ref f) = true) (hb : Binds Y.K fd [] []) (hdb : (x == ("__debug__" : Str)) = false) :
    PE Y (.Call (.Name x p) [] [] pos) (fun σ H R => sp [] H R E0) where
  run pins s σ H R I given := by
    refine wpAny_Call_Name_kw (ld_glob I hg hm (PySem.W.callWith_K0 I.kIn hk ?_) hdb)
    have bound := hb s [] I.kIn rfl
    exact wpAny_call (codeAny_mono (runG F hr hgu bound I .nil given) fun res s' done => match res, done with
      | .ok (.ret _), done => done
      | .ok .next, no => no.elim
      | .ok .brk, no => no.elim
      | .ok .cont, no => no.elim
      | .error _, no => no.elim)
variable {c : Core} [Tb c.K] {ι : Type} {v : ι → Var} {S : Ent} {Γ : List AV} {Q : AV → List AV → Prop} {DS : DSp}
/-- f() -/
theorem ed_call0 (F : FnG c.prog c.w c.K c.mg c.base k f fd [] (spD c.K DS)) (hr : Room k c.A) (hgu : c.A.guards = some []) (hg : ∀ i, Gl (mkX c (v i)) x) (hm : c.mg x = some (.ref f)) (hk : PySem.W.keepIn c.K (.ref f) = true) (hb : Binds c.K fd [] []) (hdb : (x == ("__debug__" : Str)) = false)
    (h : DS [] fun a _ => Q a Γ) : ED c v S (.Call (.Name x p) [] [] pos) Γ Q := fun σ H R r kk => by
  refine ⟨_, fun i => pe_call0 (Y := mkX c (v i)) F hr hgu (hg i) hm hk hb hdb, ?_⟩
  refine ⟨[], _, _, h, call_in (as := []) (avs := []) r trivial rfl rfl, fun y H2 a as' q res => ?_⟩
  have few : as' = [] := List.length_eq_zero_iff.mp res.rs.lenΓ
  subst few
  obtain ⟨z1, z2, z3⟩ := call_out (xs := []) (as := []) (avs := []) r trivial rfl rfl res
  have same : backA Γ [] [] = Γ := rfl
  rw [same] at z1 z2
  exact kk _ _ _ _ q z1 z2 (by simpa using z3)
end
end DL

/-! exceptions made as values -/
namespace DL
open PySem PySem.Spec
open PyProof.Rows L2
theorem pe_exc0 {Y : Cx} {x : Str} {p pos : Pos} {C : Addr} (O : OwnExc Y.K Y.mg x C) (hg : Gl Y x) (hdb : (x == ("__debug__" : Str)) = false) : PE Y (.Call (.Name x p) [] [] pos) (fun _ H Q => ∀ a, H a = none → Q (.ref a) (upd H a (ExO (.ref C) a))) where
  run pins s σ H Q I given := by
    refine wpAny_Call_Name_kw (ld_glob I hg O.named (PySem.W.callWith_K0 I.kIn O.kept ?_) hdb)
    obtain ⟨bm, N, nm, qn, bs, hdct, sn, sub, ab, col, dd, k0, k1, k2, k3, k5, mN, hC, hN, hni, T⟩ := exc_obj I.kIn O.made
    show wpAny _ _ (call (.ref C) []) _ _ _
    refine wpAny_call_exc_subT PySem.F.excBase_ValueError T hC hN hni (fun h' a made => ?_) (Nat.zero_le _)
    have free := I.hok.gone made.new
    obtain ⟨t, at_a, _, _⟩ := made.there
    exact ⟨.ref a, upd H a (ExO (.ref C) a), I.laidN made.keeps made.new free (exO_ok at_a ⟨rfl, rfl⟩ rfl rfl rfl (show 4 < 6 by decide)), rfl, given a free⟩
section
variable {c : Core} [Tb c.K] {ι : Type} {v : ι → Var} {S : Ent} {Γ : List AV} {Q : AV → List AV → Prop} {x : Str} {p pos : Pos}
/-- C(), a new exception as a value -/
theorem ed_exc0 {C : Addr} (O : OwnExc c.K c.mg x C) (hg : ∀ i, Gl (mkX c (v i)) x) (hdb : (x == ("__debug__" : Str)) = false) (q : Q (.dt (.obj (ExO (.ref C)))) Γ) : ED c v S (.Call (.Name x p) [] [] pos) Γ Q := fun σ H R r kk =>
  ⟨_, fun i => pe_exc0 (Y := mkX c (v i)) O (hg i) hdb, fun a free => by
    have new := r.new free
    refine kk _ _ _ _ q ⟨(r.alloc free).no, .obj upd_same trivial ?_⟩ (Step.refl.alloc free) trivial
    rintro (z | z | z)
    · exact new.1 z
    · exact new.2.1 z
    · exact z⟩
end
end DL

/-! exceptions with attributes, as values: made, read (in the library's terms; the layer has no rule of them yet) -/
namespace DL
open PySem PySem.Spec
open PyProof.Rows L2
/-- e.f, e a tracked exception with a dict -/
def tExf (C : Addr) (f : Str) (te : TE) : TE := fun σ H Q => te σ H fun x H1 => ∃ (a d : Addr) (fs : List (Str × V)) (y : V), x = .ref a ∧ H1 a = some (exo a C (some d)) ∧ H1 d = some (exd d fs) ∧ fs.lookup f = some y ∧ Q y H1
theorem pe_exf {X : Cx} {C : Addr} {e : Expr} {te : TE} {pos : Pos} {f : Str} (T : XfC X.K C) (none_of : PySem.W.findIn X.K (.ref C) f = some none) (he : PE X e te) (base : attributeBase e f X.env (eval e X.env) = eval e X.env) : PE X (.Attribute e f pos) (tExf C f te) where
  run pins s σ H Q I given := by
    refine attr_of base (thn (he.run pins s σ H _ I given) fun u s1 got => ?_)
    obtain ⟨x, H1, I1, rel, a, d, fs, y, rfl, at_a, at_d, field, q⟩ := got
    cases (show u = Value.ref a from rel)
    obtain ⟨t1, here⟩ := exo_at I1.hok at_a
    obtain ⟨mA, ns, vals⟩ := exd_at I1.hok at_d
    obtain ⟨od, ho, look⟩ := lookIn_ns ns
    obtain ⟨w, hw, rw'⟩ := RelO.some_of (v := y) (o := mA f) (by rw [← field]; exact vals f)
    have inst : PySem.W.InstAt s1.heap a _ C (some od) := ⟨here, rfl, rfl, ho⟩
    exact HandSPX.exc_get I1.kIn inst T.ga T.gg T.exC (PySem.W.findObj_own T.hdC none_of rfl (by rw [look, hw])) (handed_of rw') ⟨y, H1, I1.tok _, rw', q⟩
/-- C(e, ..), C with an own __init__: a new exception as a value -/
def tExa (C : Addr) (sp : Sp) (ta : TA) : TE := fun σ H Q => ta σ H fun vs H1 => vs.length ≤ 1000 ∧ ∀ a, H1 a = none → sp (.ref a :: vs) (upd H1 a (exo a C none)) (fun v H2 => v = .non ∧ Q (.ref a) H2) E0
theorem pe_exa {Y : Cx} {x : Str} {C fI : Addr} {k : Nat} {fd : FuncData} {ps : List Str} {sp : Sp} {e : Expr} {es : List Expr} {ta : TA} {p pos : Pos} (T : OexC Y.K C) (init : PySem.W.findIn Y.K (.ref C) "__init__" = some (some (.ref fI))) (fn : PySem.W.typeIn Y.K (.ref fI) = some (.type "function"))
    (F : FnG Y.prog Y.w Y.K Y.mg Y.base k fI fd ps sp) (hr : Room (k + 1) Y.A) (hgu : Y.A.guards = some []) (hb : Binds Y.K fd ps []) (hg : Gl Y x) (hm : Y.mg x = some (.ref C)) (ha : PA Y (e :: es) ta)
    (hdb : (x == ("__debug__" : Str)) = false) (he : starEach (e :: es) Y.env = (false, eval e Y.env) :: starEach es Y.env) (hpl : (backTo pos (starEach es Y.env)).any (·.1) = false) :
    PE Y (.Call (.Name x p) (e :: es) [] pos) (tExa C sp ta) where
  run pins s σ H Q I given := by
    obtain ⟨nm, q, N, bs, bm, sn, sub, ab, col, dd, k0, k1, k2, k3, k5, hC, hbm⟩ := T.cls; refine wpAny_Call_Name_kw (ld_glob I hg hm (PySem.W.callWith_K (h₀ := Y.base) I.ok.mod.kin T.kC (thn (ha.run pos pins s σ H _ I given) fun us s1 got => ?_) he hpl) hdb)
    obtain ⟨vs, H1, I1, rel, few, next⟩ := got
    refine ⟨I1.kIn, ?_⟩; obtain ⟨hp, g, dr, tk, os⟩ := s1
    -- the new object, as yet without a dict
    generalize new : hp.objs.size + 1 = a
    have free : H1 a = none := I1.hok.fresh (by rw [← new]; exact Nat.le_succ _)
    have kept : ∀ b o, hp.get? b = some o → ((hp.push (PySem.W.kdv_tup us)).push (PySem.HandSPX.excO C hp.objs.size)).get? b = some o := fun b o z => Heap.get?_push_of_some _ (Heap.get?_push_of_some _ z)
    have there : ((hp.push (PySem.W.kdv_tup us)).push (PySem.HandSPX.excO C hp.objs.size)).get? a = some (PySem.HandSPX.excO C hp.objs.size) := by
      rw [← new]
      heap_get
    have I2 : Inv Y pins σ (upd H1 a (exo a C none)) ⟨(hp.push (PySem.W.kdv_tup us)).push (PySem.HandSPX.excO C hp.objs.size), g, dr, tk, os⟩ :=
      I1.laid (t' := tk) (a := a) (o := exo a C none) kept (by rw [← new]; exact Nat.le_succ _) (exo_ok there)
    have todo := next a free
    have rel2 : Vals (V.ref a :: vs) (Value.ref a :: us) := .cons rfl rel
    have many : ((Value.ref a :: us) ++ ([] : List Value)).length = ps.length := by
      rw [List.append_nil, ← rel2.length]
      exact F.len _ _ _ _ todo
    have bound := hb _ (Value.ref a :: us) I2.kIn many
    rw [List.append_nil] at bound
    have short : us.length ≤ sizeLine := by
      rw [← Paired.length rel, sizeLine_eq]
      omega
    refine wpAny_call (PySem.HandSPX.call_own PySem.F.excBase_ValueError (fun Z => PySem.HandSPX.refsVE_contains Z bm hbm) (I1.kIn _ _ hC) (PySem.W.looks_findIn I1.kIn init) (fun self => PySem.W.bind_fn I1.kIn self fn) short ?_)
    rw [new]
    refine codeAny_mono (F.run _ Y.stack _ _ ⟨Value.ref a :: us, []⟩ _ _ _ (hr.make C us []) hgu (I2.env0.make C us []) bound rel2 todo) fun res s' done => ?_
    match res, done with
    | .ok (.ret u), done =>
      obtain ⟨v, H3, I3, rv, ev, fin⟩ := I2.after done
      subst ev
      exact ⟨rv, .ref a, H3, I3, rfl, fin⟩
    | .ok .next, no => exact no.elim
    | .ok .brk, no => exact no.elim
    | .ok .cont, no => exact no.elim
    | .error _, no => exact no.elim
end DL

/-! exceptions with attributes in the layer -/
namespace DL
open PySem PySem.Spec
open PyProof.Rows L2
/-- values that need no place -/
def Dt.flat : Dt → Option V
  | .int i => some (.int i)
  | .non => some .non
  | _ => none
theorem flat_of {K : PySem.W.Frag} [Tb K] {H : Hp} {ex : AP} {x y : V} {d : Dt} (e : d.flat = some y) (q : Rp K H ex x d) : x = y := by
  cases d with
  | int i => cases e; cases q; rfl
  | non => cases e; cases q; rfl
  | _ => cases e
theorem flat_rp {K : PySem.W.Frag} [Tb K] {H : Hp} {ex : AP} {y : V} {d : Dt} (e : d.flat = some y) : Rp K H ex y d := by
  cases d with
  | int i => cases e; exact .int i
  | non => cases e; exact .non
  | _ => cases e
/-- __init__ with one field, with two -/
def spI1 (K : PySem.W.Frag) (f : Str) : Sp := fun vs H Q _ => ∃ (a C : Addr) (y : V), vs = [.ref a, y] ∧ OexC K C ∧ PySem.W.findIn K (.ref C) f = some none ∧ H a = some (exo a C none) ∧ ∀ dx, H dx = none → dx ≠ a → Q .non (upd (upd H dx (exd dx [(f, y)])) a (exo a C (some dx)))
def spI2 (K : PySem.W.Frag) (f g : Str) : Sp := fun vs H Q _ => ∃ (a C : Addr) (y z : V), vs = [.ref a, y, z] ∧ OexC K C ∧ PySem.W.findIn K (.ref C) f = some none ∧ PySem.W.findIn K (.ref C) g = some none ∧ H a = some (exo a C none) ∧
  ∀ dx, H dx = none → dx ≠ a → Q .non (upd (upd (upd H dx (exd dx [(f, y)])) a (exo a C (some dx))) dx (exd dx [(g, z), (f, y)]))
theorem two_news {H : Hp} {a d : Addr} {o o' u : HO} (n : d ≠ a) : upd (upd (upd H a o) d u) a o' = upd (upd H a o') d u := by
  funext b
  by_cases h : b = a
  · subst h
    rw [upd_same, upd_ne (Ne.symm n), upd_same]
  · rw [upd_ne h]
    by_cases k : b = d
    · subst k
      rw [upd_same, upd_same]
    · rw [upd_ne k, upd_ne k, upd_ne h, upd_ne h]
section
variable {c : Core} [Tb c.K] {ι : Type} {v : ι → Var} {S : Ent} {Γ : List AV} {Q : AV → List AV → Prop} {e : Expr} {x : Str} {p pos : Pos}
/-- e.f of an exception -/
theorem ed_exf {C : Addr} {f : Str} (T : XfC c.K C) (no_f : PySem.W.findIn c.K (.ref C) f = some none) (base : ∀ i, attributeBase e f (v i).env (eval e (v i).env) = eval e (v i).env)
    (h : EK c v S e Γ fun k Γ1 => ∃ fs y d, akD Γ1 k = some (.exa C fs) ∧ fs.lookup f = some y ∧ d.flat = some y ∧ Q (.dt d) Γ1) : ED c v S (.Attribute e f pos) Γ Q := fun σ H R r kk => by
  refine ⟨_, fun i => pe_exf (X := mkX c (v i)) T no_f (wE.pe i) (base i), h σ H _ r fun z H1 k Γ1 ⟨fs, y, d, ek, l, fl, q⟩ r1 hk s => ?_⟩
  cases akD_of ek hk with
  | exa at_a _ at_d _ => exact ⟨_, _, fs, y, rfl, at_a, at_d, l, kk _ _ _ _ q ⟨r1, flat_rp fl⟩ s trivial⟩
/-- C(e), C with one field -/
theorem ed_exa1 {C fI : Addr} {k : Nat} {fd : FuncData} {ps : List Str} {f : Str} (T : OexC c.K C) (init : PySem.W.findIn c.K (.ref C) "__init__" = some (some (.ref fI))) (fn : PySem.W.typeIn c.K (.ref fI) = some (.type "function")) (no_f : PySem.W.findIn c.K (.ref C) f = some none)
    (F : FnG c.prog c.w c.K c.mg c.base k fI fd ps (spI1 c.K f)) (hr : Room (k + 1) c.A) (hgu : c.A.guards = some []) (hb : Binds c.K fd ps []) (hg : ∀ i, Gl (mkX c (v i)) x) (hm : c.mg x = some (.ref C)) (hdb : (x == ("__debug__" : Str)) = false) (he : NoStar v e []) (hpl : NoStarL v pos [])
    (h : EK c v S e Γ fun k Γ1 => ∃ d y, akD Γ1 k = some d ∧ d.flat = some y ∧ Q (.dt (.exa C [(f, y)])) Γ1) : ED c v S (.Call (.Name x p) [e] [] pos) Γ Q := fun σ H R r kk => by
  refine ⟨_, fun i => pe_exa (Y := mkX c (v i)) (ta := tCons (wE c v e) tNil) T init fn F hr hgu hb (hg i) hm (pa_cons (wE.pe i) pa_nil (he i)) hdb (he i) (hpl i), ?_⟩
  refine h σ H _ r fun z H1 k Γ1 ⟨d, y, ek, fl, q⟩ r1 hk s => ?_
  have same : z = y := flat_of fl (akD_of ek hk)
  subst same
  refine ⟨(show 1 ≤ 1000 by decide), fun a free => ⟨a, C, z, rfl, T, no_f, upd_same, fun dx fd nd => ⟨rfl, ?_⟩⟩⟩
  rw [two_news nd]
  have free2 : (upd H1 a (exo a C (some dx))) dx = none := by
    rw [upd_ne nd] at fd ⊢
    exact fd
  have n1 := r1.new free
  have r2 := (r1.alloc (o := exo a C (some dx)) free).no
  have n2 := r2.new free2
  have r3 := (r2.alloc (o := exd dx [(f, z)]) free2).no
  refine kk _ _ _ _ q ⟨r3, .exa (by rw [upd_ne (Ne.symm nd), upd_same]) ?_ upd_same ?_⟩ ((s.alloc free).alloc free2) trivial
  · rintro (w | w | w)
    · exact n1.1 w
    · exact n1.2.1 w
    · exact w
  · rintro (w | w | w)
    · exact n2.1 w
    · exact n2.2.1 w
    · exact w
end
end DL

/-! a def's promise in the library's own terms; __init__ of an exception class -/
namespace DL
open PySem PySem.Spec
open PyProof.Rows L2
theorem FnG.raw {P : Program} {w : World} {K : PySem.W.Frag} [Tb K] {mg : Str → Option Value} {base : Heap} {x qual : Str} {st : Stmt} {f : Addr} {fd : FuncData} {N ps : List Str} {k : Nat} {sp : Sp} (F : Fun K x qual st f fd) (SC : FnScope N ps (defScope st)) (len : ∀ as G Q E, sp as G Q E → as.length = ps.length)
    (body : ∀ (cdv : Value) (A : Around) (outer : List Env) (s : Shared) (H : Hp) (vs : List V) (Q : VK), sp vs H Q E0 → ∃ t, PSs (mkX (coreOf P w K mg base (A.deeper (envOfC qual (defScope st) s.heap.objs.size f cdv)) N (envOfC qual (defScope st) s.heap.objs.size f cdv :: outer)) (varOf s H (envOfC qual (defScope st) s.heap.objs.size f cdv) outer ())) (defBody st) t ∧
      t { nx := fun _ G => Q .non G, rt := Q } (start N vs) H) : FnG P w K mg base (k + 1) f fd ps sp := by
  obtain ⟨oc, od, kV, doc, pm, an, cdv, ct, osl, rfl, lk, code⟩ := F.ex
  refine ⟨len, fun A outer s H args us vs Q hr hgu e0 hb rv h => ?_⟩
  have ln : vs.length = ps.length := len _ _ _ _ h
  have inK : K.In s.heap := e0.mod.kin.keeps fun b o z => (e0.bs b o z).1
  have nolim : s.heap.NoLimit := e0.mod.nolimit.keeps fun b o z => (e0.bs b o z).1
  have kinds : ∀ y ∈ ps.zip us, (defScope st).names.lookup y.1 = some .local ∨ ((defScope st).names.lookup y.1 = some .cell ∧ ((cellsFrom (s.heap.objs.size + 1) (defScope st).names []).lookup y.1).isSome = true) := fun y hy =>
    (SC.par y.1 (List.of_mem_zip hy).1).imp id fun z => ⟨z, PySem.W.cellsFrom_some _ _ _ (.inl z)⟩
  refine codeAny_call_function hr.depth (inK _ _ lk) rfl SC.co SC.gen rfl (PySem.W.codeRec_of inK code) (hb _ _ _ _ (wpAny_newFunctionEnv_cells SC.kind kinds fun env henv s1 ic => ?_))
  subst henv
  refine ⟨nolim.keeps ic.toInCall.keep, codeAny_func ?_⟩
  have I0 : Inv (cxOf CX0 P w K mg base N qual (defScope st) f cdv A outer s H E0) [] (start N vs) H s1 := inv_start SC hr.hd e0 ln rv ic
  have I1 : Inv (mkX (coreOf P w K mg base (A.deeper (envOfC qual (defScope st) s.heap.objs.size f cdv)) N (envOfC qual (defScope st) s.heap.objs.size f cdv :: outer)) (varOf s H (envOfC qual (defScope st) s.heap.objs.size f cdv) outer ())) [] (start N vs) H s1 := I0.wish _
  obtain ⟨t, runs, given⟩ := body cdv A outer s H vs Q h
  refine wpAny_mono (runs.run [] s1 (start N vs) H _ I1 given) (fun fl s' hs => ?_) fun e s' no => no.elim
  match fl, hs with
  | .ret u, ⟨z, σ', G, J, rel, q⟩ => exact ⟨z, G, J.os, J.bare, J.base, J.hok, rel, q⟩
  | .next, ⟨σ', G, J, q⟩ => exact ⟨.non, G, J.os, J.bare, J.base, J.hok, rfl, q⟩
  | .brk, ⟨_, _, _, no⟩ => exact no.elim
  | .cont, ⟨_, _, _, no⟩ => exact no.elim
section
variable {P : Program} {w : World} {K : PySem.W.Frag} [Tb K] {mg : Str → Option Value} {base : Heap} {x qual : Str} {st : Stmt} {fI : Addr} {fd : FuncData} {f g : Str} {p1 p2 p3 p4 p5 p6 pos pos2 : Pos}
/-- def __init__(self, f): self.f = f -/
theorem init1 (F : Fun K x qual st fI fd) (SC : FnScope ["self", f] ["self", f] (defScope st)) (text : defBody st = [.Assign [.Attribute (.Name "self" p1) f p2] (.Name f p3) pos])
    (vis0 : Vis (defScope st) "self") (vis1 : Vis (defScope st) f) (d1 : (f == ("__debug__" : Str)) = false) (d2 : (f == ("__classdict__" : Str)) = false) : FnG P w K mg base 1 fI fd ["self", f] (spI1 K f) :=
  FnG.raw F SC (fun vs H Q E h => by obtain ⟨_, _, _, rfl, _⟩ := h; rfl) fun cdv A outer s H vs Q h => by
    obtain ⟨a, C, y, rfl, T, no_f, at_a, next⟩ := h
    rw [text]
    refine ⟨_, pss_one (ps_ost (pe_var (i := 0) rfl vis0) (pe_var (i := 1) rfl vis1 d1 d2)), ?_⟩
    exact ⟨y, rfl, .ref a, rfl, a, C, rfl, T, no_f, .inl ⟨at_a, fun dx fd nd => next dx fd nd⟩⟩
/-- def __init__(self, f, g): self.f = f; self.g = g -/
theorem init2 (F : Fun K x qual st fI fd) (SC : FnScope ["self", f, g] ["self", f, g] (defScope st)) (text : defBody st = [.Assign [.Attribute (.Name "self" p1) f p2] (.Name f p3) pos, .Assign [.Attribute (.Name "self" p4) g p5] (.Name g p6) pos2])
    (vis0 : Vis (defScope st) "self") (vis1 : Vis (defScope st) f) (vis2 : Vis (defScope st) g) (d1 : (f == ("__debug__" : Str)) = false) (d2 : (f == ("__classdict__" : Str)) = false) (d3 : (g == ("__debug__" : Str)) = false) (d4 : (g == ("__classdict__" : Str)) = false) : FnG P w K mg base 1 fI fd ["self", f, g] (spI2 K f g) :=
  FnG.raw F SC (fun vs H Q E h => by obtain ⟨_, _, _, _, rfl, _⟩ := h; rfl) fun cdv A outer s H vs Q h => by
    obtain ⟨a, C, y, z, rfl, T, no_f, no_g, at_a, next⟩ := h
    rw [text]
    refine ⟨_, pss_cons (ps_ost (pe_var (i := 0) rfl vis0) (pe_var (i := 1) rfl vis1 d1 d2)) (pss_one (ps_ost (pe_var (i := 0) rfl vis0) (pe_var (i := 2) rfl vis2 d3 d4))), ?_⟩
    refine ⟨y, rfl, .ref a, rfl, a, C, rfl, T, no_f, .inl ⟨at_a, fun dx fd nd => ?_⟩⟩
    exact ⟨z, rfl, .ref a, rfl, a, C, rfl, T, no_g, .inr ⟨dx, [(f, y)], upd_same, by rw [upd_ne nd, upd_same], (show 1 ≤ 900 by decide), next dx fd nd⟩⟩
end
end DL

/-! an own exception class called with keywords -/
namespace DL
open PySem PySem.Spec PySem.HandSPX
open PyProof.Rows L2
section
variable {M : Model}
variable {A : Around}
variable {E : Value → Shared → Prop} {h : Heap} {g : Array GenState} {d : Drawn} {t : Nat} {os : OsState}
variable {nm q : Str} {C N : Addr}
variable {bs bm bmB : List Value} {hdct : Bool} {sn : List Str} {sub : List Value} {ab : Bool} {col : Option Bool} {dd : Option Addr} {k0 k1 k2 k3 k5 : Option Value} {B newId initId : String}
theorem new_checked (F : ExcBaseFacts B newId initId bmB) (known : ∀ X : String, bm.contains (.type X) = bmB.contains (.type X)) {kw : List (Str × Value)} {Q : Unit → Shared → Prop}
    (at_C : h.get? C = some (excClassObj nm q C N bs bm hdct sn sub ab col dd k0 k1 k2 k3 k5 newId)) (done : Q () ⟨h, g, d, t, os⟩) : wpAny M A (checkBuiltinCall newId ⟨[.ref C], kw⟩) Q E ⟨h, g, d, t, os⟩ := by
  have has : (Value.ref C :: bm).contains (.type B) = true := by rw [List.contains_cons, known, F.hasB, Bool.or_true]
  have star := F.noStar
  simp only [checkBuiltinCall, F.newKind, F.newSplit, F.newRow]; skip
  repeat (first | refine wpAny_loadPart_at at_C ?_ | (refine wpAny_isSubtype_exc at_C ?_; rw [has]) | refine wpAny_staticBase_exc at_C ?_ | refine wpAny_madeBy_exc at_C ?_ | simp only [bne_self_eq_false, Bool.false_eq_true, if_false] | wp_step)
  exact done
end
section
variable {prog : Program}
variable {w : World}
variable {A : Around} {E : Value → Shared → Prop} {R : Result → Shared → Prop} {h : Heap} {g : Array GenState} {d : Drawn} {t : Nat} {os : OsState}
variable {nm q : Str} {C N : Addr}
variable {bs bm bmB : List Value} {hdct : Bool} {sn : List Str} {sub : List Value} {ab : Bool} {col : Option Bool} {dd : Option Addr} {k0 k1 k2 k3 k5 : Option Value} {B newId initId : String}
theorem new_made (F : ExcBaseFacts B newId initId bmB) (known : ∀ X : String, bm.contains (.type X) = bmB.contains (.type X)) {kw : List (Str × Value)}
    (at_C : h.get? C = some (excClassObj nm q C N bs bm hdct sn sub ab col dd k0 k1 k2 k3 k5 newId))
    (done : R (.ok (.ret (.ref (h.objs.size + 1)))) ⟨(h.push (PySem.W.kdv_tup [])).push (excO C h.objs.size), g, d, t, os⟩) : codeAny (model prog w) A (.builtin newId ⟨[.ref C], kw⟩) R ⟨h, g, d, t, os⟩ := by
  have ends := F.ends
  have hasB : (Value.ref C :: bm).contains (.type B) = true := by rw [List.contains_cons, known, F.hasB, Bool.or_true]
  have hasA : (Value.ref C :: bm).contains (.type "AttributeError") = false := by rw [List.contains_cons, known, F.noAttr]; rfl
  have hasN : (Value.ref C :: bm).contains (.type "NameError") = false := by rw [List.contains_cons, known, F.noName]; rfl
  have short : ([] : List Value).length ≤ sizeLine := Nat.zero_le _
  refine codeAny_builtinAt F.entry ?_; unfold Builtin.«BaseException.__new__»
  refine PySem.wpAt_bind ?_
  refine (show PySem.wpAt _ _ _ (stack >>= _) _ _ _ from PySem.wpAt_bind (PySem.wpAt_stack fun p below => PySem.wpAt_of_wpAny ?_))
  wp_walk
  refine PySem.wpAt_of_wpAny ?_
  rw [F.owner]
  repeat (first | with_reducible refine wpAny_madeHere_exc F.canon at_C ?_ | with_reducible refine wpAny_loadPart_at at_C ?_ | (with_reducible refine wpAny_isSubtype_exc at_C ?_; first | rw [hasB] | rw [hasA] | rw [hasN]) | wp_step)
  refine (show R _ _ from ?_)
  rw [Heap.size_push]
  exact done
theorem type_called (F : ExcBaseFacts B newId initId bmB) (known : ∀ X : String, bm.contains (.type X) = bmB.contains (.type X)) {kw : List (Str × Value)} {fI : Addr} {Q : Fin → Shared → Prop}
    (at_C : h.get? C = some (excClassObj nm q C N bs bm hdct sn sub ab col dd k0 k1 k2 k3 k5 newId))
    (init : PySem.W.Looks (model prog w) h (typeLookup (.ref C) "__init__") (some (.ref fI))) (bound : ∀ self, PySem.W.Looks (model prog w) h (bindSpecial (.ref fI) self) (.ref fI, [self]))
    (run : codeAny (model prog w) A (.call (.ref fI) ⟨[.ref (h.objs.size + 1)], kw⟩)
      (fun res s' => match res with | .ok (.ret v) => v = .none ∧ Q (.done (.ret (.ref (h.objs.size + 1)))) s' | .ok _ => False | .error e => E e s')
      ⟨(h.push (PySem.W.kdv_tup [])).push (excO C h.objs.size), g, d, t, os⟩) :
    wpAny (model prog w) A (Builtin.«type.__call__» ⟨[.ref C], kw⟩) Q E ⟨h, g, d, t, os⟩ := by
  repeat (first | with_reducible refine wpAny_loadPart_at at_C ?_ | with_reducible refine wpAny_madeBy_exc at_C ?_ | wp_step)
  refine codeAny_call_builtin_code (Code.quiet_builtin _ F.quiet) (new_checked F known at_C (new_made F known at_C ?_))
  refine (show wpAny _ _ _ _ _ _ from ?_)
  have kept : ∀ b o, h.get? b = some o → ((h.push (PySem.W.kdv_tup [])).push (excO C h.objs.size)).get? b = some o := fun b o z => Heap.get?_push_of_some _ (Heap.get?_push_of_some _ z)
  have at_C2 := kept _ _ at_C
  have there : ((h.push (PySem.W.kdv_tup [])).push (excO C h.objs.size)).get? (h.objs.size + 1) = some (excO C h.objs.size) := by heap_get
  have self_in : (Value.ref C :: bm).contains (.ref C) = true := by simp
  have init2 := init.keeps kept
  have bound2 := (bound (.ref (h.objs.size + 1))).keeps kept
  unfold isInstance
  repeat (first | with_reducible refine wpAny_loadPart_at there ?_ | (with_reducible refine wpAny_isSubtype_exc at_C2 ?_; rw [self_in]) | wp_step)
  refine (show wpAny _ _ (typeLookup (.ref C) _) _ _ _ from init2.at (wpAny_holding (wpAny_bind (bound2.at (wpAny_bind (wpAny_call (codeAny_mono run fun r s' z => ?_)))))))
  rcases r with e | (v | _ | _ | _) <;> first | exact z | exact z.elim | skip; obtain ⟨rfl, z⟩ := z
  first
    | exact (wpAny_pure (wpAny_pure z))
    | (wp_walk; exact z)
theorem called (F : ExcBaseFacts B newId initId bmB) (known : ∀ X : String, bm.contains (.type X) = bmB.contains (.type X)) {kw : List (Str × Value)} {fI : Addr}
    (at_C : h.get? C = some (excClassObj nm q C N bs bm hdct sn sub ab col dd k0 k1 k2 k3 k5 newId))
    (init : PySem.W.Looks (model prog w) h (typeLookup (.ref C) "__init__") (some (.ref fI))) (bound : ∀ self, PySem.W.Looks (model prog w) h (bindSpecial (.ref fI) self) (.ref fI, [self]))
    (run : codeAny (model prog w) (A.under (.builtin "type.__call__" ⟨[.ref C], kw⟩)) (.call (.ref fI) ⟨[.ref (h.objs.size + 1)], kw⟩) (PySem.W.InitBack (h.objs.size + 1) R)
      ⟨(h.push (PySem.W.kdv_tup [])).push (excO C h.objs.size), g, d, t, os⟩) :
    codeAny (model prog w) A (.call (.ref C) ⟨[], kw⟩) R ⟨h, g, d, t, os⟩ := by
  have look := tc_lookup
  have bind := tc_bind (.ref C)
  have isT : (⟨h, g, d, t, os⟩ : Shared).TypeIs (.ref C) "type" := ⟨_, at_C, rfl⟩
  refine codeAny_of_tree (show wpAny _ _ (callAny (.ref C) _) _ _ _ from ?_)
  repeat (any_goals (first | assumption | with_reducible refine wpAny_loadPart_at at_C ?_ | wp_step))
  refine ⟨rfl, ?_⟩
  refine codeAny_call_builtin_at (Code.quiet_builtin _ (by decide +kernel)) entry_typeCall (wpAny_check_type_call_sub at_C (type_called F known at_C init bound (codeAny_mono run fun r s' z => ?_)))
  rcases r with e | (v | _ | _ | _) <;> exact (z)
end
end DL

/-! exceptions with attributes made by keywords, with two fields -/
namespace DL
open PySem PySem.Spec
open PyProof.Rows L2
/-- a call with self given and keywords alone -/
def KwS (K : PySem.W.Frag) (fd : FuncData) (ps ks : List Str) (ord : List Nat) : Prop := ∀ (s : Shared) (self : Value) (given : List Value), K.In s.heap → given.length = ks.length → BindsTo s fd ⟨[self], ks.zip given⟩ (ps.zip (self :: pick ord given))
theorem KwS.mk {K : PySem.W.Frag} [Tb K] {fd : FuncData} {ps : List Str} {f : Addr} {qual x : Str} {st : Stmt} (F : Fun K x qual st f fd) {ks : List Str} {ord : List Nat} (h : ∀ (kV doc pm : Value) (an : Option Addr) (cdv ct self : Value) (given : List Value), given.length = ks.length → bindArgs (PySem.W.fnOf x qual (defArgs st) (defBody st) (defScope st) .none kV doc pm an cdv ct) ⟨[self], ks.zip given⟩ = pure (ps.zip (self :: pick ord given))) : KwS K fd ps ks ord := by
  obtain ⟨_, _, kV, doc, pm, an, cdv, ct, _, rfl, _, _⟩ := F.ex
  exact fun s self given _ few => BindsTo.of_eq (h kV doc pm an cdv ct self given few)
/-- C(k = e, ..), C with an own __init__, as a value -/
def tExaK (C : Addr) (sp : Sp) (ord : List Nat) (n : Nat) (t : TA) : TE := fun σ H Q => t σ H fun zs H1 => zs.length = n ∧ ∀ a, H1 a = none → sp (.ref a :: pick ord zs) (upd H1 a (exo a C none)) (fun v H2 => v = .non ∧ Q (.ref a) H2) E0
theorem pe_exaK {Y : Cx} {x : Str} {C fI : Addr} {k : Nat} {fd : FuncData} {ps ks : List Str} {ord : List Nat} {sp : Sp} {kws : List Keyword} {t : TA} {p pos : Pos} (T : OexC Y.K C) (init : PySem.W.findIn Y.K (.ref C) "__init__" = some (some (.ref fI))) (fn : PySem.W.typeIn Y.K (.ref fI) = some (.type "function"))
    (F : FnG Y.prog Y.w Y.K Y.mg Y.base k fI fd ps sp) (hr : Room (k + 1) Y.A) (hgu : Y.A.guards = some []) (kws_ok : KwS Y.K fd ps ks ord) (hg : Gl Y x) (hm : Y.mg x = some (.ref C)) (vals : PK Y kws t)
    (named : (backToKw pos (keywordEach kws Y.env)).all (·.1.isSome) = true) (these : (backToKw pos (keywordEach kws Y.env)).filterMap (·.1) = ks) (nodbg : (x == ("__debug__" : Str)) = false)
    (nostar : ((backTo pos (starEach [] Y.env)).any (·.1) || (backToKw pos (keywordEach kws Y.env)).any (·.1.isNone)) = false) :
    PE Y (.Call (.Name x p) [] kws pos) (tExaK C sp ord ks.length t) where
  run pins s σ H Q I given := by
    obtain ⟨nm, q, N, bs, bm, sn, sub, ab, col, dd, k0, k1, k2, k3, k5, at_C, known⟩ := T.cls
    refine wpAny_Call_Name_kw (ld_glob I hg hm (PySem.W.callWith_KW0 (h₀ := Y.base) I.ok.mod.kin T.kC named (thn (vals.run pos pins s σ H _ I given) fun ws s1 got => ?_) nostar) nodbg)
    obtain ⟨zs, H1, I1, rel, few, next⟩ := got
    refine ⟨I1.kIn, ?_⟩
    rw [these]; obtain ⟨hp, g, dr, tk, os⟩ := s1
    generalize new : hp.objs.size + 1 = a
    have free : H1 a = none := I1.hok.fresh (by rw [← new]; exact Nat.le_succ _)
    have kept : ∀ b o, hp.get? b = some o → ((hp.push (PySem.W.kdv_tup [])).push (PySem.HandSPX.excO C hp.objs.size)).get? b = some o := fun b o z => Heap.get?_push_of_some _ (Heap.get?_push_of_some _ z)
    have there : ((hp.push (PySem.W.kdv_tup [])).push (PySem.HandSPX.excO C hp.objs.size)).get? a = some (PySem.HandSPX.excO C hp.objs.size) := by
      rw [← new]
      heap_get
    have I2 : Inv Y pins σ (upd H1 a (exo a C none)) ⟨(hp.push (PySem.W.kdv_tup [])).push (PySem.HandSPX.excO C hp.objs.size), g, dr, tk, os⟩ :=
      I1.laid (t' := tk) (a := a) (o := exo a C none) kept (by rw [← new]; exact Nat.le_succ _) (exo_ok there)
    have todo := next a free
    have rel2 : Vals (V.ref a :: pick ord zs) (Value.ref a :: pick ord ws) := .cons rfl (Vals.pick rel ord)
    have bound := kws_ok ⟨(hp.push (PySem.W.kdv_tup [])).push (PySem.HandSPX.excO C hp.objs.size), g, dr, tk, os⟩ (Value.ref a) ws I2.kIn (rel.length ▸ few)
    refine wpAny_call (called PySem.F.excBase_ValueError (fun Z => PySem.HandSPX.refsVE_contains Z bm known) (I1.kIn _ _ at_C) (PySem.W.looks_findIn I1.kIn init) (fun self => PySem.W.bind_fn I1.kIn self fn) ?_)
    rw [new]
    refine codeAny_mono (F.run _ Y.stack _ _ ⟨[Value.ref a], ks.zip ws⟩ _ _ _ (hr.make C [] (ks.zip ws)) hgu (I2.env0.make C [] (ks.zip ws)) bound rel2 todo) fun res s' done => ?_
    match res, done with
    | .ok (.ret u), done =>
      obtain ⟨v, H3, I3, rv, ev, fin⟩ := I2.after done
      subst ev
      exact ⟨rv, .ref a, H3, I3, rfl, fin⟩
    | .ok .next, no => exact no.elim
    | .ok .brk, no => exact no.elim
    | .ok .cont, no => exact no.elim
    | .error _, no => exact no.elim
theorem three_news {H : Hp} {a d : Addr} {o o' u u' : HO} (n : d ≠ a) : upd (upd (upd (upd H a o) d u) a o') d u' = upd (upd H a o') d u' := by
  rw [two_news n]
  funext b
  by_cases k : b = d
  · subst k
    rw [upd_same, upd_same]
  · rw [upd_ne k, upd_ne k, upd_ne k]
section
variable {c : Core} [Tb c.K] {ι : Type} {v : ι → Var} {S : Ent} {Γ Γ1 : List AV} {Q : AV → List AV → Prop} {e e2 : Expr} {x : Str} {p pos : Pos} {C fI : Addr} {k : Nat} {fd : FuncData} {ps ks : List Str} {f g : Str}
/-- the state behind such a making -/
theorem exa_made {σ : Sg} {H H1 : Hp} {a dx : Addr} {fs : List (Str × V)} (r1 : RS c.K S no Γ1 σ H1) (s : Step Γ Γ1 σ H H1) (free : H1 a = none) (fd : (upd H1 a (exo a C none)) dx = none) (nd : dx ≠ a) :
    Res c.K S Γ1 σ (upd (upd H1 a (exo a C (some dx))) dx (exd dx fs)) (.ref a) (.dt (.exa C fs)) ∧ Step Γ Γ1 σ H (upd (upd H1 a (exo a C (some dx))) dx (exd dx fs)) := by
  have free2 : (upd H1 a (exo a C (some dx))) dx = none := by
    rw [upd_ne nd] at fd ⊢
    exact fd
  have n1 := r1.new free
  have r2 := (r1.alloc (o := exo a C (some dx)) free).no
  have n2 := r2.new free2
  have r3 := (r2.alloc (o := exd dx fs) free2).no
  refine ⟨⟨r3, .exa (by rw [upd_ne (Ne.symm nd), upd_same]) ?_ upd_same ?_⟩, (s.alloc free).alloc free2⟩
  · rintro (w | w | w)
    · exact n1.1 w
    · exact n1.2.1 w
    · exact w
  · rintro (w | w | w)
    · exact n2.1 w
    · exact n2.2.1 w
    · exact w
/-- C(e, e2), C with two fields -/
theorem ed_exa2 (T : OexC c.K C) (init : PySem.W.findIn c.K (.ref C) "__init__" = some (some (.ref fI))) (fn : PySem.W.typeIn c.K (.ref fI) = some (.type "function")) (no_f : PySem.W.findIn c.K (.ref C) f = some none) (no_g : PySem.W.findIn c.K (.ref C) g = some none)
    (F : FnG c.prog c.w c.K c.mg c.base k fI fd ps (spI2 c.K f g)) (hr : Room (k + 1) c.A) (hgu : c.A.guards = some []) (hb : Binds c.K fd ps []) (hg : ∀ i, Gl (mkX c (v i)) x) (hm : c.mg x = some (.ref C)) (hdb : (x == ("__debug__" : Str)) = false) (he : NoStar v e [e2]) (he2 : NoStar v e2 []) (hpl : NoStarL v pos [e2])
    (h : EK c v S e Γ fun k Γ1 => EK c v S e2 Γ1 fun l Γ2 => ∃ d d2 y z, akD Γ2 k = some d ∧ akD Γ2 l = some d2 ∧ d.flat = some y ∧ d2.flat = some z ∧ Q (.dt (.exa C [(g, z), (f, y)])) Γ2) : ED c v S (.Call (.Name x p) [e, e2] [] pos) Γ Q := fun σ H R r kk => by
  refine ⟨_, fun i => pe_exa (Y := mkX c (v i)) (ta := tCons (wE c v e) (tCons (wE c v e2) tNil)) T init fn F hr hgu hb (hg i) hm (pa_cons (wE.pe i) (pa_cons (wE.pe i) pa_nil (he2 i)) (he i)) hdb (he i) (hpl i), ?_⟩
  refine h σ H _ r fun z1 H1 k1 Γ1 next r1 hk1 s1 => next σ H1 _ r1 fun z2 H2 k2 Γ2 ⟨d, d2, y, z, ek, el, fl, fl2, q⟩ r2 hk2 s2 => ?_
  cases flat_of fl (akD_of ek (hk1.mono s2.keeps))
  cases flat_of fl2 (akD_of el hk2)
  refine ⟨(show 2 ≤ 1000 by decide), fun a free => ⟨a, C, _, _, rfl, T, no_f, no_g, upd_same, fun dx fd nd => ⟨rfl, ?_⟩⟩⟩
  rw [three_news nd]
  obtain ⟨res, st⟩ := exa_made (c := c) (fs := [(g, _), (f, _)]) r2 (s1.trans s2) free fd nd
  exact kk _ _ _ _ q res st trivial
/-- C(f = e), C with one field -/
theorem ed_exaK1 {kws : List Keyword} (T : OexC c.K C) (init : PySem.W.findIn c.K (.ref C) "__init__" = some (some (.ref fI))) (fn : PySem.W.typeIn c.K (.ref fI) = some (.type "function")) (no_f : PySem.W.findIn c.K (.ref C) f = some none)
    (F : FnG c.prog c.w c.K c.mg c.base k fI fd ps (spI1 c.K f)) (hr : Room (k + 1) c.A) (hgu : c.A.guards = some []) (kw_ok : KwS c.K fd ps ks [0]) (hg : ∀ i, Gl (mkX c (v i)) x) (hm : c.mg x = some (.ref C)) (hdb : (x == ("__debug__" : Str)) = false)
    (named : ∀ i, (backToKw pos (keywordEach kws (v i).env)).all (·.1.isSome) = true) (these : ∀ i, (backToKw pos (keywordEach kws (v i).env)).filterMap (·.1) = ks) (lenk : ks.length = 1) (nostar : ∀ i, ((backTo pos (starEach [] (v i).env)).any (·.1) || (backToKw pos (keywordEach kws (v i).env)).any (·.1.isNone)) = false)
    (h : EKw c v S kws Γ fun as Γ1 => ∃ k d y, as = [k] ∧ akD Γ1 k = some d ∧ d.flat = some y ∧ Q (.dt (.exa C [(f, y)])) Γ1) : ED c v S (.Call (.Name x p) [] kws pos) Γ Q := fun σ H R r kk => by
  refine ⟨_, fun i => pe_exaK (Y := mkX c (v i)) (t := wK c v kws) T init fn F hr hgu kw_ok (hg i) hm (wK.pk i) (named i) (these i) hdb (nostar i), ?_⟩
  refine h σ H _ r fun xs H1 as Γ1 ⟨k, d, y, ea, ek, fl, q⟩ r1 hx len s => ?_
  subst ea
  obtain ⟨z, rfl, hk⟩ := hx.one
  cases flat_of fl (akD_of ek hk)
  refine ⟨lenk.symm, fun a free => ⟨a, C, _, rfl, T, no_f, upd_same, fun dx fd nd => ⟨rfl, ?_⟩⟩⟩
  rw [two_news nd]
  obtain ⟨res, st⟩ := exa_made (c := c) (fs := [(f, _)]) r1 s free fd nd
  exact kk _ _ _ _ q res st trivial
/-- C(g = e2, f = e), C with two fields, the later one first -/
theorem ed_exaK2 {kws : List Keyword} (T : OexC c.K C) (init : PySem.W.findIn c.K (.ref C) "__init__" = some (some (.ref fI))) (fn : PySem.W.typeIn c.K (.ref fI) = some (.type "function")) (no_f : PySem.W.findIn c.K (.ref C) f = some none) (no_g : PySem.W.findIn c.K (.ref C) g = some none)
    (F : FnG c.prog c.w c.K c.mg c.base k fI fd ps (spI2 c.K f g)) (hr : Room (k + 1) c.A) (hgu : c.A.guards = some []) (kw_ok : KwS c.K fd ps ks [1, 0]) (hg : ∀ i, Gl (mkX c (v i)) x) (hm : c.mg x = some (.ref C)) (hdb : (x == ("__debug__" : Str)) = false)
    (named : ∀ i, (backToKw pos (keywordEach kws (v i).env)).all (·.1.isSome) = true) (these : ∀ i, (backToKw pos (keywordEach kws (v i).env)).filterMap (·.1) = ks) (lenk : ks.length = 2) (nostar : ∀ i, ((backTo pos (starEach [] (v i).env)).any (·.1) || (backToKw pos (keywordEach kws (v i).env)).any (·.1.isNone)) = false)
    (h : EKw c v S kws Γ fun as Γ1 => ∃ k l d d2 y z, as = [l, k] ∧ akD Γ1 k = some d ∧ akD Γ1 l = some d2 ∧ d.flat = some y ∧ d2.flat = some z ∧ Q (.dt (.exa C [(g, z), (f, y)])) Γ1) : ED c v S (.Call (.Name x p) [] kws pos) Γ Q := fun σ H R r kk => by
  refine ⟨_, fun i => pe_exaK (Y := mkX c (v i)) (t := wK c v kws) T init fn F hr hgu kw_ok (hg i) hm (wK.pk i) (named i) (these i) hdb (nostar i), ?_⟩
  refine h σ H _ r fun xs H1 as Γ1 ⟨k, l, d, d2, y, z, ea, ek, el, fl, fl2, q⟩ r1 hx len s => ?_
  subst ea
  obtain ⟨y1, y2, rfl, hl, hk⟩ := hx.pair
  cases flat_of fl (akD_of ek hk)
  cases flat_of fl2 (akD_of el hl)
  refine ⟨lenk.symm, fun a free => ⟨a, C, _, _, rfl, T, no_f, no_g, upd_same, fun dx fd nd => ⟨rfl, ?_⟩⟩⟩
  rw [three_news nd]
  obtain ⟨res, st⟩ := exa_made (c := c) (fs := [(g, _), (f, _)]) r1 s free fd nd
  exact kk _ _ _ _ q res st trivial
end
end DL

/-! names of the module that are numbers; zip of two lists; sum; comb -/
namespace DL
open PySem PySem.Spec
open PyProof.Rows L2
section
variable {c : Core} [Tb c.K] {ι : Type} {v : ι → Var} {S : Ent} {Γ : List AV} {Q : AV → List AV → Prop} {QK : AK → List AV → Prop} {QS : List Dt → List AV → Prop} {a b : Expr} {es elts : List Expr} {x : Str} {p pos tpos : Pos} {kk : Nat}
/-- a number of the module, by its name -/
theorem ed_glI {i : Int} (hg : ∀ k, Gl (mkX c (v k)) x) (hm : ∃ t, c.mg x = some (.int i t)) (hd : (x == ("__debug__" : Str)) = false) (q : Q (.dt (.int i)) Γ) : ED c v S (.Name x pos) Γ Q := fun σ H R r k =>
  hm.elim fun t hm => ⟨_, fun n => pe_glob (v := .int i) (hg n) hm ⟨t, rfl⟩ hd, k _ _ _ _ q ⟨r, .int i⟩ .refl trivial⟩
/-- a product that is not too great -/
theorem op_mulO {X : Cx} : OpR X (binaryOp .Mult) (rI IntMulOk fun i j => .int (i * j)) := opI fun _ _ _ _ _ _ _ hc q => mul_int q hc
theorem ed_mulO (h : EK c v S a Γ fun k Γ1 => EK c v S b Γ1 fun l Γ2 => IntR IntMulOk (fun i j => i * j) Q k l Γ2) : ED c v S (.BinOp a .Mult b pos) Γ Q := ed_intop (fun _ => op_mulO) h
/-- the sum of a list of numbers -/
def pSum : List AK → List AV → (AV → List AV → Prop) → Prop := fun as Γ Q => ∃ (k : AK) (ns : List Int), as = [k] ∧ akL Γ k = some (List.map Dt.int ns) ∧ Q (.dt (.int ns.sum)) Γ
theorem cb_sum : CB c S (rSum c.K) pSum := by
  rintro as Γ Q σ H xs R ⟨k, ns, rfl, e, q⟩ r hx kk
  obtain ⟨x, rfl, hk⟩ := hx.one
  obtain ⟨p, ys, rfl, hs, hl⟩ := akL_of e r hk
  rw [hl.ints] at hs
  exact ⟨p, ns, rfl, hs, kk _ _ _ _ q ⟨r, .int _⟩ .refl trivial⟩
theorem ed_sumL (hg : ∀ i, Gl (mkX c (v i)) "sum") (hm : c.mg "sum" = none) (he : NoStar v a []) (h : EK c v S a Γ fun k Γ1 => ∃ ns : List Int, akL Γ1 k = some (List.map Dt.int ns) ∧ Q (.dt (.int ns.sum)) Γ1) (calm : c.calm = true := by rfl) : ED c v S (.Call (.Name "sum" p) [a] [] pos) Γ Q :=
  ed_callB (fun _ => cr_sum calm) cb_sum hg hm (by decide +kernel) (by decide) (by decide) he (fun _ => rfl) (ea_cons he fun σ H R r k => h σ H R r fun x H' kx Γ' ⟨ns, e, q⟩ => k x H' kx Γ' (ea_nil ⟨kx, ns, rfl, e, q⟩))
/-- comb(n, k) of small numbers -/
def rComb : List V → Hp → VK → Prop := fun vs H Q => ∃ n k : Int, vs = [.int n, .int k] ∧ (0 ≤ n ∧ n ≤ 1000) ∧ (0 ≤ k ∧ k ≤ 1000) ∧ Q (.int (PySem.W.mcComb n k)) H
theorem cr_comb {X : Cx} : CallR X (.builtin "math.comb") rComb := by
  intro pins s σ H vs us Q I r h; obtain ⟨n, k, rfl, hn, hk, q⟩ := h
  obtain ⟨t, u, rfl⟩ := Vals.int2 r; exact PySem.W.mc_comb hn.1 hk.1 (by omega) (by omega) fun _ => ⟨.int _, H, I.tok _, ⟨_, rfl⟩, q⟩
theorem ed_comb (hg : ∀ i, Gl (mkX c (v i)) "comb") (hm : c.mg "comb" = some (.builtin "math.comb")) (he : NoStar v a [b]) (he2 : NoStar v b []) (hpl : NoStarL v pos [b]) (h : EK c v S a Γ fun k Γ1 => EK c v S b Γ1 fun l Γ2 => ∃ n m : Int, akD Γ2 k = some (.int n) ∧ akD Γ2 l = some (.int m) ∧ ((0 ≤ n ∧ n ≤ 1000) ∧ 0 ≤ m ∧ m ≤ 1000) ∧ Q (.dt (.int (PySem.W.mcComb n m))) Γ2) : ED c v S (.Call (.Name "comb" p) [a, b] [] pos) Γ Q := fun σ H R r kk =>
  ⟨_, fun i => pe_callBfun cr_comb (hg i) hm (wA.pa i) (by decide) (he i) (hpl i), ea_cons (QA := fun as Γ2 => ∃ k l, as = [k, l] ∧ ∃ n m : Int, akD Γ2 k = some (.int n) ∧ akD Γ2 l = some (.int m) ∧ ((0 ≤ n ∧ n ≤ 1000) ∧ 0 ≤ m ∧ m ≤ 1000) ∧ Q (.dt (.int (PySem.W.mcComb n m))) Γ2) he (fun σ H R r k => h σ H R r fun x H' kx Γ' q => k x H' kx Γ' (ea_cons he2 fun σ H R r k => q σ H R r fun y H2 ky Γ2 q2 => k y H2 ky Γ2 (ea_nil ⟨kx, ky, rfl, q2⟩))) σ H _ r fun xs H1 as Γ1 ⟨k, l, e, n, m, e1, e2, hb, q⟩ r1 hx s => by
    subst e
    obtain ⟨x, y, rfl, hk, hl⟩ := hx.pair
    cases akD_of e1 hk
    cases akD_of e2 hl
    exact ⟨n, m, rfl, hb.1, hb.2, kk _ _ _ _ q ⟨r1, .int _⟩ s trivial⟩⟩
/-- (d0, e0), (d1, e1), .. -/
def zipD (ds es : List Dt) : List Dt := (ds.zip es).map fun p => .tup [p.1, p.2]
theorem zipD_len (ds es : List Dt) : (zipD ds es).length = min ds.length es.length := by unfold zipD; rw [List.length_map, List.length_zip]
theorem zipD_get {ds es : List Dt} {j : Nat} {d e : Dt} (h : ds[j]? = some d) (h2 : es[j]? = some e) : (zipD ds es)[j]? = some (.tup [d, e]) := by
  unfold zipD
  rw [List.getElem?_map, (List.getElem?_zip_eq_some (z := (d, e))).mpr ⟨h, h2⟩]; rfl
theorem zipD_inv {ds es : List Dt} {j : Nat} {u : Dt} (h : (zipD ds es)[j]? = some u) : ∃ d e, ds[j]? = some d ∧ es[j]? = some e ∧ u = .tup [d, e] := by
  unfold zipD at h
  rw [List.getElem?_map] at h
  cases hz : (ds.zip es)[j]? with
  | none => rw [hz] at h; cases h
  | some z =>
    rw [hz] at h
    cases h
    obtain ⟨h1, h2⟩ := List.getElem?_zip_eq_some.mp hz
    exact ⟨_, _, h1, h2, rfl⟩
theorem src_zipL (hg : ∀ i, Gl (mkX c (v i)) "zip") (hm : c.mg "zip" = none) (hs : NoStar v a [b]) (hs2 : NoStar v b []) (hpl : NoStarL v pos [b])
    (h : EK c v S a Γ fun k Γ1 => EK c v S b Γ1 fun l Γ2 => ∃ ds es, akL Γ2 k = some ds ∧ akL Γ2 l = some es ∧ (noScr k = true ∧ noLn k = true ∧ noScr l = true ∧ noLn l = true) ∧ QS (zipD ds es) Γ2) : SrcD c v S (.Tuple elts kk tpos) (.Call (.Name "zip" p) [a, b] [] pos) Γ QS := fun σ H R r kc => by
  refine ⟨_, fun i => (show PI (mkX c (v i)) (.Tuple elts kk tpos) (.Call (.Name "zip" p) [a, b] [] pos) (iZip c.K (wA c v [a, b])) from pi_zip (hg i) hm (wA.pa i) (hs i) (hpl i)), ?_⟩
  refine ea_cons (QA := fun as Γ2 => ∃ k l, as = [k, l] ∧ ∃ ds es, akL Γ2 k = some ds ∧ akL Γ2 l = some es ∧ (noScr k = true ∧ noLn k = true ∧ noScr l = true ∧ noLn l = true) ∧ QS (zipD ds es) Γ2) hs (fun σ H R r k => h σ H R r fun x H' kx Γ' q => k x H' kx Γ' (ea_cons hs2 fun σ H R r k => q σ H R r fun y H2 ky Γ2 q2 => k y H2 ky Γ2 (ea_nil ⟨kx, ky, rfl, q2⟩))) σ H _ r fun xs H1 as Γ1 ⟨k, l, e, ds, es, e1, e2, ⟨n1, l1, n2, l2⟩, q⟩ r1 hx s => ?_
  subst e
  obtain ⟨x, y, rfl, hk, hl⟩ := hx.pair
  obtain ⟨pa, xs, rfl, ha, hx1, na⟩ := akL_data e1 n1 l1 r1 hk
  obtain ⟨pb, ys, rfl, hb, hy1, nb⟩ := akL_data e2 n2 l2 r1 hl
  have standA : ∀ H', (∀ b o, H1 b = some o → NT o → ¬ Own Γ1 σ b → H' b = some o) → SqL c.K H' pa xs := fun H' fr => .of (fr _ _ ha trivial na)
  have standB : ∀ H', (∀ b o, H1 b = some o → NT o → ¬ Own Γ1 σ b → H' b = some o) → SqL c.K H' pb ys := fun H' fr => .of (fr _ _ hb trivial nb)
  refine ⟨pa, pb, xs, ys, rfl, .of ha, .of hb, kc _ _ _ _ q r1 s ⟨fun j H' fr hj => ?_, fun j H' fr hj => ?_, fun j H' z H'' fr hj y => ?_⟩⟩
  · rw [zipD_len] at hj
    have h1 := hx1.len
    have h2 := hy1.len
    exact ⟨xs, ys, _, _, standA H' fr, standB H' fr, List.getElem?_eq_getElem (by omega), List.getElem?_eq_getElem (by omega)⟩
  · rw [zipD_len] at hj
    have h1 := hx1.len
    have h2 := hy1.len
    exact ⟨xs, ys, standA H' fr, standB H' fr, by omega⟩
  · obtain ⟨T, u, w, rfl, nT, rfl, hu, hw⟩ := y
    obtain ⟨d, ed, hd⟩ := hx1.get' (hu xs (standA H' fr))
    obtain ⟨e, ee, he⟩ := hy1.get' (hw ys (standB H' fr))
    exact ⟨_, zipD_get ed ee, .inr ⟨T, _, _, nT, rfl, rfl, rfl, .cons hd (.cons he .nil)⟩⟩
end
end DL
namespace DL
open PySem PySem.Spec
open PyProof.Rows L2
/-- a def that never raises, where one that may raise is asked for -/
theorem FnG.asX {P : Program} {w : World} {K : PySem.W.Frag} [Tb K] {mg : Str → Option Value} {base : Heap} {k : Nat} {f : Addr} {fd : FuncData} {ps : List Str} {DS : DSp} (F : FnG P w K mg base k f fd ps (spD K DS)) :
    FnX P w K mg base k f fd ps (spX K fun as post _ => DS as post) := by
  refine ⟨fun vs H Q E ⟨as, fo, post, out, hD, rs, back, _⟩ => F.len vs H Q E0 ⟨as, fo, post, hD, rs, back⟩, fun A outer s H args us vs Q E hr hgu e0 hb rv ⟨as, fo, post, out, hD, rs, back, _⟩ => ?_⟩
  refine codeAny_mono (F.run A outer s H args us vs Q hr hgu e0 hb rv ⟨as, fo, post, hD, rs, back⟩) fun r s' h => ?_
  cases r with
  | error _ => exact False.elim h
  | ok fl => cases fl <;> exact h
section
variable {c : Core} [Tb c.K] {ι : Type} {v : ι → Var} {S : Ent} {Γ : List AV} {Q : AV → List AV → Prop} {kws : List Keyword} {pos p : Pos} {x : Str} {k : Nat} {f : Addr} {fd : FuncData} {ps ks : List Str} {DS : DSp} {ord : List Nat}
/-- f(k = e, ..), in any order, f never raises -/
theorem ed_callKG (F : FnG c.prog c.w c.K c.mg c.base k f fd ps (spD c.K DS)) (hr : Room k c.A) (hgu : c.A.guards = some []) (hg : ∀ i, Gl (mkX c (v i)) x) (hm : c.mg x = some (.ref f)) (hk : PySem.W.keepIn c.K (.ref f) = true) (kwp : KwP c.K fd ps ks ord) (hdb : (x == ("__debug__" : Str)) = false)
    (named : ∀ i, (backToKw pos (keywordEach kws (v i).env)).all (·.1.isSome) = true) (these : ∀ i, (backToKw pos (keywordEach kws (v i).env)).filterMap (·.1) = ks) (lenk : kws.length = ks.length) (nostar : ∀ i, ((backTo pos (starEach [] (v i).env)).any (·.1) || (backToKw pos (keywordEach kws (v i).env)).any (·.1.isNone)) = false)
    (h : EKw c v S kws Γ fun as Γ1 => ∃ avs, argsA Γ1 (pick ord as) = some avs ∧ lnsOk (pick ord as) = true ∧ DS avs (fun a avs' => avs'.length = avs.length → Q a (backA Γ1 (pick ord as) avs'))) :
    ED c v S (.Call (.Name x p) [] kws pos) Γ Q :=
  ed_callKX F.asX hr hgu (TX.never c v S) hg hm hk kwp hdb named these lenk nostar fun σ H R r kk => h σ H R r fun xs H' as Γ' ⟨avs, e1, e2, e3⟩ => kk xs H' as Γ' ⟨avs, e1, e2, e3⟩
end
end DL

/-! while; dicts of one's own -/
namespace DL
open PySem PySem.Spec
open PyProof.Rows L2
section
variable {c : Core} [Tb c.K] {ι : Type} {v : ι → Var} {S : Ent} {Γ : List AV} {D : DE} {Q : AV → List AV → Prop} {QB : Bool → List AV → Prop} {e a b : Expr} {body : List Stmt} {pos p : Pos} {x : Str}
/-- while, by a word with a measure -/
theorem sd_while (hp : PassOwn c v) (P : Nat → List AV → Prop) (h0 : ∃ m, P m Γ)
    (h : ∀ m Γ2, P m Γ2 → TD c v S e Γ2 fun k Γ3 => (k = true → BD c v S body { nx := fun Γ4 => ∃ m', m' < m ∧ P m' Γ4, rt := D.rt, bk := D.nx, ct := fun Γ4 => ∃ m', m' < m ∧ P m' Γ4 } Γ3) ∧ (k = false → D.nx Γ3)) :
    SD c v S (.While e body [] pos) D Γ := fun E σ H L r => by
  refine ⟨_, fun i => ps_while (hp i) (wT.pt i) (wB.pss i), fun m σ H => ∃ Γ2, P m Γ2 ∧ RS c.K S no Γ2 σ H, h0.imp fun m z => ⟨Γ, z, r⟩, fun m σ1 H1 ⟨Γ2, p2, r2⟩ => ?_⟩
  refine h m Γ2 p2 σ1 H1 _ r2 fun k H2 Γ3 q r3 s => ?_
  cases k with
  | true =>
    rw [if_pos rfl]
    refine ⟨fun σ' H' => ∃ m', m' < m ∧ ∃ Γ4, P m' Γ4 ∧ RS c.K S no Γ4 σ' H', fun σ' H' ⟨m', l, z⟩ => ⟨m', l, z⟩, q.1 rfl _ σ1 H2 ⟨fun Γ4 σ' H' z r4 => ?_, L.rt, L.nx, fun Γ4 σ' H' z r4 => ?_⟩ r3⟩
    · obtain ⟨m', l, z⟩ := z
      exact ⟨m', l, Γ4, z, r4⟩
    · obtain ⟨m', l, z⟩ := z
      exact ⟨m', l, Γ4, z, r4⟩
  | false =>
    rw [if_neg Bool.false_ne_true]; exact L.nx _ _ _ (q.2 rfl) r3
end
/-! ### what a dict holds -/
section
variable {κ : Type}
variable [DecidableEq κ]
def getD' (kvs : List (κ × Dt)) (k : κ) : Option Dt := (kvs.find? fun kv => decide (kv.1 = k)).map (·.2)
def putD (kvs : List (κ × Dt)) (k : κ) (d : Dt) : List (κ × Dt) :=
  if (kvs.any fun kv => decide (kv.1 = k)) = true then kvs.map (fun kv => if kv.1 = k then (kv.1, d) else kv) else kvs ++ [(k, d)]
theorem getD'_nil (k : κ) : getD' ([] : List (κ × Dt)) k = none := rfl
theorem getD'_cons (p : κ × Dt) (t : List (κ × Dt)) (k : κ) : getD' (p :: t) k = if p.1 = k then some p.2 else getD' t k := by
  unfold getD'
  rw [List.find?_cons]
  by_cases h : p.1 = k
  · simp [h]
  · simp [h]
theorem getD'_any (kvs : List (κ × Dt)) (k : κ) : (kvs.any fun kv => decide (kv.1 = k)) = (getD' kvs k).isSome := by
  induction kvs with
  | nil => rfl
  | cons p t ih =>
    rw [List.any_cons, ih, getD'_cons]
    by_cases h : p.1 = k <;> simp [h]
theorem getD'_map (k j : κ) (d : Dt) : ∀ kvs : List (κ × Dt), getD' (kvs.map fun kv => if kv.1 = k then (kv.1, d) else kv) j = if k = j then (getD' kvs j).map fun _ => d else getD' kvs j
  | [] => by
    by_cases h : k = j
    · rw [if_pos h]; rfl
    · rw [if_neg h]; rfl
  | p :: t => by
    rw [List.map_cons, getD'_cons, getD'_cons, getD'_map k j d t]
    by_cases e : p.1 = k
    · rw [if_pos e]
      by_cases ej : k = j
      · rw [if_pos ej, if_pos (show p.1 = j by rw [e]; exact ej), if_pos ej, if_pos (show p.1 = j by rw [e]; exact ej)]; rfl
      · rw [if_neg ej, if_neg ej, if_neg (show ¬ p.1 = j by rw [e]; exact ej), if_neg (show ¬ p.1 = j by rw [e]; exact ej)]
    · rw [if_neg e]
      by_cases ej : k = j
      · have : ¬ p.1 = j := fun z => e (by rw [z, ej])
        rw [if_neg this, if_pos ej, if_pos ej, if_neg this]
      · rw [if_neg ej, if_neg ej]
theorem getD'_snoc (k j : κ) (d : Dt) : ∀ kvs : List (κ × Dt), getD' kvs k = none → getD' (kvs ++ [(k, d)]) j = if k = j then some d else getD' kvs j
  | [], _ => by rw [List.nil_append, getD'_cons]
  | p :: t, h => by
    rw [getD'_cons] at h
    split at h
    · cases h
    · rename_i e
      rw [List.cons_append, getD'_cons, getD'_cons, getD'_snoc k j d t h]
      by_cases ep : p.1 = j
      · rw [if_pos ep, if_pos ep, if_neg (show ¬ k = j from fun z => e (by rw [ep, z]))]
      · rw [if_neg ep, if_neg ep]
theorem getD'_put (kvs : List (κ × Dt)) (k j : κ) (d : Dt) : getD' (putD kvs k d) j = if k = j then some d else getD' kvs j := by
  unfold putD
  rw [getD'_any]
  cases h : getD' kvs k with
  | some u =>
    rw [if_pos (show (some u).isSome = true from rfl), getD'_map]
    by_cases e : k = j
    · rw [if_pos e, if_pos e, ← e, h]; rfl
    · rw [if_neg e, if_neg e]
  | none =>
    rw [if_neg (show ¬ (none : Option Dt).isSome = true from Bool.false_ne_true)]
    exact getD'_snoc k j d kvs h
theorem putD_len (kvs : List (κ × Dt)) (k : κ) (d : Dt) : (putD kvs k d).length ≤ kvs.length + 1 := by
  unfold putD
  split
  · rw [List.length_map]; omega
  · rw [List.length_append]; exact Nat.le_refl _
variable {K : PySem.W.Frag} {H : Hp} {ex : AP}
theorem rel_get : ∀ {ws : List (κ × V)} {kvs : List (κ × Dt)}, ws.map (·.1) = kvs.map (·.1) → RpL K H ex (ws.map (·.2)) (kvs.map (·.2)) → ∀ k, (valV ws k = none ∧ getD' kvs k = none) ∨ ∃ x d, valV ws k = some x ∧ getD' kvs k = some d ∧ Rp K H ex x d
  | [], [], _, _, k => .inl ⟨rfl, rfl⟩
  | [], _ :: _, e, _, _ => by cases e
  | _ :: _, [], e, _, _ => by cases e
  | w :: ws, q :: kvs, e, r, k => by
    rw [List.map_cons, List.map_cons] at e r
    obtain ⟨e1, e2⟩ := List.cons.inj e
    cases r with
    | cons r rs =>
      rw [getD'_cons]
      by_cases h : w.1 = k
      · rw [valV_pos h, if_pos (by rw [← e1]; exact h)]
        exact .inr ⟨_, _, rfl, rfl, r⟩
      · rw [valV_neg h, if_neg (by rw [← e1]; exact h)]
        exact rel_get e2 rs k
theorem rel_map {x : V} {d : Dt} {k : κ} (hx : Rp K H ex x d) : ∀ {ws : List (κ × V)} {kvs : List (κ × Dt)}, ws.map (·.1) = kvs.map (·.1) → RpL K H ex (ws.map (·.2)) (kvs.map (·.2)) →
    (ws.map fun kv => if kv.1 = k then (kv.1, x) else kv).map (·.1) = (kvs.map fun kv => if kv.1 = k then (kv.1, d) else kv).map (·.1) ∧ RpL K H ex ((ws.map fun kv => if kv.1 = k then (kv.1, x) else kv).map (·.2)) ((kvs.map fun kv => if kv.1 = k then (kv.1, d) else kv).map (·.2))
  | [], [], _, _ => ⟨rfl, .nil⟩
  | [], _ :: _, e, _ => by cases e
  | _ :: _, [], e, _ => by cases e
  | w :: ws, q :: kvs, e, r => by
    rw [List.map_cons, List.map_cons] at e r
    obtain ⟨e1, e2⟩ := List.cons.inj e
    cases r with
    | cons r rs =>
      have ih := rel_map (k := k) hx e2 rs
      rw [List.map_cons, List.map_cons, List.map_cons, List.map_cons, List.map_cons, List.map_cons]
      by_cases h : w.1 = k
      · rw [if_pos h, if_pos (show q.1 = k by rw [← e1]; exact h)]
        exact ⟨by rw [ih.1]; exact congrArg (· :: _) e1, .cons hx ih.2⟩
      · rw [if_neg h, if_neg (show ¬ q.1 = k by rw [← e1]; exact h)]
        exact ⟨by rw [ih.1]; exact congrArg (· :: _) e1, .cons r ih.2⟩
theorem rel_put {x : V} {d : Dt} {k : κ} (hx : Rp K H ex x d) {ws : List (κ × V)} {kvs : List (κ × Dt)} (e : ws.map (·.1) = kvs.map (·.1)) (r : RpL K H ex (ws.map (·.2)) (kvs.map (·.2))) :
    (putK ws k x).map (·.1) = (putD kvs k d).map (·.1) ∧ RpL K H ex ((putK ws k x).map (·.2)) ((putD kvs k d).map (·.2)) := by
  have hs : (ws.any fun kv => decide (kv.1 = k)) = kvs.any fun kv => decide (kv.1 = k) := by
    rw [getD'_any, valV_any]
    rcases rel_get e r k with ⟨h1, h2⟩ | ⟨x, d, h1, h2, _⟩ <;> rw [h1, h2] <;> rfl
  unfold putK putD
  rw [hs]
  split
  · exact rel_map hx e r
  · refine ⟨?_, ?_⟩
    · rw [List.map_append, List.map_append, e]; rfl
    · rw [List.map_append, List.map_append]
      exact r.append (.cons hx .nil)
end
end DL

/-! dicts of one's own in the layer: made, put into, asked; lists as tests -/
namespace DL
open PySem PySem.Spec
open PyProof.Rows L2
section
variable {c : Core} [Tb c.K] {ι : Type} {v : ι → Var} {S : Ent} {Γ : List AV} {D : DE} {Q : AV → List AV → Prop} {QB : Bool → List AV → Prop} {e a b : Expr} {pos p apos cpos px pt : Pos} {x : Str}
/-- {}, a dict whose keys will be tuples; whose keys will be numbers or texts -/
theorem ed_dictT (q : Q (.own (.dt [])) Γ) : ED c v S (.Dict [] [] pos) Γ Q := fun σ H R r kk =>
  ⟨_, fun _ => pe_dnewT, fun p hn => kk _ _ _ _ q (Res.newC r hn ⟨[], rfl, rfl, .nil⟩) (Step.refl.alloc hn) (New.ofC .refl hn)⟩
theorem ed_dictK (q : Q (.own (.dk [])) Γ) : ED c v S (.Dict [] [] pos) Γ Q := fun σ H R r kk =>
  ⟨_, fun _ => pe_dnewK, fun p hn => kk _ _ _ _ q (Res.newC r hn ⟨[], rfl, rfl, .nil⟩) (Step.refl.alloc hn) (New.ofC .refl hn)⟩
/-- the key that a tuple of numbers is -/
def tkey (ns : List Int) : List Key := ns.map Sum.inl
theorem tkey_V (ns : List Int) : (tkey ns).map kV = ns.map V.int := by
  unfold tkey
  rw [List.map_map]; rfl
theorem tkey_inj {ns ms : List Int} (h : tkey ns = tkey ms) : ns = ms := by
  induction ns generalizing ms with
  | nil => cases ms with
    | nil => rfl
    | cons _ _ => cases h
  | cons n ns ih => cases ms with
    | nil => cases h
    | cons m ms =>
      obtain ⟨h1, h2⟩ := List.cons.inj h
      rw [Sum.inl.inj h1, ih h2]
/-- d[..] = e, d a slot's own dict with tuples of numbers as keys -/
theorem sd_dputT (hu : c.A.units + 64 < cLine) (i : Nat) (hx : At c v x i) (hsw : ∀ k, swapsWith e (some (.Subscript (.Name x px) b pt)) pos.line (v k).env = pure false)
    (h : EK c v S e Γ fun k Γ1 => (∃ kvs, Γ1[i]? = some (.own (.dt kvs))) ∧ EK c v S b Γ1 fun l Γ2 => ∃ kvs ns d, Γ2[i]? = some (.own (.dt kvs)) ∧ akT Γ2 l = some (List.map Dt.int ns) ∧ akD Γ2 k = some d ∧ kvs.length < 1000000 ∧ D.nx (Γ2.set i (.own (.dt (putD kvs (tkey ns) d))))) :
    SD c v S (.Assign [.Subscript (.Name x px) b pt] e pos) D Γ := fun E σ H L r => by
  refine ⟨_, fun k => ps_dput (by show c.A.units + 1 < cLine; omega) (hx.pe k) (wE.pe k) (wE.pe k) (hsw k), ?_⟩
  refine h σ H _ r fun y H1 k Γ1 ⟨⟨kvs1, g1⟩, q1⟩ r1 hk s1 => ?_
  obtain ⟨p1, _, e1, z1, ws1, rfl, k1, w1⟩ := r1.slots i _ g1
  refine ⟨_, e1, ?_⟩
  refine q1 σ H1 _ r1 fun w H2 l Γ2 ⟨kvs, ns, d, g2, en, ed, few, q⟩ r2 hl s2 => ?_
  obtain ⟨p2, _, e2, z2, ws2, rfl, k2, w2⟩ := r2.slots i _ g2
  rw [e1] at e2
  cases e2
  obtain ⟨b, xs, rfl, hb, hxs⟩ := akT_of en hl
  rw [hxs.ints, ← tkey_V] at hb
  have hd := akD_of ed (hk.mono s2.keeps)
  have lw : ws2.length = kvs.length := by
    have := congrArg List.length k2
    rw [List.length_map, List.length_map] at this
    exact this
  have rel := rel_put (k := tkey ns) hd k2 w2
  refine ⟨p1, _, rfl, DPut.t z2 hb (Nat.lt_of_lt_of_le (by rw [lw]; exact few) (line1 (Nat.le_refl _))), L.nx _ _ _ q (r2.writeC g2 e1 ⟨_, rfl, rel.1, rel.2⟩)⟩
/-- the dict that an argument is -/
def akKT (Γ : List AV) : AK → Option (List (List Key × Dt))
  | .ln i => match Γ[i]? with
    | some (.own (.dt kvs)) => some kvs
    | _ => none
  | _ => none
theorem akKT_of {K : PySem.W.Frag} [Tb K] {H : Hp} {σ : Sg} {k : AK} {x : V} {kvs : List (List Key × Dt)} (e : akKT Γ k = some kvs) (r : RS K S no Γ σ H) (q : RpK K H (Exc S Γ σ no) σ x k) : ∃ p ws, x = .ref p ∧ H p = some (.dT ws) ∧ ws.map (·.1) = kvs.map (·.1) ∧ RpL K H (Exc S Γ σ no) (ws.map (·.2)) (kvs.map (·.2)) := by
  cases k with
  | d a => cases e
  | ln i =>
    have e' : (match Γ[i]? with | some (AV.own (.dt kvs)) => some kvs | _ => none) = some kvs := e
    split at e'
    · rename_i es g
      cases e'
      obtain ⟨p, _, e1, e2, ws, rfl, e3, q2⟩ := r.slots i _ g
      have q' : σ[i]? = some (some x) := q
      rw [q'] at e1
      cases e1
      exact ⟨p, ws, rfl, e2, e3, q2⟩
    · cases e'
/-- an owned thing's name, lent, whatever it is -/
theorem ek_loanC (i : Nat) {ct : Ct} {QK : AK → List AV → Prop} (h : At c v x i) (g : Γ[i]? = some (.own ct)) (q : QK (.ln i) Γ) : EK c v S (.Name x pos) Γ QK := fun σ H R r k => by
  obtain ⟨p, o, e, e2, w⟩ := r.slots i _ g
  exact ⟨_, fun j => h.pe j, _, e, k _ _ _ _ q r e .refl⟩
/-- k in d, k not in d -/
def InT (n : Bool) (Q : AV → List AV → Prop) (k l : AK) (Γ : List AV) : Prop := ∃ ns kvs, akT Γ k = some (List.map Dt.int ns) ∧ akKT Γ l = some kvs ∧ Q (.dt (.bl (n ^^ (getD' kvs (tkey ns)).isSome))) Γ
theorem some_eq {κ : Type} [DecidableEq κ] {K : PySem.W.Frag} {H : Hp} {ex : AP} {ws : List (κ × V)} {kvs : List (κ × Dt)} (e : ws.map (·.1) = kvs.map (·.1)) (r : RpL K H ex (ws.map (·.2)) (kvs.map (·.2))) (k : κ) : (valV ws k).isSome = (getD' kvs k).isSome := by
  rcases rel_get e r k with ⟨h1, h2⟩ | ⟨x, d, h1, h2, _⟩ <;> rw [h1, h2] <;> rfl
theorem ed_inT (hu : c.A.units + 64 < cLine) (hm : behindInMarks .In b = false) (h : EK c v S a Γ fun k Γ1 => EK c v S b Γ1 fun l Γ2 => InT false Q k l Γ2) : ED c v S (.Compare a [.In] [b] pos) Γ Q := fun σ H R r kk =>
  ⟨_, fun i => pe_cmp (pc_din (by show c.A.units + 1 < cLine; omega) (wE.pe i) (wE.pe i)) hm, EK.two h r fun x y H' k l Γ' ⟨ns, kvs, e1, e2, q⟩ r' hk hl s => by
    obtain ⟨p1, xs, rfl, h1, hx⟩ := akT_of e1 hk
    obtain ⟨p2, ws, rfl, h2, e3, hw⟩ := akKT_of e2 r' hl
    rw [hx.ints, ← tkey_V] at h1
    refine ⟨p2, _, rfl, DGet.t h2 h1, ?_⟩
    rw [some_eq e3 hw]
    rw [Bool.false_xor] at q
    exact kk _ _ _ _ q ⟨r', .bl _⟩ s trivial⟩
theorem ed_notinT (hu : c.A.units + 64 < cLine) (hm : behindInMarks .NotIn b = false) (h : EK c v S a Γ fun k Γ1 => EK c v S b Γ1 fun l Γ2 => InT true Q k l Γ2) : ED c v S (.Compare a [.NotIn] [b] pos) Γ Q := fun σ H R r kk =>
  ⟨_, fun i => pe_cmp (pc_dnotin (by show c.A.units + 1 < cLine; omega) (wE.pe i) (wE.pe i)) hm, EK.two h r fun x y H' k l Γ' ⟨ns, kvs, e1, e2, q⟩ r' hk hl s => by
    obtain ⟨p1, xs, rfl, h1, hx⟩ := akT_of e1 hk
    obtain ⟨p2, ws, rfl, h2, e3, hw⟩ := akKT_of e2 r' hl
    rw [hx.ints, ← tkey_V] at h1
    refine ⟨p2, _, rfl, DGet.t h2 h1, ?_⟩
    rw [some_eq e3 hw]
    rw [Bool.true_xor] at q
    exact kk _ _ _ _ q ⟨r', .bl _⟩ s trivial⟩
/-- d.get(k, e), d a slot's own dict -/
theorem ed_getT (hu : c.A.units + 64 < cLine) (i : Nat) {kvs0 : List (List Key × Dt)} (hx : At c v x i) (g : Γ[i]? = some (.own (.dt kvs0))) (m : ∀ k, M2 (mkX c (v k)) (.Name x p) "get" apos a b cpos)
    (h : EK c v S a Γ fun k Γ1 => EK c v S b Γ1 fun l Γ2 => ∃ kvs ns d, Γ2[i]? = some (.own (.dt kvs)) ∧ akT Γ2 k = some (List.map Dt.int ns) ∧ akD Γ2 l = some d ∧ Q (.dt ((getD' kvs (tkey ns)).getD d)) Γ2) :
    ED c v S (.Call (.Attribute (.Name x p) "get" apos) [a, b] [] cpos) Γ Q := fun σ H R r kk => by
  obtain ⟨q0, _, e0, h0, ws0, rfl, k0, w0⟩ := r.slots i _ g
  refine ⟨_, fun k => pe_dget2 (by show c.A.units + 1 < cLine; omega) (hx.pe k) (wE.pe k) (wE.pe k) (m k), ?_⟩
  refine ⟨_, e0, q0, rfl, .inr ⟨_, .inl h0⟩, EK.two h r fun y z H' k l Γ' ⟨kvs, ns, d, g', e1, e2, q⟩ r' hk hl s => ?_⟩
  obtain ⟨q1, _, e1', h1, ws, rfl, k1, w1⟩ := r'.slots i _ g'
  rw [e0] at e1'
  cases e1'
  obtain ⟨b, xs, rfl, hb, hxs⟩ := akT_of e1 hk
  rw [hxs.ints, ← tkey_V] at hb
  have hd := akD_of e2 hl
  refine ⟨_, DGet.t h1 hb, kk _ _ _ _ q ⟨r', ?_⟩ s trivial⟩
  rcases rel_get k1 w1 (tkey ns) with ⟨z1, z2⟩ | ⟨x, u, z1, z2, z3⟩
  · rw [z1, z2]; exact hd
  · rw [z1, z2]; exact z3
/-- a list as a test -/
theorem td_list (he : PlainTest v e) (h : EK c v S e Γ fun k Γ1 => ∃ ds, akL Γ1 k = some ds ∧ QB (!ds.isEmpty) Γ1) : TD c v S e Γ QB := fun σ H R r kk =>
  ⟨_, fun i => (show PT (mkX c (v i)) e (fun σ H Q => wE c v e σ H fun x H' => ∃ k, TruV c.K x H' k ∧ Q k H') from pt_truth (wE.pe i) (he i)), h σ H _ r fun x H' k Γ' ⟨ds, e1, q⟩ r' hk s => by
    obtain ⟨p1, xs, rfl, h1, hx⟩ := akL_of e1 r' hk
    refine ⟨!xs.isEmpty, .inl ⟨xs, h1, rfl⟩, ?_⟩
    have : xs.isEmpty = ds.isEmpty := by
      have := hx.len
      cases xs <;> cases ds <;> first | rfl | cases this
    rw [this]
    exact kk _ _ _ q r' s⟩
end
end DL

/-! sorted(xs, key=lambda x: -x[n]): the key's call, the sorting, the rule -/
namespace DL
open PySem PySem.Spec PySem.W
open PyProof.Rows L2
theorem keepB {h h' : Heap} {o0 : Obj} (sb : Heap.SameBut h.objs.size (h.push o0) h') : ∀ b o, h.get? b = some o → h'.get? b = some o := fun b o g => by
  rw [sb.2 b (Nat.ne_of_lt (Heap.lt_size g))]
  exact Heap.get?_push_of_some _ g
theorem NoLimit_of {h h' : Heap} (n : h.NoLimit) (k : ∀ b o, h.get? b = some o → h'.get? b = some o) : h'.NoLimit := by
  obtain ⟨mc, ⟨o, es, ep, g, r⟩, h2⟩ := n
  exact ⟨mc, ⟨o, es, ep, k _ _ g, r⟩, h2⟩
/-- a lambda of one parameter that answers minus an item of what it is called with -/
structure NegLam (params : Arguments) (body : Expr) (scope : Scope) (a : Str) (n : Nat) : Prop where
  is : ∃ kd p1 p2 p3 p4, body = .UnaryOp .USub (.Subscript (.Name a p1) (.Constant (.int n) kd p2) p3) p4
  names : scope.names = [(a, .local)]
  kind : scope.kind = .function
  co : (scope.isCoroutine) = false
  gen : (scope.isGenerator) = false
  dbg : (a == Str.ofString "__debug__") = false
  binds : ∀ (nm q : Str) (cl : List (Str × Addr)) (pm cv ctv v : Value), bindArgs (kla_fn nm q params body scope cl pm cv ctv) { pos := [v] } = pure [(a, v)]
theorem lam_neg {prog : Program} {w : World} {A : Around} {params : Arguments} {body : Expr} {scope : Scope} {a nm qual : Str} {n : Nat} {pm ctv : Value} {c' f t : Addr} {cl : List (Str × Addr)} {s : Shared} {its : Array Value} {m : Int} {u : Tok}
    (L : NegLam params body scope a n) (small : n < 1000) (hd : A.depth < recursionLimit)
    (hf : s.heap.get? f = some (kla_obj nm qual params body scope cl pm c' ctv)) (hc : s.heap.CodeRec (.ref c') qual) (hn : s.heap.NoLimit)
    (ht : IsTup s.heap t its) (hi : its[n]? = some (.int m u)) :
    wpAny (model prog w) A (call (.ref f) [.ref t]) (KeyPure (.int (-m)) s) (fun _ _ => False) s := by
  refine wpAny_call (kla_callFunE hd hf rfl L.co L.gen rfl hc ?_)
  rw [L.binds]
  refine wpAny_pure ?_
  refine wpAny_newFunctionEnv (fun x hx => ?_) (fun x hx => ?_) (fun h' ns sb => ⟨?_, kla_codeExpr ?_⟩) L.kind
  · rw [L.names] at hx
    obtain rfl := List.mem_singleton.mp hx
    exact fun z => by cases z
  · obtain rfl := List.mem_singleton.mp hx
    show List.lookup a scope.names = _
    rw [L.names]
    simp
  · exact NoLimit_of hn (keepB sb)
  · obtain ⟨kd, p1, p2, p3, p4, rfl⟩ := L.is
    obtain ⟨ot, g1, g2, g3⟩ := ht
    have hit : IsTup h' t its := ⟨ot, keepB sb _ _ g1, g2, g3⟩
    have lt : n < its.size := (Array.getElem?_eq_some_iff.mp hi).1
    refine UnaryOp_ (Subscript_ (wpAny_Name (wpAny_loadName_local L.kind ?_ ns (v := .ref t) ?_ ?_) L.dbg))
    · show List.lookup a scope.names = _
      rw [L.names]
      simp
    · show List.lookup a [(a, Value.ref t)].reverse = _
      simp
    · refine wpAny_Constant_int (item_tuple hit (by omega) (by omega) (j := n) ?_ hi ?_)
      · unfold seqIndex?
        simp only [show ¬ ((n : Int) < 0) by omega, if_false, decide_eq_true (show (0 : Int) ≤ (n : Int) by omega), decide_eq_true (show (n : Int) < (its.size : Int) by omega), Bool.and_self, if_true, Int.toNat_natCast]
      · exact P.neg_int ⟨_, _, rfl, keepB sb, .int _ _⟩
/-- sorted(e, key=a lambda that answers minus an item) -/
def tSortNeg (K : Frag) (T : List (Addr × Str)) (n : Nat) (te : TE) : TE := fun σ H Q => te σ H fun x H1 => ∃ (a : Addr) (xs : List V) (kf : V → Int), x = .ref a ∧ SqL K H1 a xs ∧ LamX.Tabs T H1 ∧ (∀ y ∈ xs, ∃ t zs, y = .ref t ∧ SqT K H1 t zs ∧ zs[n]? = some (.int (kf y))) ∧
  ∀ H2 p, LamX.ExtN H1 H2 → LamX.Tabs T H2 → H2 p = none → Q (.ref p) (upd H2 p (.lst (xs.mergeSort fun y z => decide (kf z ≤ kf y))))
theorem eachIs_of {xs : List V} {its : List Value} (h : Vals xs its) : EachIs (fun u x => RelV x u) its xs := by
  induction h with
  | nil => exact .nil
  | cons r _ ih => exact .cons r ih
theorem vals_of {xs : List V} {its : List Value} (h : EachIs (fun u x => RelV x u) its xs) : Vals xs its := by
  induction h with
  | nil => exact .nil
  | cons r _ ih => exact .cons r ih
theorem dataLe_neg (kf : V → Int) : dataLe false (fun y => PyData.int (-(kf y))) = fun y z => decide (kf z ≤ kf y) := by
  funext y z
  show (!PyProof.Rows.lexLt itemOrd [Sum.inl (-(kf z))] [Sum.inl (-(kf y))]) = _
  have h1 : PyProof.Rows.lexLt itemOrd [Sum.inl (-(kf z))] [Sum.inl (-(kf y))] = (decide (-(kf z) < -(kf y)) || (!decide (-(kf y) < -(kf z)) && false)) := rfl
  rw [h1, Bool.and_false, Bool.or_false]
  by_cases h : kf z ≤ kf y
  · rw [decide_eq_true h, decide_eq_false (by omega)]; rfl
  · rw [decide_eq_false h, decide_eq_true (by omega)]; rfl
theorem vals_int {zs : List V} {its : List Value} {m : Int} (h : Vals zs its) : ∀ {n : Nat}, zs[n]? = some (.int m) → ∃ u, its[n]? = some (.int m u) := by
  induction h with
  | nil => intro n e; cases n <;> cases e
  | cons r _ ih =>
    intro n e
    cases n with
    | zero =>
      obtain rfl := Option.some.inj e
      obtain ⟨u, rfl⟩ := r
      exact ⟨u, rfl⟩
    | succ n => exact ih e
theorem Rd_ext {H H' : Hp} {a : Addr} {o : HO} (x : LamX.ExtN H H') (t : ∀ ps, o ≠ .tbl ps) (h : Rd H a o) : Rd H' a o :=
  h.elim (fun e => .inl (x _ _ e t)) fun ⟨u, e⟩ => .inr ⟨u, x _ _ e fun _ z => by cases z⟩
theorem SqL_ext {K : Frag} {H H' : Hp} {a : Addr} {xs : List V} (x : LamX.ExtN H H') (h : SqL K H a xs) : SqL K H' a xs :=
  h.elim (fun e => .inl (Rd_ext x (fun _ z => by cases z) e)) .inr
theorem SqT_ext {K : Frag} {H H' : Hp} {a : Addr} {xs : List V} (x : LamX.ExtN H H') (h : SqT K H a xs) : SqT K H' a xs :=
  h.elim (fun e => .inl (Rd_ext x (fun _ z => by cases z) e)) .inr
theorem pe_sortNeg {X : Cx} {T : List (Addr × Str)} {c P : Addr} {params : Arguments} {body e : Expr} {scope : Scope} {a : Str} {n : Nat} {p lp kp pos : Pos} {te : TE}
    (L : NegLam params body scope a n) (small : n < 1000) (rm : Room 0 X.A) (hg : Gl X (Str.ofString "sorted")) (hm : X.mg (Str.ofString "sorted") = none)
    (tb : LamX.TabB X.base X.mg c P) (hc : X.env.code = .ref c) (hT : (P, X.env.qual ++ Str.ofString "<lambda>") ∈ T)
    (only : ∀ p ∈ T, p.1 = P → p.2 = X.env.qual ++ Str.ofString "<lambda>") (hd : defaultsOf params X.env = ([], []))
    (he : PE X e te) (st : starEach [e] X.env = (false, eval e X.env) :: starEach [] X.env) :
    PE X (.Call (.Name (Str.ofString "sorted") p) [e] [⟨some (Str.ofString "key"), .Lambda params body scope lp, kp⟩] pos) (tSortNeg X.K T n te) := by
  refine ⟨fun pins s σ H Q I q => wpAny_Call_Name_kw (ld_blt I hg hm rfl (callWith_kw ?_ (by rw [st]; rfl) (by rw [st]; rfl)))⟩
  refine wpAny_mono (t := spliced (backTo pos (starEach [e] X.env))) ((pa_cons he pa_nil st).run pos pins s σ H (fun vs H1 => match (motive := List V → Prop) vs with | [] => False | _ :: _ :: _ => False | [x] => ∃ (a : Addr) (xs : List V) (kf : V → Int), x = .ref a ∧ SqL X.K H1 a xs ∧ LamX.Tabs T H1 ∧ (∀ y ∈ xs, ∃ t zs, y = .ref t ∧ SqT X.K H1 t zs ∧ zs[n]? = some (.int (kf y))) ∧ ∀ H2 p, LamX.ExtN H1 H2 → LamX.Tabs T H2 → H2 p = none → Q (.ref p) (upd H2 p (.lst (xs.mergeSort fun y z => decide (kf z ≤ kf y))))) I ?_) ?_ (fun _ _ z => z)
  · exact q
  · rintro vs s1 ⟨ws, H1, I1, rv, z⟩
    cases rv with
    | nil => exact z.elim
    | cons r0 rn =>
    cases rn with
    | cons _ _ => exact z.elim
    | nil =>
    obtain ⟨l, xs, kf, rfl, hl, tabs, hk, q⟩ := z
    obtain rfl : _ = Value.ref l := r0
    refine kws_cons (LamX.lam_make2 I1 tb hc hT only tabs hd ?_ fun f c' pm ctv H2 s2 I2 ext tabs2 hf Hf nfr hc' => kws_nil ?_)
    · intro y hy e
      rw [L.names] at hy
      obtain rfl := List.mem_singleton.mp hy
      cases e
    · show wpAny _ _ (call (Value.builtin "sorted") [Value.ref l] [(Str.ofString "key", Value.ref f)]) _ _ _
      obtain ⟨its, vi, ⟨o, nn, g1, g2, g3, g4⟩, lenx⟩ := I2.list (SqL_ext ext hl)
      refine sorted_key_data (β := V) (vs := its) (bs := xs) (R := fun u x => RelV x u) (b := false) (fun y => .int (-(kf y))) ⟨o, g1, g2, nn, g4⟩ (eachIs_of vi) ?_ ?_ lenx ?_ rfl (fun _ => rfl) (fun _ => rfl) ?_ ?_
      · intro d hd d' hd'
        obtain ⟨_, _, rfl⟩ := List.mem_map.mp hd
        obtain ⟨_, _, rfl⟩ := List.mem_map.mp hd'
        rfl
      · refine .inr fun d hd => ?_
        obtain ⟨_, _, rfl⟩ := List.mem_map.mp hd
        exact ⟨nofun, nofun⟩
      · intro x hx
        have := rm.un
        show X.A.units + 2 + 0 < cLine
        omega
      · intro u x rx hx h tk old
        obtain ⟨t, zs, rfl, hz, en⟩ := hk x hx
        obtain rfl : u = Value.ref t := rx
        obtain ⟨its', vi', ⟨o', t1, t2, nt, t3⟩, _⟩ := I2.tuple (SqT_ext ext hz)
        obtain ⟨tk', eu⟩ := vals_int vi' en
        have hcode := I2.hok _ _ hc'
        obtain ⟨⟨oc, cvs, ct, hh⟩, _⟩ := hcode
        have := rm.dp
        exact lam_neg L small (by show X.A.depth < recursionLimit; omega) (old _ _ hf) ⟨c', oc, cvs, ct, rfl, old _ _ hh.1, hh.2⟩ (NoLimit_of I2.nolimit old) ⟨o', old _ _ t1, t2, nt, t3⟩ (by simpa using eu)
      · intro out cc h' tk old non new len ei
        rw [dataLe_neg] at ei
        refine ⟨.ref _, _, I2.laidN old non (I2.hok.gone non) ?_, rfl, q H2 _ ext tabs2 (I2.hok.gone non)⟩
        rw [L2.ObjOk.eq_1]
        exact ⟨by rw [List.length_mergeSort]; exact lenx, out, cc, vals_of ei, new⟩
end DL
namespace DL
open PySem PySem.Spec PySem.W
open PyProof.Rows L2
theorem RS.grown {K : Frag} [Tb K] {S : Ent} {Γ : List AV} {σ : Sg} {H H2 : Hp} (r : RS K S DL.no Γ σ H) (x : LamX.ExtN H H2) (t : LamX.Tabs (Tb.tb K) H2) : RS K S DL.no Γ σ H2 :=
  have ext : ∀ b o, H b = some o → NT o → H2 b = some o := fun b o e n => x b o e n.ne
  { r with
    slots := fun i a e => (r.slots i a e).mono (fun b o e n z => ⟨ext b o e n, z⟩) fun c p o _ _ e m => ext p o e (by cases o <;> first | trivial | exact m.elim)
    fr := fun b o e n => ext b o (r.fr b o e n) (r.nts.1 b o e)
    fo := fun p z => by
      obtain ⟨⟨o, e, n⟩, h⟩ := r.fo p z
      exact ⟨⟨o, ext _ _ e n, n⟩, h⟩
    pin := fun b o z => ⟨ext b o (r.pin b o z).1 (r.nts.2 b o z), (r.pin b o z).2⟩
    tabs := t }
theorem Step.grown {Γ : List AV} {σ : Sg} {H H2 : Hp} (x : LamX.ExtN H H2) : Step Γ Γ σ H H2 := ⟨fun b o e n _ => x b o e n.ne, fun _ z => z⟩
/-- the whole number at a place of a tuple -/
def dInt (n : Nat) : Dt → Int
  | .tup es => match es[n]? with
    | some (.int i) => i
    | _ => 0
  | _ => 0
def vInt (H : Hp) (n : Nat) : V → Int
  | .ref t => match H t with
    | some (.tup zs) => match zs[n]? with
      | some (.int i) => i
      | _ => 0
    | _ => 0
  | _ => 0
theorem vInt_of {K : Frag} {H : Hp} {ex : AP} {x : V} {n : Nat} {es : List Dt} {i : Int} (r : Rp K H ex x (.tup es)) (e : es[n]? = some (.int i)) : vInt H n x = i ∧ ∃ t zs, x = .ref t ∧ SqT K H t zs ∧ zs[n]? = some (.int i) := by
  cases r with
  | tup h _ rl =>
    obtain ⟨y, e1, r1⟩ := rl.get e
    cases r1
    refine ⟨?_, _, _, rfl, .inl (.inl h), e1⟩
    simp only [vInt, h, e1]
theorem RpL.pairs {K : Frag} {H : Hp} {ex : AP} : ∀ {xs : List V} {ds : List Dt}, RpL K H ex xs ds → ∃ l : List (V × Dt), xs = l.map (·.1) ∧ ds = l.map (·.2) ∧ ∀ p ∈ l, Rp K H ex p.1 p.2
  | _, _, .nil => ⟨[], rfl, rfl, nofun⟩
  | _, _, .cons r t => by
    obtain ⟨l, e1, e2, h⟩ := RpL.pairs t
    refine ⟨(_, _) :: l, by rw [e1]; rfl, by rw [e2]; rfl, fun p hp => ?_⟩
    rcases (List.mem_cons.mp hp) with rfl | hp
    · exact r
    · exact h p hp
theorem RpL.ofPairs {K : Frag} {H : Hp} {ex : AP} : ∀ {l : List (V × Dt)}, (∀ p ∈ l, Rp K H ex p.1 p.2) → RpL K H ex (l.map (·.1)) (l.map (·.2))
  | [], _ => .nil
  | _ :: _, h => .cons (h _ List.mem_cons_self) (RpL.ofPairs fun p hp => h p (List.mem_cons_of_mem _ hp))
theorem RpL.sorted {K : Frag} {H : Hp} {ex : AP} {xs : List V} {ds : List Dt} (r : RpL K H ex xs ds) {kx : V → Int} {kd : Dt → Int} (h : ∀ x d, Rp K H ex x d → d ∈ ds → kx x = kd d) :
    RpL K H ex (xs.mergeSort fun y z => decide (kx z ≤ kx y)) (ds.mergeSort fun y z => decide (kd z ≤ kd y)) := by
  obtain ⟨l, rfl, rfl, hl⟩ := r.pairs
  rw [← List.map_mergeSort (r := fun (p q : V × Dt) => decide (kd q.2 ≤ kd p.2)) (s := fun y z => decide (kx z ≤ kx y)), ← List.map_mergeSort (r := fun (p q : V × Dt) => decide (kd q.2 ≤ kd p.2)) (s := fun y z => decide (kd z ≤ kd y))]
  · exact RpL.ofPairs fun p hp => hl p (List.mem_mergeSort.mp hp)
  · exact fun _ _ _ _ => rfl
  · intro p hp q hq
    show _ = decide (kx q.1 ≤ kx p.1)
    rw [h _ _ (hl p hp) (List.mem_map_of_mem hp), h _ _ (hl q hq) (List.mem_map_of_mem hq)]
section
variable {c : Core} [Tb c.K] {ι : Type} {v : ι → Var} {S : Ent} {Γ : List AV} {Q : AV → List AV → Prop} {e : Expr}
/-- sorted(e, key=lambda a: -a[n]) -/
theorem ed_sortNeg {C P : Addr} {nm : Str} {params : Arguments} {body : Expr} {scope : Scope} {a : Str} {n : Nat} {p lp kp pos : Pos}
    (L : NegLam params body scope a n) (small : n < 1000) (rm : ∀ i, Room 0 (mkX c (v i)).A) (hg : ∀ i, Gl (mkX c (v i)) (Str.ofString "sorted")) (hm : c.mg (Str.ofString "sorted") = none)
    (tb : LamX.TabB c.base c.mg C P) (hc : ∀ i, (v i).env.code = .ref C) (hq : ∀ i, (v i).env.qual ++ Str.ofString "<lambda>" = nm) (hT : (P, nm) ∈ Tb.tb c.K)
    (only : ∀ p ∈ Tb.tb c.K, p.1 = P → p.2 = nm) (hd : ∀ i, defaultsOf params (v i).env = ([], [])) (st : NoStar v e [])
    (h : EK c v S e Γ fun k Γ1 => ∃ ds, akL Γ1 k = some ds ∧ (∀ d ∈ ds, ∃ es i, d = .tup es ∧ es[n]? = some (.int i)) ∧ Q (.ow (ds.mergeSort fun y z => decide (dInt n z ≤ dInt n y))) Γ1) :
    ED c v S (.Call (.Name (Str.ofString "sorted") p) [e] [⟨some (Str.ofString "key"), .Lambda params body scope lp, kp⟩] pos) Γ Q := fun σ H R r kk => by
  refine ⟨tSortNeg c.K (Tb.tb c.K) n (wE c v e), fun i => pe_sortNeg (X := mkX c (v i)) (T := Tb.tb c.K) L small (rm i) (hg i) hm tb (hc i) ((hq i).symm ▸ hT) (fun p hp e => (only p hp e).trans (hq i).symm) (hd i) (wE.pe i) (st i), ?_⟩
  refine h σ H _ r fun x H1 k Γ1 ⟨ds, e1, hds, q⟩ r1 hk s1 => ?_
  obtain ⟨p, xs, rfl, hs, hx⟩ := akL_of e1 r1 hk
  have pairs : ∀ x d, Rp c.K H1 (Exc S Γ1 σ DL.no) x d → d ∈ ds → vInt H1 n x = dInt n d ∧ ∃ t zs, x = .ref t ∧ SqT c.K H1 t zs ∧ zs[n]? = some (.int (vInt H1 n x)) := fun x d rp hd => by
    obtain ⟨es, i, rfl, ei⟩ := hds d hd
    obtain ⟨e1, t, zs, e2, e3, e4⟩ := vInt_of rp ei
    refine ⟨e1.trans ?_, t, zs, e2, e3, by rw [e1]; exact e4⟩
    show i = match es[n]? with | some (.int i) => i | _ => 0
    rw [ei]
  refine ⟨p, xs, vInt H1 n, rfl, hs, r1.tabs, fun y hy => ?_, fun H2 b ext tabs free => ?_⟩
  · obtain ⟨l, e1, e2, hl⟩ := hx.pairs
    subst e1 e2
    obtain ⟨pr, hp, rfl⟩ := List.mem_map.mp hy
    exact (pairs _ _ (hl pr hp) (List.mem_map_of_mem hp)).2
  · have r2 := r1.grown ext tabs
    have hx2 := (hx.sorted fun x d rp hd => (pairs x d rp hd).1).mono (H' := H2) (ex' := Exc S Γ1 σ DL.no) fun b o e n z => ⟨ext b o e n.ne, z⟩
    have s2 := s1.trans (Step.grown (Γ := Γ1) ext)
    exact kk _ _ _ _ q (Res.newL r2 free hx2) (s2.alloc free) (New.ofL s2 free)
end
end DL

/-! a law's call, where lambdas make code objects; a def with its code object -/
namespace DL
open PySem PySem.Spec
open PyProof.Rows L2
/-- the script and the tables of code objects -/
def hpT (K : PySem.W.Frag) (a : Addr) (vs : List Value) (ns : List Int) (ts : List Addr) : Hp := fun b => if b ∈ ts then some (.tbl #[]) else hpS K a vs ns b
section
variable {P : Program} {w : World} {K : PySem.W.Frag} [Tb K] {mg mb : Str → Option Value} {k : Nat} {fa a b : Addr} {fd : FuncData} {x : Str} {s₁ : Shared} {vs : List Value} {ns : List Int} {u : HO} {ts : List Addr}
theorem hpT_some (h : hpT K a vs ns ts b = some u) : (b ∈ ts ∧ u = .tbl #[]) ∨ (b ∉ ts ∧ b = a ∧ K.lookup a = none ∧ u = .frz { cls := .type "list", data := .seq vs.toArray } (.lst (ns.map V.int))) := by
  unfold hpT at h
  split at h
  · rename_i z
    cases h
    exact .inl ⟨z, rfl⟩
  · rename_i z
    exact .inr ⟨z, hpS_some h⟩
theorem hpT_none (h : b ≠ a) (h2 : b ∉ ts) : hpT K a vs ns ts b = none := by
  unfold hpT
  rw [if_neg h2]
  exact hpS_none h
theorem hpT_in (h2 : b ∉ ts) (e : K.lookup b ≠ none) : hpT K a vs ns ts b = none := by
  unfold hpT
  rw [if_neg h2]
  by_cases z : b = a
  · subst z; exact hpS_in e
  · exact hpS_none z
theorem hpT_tab (h : b ∈ ts) : hpT K a vs ns ts b = some (.tbl #[]) := if_pos h
theorem lawGT {cs : List (Addr × Addr)} {DS : DSp} (hT : ∀ p ∈ Tb.tb K, p.1 ∈ cs.map (·.2)) (ht : ∀ p ∈ cs, s₁.heap.get? p.2 = some { cls := .none, data := .fields #[] }) (hk : ∀ p ∈ cs, K.lookup p.2 = none) (hcd : ∀ p ∈ cs, PySem.W.CodeHd s₁.heap p.1 p.2) (hbm : ∃ bm ob, mg "__builtins__" = some (.ref bm) ∧ bm ≠ builtinsNs ∧ s₁.heap.get? bm = some ob ∧ ob.cls = .type "module" ∧ ob.dict = some builtinsNs ∧ ob.data = .plain) (KX : K.In s₁.heap) (hns : s₁.heap.Ns mainGlobals mg) (hb : s₁.heap.Ns builtinsNs mb) (hbb : ∀ x : Str, x ≠ "__name__" → mb x = bootBuiltins x) (hlim : s₁.heap.NoLimit) (hg : s₁.gens = #[])
    (ha : s₁.heap.get? a = some { cls := .type "list", data := .seq vs.toArray }) 
    (hi : IntsAre vs ns) (hl : ns.length ≤ sizeLine) (hr : Room k callerA)
    (F : ∀ base : Heap, K.In base → base.Ns mainGlobals mg → (∀ p ∈ cs, LamX.TabB base mg p.1 p.2) → FnG P w K mg base k fa fd [x] (spD K DS)) (hbind : ∀ (s : Shared) (u : Value), BindsTo s fd ⟨[u], []⟩ [(x, u)])
    (hD : DS [.dt (.scr ns)] fun r _ => r = .dt (.bl true)) :
    codeAny (model P w) callerA (.call (.ref fa) ⟨[.ref a], []⟩)
      (fun r s' => r = .ok (.ret (.bool true)) ∧ OldK s₁.heap s'.heap ∧ s'.os = s₁.os ∧ AllBare s'.gens) s₁ := by
  have rv := vals_ints hi
  have tabAt : ∀ b ∈ cs.map (·.2), s₁.heap.get? b = some { cls := .none, data := .fields #[] } := fun b hb => by
    obtain ⟨p, hp, rfl⟩ := List.mem_map.mp hb
    exact ht p hp
  have noK : ∀ b ∈ cs.map (·.2), K.lookup b = none := fun b hb => by
    obtain ⟨p, hp, rfl⟩ := List.mem_map.mp hb
    exact hk p hp
  have aT : ¬ a ∈ cs.map (·.2) := fun z => by
    have := tabAt a z
    rw [ha] at this
    exact nomatch (congrArg (fun o => o.map Obj.data) this)
  have seen : ∀ {c : Addr} {o : Obj}, s₁.heap.get? c = some o → hpT K a vs ns (cs.map (·.2)) c = none → (hidT s₁.heap (hpT K a vs ns (cs.map (·.2)))).get? c = some o := fun e n => hidT_get e n
  have dicts : ∀ {c : Addr} {m : Str → Option Value}, s₁.heap.Ns c m → (hidT s₁.heap (hpT K a vs ns (cs.map (·.2)))).Ns c m := by
    rintro c m ⟨o, es, ep, e, d, r⟩
    refine ⟨o, es, ep, seen e (hpT_none (fun z => ?_) fun z => ?_), d, r⟩
    · rw [z, ha] at e
      cases e
      exact nomatch (show Data.seq vs.toArray _ = Data.dict es ep from d)
    · rw [tabAt c z] at e
      cases e
      exact nomatch (show Data.fields #[] = Data.dict es ep from d)
  have inB : K.In (hidT s₁.heap (hpT K a vs ns (cs.map (·.2)))) := fun c o e => seen (KX c o e) (hpT_in (fun z => by
    rw [noK c z] at e
    cases e) (by rw [e]; exact fun y => nomatch y))
  have okH : HOk P w (hpT K a vs ns (cs.map (·.2))) s₁.heap := fun c v z => by
    rcases hpT_some z with ⟨z1, rfl⟩ | ⟨_, rfl, _, rfl⟩
    · exact tabAt c z1
    · exact ⟨ha, by rw [List.length_map]; exact hl, vs, _, rv, ha⟩
  have tabB : ∀ p ∈ cs, LamX.TabB (hidT s₁.heap (hpT K a vs ns (cs.map (·.2)))) mg p.1 p.2 := fun p hp => by
    obtain ⟨o, fs, file, tf, flags, tg, inF, text, tt, e1, e2, r⟩ := hcd p hp
    obtain ⟨bm, ob, b1, b2, b3, b4, b5, b6⟩ := hbm
    have nt : ∀ {b : Addr} {o : Obj}, s₁.heap.get? b = some o → o.cls ≠ .none → o.cls ≠ .type "list" → hpT K a vs ns (cs.map (·.2)) b = none := fun {b o} e n1 n2 => hpT_none (fun z => by
      rw [z, ha] at e
      cases e
      exact n2 rfl) fun z => by
      rw [tabAt b z] at e
      cases e
      exact n1 rfl
    have tp := tabAt p.2 (List.mem_map_of_mem hp)
    refine ⟨⟨o, fs, file, tf, flags, tg, inF, text, tt, seen e1 (nt e1 (by rw [e2]; exact nofun) (by rw [e2]; decide)), e2, r⟩, ⟨bm, ob, b1, b2, fun z => ?_, fun z => ?_, seen b3 (nt b3 (by rw [b4]; exact nofun) (by rw [b4]; decide)), b4, b5, b6⟩, fun z => ?_⟩
    · obtain ⟨o, es, ep, e, d, _⟩ := hns
      rw [z, e] at b3
      cases b3
      rw [d] at b6
      exact nomatch b6
    · rw [z, tp] at b3
      cases b3
      exact nomatch b6
    · obtain ⟨o, es, ep, e, d, _⟩ := hns
      rw [z, tp] at e
      cases e
      exact nomatch d
  have ent : Env0 P w K mg (hidT s₁.heap (hpT K a vs ns (cs.map (·.2)))) callerA [] s₁ (hpT K a vs ns (cs.map (·.2))) :=
    ⟨rfl, ⟨inB, dicts hns, ⟨mb, dicts hb, hbb⟩, hlim.elim fun mc h => ⟨mc, dicts h.1, h.2⟩⟩, fun c o e => of_hidT e, Nat.le_of_eq (hidT_size _ _), trivial, fun c hc => (nomatch (show c ∈ ([] : List Addr) from hc)), okH, .of_eq hg⟩
  have noOwn : ∀ (σ : Sg) (p : Addr), ¬ Own [AV.dt (.scr ns)] σ p := fun σ p ⟨j, es, e, _⟩ => by
    cases j with
    | zero => cases e
    | succ j => cases e
  have rp : ∀ ex : AP, (∀ p, ¬ ex p) → Rp K (hpT K a vs ns (cs.map (·.2))) ex (.ref a) (.scr ns) := fun ex hx => by
    cases hk : K.lookup a with
    | none => exact .scrF ((if_neg aT).trans (if_pos ⟨rfl, hk⟩)) (hx a)
    | some o =>
      have e := KX a o hk
      rw [ha] at e
      cases e
      exact .scrK ⟨_, vs.toArray, _, hk, rfl, rfl, rfl, by rw [List.size_toArray, hi.length]; exact hl, by simpa using rv⟩
  have rs : RS K (Ent.call (hpT K a vs ns (cs.map (·.2))) [AV.dt (.scr ns)] [.ref a] no 1) no [AV.dt (.scr ns)] [some (.ref a)] (hpT K a vs ns (cs.map (·.2))) := by
    have nx : ∀ p, ¬ Ent.x (Ent.call (hpT K a vs ns (cs.map (·.2))) [AV.dt (.scr ns)] [.ref a] no 1) p := fun p ⟨i, hm⟩ => by
      obtain ⟨ds, e, _⟩ := lent_mem.mp hm
      cases i with
      | zero => cases e
      | succ i => cases e
    refine ⟨fun i v e => ?_, fun i j ds es p e => ?_, fun b o e _ => (noTb_some e).1, fun p o => (noOwn _ p o).elim, fun i p hm => ((nx p) ⟨i, hm⟩).elim, fun p o => (noOwn _ p o).elim, fun p o => (noOwn _ p o).elim, fun p z => z.elim, fun p z => (nx p z).elim, fun b o z => z.elim, ⟨fun _ _ e => (noTb_some e).2, fun _ _ z => z.elim⟩, (fun q hq => LamX.TabS.nil (hpT_tab (hT q hq))), rfl, rfl⟩
    · cases i with
      | zero =>
        cases e
        refine ⟨.ref a, rfl, rp _ fun p z => ?_⟩
        rcases z with z | z | z
        · exact noOwn _ p z
        · exact z
        · exact z
      | succ i => cases e
    · cases i with
      | zero => cases e
      | succ i => cases e
  refine codeAny_mono ((F _ inB (dicts hns) tabB).run callerA [] s₁ (hpT K a vs ns (cs.map (·.2))) ⟨[.ref a], []⟩ [.ref a] [.ref a] (fun v _ => v = .bl true) hr rfl ent (hbind s₁ (.ref a)) (.cons rfl .nil) ⟨_, no, _, hD, rs, fun z H' r as' hp hres => ?_⟩) fun r s' h => ?_
  · subst hp
    obtain ⟨_, z⟩ := hres
    cases z
    rfl
  · cases r with
    | error e => exact h.elim
    | ok fl =>
      cases fl with
      | ret y =>
        obtain ⟨v, H', os, bare, un, ok', ry, rfl⟩ := h
        obtain rfl : y = Value.bool true := ry
        have each : ∀ (c : Addr) (o : Obj), s₁.heap.get? c = some o → asItWas s₁.heap s'.heap c o := fun c o e => by
          cases q : hpT K a vs ns (cs.map (·.2)) c with
          | none => exact .of_kept (un.keep c o e q (by intro z; cases z) (by simp))
          | some u =>
            rcases hpT_some q with ⟨z1, rfl⟩ | ⟨_, rfl, hk, rfl⟩
            · obtain ⟨more, q2⟩ := un.tbls c _ q
              have e2 := ok' c _ q2
              have e1 := tabAt c z1
              rw [e] at e1
              cases e1
              obtain ⟨p, hp, rfl⟩ := List.mem_map.mp z1
              obtain ⟨oc, fs, _, _, _, _, _, _, _, g1, g2, g3, g4, _⟩ := hcd p hp
              exact .inr (.inl ⟨⟨_, _, _, g1, g2, g3, g4⟩, rfl, #[], more, rfl, e2⟩)
            · obtain ⟨e1, _⟩ := okH c _ q
              obtain ⟨e2, _⟩ := ok' c _ (un.frzs c _ _ q)
              rw [e] at e1
              cases e1
              exact .of_kept e2
        exact ⟨rfl, ⟨each, fun c o e => by
          rcases each c o e with z | ⟨_, _, _, _, _, z⟩ | ⟨_, _, ⟨_, _, _, z, _⟩, _⟩ <;> exact ⟨_, z⟩⟩, os, bare⟩
      | _ => exact False.elim h
end
/-- a def, where its code object matters -/
theorem FnG.ofC {P : Program} {w : World} {K : PySem.W.Frag} [Tb K] {mg : Str → Option Value} {base : Heap} {x qual : Str} {st : Stmt} {f : Addr} {fd : FuncData} {N ps : List Str} {k : Nat} {DS : DSp} (F : Fun K x qual st f fd) (SC : FnScope N ps (defScope st)) (hn : ∀ as post, DS as post → as.length = ps.length)
    (hbody : ∀ (cdv : Value), fd.code = cdv → ∀ (A : Around) (outer : List Env) (s : Shared) (H : Hp) (vs : List V) (fo : AP) (as : List AV) (post : AV → List AV → Prop), Room k (A.deeper (envOfC qual (defScope st) s.heap.objs.size f cdv)) → A.guards = some [] → DS as post →
      BD (coreOf P w K mg base (A.deeper (envOfC qual (defScope st) s.heap.objs.size f cdv)) N (envOfC qual (defScope st) s.heap.objs.size f cdv :: outer)) (varOf s H (envOfC qual (defScope st) s.heap.objs.size f cdv) outer) (Ent.call H as vs fo N.length) (defBody st)
        { nx := fun Γ => post (.dt .non) (outsA as Γ), rt := fun a Γ => post a (outsA as Γ) } (as ++ List.replicate (N.length - as.length) .un)) : FnG P w K mg base (k + 1) f fd ps (spD K DS) := by
  obtain ⟨oc, od, kV, doc, pm, an, cdv, ct, osl, rfl, lk, hcd⟩ := F.ex; refine ⟨fun vs H Q E h => spD_len hn h, fun A outer s H args us vs Q hr hgu e0 hb rv h => ?_⟩
  have ln : vs.length = ps.length := spD_len hn h
  have inK : K.In s.heap := e0.mod.kin.keeps (fun b o z => (e0.bs b o z).1)
  have nolim : s.heap.NoLimit := e0.mod.nolimit.keeps (fun b o z => (e0.bs b o z).1)
  have kinds : ∀ y ∈ ps.zip us, (defScope st).names.lookup y.1 = some .local ∨ ((defScope st).names.lookup y.1 = some .cell ∧ ((cellsFrom (s.heap.objs.size + 1) (defScope st).names []).lookup y.1).isSome = true) := by
    rintro ⟨n, u⟩ hy
    rcases SC.par n (List.of_mem_zip hy).1 with z | z
    · exact .inl z
    · exact .inr ⟨z, PySem.W.cellsFrom_some _ _ _ (.inl z)⟩
  refine codeAny_call_function hr.depth (inK _ _ lk) rfl SC.co SC.gen rfl (PySem.W.codeRec_of inK hcd) (hb _ _ _ _ (wpAny_newFunctionEnv_cells SC.kind kinds fun env henv s1 ic => ?_))
  subst henv
  refine ⟨nolim.keeps ic.toInCall.keep, codeAny_func ?_⟩
  -- the body
  obtain ⟨as, fo, post, hD, rs, hQ⟩ := h
  have la : as.length = ps.length := hn as post hD
  have hNl : ps.length ≤ N.length := by
    have := congrArg List.length SC.pre
    rw [List.length_take] at this
    omega
  have room : Room k (A.deeper (envOfC qual (defScope st) s.heap.objs.size f cdv)) := hr.deeper _
  have bd := hbody cdv rfl A outer s H vs fo as post room hgu hD
  have I0 : Inv (cxOf CX0 P w K mg base N qual (defScope st) f cdv A outer s H E0) [] (start N vs) H s1 := inv_start SC hr.hd e0 ln rv ic
  have I1 : Inv (mkX (coreOf P w K mg base (A.deeper (envOfC qual (defScope st) s.heap.objs.size f cdv)) N (envOfC qual (defScope st) s.heap.objs.size f cdv :: outer)) (varOf s H (envOfC qual (defScope st) s.heap.objs.size f cdv) outer ())) [] (start N vs) H s1 := I0.wish _
  have rs0 := entry_rs rs la ln hNl
  have fin : ∀ (a : AV) (Γ : List AV) (σ' : Sg) (H' : Hp) (z : V), post a (outsA as Γ) → Res K (Ent.call H as vs fo N.length) Γ σ' H' z a → Q z H' := fun a Γ σ' H' z hp hres => hQ z H' a (outsA as Γ) hp (outs_res rs (by omega) hres)
  obtain ⟨t, ht, hq⟩ := bd { nx := fun _ H' => Q .non H', rt := Q } (start N vs) H ⟨fun Γ σ' H' hp hr => fin (.dt .non) Γ σ' H' .non hp ⟨hr, .non⟩, fun a Γ σ' H' z hp hr => fin a Γ σ' H' z hp hr, fun _ _ _ z => z.elim, fun _ _ _ z => z.elim⟩ rs0
  refine wpAny_mono ((ht ()).run [] s1 (start N vs) H _ I1 hq) (fun fl s' hs => ?_) fun e s' hs => hs.elim
  have done : ∀ {σ' : Sg} {H' : Hp} {z : V} {u : Value}, Inv (mkX (coreOf P w K mg base (A.deeper (envOfC qual (defScope st) s.heap.objs.size f cdv)) N (envOfC qual (defScope st) s.heap.objs.size f cdv :: outer)) (varOf s H (envOfC qual (defScope st) s.heap.objs.size f cdv) outer ())) [] σ' H' s' → RelV z u → Q z H' → CE outer P w H s Q u s' :=
    fun {σ' H' z u} J hrel hq => ⟨z, H', J.os, J.bare, J.base, J.hok, hrel, hq⟩
  cases fl with
  | ret u =>
    obtain ⟨z, σ', H', J, hrel, hq⟩ := hs
    exact done J hrel hq
  | next =>
    obtain ⟨σ', H', J, hq⟩ := hs
    exact done (z := V.non) (u := Value.none) J rfl hq
  | brk => obtain ⟨_, _, _, hq⟩ := hs; exact hq.elim
  | cont => obtain ⟨_, _, _, hq⟩ := hs; exact hq.elim
/-- the head's goal, where lambdas make code objects -/
theorem walkGT {l : PySem.W.OpenLaw} {n k : Nat} {q : Program} {loose : List Str} {XP : (Str → Option Value) → Heap → Prop} {YP : World → Heap → Prop} {d : DefRec} {K : Params → PySem.W.Frag} {T : List (Addr × Str)} {cs : List (Addr × Addr)} {DS : DSp} {x : Str}
    (most : l.most = some n) (fits : n ≤ sizeLine) (dfl : d.params.defaults = []) (room : Room k callerA) (part : ∀ (w : World) (h : Heap), YP w h → (K w.params).In h)
    (hT : ∀ p ∈ T, p.1 ∈ cs.map (·.2)) (tabs : ∀ (w : World) (h : Heap), YP w h → ∀ p ∈ cs, h.get? p.2 = some { cls := .none, data := .fields #[] } ∧ (K w.params).lookup p.2 = none ∧ PySem.W.CodeHd h p.1 p.2)
    (law : ∀ (w : World) (mg : Str → Option Value) (fa : Addr) (h : Heap), (K w.params).In h → h.Ns mainGlobals mg → mg d.name = some (.ref fa) → ∃ fd : FuncData, (∀ (s : Shared) (u : Value), BindsTo s fd ⟨[u], []⟩ [(x, u)]) ∧
      ∀ base : Heap, (K w.params).In base → base.Ns mainGlobals mg → (∀ p ∈ cs, LamX.TabB base mg p.1 p.2) → FnG l.prog w (K w.params) mg base k fa fd [x] (@spD (K w.params) ⟨T⟩ DS))
    (prom : ∀ ns : List Int, ns.length ≤ n → DS [.dt (.scr ns)] fun r _ => r = .dt (.bl true)) : PySem.W.WalkO q loose XP YP l.row.toRowW d [] (fun f vs => PySem.call f vs) := by
  refine Att.attach_call most dfl fun w _ s₁ mg mb fa _ _ _ _ a vs ns G Y _ _ _ hmg hobj hints hlen hg => ?_
  obtain ⟨fd, bd, okF⟩ := law w mg fa _ (part w _ Y) G.T.g hmg
  exact @lawGT _ _ (K w.params) ⟨T⟩ _ _ _ _ _ _ _ _ _ _ cs _ hT (fun p hp => (tabs w _ Y p hp).1) (fun p hp => (tabs w _ Y p hp).2.1) (fun p hp => (tabs w _ Y p hp).2.2) G.T.bmain (part w _ Y) G.T.g G.T.b G.T.builtins G.T.nolimit hg hobj hints (Nat.le_trans hlen fits) room okF bd (prom ns hlen)
end DL

/-! comprehensions of two clauses -/
namespace DL
open PySem PySem.Spec
open PyProof.Rows L2
/-- a walk whose item is met again, wherever what it stands on stands -/
theorem Walk.item2 {K : PySem.W.Frag} [Tb K] {S2 : Ent} {J : It} {H1 H' H'' : Hp} {own E : AP} {ds : List Dt} {Γ' : List AV} {σ' : Sg} {j : Nat} {z : V} (w : Walk K J H1 own E ds) (pins : ∀ b o, H1 b = some o → NT o → ¬ own b → H' b = some o ∧ ¬ Own Γ' σ' b)
    (hfo : ∀ b, S2.fo b → E b ∨ H1 b = none) (hE : ∀ b, own b → E b) (r : RS K S2 no Γ' σ' H') (hj : j < ds.length) (y : J.yld j H' z H'') :
    ∃ d, ds[j]? = some d ∧ RS K S2 no Γ' σ' H'' ∧ Rp K H'' (Exc S2 Γ' σ' no) z d ∧ (∀ b o, H' b = some o → H'' b = some o) := by
  have mo : ∀ b o, H1 b = some o → NT o → ¬ E b → H' b = some o ∧ ¬ Exc S2 Γ' σ' no b := fun b o e t n => by
    have q := pins b o e t fun z => n (hE b z)
    refine ⟨q.1, fun y => y.elim q.2 fun y => y.elim (fun y => ?_) id⟩
    rcases hfo b y with z | z
    · exact n z
    · rw [z] at e
      cases e
  obtain ⟨d, ed, h⟩ := w.yld j H' z H'' (fun b o e t n => (pins b o e t n).1) hj y
  refine ⟨d, ed, ?_⟩
  rcases h with ⟨rfl, hr⟩ | ⟨T, vs, es, nT, rfl, rfl, rfl, hr⟩
  · exact ⟨r, hr.mono mo, fun _ _ e => e⟩
  · have := Res.newT r nT (hr.mono mo)
    exact ⟨this.1, this.2, fun b o e => by rw [upd_ne (ne_of_none e nT)]; exact e⟩
/-- a source that stands on no foreign thing -/
def SrcE (c : Core) [Tb c.K] {ι : Type} (v : ι → Var) (S : Ent) (tg iter : Expr) (Γ : List AV) (Q : List Dt → List AV → Prop) : Prop := ∀ (σ : Sg) (H : Hp) (R : It → Hp → Prop), RS c.K S no Γ σ H →
  (∀ J H1 ds Γ1, Q ds Γ1 → RS c.K S no Γ1 σ H1 → Step Γ Γ1 σ H H1 → Walk c.K J H1 (fun b => Own Γ1 σ b ∨ S.fo b) (Exc S Γ1 σ no) ds → R J H1) → wI c v tg iter σ H R
theorem akT_nx {K : PySem.W.Frag} [Tb K] {H : Hp} {ex : AP} {σ : Sg} {Γ : List AV} {x : V} {k : AK} {ds : List Dt} (e : akT Γ k = some ds) (q : RpK K H ex σ x k) : ∃ p xs, x = .ref p ∧ H p = some (.tup xs) ∧ ¬ ex p ∧ RpL K H ex xs ds := by
  rcases k with (_ | d | es | _ | _) | i
  · cases e
  · cases d with
    | tup es => cases e; cases q with | tup e n r => exact ⟨_, _, rfl, e, n, r⟩
    | _ => cases e
  · cases e
  · cases e
  · cases e
  · cases e
section
variable {c : Core} [Tb c.K] {ι : Type} {v : ι → Var} {S : Ent} {Γ : List AV} {tg iter a b : Expr} {es : List Expr} {p pos tpos : Pos} {kk : Nat} {QS : List Dt → List AV → Prop}
theorem sre_T (h : EK c v S iter Γ fun k Γ1 => ∃ ds, akT Γ1 k = some ds ∧ QS ds Γ1) : SrcE c v S tg iter Γ QS := fun σ H R r kk => by
  refine ⟨_, fun i => (show PI (mkX c (v i)) tg iter (iTup c.K (wE c v iter)) from pi_tup (wE.pe i)), ?_⟩
  refine h σ H _ r fun x H1 k Γ1 ⟨ds, ek, q⟩ r1 hk s => ?_
  obtain ⟨a, xs, rfl, ha, n, hx⟩ := akT_nx ek hk
  have na : ¬ (Own Γ1 σ a ∨ S.fo a) := fun z => n (z.elim .inl fun z => .inr (.inl z))
  refine ⟨a, rfl, ⟨xs, .of ha⟩, kk _ _ _ _ q r1 s ⟨fun j H' fr hj => ?_, fun j H' fr hj => ⟨xs, .of (fr _ _ ha trivial na), by rw [hx.len]; exact hj⟩, fun j H' z H'' fr _ y => ?_⟩⟩
  · have hj' : j < xs.length := by rw [hx.len]; exact hj
    exact ⟨xs, xs[j], .of (fr _ _ ha trivial na), List.getElem?_eq_getElem hj'⟩
  · obtain ⟨e1, e2⟩ := y
    obtain ⟨d, ed, hd⟩ := hx.get' (e2 xs (.of (fr _ _ ha trivial na)))
    exact ⟨d, ed, .inl ⟨e1, hd⟩⟩
theorem sre_R1 (hg : ∀ i, Gl (mkX c (v i)) "range") (hm : c.mg "range" = none) (hs : ∀ i, starEach [a] (v i).env = [(false, eval a (v i).env)])
    (h : EA c v S [a] Γ fun as Γ1 => ∃ k n, as = [k] ∧ akD Γ1 k = some (.int n) ∧ (-(2 ^ 62) ≤ n ∧ n < 2 ^ 62) ∧ QS (rngD 0 n.toNat) Γ1) : SrcE c v S tg (.Call (.Name "range" p) [a] [] pos) Γ QS := fun σ H R r kk => by
  refine ⟨_, fun i => pi_range1 (hg i) hm (wA.pa i) (hs i), ?_⟩
  refine h σ H _ r fun xs H1 as Γ1 ⟨k, n, e, ed, ⟨b1, b2⟩, q⟩ r1 hx s => ?_
  subst e
  obtain ⟨x, rfl, hk⟩ := hx.one
  cases akD_of ed hk
  exact ⟨n, rfl, b1, b2, kk _ _ _ _ q r1 s walk_rng⟩
theorem sre_R2 (hg : ∀ i, Gl (mkX c (v i)) "range") (hm : c.mg "range" = none) (hs : ∀ i, starEach [a, b] (v i).env = [(false, eval a (v i).env), (false, eval b (v i).env)]) (hs2 : ∀ i, starEach [b] (v i).env = [(false, eval b (v i).env)])
    (h : EA c v S [a, b] Γ fun as Γ1 => ∃ k l m n, as = [k, l] ∧ akD Γ1 k = some (.int m) ∧ akD Γ1 l = some (.int n) ∧ (-(2 ^ 62) ≤ m ∧ m < 2 ^ 62 ∧ -(2 ^ 62) ≤ n ∧ n < 2 ^ 62) ∧ QS (rngD m (n - m).toNat) Γ1) : SrcE c v S tg (.Call (.Name "range" p) [a, b] [] pos) Γ QS := fun σ H R r kk => by
  refine ⟨_, fun i => pi_range2 (hg i) hm (wA.pa i) (hs i) (hs2 i), ?_⟩
  refine h σ H _ r fun xs H1 as Γ1 ⟨k, l, m, n, e, ed, ed2, b, q⟩ r1 hx s => ?_
  subst e
  obtain ⟨x, y, rfl, hk, hl⟩ := hx.pair
  cases akD_of ed hk
  cases akD_of ed2 hl
  exact ⟨m, n, rfl, b, kk _ _ _ _ q r1 s walk_rng⟩
theorem sre_enumT (hg : ∀ i, Gl (mkX c (v i)) "enumerate") (hm : c.mg "enumerate" = none) (hs : ∀ i, starEach [a] (v i).env = [(false, eval a (v i).env)])
    (h : EA c v S [a] Γ fun as Γ1 => ∃ k ds, as = [k] ∧ akT Γ1 k = some ds ∧ QS (enD ds) Γ1) : SrcE c v S (.Tuple es kk tpos) (.Call (.Name "enumerate" p) [a] [] pos) Γ QS := fun σ H R r kc => by
  refine ⟨_, fun i => (show PI (mkX c (v i)) (.Tuple es kk tpos) (.Call (.Name "enumerate" p) [a] [] pos) (iEnumT c.K (wA c v [a])) from pi_enumT (hg i) hm (wA.pa i) (hs i)), ?_⟩
  refine h σ H _ r fun xs H1 as Γ1 ⟨k, ds, e, ek, q⟩ r1 hx s => ?_
  subst e
  obtain ⟨x, rfl, hk⟩ := hx.one
  obtain ⟨b, ys, rfl, hb, n, hy⟩ := akT_nx ek hk
  have nb : ¬ (Own Γ1 σ b ∨ S.fo b) := fun z => n (z.elim .inl fun z => .inr (.inl z))
  have stands : ∀ H', (∀ b o, H1 b = some o → NT o → ¬ (Own Γ1 σ b ∨ S.fo b) → H' b = some o) → SqT c.K H' b ys := fun H' fr => .of (fr _ _ hb trivial nb)
  refine ⟨b, ys, rfl, .of hb, kc _ _ _ _ q r1 s ⟨fun j H' fr hj => ⟨ys, stands H' fr, rfl, ?_⟩, fun j H' fr hj => ⟨ys, stands H' fr, rfl, ?_⟩, fun j H' z H'' fr hj y => ?_⟩⟩
  · rw [hy.len, ← enD_len]; exact hj
  · rw [hy.len, ← enD_len]; exact hj
  · obtain ⟨T, u, rfl, nT, rfl, hu⟩ := y
    obtain ⟨d, ed, hd⟩ := hy.get' (hu ys (stands H' fr))
    exact ⟨_, enD_get ed, .inr ⟨T, _, _, nT, rfl, rfl, rfl, .cons (.int _) (.cons hd .nil)⟩⟩
end
/-- the second clause's turns -/
theorem lc_inner {c : Core} [Tb c.K] {ι : Type} {v' : BI ι → Var} {S : Ent} {D : Addr} {F : Addr → HO → Prop} {is : List Nat} {tg elt : Expr} {ifs : List Expr} {P : Nat → List Dt → List AV → Prop} {ds : List Dt} {σ : Sg} {H1 : Hp} {Γ1 : List AV} {acc0 : List Dt} {accV0 : List V} {J : It} {n0 : Nat} {Nx : Hp → Prop}
    (hl : ∀ i ∈ is, ∀ p, (i, p) ∉ S.lent) (hS : S.H D = none) (hpn : ∀ b o, S.pn b o → b ≠ D) (hF : ∀ b o, F b o → b ≠ D)
    (r1 : RS c.K (S.lc (· = D) F) no Γ1 σ H1) (hD : H1 D = some (.lst accV0)) (hacc0 : RpL c.K H1 (Exc (S.lc (· = D) F) Γ1 σ no) accV0 acc0) (hn : acc0.length ≤ n0) (hz : n0 + ds.length ≤ 1000000)
    (w : Walk c.K J H1 (fun b => Own Γ1 σ b ∨ (S.lc (· = D) F).fo b) (Exc (S.lc (· = D) F) Γ1 σ no) ds) (p0 : P 0 acc0 (wipeD Γ1 is))
    (step : ∀ j d acc Γ2, ds[j]? = some d → P j acc Γ2 → LcTurn c v' S is tg ifs elt P j d acc Γ2)
    (fin : ∀ acc accV Γ' H', P ds.length acc Γ' → acc.length ≤ n0 + ds.length → (∀ i ∈ is, ∀ a, Γ'[i]? = some a → a = .un) → H' D = some (.lst accV) → RpL c.K H' (Exc (S.lc (· = D) F) Γ' (L2.wipe σ is) no) accV acc → RS c.K (S.lc (· = D) F) no Γ' (L2.wipe σ is) H' → (∀ p, Own Γ' (L2.wipe σ is) p → Own Γ1 σ p) → Nx H') :
    ∃ W : Nat → Nat → Hp → Prop, (∃ m, W 0 m H1) ∧ ∀ j k H, W j k H → J.stop j H ∧ Nx H ∨ J.go j H ∧ ∃ Nx1 : Hp → Prop, (∀ H', Nx1 H' → ∃ k', k' < k ∧ W (j + 1) k' H') ∧
      ∀ x H', J.yld j H x H' → wG c v' tg x (L2.wipe σ is) H' fun σ3 H5 => L2.wipe σ3 is = L2.wipe σ is ∧ wTs c v' ifs σ3 H5 fun b H6 => if b = true then wE c v' elt σ3 H6 fun y H7 => ∃ acc, H7 D = some (.lst acc) ∧ acc.length < sizeLine ∧ Nx1 (upd H7 D (.lst (acc ++ [y]))) else Nx1 H6 := by
  let F' : Addr → HO → Prop := fun b o => F b o ∨ (H1 b = some o ∧ NT o ∧ ¬ (Own Γ1 σ b ∨ (S.lc (· = D) F).fo b))
  have nF' : ∀ b o, F' b o → b ≠ D := fun b o z => z.elim (hF b o) fun z e => z.2.2 (.inr (.inr e))
  refine ⟨fun j m H' => m = ds.length - j ∧ j ≤ ds.length ∧ ∃ acc accV Γ', acc.length ≤ n0 + j ∧ P j acc Γ' ∧ (∀ i ∈ is, ∀ a, Γ'[i]? = some a → a = .un) ∧ H' D = some (.lst accV) ∧ RpL c.K H' (Exc (S.lc (· = D) F') Γ' (L2.wipe σ is) no) accV acc ∧
    RS c.K (S.lc (· = D) F') no Γ' (L2.wipe σ is) H' ∧ ∀ p, Own Γ' (L2.wipe σ is) p → Own Γ1 σ p, ⟨_, rfl, Nat.zero_le _, acc0, accV0, wipeD Γ1 is, by omega, p0, fun i hi => wipeD_un Γ1 hi, hD, hacc0.mono fun b o e _ n => ⟨e, fun z => n (z.elim (fun z => .inl (own_wipe z)) .inr)⟩, ?_, fun p => own_wipe⟩, ?_⟩
  · have rw' := r1.wipe hl
    exact { rw' with
      nts := ⟨rw'.nts.1, fun b o z => z.elim (fun z => rw'.nts.2 b o (.inl z)) fun z => z.elim (fun z => rw'.nts.2 b o (.inr z)) fun z => z.2.1⟩
      pin := fun b o z => z.elim (fun z => rw'.pin b o (.inl z)) fun z => z.elim (fun z => rw'.pin b o (.inr z)) fun z => ⟨z.1, fun y => z.2.2 (.inl (own_wipe y)), id⟩ }
  · rintro j m H' ⟨rfl, hj, acc, accV, Γ', ha, pj, hu, hDl, hacc, r', ow⟩
    have pins : ∀ b o, H1 b = some o → NT o → ¬ (Own Γ1 σ b ∨ (S.lc (· = D) F).fo b) → H' b = some o ∧ ¬ Own Γ' (L2.wipe σ is) b := fun b o e t n => ⟨(r'.pin b o (.inr (.inr ⟨e, t, n⟩))).1, (r'.pin b o (.inr (.inr ⟨e, t, n⟩))).2.1⟩
    by_cases hlt : j < ds.length
    · -- a turn
      refine .inr ⟨w.go j H' (fun b o e t n => (pins b o e t n).1) hlt, fun H2 => ∃ acc accV Γ', acc.length ≤ n0 + (j + 1) ∧ P (j + 1) acc Γ' ∧ (∀ i ∈ is, ∀ a, Γ'[i]? = some a → a = .un) ∧ H2 D = some (.lst accV) ∧ RpL c.K H2 (Exc (S.lc (· = D) F') Γ' (L2.wipe σ is) no) accV acc ∧
        RS c.K (S.lc (· = D) F') no Γ' (L2.wipe σ is) H2 ∧ ∀ p, Own Γ' (L2.wipe σ is) p → Own Γ1 σ p, fun H2 h2 => ⟨_, by omega, rfl, hlt, h2⟩, fun x H2 y => ?_⟩
      obtain ⟨d, ed, r2, hd, frY⟩ := w.item2 (S2 := S.lc (· = D) F') pins (fun b z => .inl (.inr (.inl z))) (fun b z => z.elim .inl fun z => .inr (.inl z)) r' hlt y
      obtain ⟨W, hW, step⟩ := step j d acc Γ' ed pj
      have hDl2 : H2 D = some (.lst accV) := frY _ _ hDl
      have hacc2 : RpL c.K H2 (Exc (S.lc (· = D) F') Γ' (L2.wipe σ is) no) accV acc := hacc.mono fun b o e _ n => ⟨frY b o e, n⟩
      let F2 : Addr → HO → Prop := fun b o => F' b o ∨ (H2 b = some o ∧ NT o ∧ ¬ Own Γ' (L2.wipe σ is) b)
      have r2' : RS c.K (S.lc (· = D) F2) no Γ' (L2.wipe σ is) H2 :=
        { r2 with nts := ⟨r2.nts.1, fun b o z => z.elim (fun z => r2.nts.2 b o (.inl z)) fun z => z.elim (fun z => r2.nts.2 b o (.inr z)) fun z => z.2.1⟩, pin := fun b o z => z.elim (fun z => r2.pin b o (.inl z)) fun z => z.elim (fun z => r2.pin b o (.inr z)) fun z => ⟨z.1, z.2.2, id⟩ }
      have r2w : RS c.K (S.lc (· = D) F2) no (wipeD Γ' is) (L2.wipe σ is) H2 := by
        have := r2'.wipe hl
        rw [wipe_wipe] at this
        exact this
      have ow2 : ∀ p, Own (wipeD Γ' is) (L2.wipe σ is) p → Own Γ' (L2.wipe σ is) p := fun p z => by
        rw [← wipe_wipe σ is] at z
        exact own_wipe z
      have hd2 : Rp c.K H2 (Exc (S.lc (· = D) F2) (wipeD Γ' is) (L2.wipe σ is) no) x d := Rp.sub (fun b z => z.elim (fun z => .inl (ow2 b z)) .inr) hd
      refine step (· = D) F2 _ H2 x _ r2w hd2 fun σ3 Γ3 q3 r3 o3 w3 => ?_
      have ew : L2.wipe σ3 is = L2.wipe σ is := by
        rw [wipe_eq (σ := L2.wipe σ is) (by rw [r3.len, r2w.len]) fun i hi => w3 i fun z => hi (hW i z)]
        exact wipe_wipe σ is
      refine ⟨ew, ?_⟩
      have nOwnD : ∀ {Γx : List AV} {σx : Sg} {Hx : Hp}, RS c.K (S.lc (· = D) F2) no Γx σx Hx → ¬ Own Γx σx D := fun rx z => rx.nfo D z (.inr rfl)
      have back : ∀ {Γx : List AV} {Hx : Hp}, RS c.K (S.lc (· = D) F2) no Γx σ3 Hx → (∀ p, Own Γx σ3 p → Own Γ3 σ3 p) → RS c.K (S.lc (· = D) F') no (wipeD Γx is) (L2.wipe σ is) Hx ∧ (∀ p, Own (wipeD Γx is) (L2.wipe σ is) p → Own Γ1 σ p) ∧ Hx D = some (.lst accV) ∧
          (∀ b o, H2 b = some o → NT o → ¬ Own Γ' (L2.wipe σ is) b → Hx b = some o) := fun {Γx Hx} rx ox => by
        have z := rx.wipe hl
        rw [ew] at z
        refine ⟨{ z with nts := ⟨z.nts.1, fun b o y => z.nts.2 b o (y.elim .inl fun y => .inr (.inl y))⟩, pin := fun b o y => z.pin b o (y.elim .inl fun y => .inr (.inl y)) }, fun p y => ?_, (rx.pin D _ (.inr (.inr ⟨hDl2, trivial, ?_⟩))).1, fun b o e t n => (rx.pin b o (.inr (.inr ⟨e, t, n⟩))).1⟩
        · rw [← ew] at y
          exact ow p (ow2 p (o3 p (ox p (own_wipe y))))
        · exact fun z => r2.nfo D z (.inr rfl)
      refine q3 σ3 H2 _ r3 fun b H4 Γ4 q4 r4 s4 => ?_
      cases b with
      | false =>
        refine iteF ?_
        obtain ⟨z1, z2, z3, z4⟩ := back r4 fun p y => s4.own p y
        refine ⟨acc, accV, wipeD Γ4 is, by omega, q4.2 rfl, fun i hi => wipeD_un Γ4 hi, z3, hacc2.mono fun b o e t n => ⟨z4 b o e t fun z => n (.inl z), fun z => n ?_⟩, z1, z2⟩
        rcases z with z | z
        · refine .inl (ow2 b (o3 b (s4.own b (own_wipe (is := is) ?_))))
          rw [ew]
          exact z
        · exact .inr z
      | true =>
        refine iteT ?_
        refine q4.1 rfl σ3 H4 _ r4 fun y5 H5 a Γ5 ⟨dy, ey, q5⟩ hr5 s5 _ => ?_
        have r5 := hr5.rs
        obtain ⟨z1, z2, z3, z4⟩ := back r5 fun p y => s4.own p (s5.own p y)
        have oo : ∀ b, Own (wipeD Γ5 is) (L2.wipe σ is) b → Own Γ5 σ3 b := fun b z => by
          rw [← ew] at z
          exact own_wipe z
        have ry : Rp c.K H5 (Exc (S.lc (· = D) F') (wipeD Γ5 is) (L2.wipe σ is) no) y5 dy := Rp.sub (fun b z => z.elim (fun z => .inl (oo b z)) .inr) (akD_of (k := .d a) (σ := σ3) ey hr5.rpa)
        have rac : RpL c.K H5 (Exc (S.lc (· = D) F') (wipeD Γ5 is) (L2.wipe σ is) no) accV acc := hacc2.mono fun b o e t n => ⟨z4 b o e t fun z => n (.inl z), fun z => n (z.elim (fun z => .inl (ow2 b (o3 b (s4.own b (s5.own b (oo b z)))))) .inr)⟩
        refine ⟨accV, z3, ?_, acc ++ [dy], accV ++ [y5], wipeD Γ5 is, by rw [List.length_append, List.length_singleton]; omega, q5, fun i hi => wipeD_un Γ5 hi, upd_same, (rac.append (.cons ry .nil)).write (.inr (.inl (.inr rfl))), ?_, z2⟩
        · rw [hacc2.len]
          have := line1 (n := acc.length + 1) (by omega)
          omega
        · have nD5 : ¬ Own (wipeD Γ5 is) (L2.wipe σ is) D := fun z => nOwnD r5 (oo D z)
          have up : ∀ b o, H5 b = some o → b ≠ D → (upd H5 D (.lst (accV ++ [y5]))) b = some o := fun b o e n => by rw [upd_ne n]; exact e
          exact { z1 with
            slots := fun i a e => (z1.slots i a e).mono (fun b o e _ n => ⟨up b o e fun z => n (.inr (.inl (.inr z))), n⟩) fun ds p xs ea es ep _ => up p _ ep fun z => nD5 ⟨i, ds, by rw [← ea]; exact e, by rw [← z]; exact es⟩
            fr := fun b o e n => up b o (z1.fr b o e n) fun z => by rw [z, hS] at e; cases e
            fo := fun b z => by
              refine ⟨?_, (z1.fo b z).2⟩
              by_cases e : b = D
              · rw [e, upd_same]
                exact ⟨_, rfl, trivial⟩
              · rw [upd_ne e]
                exact (z1.fo b z).1
            tabs := tabs_write z1.tabs z3 trivial
            pin := fun b o z => ⟨up b o (z1.pin b o z).1 (z.elim (hpn b o) (nF' b o)), (z1.pin b o z).2⟩ }
    · -- the end
      have e : j = ds.length := by omega
      subst e
      exact .inl ⟨w.stop _ H' (fun b o e t n => (pins b o e t n).1) (Nat.le_refl _), fin acc accV Γ' H' pj ha hu hDl hacc { r' with nts := ⟨r'.nts.1, fun b o y => r'.nts.2 b o (y.elim .inl fun y => .inr (.inl y))⟩, pin := fun b o y => r'.pin b o (y.elim .inl fun y => .inr (.inl y)) } ow⟩
end DL

/-! [elt for .. in .. for .. in ..] -/
namespace DL
open PySem PySem.Spec
open PyProof.Rows L2
theorem wipe_in {σ : Sg} {is is1 : List Nat} (h : ∀ i ∈ is1, i ∈ is) : L2.wipe (L2.wipe σ is1) is = L2.wipe σ is := by
  apply List.ext_getElem?
  intro i
  rw [wipe_get (L2.wipe σ is1), wipe_get σ is, L2.wipe_length]
  by_cases hi : i ∈ is
  · rw [if_pos hi, if_pos hi]
  · rw [if_neg hi, if_neg hi, wipe_get, if_neg fun z => hi (h i z)]
/-- a turn of the first clause -/
def LcTurn2 (c : Core) [Tb c.K] {ι : Type} (v' : BI ι → Var) (S : Ent) (is is1 : List Nat) (tg : Expr) (ifs : List Expr) (tg1 iter1 : Expr) (ifs1 : List Expr) (elt : Expr) (P : Nat → List Dt → List AV → Prop) (j : Nat) (d : Dt) (acc : List Dt) (Γ : List AV) : Prop :=
  ∃ W : List Nat, (∀ i ∈ W, i ∈ is) ∧ ∀ g f, GD c v' (S.lc g f) tg d W (wipeD Γ is) fun Γ1 => TsD c v' (S.lc g f) ifs Γ1 fun b Γ2 =>
    (b = true → SrcE c v' (S.lc g f) tg1 iter1 Γ2 fun ds1 Γ3 => ds1.length ≤ 1000 ∧ ∃ P1 : Nat → List Dt → List AV → Prop, P1 0 acc (wipeD Γ3 is1) ∧ (∀ i e acc1 Γ4, ds1[i]? = some e → P1 i acc1 Γ4 → LcTurn c v' S is1 tg1 ifs1 elt P1 i e acc1 Γ4) ∧ ∀ acc1 Γ4, P1 ds1.length acc1 Γ4 → P (j + 1) acc1 (wipeD Γ4 is)) ∧
    (b = false → P (j + 1) acc (wipeD Γ2 is))
section
variable {c : Core} [Tb c.K] {ι : Type} {v : ι → Var} {S : Ent} {Γ : List AV}
variable {Q : AV → List AV → Prop} {D : DE} {elt tg iter tg1 iter1 : Expr} {ifs ifs1 : List Expr} {pos spos py : Pos} {y : Str}
theorem lc_read2 {own : List (Str × Nat)} {scope : Scope} {is1 : List Nat} (hin : ∀ i ∈ is1, i ∈ own.map (·.2)) (hl : ∀ i ∈ own.map (·.2), ∀ p, (i, p) ∉ S.lent)
    (h : SrcD c v S tg iter Γ fun ds Γ1 => ds.length ≤ 999 ∧ ∃ P : Nat → List Dt → List AV → Prop, P 0 [] (wipeD Γ1 (own.map (·.2))) ∧
      (∀ j d acc Γ2, ds[j]? = some d → P j acc Γ2 → LcTurn2 c (blkV c v scope) S (own.map (·.2)) is1 tg ifs tg1 iter1 ifs1 elt P j d acc Γ2) ∧ ∀ acc Γ2, P ds.length acc Γ2 → Q (.ow acc) (wipeD Γ2 (own.map (·.2))))
    {σ : Sg} {H : Hp} {R : VK} (r : RS c.K S no Γ σ H) (kk : ∀ x H' a Γ', Q a Γ' → Res c.K S Γ' σ H' x a → Step Γ Γ' σ H H' → New H Γ σ x a → R x H') :
    tLc2 (wI c v tg iter) (wG c (blkV c v scope) tg) (wTs c (blkV c v scope) ifs) (wI c (blkV c v scope) tg1 iter1) (wG c (blkV c v scope) tg1) (wTs c (blkV c v scope) ifs1) (wE c (blkV c v scope) elt) (own.map (·.2)) is1 σ H R := by
  generalize own.map (·.2) = is at hin hl h ⊢
  refine h σ H _ r fun J H1 ds Γ1 ⟨hz, P, p0, step, done⟩ r1 s w => ?_
  intro D hD
  have nD := r1.new hD
  -- the invariant
  let F : Addr → HO → Prop := AllPin H1 Γ1 σ
  refine ⟨fun j m H' => m = ds.length - j ∧ j ≤ ds.length ∧ ∃ acc accV Γ', acc.length ≤ j * 1000 ∧ P j acc Γ' ∧ (∀ i ∈ is, ∀ a, Γ'[i]? = some a → a = .un) ∧ H' D = some (.lst accV) ∧ RpL c.K H' (Exc (S.lc (· = D) F) Γ' (L2.wipe σ is) no) accV acc ∧
    RS c.K (S.lc (· = D) F) no Γ' (L2.wipe σ is) H' ∧ ∀ p, Own Γ' (L2.wipe σ is) p → Own Γ1 σ p, ⟨_, rfl, Nat.zero_le _, [], [], wipeD Γ1 is, Nat.zero_le _, p0, fun i hi => wipeD_un Γ1 hi, upd_same, .nil, ?_, fun p => own_wipe⟩, ?_⟩
  · have rw' := r1.wipe hl
    have rD := (rw'.alloc (o := .lst []) hD).ex_mono (ex' := (· = D)) fun _ z => .inr z
    have q := RS.to_fo rD fun p e => by
      subst e
      exact ⟨⟨_, upd_same, trivial⟩, fun z => r1.xtr _ z nD.2.2⟩
    exact q.dopin (fun b o ⟨z1, _, z2⟩ => ⟨by rw [upd_ne (ne_of_none z1 hD)]; exact z1, fun z => z2 (own_wipe z), id⟩) fun b o z => z.2.1
  · rintro j m H' ⟨rfl, hj, acc, accV, Γ', ha, pj, hu, hDl, hacc, r', ow⟩
    have fr : ∀ b o, H1 b = some o → NT o → ¬ Own Γ1 σ b → H' b = some o := fun b o e t n => (r'.pin b o (.inr ⟨e, t, n⟩)).1
    by_cases hlt : j < ds.length
    · -- a turn
      refine .inr ⟨w.go j H' fr hlt, fun H2 => ∃ acc accV Γ', acc.length ≤ (j + 1) * 1000 ∧ P (j + 1) acc Γ' ∧ (∀ i ∈ is, ∀ a, Γ'[i]? = some a → a = .un) ∧ H2 D = some (.lst accV) ∧ RpL c.K H2 (Exc (S.lc (· = D) F) Γ' (L2.wipe σ is) no) accV acc ∧
        RS c.K (S.lc (· = D) F) no Γ' (L2.wipe σ is) H2 ∧ ∀ p, Own Γ' (L2.wipe σ is) p → Own Γ1 σ p, fun H2 h2 => ⟨_, by omega, rfl, hlt, h2⟩, fun x H2 y => ?_⟩
      obtain ⟨d, ed, r2, hd, frY⟩ := w.item (S := S) (f := F) (fo' := fun b => S.fo b ∨ b = D) (fun _ _ z => z) (fun b z => z.elim .inl fun z => .inr (by rw [z]; exact hD)) r' hlt y
      obtain ⟨W, hW, step⟩ := step j d acc Γ' ed pj
      have hDl2 : H2 D = some (.lst accV) := frY _ _ hDl
      have hacc2 : RpL c.K H2 (Exc (S.lc (· = D) F) Γ' (L2.wipe σ is) no) accV acc := hacc.mono fun b o e _ n => ⟨frY b o e, n⟩
      -- the accumulated list is pinned for this turn
      let F2 : Addr → HO → Prop := fun b o => F b o ∨ (H2 b = some o ∧ NT o ∧ ¬ Own Γ' (L2.wipe σ is) b)
      have r2' : RS c.K (S.lc (· = D) F2) no Γ' (L2.wipe σ is) H2 :=
        { r2 with nts := ⟨r2.nts.1, fun b o z => z.elim (fun z => r2.nts.2 b o (.inl z)) fun z => z.elim (fun z => r2.nts.2 b o (.inr z)) fun z => z.2.1⟩, pin := fun b o z => z.elim (fun z => r2.pin b o (.inl z)) fun z => z.elim (fun z => r2.pin b o (.inr z)) fun z => ⟨z.1, z.2.2, id⟩ }
      have r2w : RS c.K (S.lc (· = D) F2) no (wipeD Γ' is) (L2.wipe σ is) H2 := by
        have := r2'.wipe hl
        rw [wipe_wipe] at this
        exact this
      have ow2 : ∀ p, Own (wipeD Γ' is) (L2.wipe σ is) p → Own Γ' (L2.wipe σ is) p := fun p z => by
        rw [← wipe_wipe σ is] at z
        exact own_wipe z
      have hd2 : Rp c.K H2 (Exc (S.lc (· = D) F2) (wipeD Γ' is) (L2.wipe σ is) no) x d := Rp.sub (fun b z => z.elim (fun z => .inl (ow2 b z)) .inr) hd
      refine step (· = D) F2 _ H2 x _ r2w hd2 fun σ3 Γ3 q3 r3 o3 w3 => ?_
      have ew : L2.wipe σ3 is = L2.wipe σ is := by
        rw [wipe_eq (σ := L2.wipe σ is) (by rw [r3.len, r2w.len]) fun i hi => w3 i fun z => hi (hW i z)]
        exact wipe_wipe σ is
      refine ⟨ew, ?_⟩
      have nOwnD : ∀ {Γx : List AV} {σx : Sg} {Hx : Hp}, RS c.K (S.lc (· = D) F2) no Γx σx Hx → ¬ Own Γx σx D := fun rx z => rx.nfo D z (.inr rfl)
      -- the end of a turn, from its last state
      have back : ∀ {Γx : List AV} {Hx : Hp}, RS c.K (S.lc (· = D) F2) no Γx σ3 Hx → (∀ p, Own Γx σ3 p → Own Γ3 σ3 p) → RS c.K (S.lc (· = D) F) no (wipeD Γx is) (L2.wipe σ is) Hx ∧ (∀ p, Own (wipeD Γx is) (L2.wipe σ is) p → Own Γ1 σ p) ∧ Hx D = some (.lst accV) ∧
          (∀ b o, H2 b = some o → NT o → ¬ Own Γ' (L2.wipe σ is) b → Hx b = some o) := fun {Γx Hx} rx ox => by
        have z := rx.wipe hl
        rw [ew] at z
        refine ⟨{ z with nts := ⟨z.nts.1, fun b o y => z.nts.2 b o (y.elim .inl fun y => .inr (.inl y))⟩, pin := fun b o y => z.pin b o (y.elim .inl fun y => .inr (.inl y)) }, fun p y => ?_, (rx.pin D _ (.inr (.inr ⟨hDl2, trivial, ?_⟩))).1, fun b o e t n => (rx.pin b o (.inr (.inr ⟨e, t, n⟩))).1⟩
        · rw [← ew] at y
          exact ow p (ow2 p (o3 p (ox p (own_wipe y))))
        · exact fun z => r2.nfo D z (.inr rfl)
      refine q3 σ3 H2 _ r3 fun b H4 Γ4 q4 r4 s4 => ?_
      cases b with
      | false =>
        refine iteF ?_
        obtain ⟨z1, z2, z3, z4⟩ := back r4 fun p y => s4.own p y
        refine ⟨acc, accV, wipeD Γ4 is, by omega, q4.2 rfl, fun i hi => wipeD_un Γ4 hi, z3, hacc2.mono fun b o e t n => ⟨z4 b o e t fun z => n (.inl z), fun z => n ?_⟩, z1, z2⟩
        rcases z with z | z
        · refine .inl (ow2 b (o3 b (s4.own b (own_wipe (is := is) ?_))))
          rw [ew]
          exact z
        · exact .inr z
      | true =>
        refine iteT ?_
        refine q4.1 rfl σ3 H4 _ r4 fun J1 H5 ds1 Γ5 ⟨hz1, P1, p1, step1, fin1⟩ r5 s5 w1 => ?_
        have nD2 : ¬ Own Γ' (L2.wipe σ is) D := fun z => r2.nfo D z (.inr rfl)
        have fr5 : ∀ b o, H2 b = some o → NT o → ¬ Own Γ' (L2.wipe σ is) b → H5 b = some o := fun b o e t n => (r5.pin b o (.inr (.inr ⟨e, t, n⟩))).1
        have o5 : ∀ p, Own Γ5 σ3 p → Own Γ' (L2.wipe σ is) p := fun p z => ow2 p (o3 p (s4.own p (s5.own p z)))
        have r5' : RS c.K (S.lc (· = D) F) no Γ5 σ3 H5 := { r5 with nts := ⟨r5.nts.1, fun b o y => r5.nts.2 b o (y.elim .inl fun y => .inr (.inl y))⟩, pin := fun b o y => r5.pin b o (y.elim .inl fun y => .inr (.inl y)) }
        have acc5 : RpL c.K H5 (Exc (S.lc (· = D) F) Γ5 σ3 no) accV acc := hacc2.mono fun b o e t n => ⟨fr5 b o e t fun z => n (.inl z), fun z => n (z.elim (fun z => .inl (o5 b z)) .inr)⟩
        have nb1 : ∀ b o, S.pn b o → b ≠ D := fun b o z e => by
          have := (r1.pin b o z).1
          rw [e, hD] at this
          cases this
        have nb2 : ∀ b o, F b o → b ≠ D := fun b o z e => by
          have := z.1
          rw [e, hD] at this
          cases this
        refine lc_inner (S := S) (F := F) (n0 := j * 1000) (P := P1) (fun i hi => hl i (hin i hi)) nD.2.2 nb1 nb2 r5' (fr5 _ _ hDl2 trivial nD2) acc5 ha (by omega) w1 p1 step1 fun acc6 accV6 Γ6 H6 p6 l6 u6 d6 hacc6 r6 o6 => ?_
        have z := r6.wipe hl
        rw [wipe_in hin, ew] at z
        have oo : ∀ b, Own (wipeD Γ6 is) (L2.wipe σ is) b → Own Γ6 (L2.wipe σ3 is1) b := fun b y => by
          rw [← ew, ← wipe_in hin] at y
          exact own_wipe y
        exact ⟨acc6, accV6, wipeD Γ6 is, by omega, fin1 acc6 Γ6 p6, fun i hi => wipeD_un Γ6 hi, d6, hacc6.sub fun b y => y.elim (fun y => .inl (oo b y)) .inr, z, fun p y => ow p (o5 p (o6 p (oo p y)))⟩
    · -- the end
      have e : j = ds.length := by omega
      subst e
      have z := r'.wipe hl
      rw [wipe_wipe] at z
      obtain ⟨z1, z2⟩ := RS.unwipe z (fun i hi => wipeD_un Γ' hi) hl
      have oo : ∀ p, Own (wipeD Γ' is) σ p → Own Γ' (L2.wipe σ is) p := fun p y => by
        have := z2 p y
        rw [← wipe_wipe σ is] at this
        exact own_wipe this
      have s' : Step Γ (wipeD Γ' is) σ H H' := ⟨fun b o e t n => fr b o (s.fr b o e t n) t fun z => n (s.own b z), fun p y => s.own p (ow p (oo p y))⟩
      refine .inl ⟨w.stop _ H' fr (Nat.le_refl _), kk _ _ _ _ (done acc Γ' pj) ⟨D, .lst accV, rfl, ?_, hDl, ⟨accV, rfl, hacc.sub fun b y => ?_⟩, fun y => nD.2.1 y, nD.2.2⟩ s' ?_⟩
      · exact RS.move_fo (S := S) (f := (· = D)) { z1 with nts := ⟨z1.nts.1, fun b o y => z1.nts.2 b o (.inl y)⟩, pin := fun b o y => z1.pin b o (.inl y) } fun b o y e => by
          have := (r1.pin b o y).1
          rw [e, hD] at this
          cases this
      · rcases y with y | y | y
        · exact .inl (oo b y)
        · exact .inr (.inl (.inl y))
        · exact .inr (.inl (.inr y))
      · exact New.back (H' := H1) (Γ' := Γ1) ⟨D, rfl, .inl fun o e => by rw [hD] at e; cases e⟩ s
theorem ed_lc2 {own : List (Str × Nat)} {scope : Scope} {is1 : List Nat} (hin : ∀ i ∈ is1, i ∈ own.map (·.2)) (hN : c.N.Nodup) (ok : ∀ i, BlkOk c.N (v i).env.scope scope own) (hs : NoFold v iter) (hs1 : ∀ env x, foldedSetIterable iter1 env x = pure x) (hl : ∀ i ∈ own.map (·.2), ∀ p, (i, p) ∉ S.lent)
    (h : SrcD c v S tg iter Γ fun ds Γ1 => ds.length ≤ 999 ∧ ∃ P : Nat → List Dt → List AV → Prop, P 0 [] (wipeD Γ1 (own.map (·.2))) ∧
      (∀ j d acc Γ2, ds[j]? = some d → P j acc Γ2 → LcTurn2 c (blkV c v scope) S (own.map (·.2)) is1 tg ifs tg1 iter1 ifs1 elt P j d acc Γ2) ∧ ∀ acc Γ2, P ds.length acc Γ2 → Q (.ow acc) (wipeD Γ2 (own.map (·.2)))) (still : c.calm = true := by rfl) :
    ED c v S (.ListComp elt [⟨tg, iter, ifs, 0⟩, ⟨tg1, iter1, ifs1, 0⟩] scope pos) Γ Q := fun σ H R r kk =>
  ⟨_, fun k => pe_lc2 (X := mkX c (v k)) still hN (wI.pi k) (ok k) hin (fun s H C cl fp => (wG.pg (c := c) (v := blkV c v scope) (k, s, H, C, cl, fp) : PG (mkX c (blkV c v scope (k, s, H, C, cl, fp))) tg _))
    (fun s H C cl fp => (wTs.pts (c := c) (v := blkV c v scope) (k, s, H, C, cl, fp) : PTs (mkX c (blkV c v scope (k, s, H, C, cl, fp))) ifs _)) (fun s H C cl fp => (wI.pi (c := c) (v := blkV c v scope) (k, s, H, C, cl, fp) : PI (mkX c (blkV c v scope (k, s, H, C, cl, fp))) tg1 iter1 _))
    (fun s H C cl fp => (wG.pg (c := c) (v := blkV c v scope) (k, s, H, C, cl, fp) : PG (mkX c (blkV c v scope (k, s, H, C, cl, fp))) tg1 _)) (fun s H C cl fp => (wTs.pts (c := c) (v := blkV c v scope) (k, s, H, C, cl, fp) : PTs (mkX c (blkV c v scope (k, s, H, C, cl, fp))) ifs1 _))
    (fun s H C cl fp => (wE.pe (c := c) (v := blkV c v scope) (k, s, H, C, cl, fp) : PE (mkX c (blkV c v scope (k, s, H, C, cl, fp))) elt _)) (hs k) hs1, lc_read2 hin hl h r kk⟩
end
end DL

/-! list(range(n)) -/
namespace DL
open PySem PySem.Spec
open PyProof.Rows L2
section
variable {c : Core} [Tb c.K] {ι : Type} {v : ι → Var} {S : Ent} {Γ : List AV} {Q : AV → List AV → Prop} {a : Expr} {pos p p2 pos2 : Pos}
theorem ed_listR1 (hgT : ∀ i, Gl (mkX c (v i)) "list") (hmT : c.mg "list" = none) (hg : ∀ i, Gl (mkX c (v i)) "range") (hm : c.mg "range" = none) (na : NoStar v a []) (nr : NoStar v (.Call (.Name "range" p2) [a] [] pos2) [])
    (h : EK c v S a Γ fun k Γ1 => ∃ i, akD Γ1 k = some (.int i) ∧ (0 ≤ i ∧ i ≤ 1000000) ∧ Q (.ow (rngD 0 i.toNat)) Γ1) (still : c.calm = true := by rfl) :
    ED c v S (.Call (.Name "list" p) [.Call (.Name "range" p2) [a] [] pos2] [] pos) Γ Q := fun σ H R r kk => by
  refine ⟨_, fun i => pe_listRg (X := mkX c (v i)) still (hgT i) hmT (prg_1 (hg i) hm (wE.pe i) (na i)) (nr i), h σ H _ r fun x H1 k Γ1 ⟨i, e1, bd, q⟩ r1 hk s1 => ?_⟩
  cases akD_of e1 hk
  have e : i.toNat = (i - 0).toNat := by rw [Int.sub_zero]
  rw [e] at q
  refine ⟨i, rfl, ⟨by omega, by omega, by omega, by omega, by omega⟩, fun t free => kk _ _ _ _ q (Res.newL r1 free (rgR 0 i)) (s1.alloc free) (New.ofL s1 free)⟩
end
end DL
namespace DL
open PySem PySem.Spec
open PyProof.Rows L2
/-- a slot's list, seen as data from here on -/
theorem bd_freeze {c : Core} [Tb c.K] {ι : Type} {v : ι → Var} {S : Ent} {D : DE} {sts : List Stmt} {Γ : List AV} (i : Nat) {ds : List Dt} (g : Γ[i]? = some (.ow ds)) (h : BD c v S sts D (Γ.set i (.dt (.lst ds)))) : BD c v S sts D Γ := fun E σ H L r =>
  h E σ H L (r.freeze g)
end DL

namespace N30
def sm : Nat → (Nat → Int) → Int
  | 0, _ => 0
  | n + 1, f => sm n f + f n
theorem sm_congr {f g : Nat → Int} : ∀ {n : Nat}, (∀ k, k < n → f k = g k) → sm n f = sm n g
  | 0, _ => rfl
  | n + 1, h => by
    show sm n f + f n = sm n g + g n
    rw [sm_congr fun k hk => h k (by omega), h n (by omega)]
theorem sm_add {f g : Nat → Int} : ∀ {n : Nat}, sm n (fun k => f k + g k) = sm n f + sm n g
  | 0 => rfl
  | n + 1 => by
    show sm n _ + (f n + g n) = sm n f + f n + (sm n g + g n)
    rw [sm_add]; omega
theorem sm_first {f : Nat → Int} : ∀ {n : Nat}, sm (n + 1) f = f 0 + sm n fun k => f (k + 1)
  | 0 => by show (0 : Int) + f 0 = f 0 + 0; omega
  | n + 1 => by
    show sm (n + 1) f + f (n + 1) = f 0 + (sm n (fun k => f (k + 1)) + f (n + 1))
    rw [sm_first]; omega
theorem sm_nonneg {f : Nat → Int} : ∀ {n : Nat}, (∀ k, k < n → 0 ≤ f k) → 0 ≤ sm n f
  | 0, _ => Int.le_refl 0
  | n + 1, h => by
    have := sm_nonneg (n := n) fun k hk => h k (by omega)
    have := h n (by omega)
    show 0 ≤ sm n f + f n
    omega
theorem sm_le {f g : Nat → Int} : ∀ {n : Nat}, (∀ k, k < n → f k ≤ g k) → sm n f ≤ sm n g
  | 0, _ => Int.le_refl 0
  | n + 1, h => by
    have := sm_le (n := n) fun k hk => h k (by omega)
    have := h n (by omega)
    show sm n f + f n ≤ sm n g + g n
    omega
theorem sm_term {f : Nat → Int} {k : Nat} : ∀ {n : Nat}, (∀ k, k < n → 0 ≤ f k) → k < n → f k ≤ sm n f
  | n + 1, h, hk => by
    have h1 := sm_nonneg (n := n) fun k hk => h k (by omega)
    have h2 := h n (by omega)
    show f k ≤ sm n f + f n
    by_cases e : k = n
    · subst e; omega
    · have := sm_term (n := n) (fun k hk => h k (by omega)) (show k < n by omega)
      omega
theorem sm_mul {f : Nat → Int} {c : Int} : ∀ {n : Nat}, sm n (fun k => c * f k) = c * sm n f
  | 0 => by show (0 : Int) = c * 0; omega
  | n + 1 => by
    show sm n _ + c * f n = c * (sm n f + f n)
    rw [sm_mul, Int.mul_add]

abbrev D (f : Nat → Int) : Nat → Int := fun k => f (k + 1)
/-- the product of two series by their differences -/
def cv : Nat → (Nat → Int) → (Nat → Int) → Int
  | 0, f, g => f 0 * g 0
  | n + 1, f, g => cv n (D f) g + cv n f (D g)
theorem cv_congr : ∀ {n : Nat} {f g f' g' : Nat → Int}, (∀ k, k ≤ n → f k = f' k) → (∀ k, k ≤ n → g k = g' k) → cv n f g = cv n f' g'
  | 0, _, _, _, _, h1, h2 => by show _ * _ = _ * _; rw [h1 0 (Nat.le_refl _), h2 0 (Nat.le_refl _)]
  | n + 1, _, _, _, _, h1, h2 => by
    show cv n _ _ + cv n _ _ = cv n _ _ + cv n _ _
    rw [cv_congr (fun k hk => h1 (k + 1) (by omega)) (fun k hk => h2 k (by omega)), cv_congr (fun k hk => h1 k (by omega)) (fun k hk => h2 (k + 1) (by omega))]
theorem cv_addl : ∀ {n : Nat} {f f' g : Nat → Int}, cv n (fun k => f k + f' k) g = cv n f g + cv n f' g
  | 0, _, _, _ => Int.add_mul _ _ _
  | n + 1, f, f', g => by
    show cv n (fun k => D f k + D f' k) g + cv n _ _ = (cv n _ _ + cv n _ _) + (cv n _ _ + cv n _ _)
    rw [cv_addl, cv_addl]; omega
theorem cv_addr : ∀ {n : Nat} {f g g' : Nat → Int}, cv n f (fun k => g k + g' k) = cv n f g + cv n f g'
  | 0, _, _, _ => Int.mul_add _ _ _
  | n + 1, f, g, g' => by
    show cv n _ _ + cv n f (fun k => D g k + D g' k) = (cv n _ _ + cv n _ _) + (cv n _ _ + cv n _ _)
    rw [cv_addr, cv_addr]; omega
theorem cv_assoc : ∀ {n : Nat} {f g h : Nat → Int}, cv n (fun k => cv k f g) h = cv n f (fun k => cv k g h)
  | 0, _, _, _ => Int.mul_assoc _ _ _
  | n + 1, f, g, h => by
    show cv n (fun k => cv k (D f) g + cv k f (D g)) h + cv n (fun k => cv k f g) (D h) = cv n (D f) (fun k => cv k g h) + cv n f (fun k => cv k (D g) h + cv k g (D h))
    rw [cv_addl, cv_addr, cv_assoc, cv_assoc, cv_assoc]; omega
theorem cv_comm : ∀ {n : Nat} {f g : Nat → Int}, cv n f g = cv n g f
  | 0, _, _ => Int.mul_comm _ _
  | n + 1, f, g => by
    show cv n _ _ + cv n _ _ = cv n _ _ + cv n _ _
    rw [cv_comm (f := D f), cv_comm (g := D g)]; omega
def ch : Nat → Nat → Int
  | _, 0 => 1
  | 0, _ + 1 => 0
  | n + 1, k + 1 => ch n k + ch n (k + 1)
theorem ch_above : ∀ {n k : Nat}, n < k → ch n k = 0
  | 0, k + 1, _ => rfl
  | n + 1, k + 1, h => by
    show ch n k + ch n (k + 1) = 0
    rw [ch_above (show n < k by omega), ch_above (show n < k + 1 by omega)]; rfl
theorem ch_nonneg : ∀ {n k : Nat}, 0 ≤ ch n k
  | 0, 0 => by decide
  | 0, k + 1 => by show (0 : Int) ≤ 0; omega
  | n + 1, 0 => by show (0 : Int) ≤ 1; omega
  | n + 1, k + 1 => by
    show 0 ≤ ch n k + ch n (k + 1)
    have := ch_nonneg (n := n) (k := k)
    have := ch_nonneg (n := n) (k := k + 1)
    omega
theorem ch_zero (n : Nat) : ch n 0 = 1 := by cases n <;> rfl
theorem cv_sum : ∀ {n : Nat} {f g : Nat → Int}, cv n f g = sm (n + 1) fun k => ch n k * f k * g (n - k)
  | 0, f, g => by
    show f 0 * g 0 = 0 + 1 * f 0 * g 0
    rw [Int.one_mul, Int.zero_add]
  | n + 1, f, g => by
    show cv n (D f) g + cv n f (D g) = _
    rw [cv_sum, cv_sum, sm_first (n := n + 1), sm_first (n := n) (f := fun k => ch n k * f k * D g (n - k))]
    have e1 : (sm (n + 1) fun k => ch (n + 1) (k + 1) * f (k + 1) * g (n + 1 - (k + 1))) = (sm (n + 1) fun k => ch n k * D f k * g (n - k)) + sm (n + 1) fun k => ch n (k + 1) * f (k + 1) * g (n - k) := by
      rw [← sm_add]
      refine sm_congr fun k hk => ?_
      show (ch n k + ch n (k + 1)) * f (k + 1) * g (n + 1 - (k + 1)) = _
      rw [Int.add_mul, Int.add_mul, Nat.succ_sub_succ]
    rw [e1]
    have e2 : (sm (n + 1) fun k => ch n (k + 1) * f (k + 1) * g (n - k)) = sm n fun k => ch n (k + 1) * f (k + 1) * D g (n - (k + 1)) := by
      show sm n _ + ch n (n + 1) * f (n + 1) * g (n - n) = _
      rw [ch_above (Nat.lt_succ_self n), Int.zero_mul, Int.zero_mul, Int.add_zero]
      refine sm_congr fun k hk => ?_
      show _ = _ * g (n - (k + 1) + 1)
      rw [show n - (k + 1) + 1 = n - k by omega]
    rw [e2, ch_zero, ch_zero]
    show _ + (1 * f 0 * g (n - 0 + 1) + _) = 1 * f 0 * g (n + 1 - 0) + _
    rw [Nat.sub_zero, Nat.sub_zero]; omega
/-- partings of n things into j lots -/
def st : Nat → Nat → Int
  | 0, 0 => 1
  | 0, _ + 1 => 0
  | _ + 1, 0 => 0
  | n + 1, j + 1 => st n j + (j + 1 : Nat) * st n (j + 1)
theorem st_above : ∀ {n k : Nat}, n < k → st n k = 0
  | 0, k + 1, _ => rfl
  | n + 1, k + 1, h => by
    show st n k + (k + 1 : Nat) * st n (k + 1) = 0
    rw [st_above (show n < k by omega), st_above (show n < k + 1 by omega), Int.mul_zero]; rfl
theorem st_nonneg : ∀ {n k : Nat}, 0 ≤ st n k
  | 0, 0 => by decide
  | 0, k + 1 => by show (0 : Int) ≤ 0; omega
  | n + 1, 0 => by show (0 : Int) ≤ 0; omega
  | n + 1, k + 1 => by
    show 0 ≤ st n k + (k + 1 : Nat) * st n (k + 1)
    have := st_nonneg (n := n) (k := k)
    have := Int.mul_nonneg (Int.natCast_nonneg (k + 1)) (st_nonneg (n := n) (k := k + 1))
    omega
abbrev L (f : Nat → Int) : Nat → Int := fun j => f (j + 1) + (j : Int) * f j
def tr : Nat → (Nat → Int) → Int
  | 0, f => f 0
  | n + 1, f => tr n (L f)
theorem tr_congr : ∀ {n : Nat} {f g : Nat → Int}, (∀ k, k ≤ n → f k = g k) → tr n f = tr n g
  | 0, _, _, h => h 0 (Nat.le_refl _)
  | n + 1, f, g, h => by
    show tr n _ = tr n _
    refine tr_congr fun k hk => ?_
    show f (k + 1) + _ * f k = g (k + 1) + _ * g k
    rw [h (k + 1) (by omega), h k (by omega)]
theorem tr_add : ∀ {n : Nat} {f g : Nat → Int}, tr n (fun k => f k + g k) = tr n f + tr n g
  | 0, _, _ => rfl
  | n + 1, f, g => by
    show tr n _ = tr n _ + tr n _
    rw [← tr_add]
    refine tr_congr fun k _ => ?_
    show f (k + 1) + g (k + 1) + (k : Int) * (f k + g k) = f (k + 1) + k * f k + (g (k + 1) + k * g k)
    rw [Int.mul_add]; omega
theorem tr_sum : ∀ {n : Nat} {f : Nat → Int}, tr n f = sm (n + 1) fun j => st n j * f j
  | 0, f => by show f 0 = 0 + 1 * f 0; omega
  | n + 1, f => by
    show tr n (L f) = _
    rw [tr_sum, sm_first (n := n + 1)]
    have e0 : st (n + 1) 0 * f 0 = 0 := by show (0 : Int) * _ = 0; omega
    rw [e0, Int.zero_add]
    have e1 : (sm (n + 1) fun j => st (n + 1) (j + 1) * f (j + 1)) = (sm (n + 1) fun j => st n j * f (j + 1)) + sm (n + 1) fun j => (j + 1 : Nat) * st n (j + 1) * f (j + 1) := by
      rw [← sm_add]
      refine sm_congr fun k _ => ?_
      show (st n k + _) * _ = _
      rw [Int.add_mul]
    have e2 : (sm (n + 1) fun j => st n j * L f j) = (sm (n + 1) fun j => st n j * f (j + 1)) + sm (n + 1) fun j => (j : Int) * st n j * f j := by
      rw [← sm_add]
      refine sm_congr fun k _ => ?_
      show st n k * (f (k + 1) + k * f k) = _
      rw [Int.mul_add, ← Int.mul_assoc, Int.mul_comm (st n k) k]
    rw [e1, e2, sm_first (n := n) (f := fun j => (j : Int) * st n j * f j)]
    have e3 : (sm (n + 1) fun j => ((j + 1 : Nat) : Int) * st n (j + 1) * f (j + 1)) = sm n fun j => ((j + 1 : Nat) : Int) * st n (j + 1) * f (j + 1) := by
      show sm n _ + _ * st n (n + 1) * _ = _
      rw [st_above (Nat.lt_succ_self n), Int.mul_zero, Int.zero_mul, Int.add_zero]
    rw [e3]
    have e4 : ((0 : Nat) : Int) * st n 0 * f 0 = 0 := by rw [Int.natCast_zero, Int.zero_mul, Int.zero_mul]
    rw [e4, Int.zero_add]
abbrev e : Nat → Int := fun _ => 1
/-- the difference of a transform -/
theorem tr_D : ∀ {n : Nat} {f : Nat → Int}, tr (n + 1) f = cv n e (fun k => tr k (D f))
  | 0, f => by show f 1 + ((0 : Nat) : Int) * f 0 = 1 * f 1; omega
  | n + 1, f => by
    show tr (n + 1) (L f) = cv n e (fun k => tr k (D f)) + cv n e (fun k => tr (k + 1) (D f))
    rw [tr_D, Int.add_comm, ← cv_addr]
    refine cv_congr (fun _ _ => rfl) fun k _ => ?_
    show tr k (D (L f)) = tr k (L (D f)) + tr k (D f)
    rw [← tr_add]
    refine tr_congr fun j _ => ?_
    show f (j + 2) + ((j + 1 : Nat) : Int) * f (j + 1) = f (j + 2) + j * f (j + 1) + f (j + 1)
    rw [Int.natCast_add, Int.add_mul]; omega
theorem tr_cv : ∀ {n : Nat} {f g : Nat → Int}, tr n (fun k => cv k f g) = cv n (fun k => tr k f) (fun k => tr k g)
  | n, f, g => by
    induction n using Nat.strongRecOn generalizing f g with
    | ind n ih =>
      cases n with
      | zero => rfl
      | succ n =>
        rw [tr_D]
        show cv n e (fun k => tr k (fun j => cv j (D f) g + cv j f (D g))) = cv n (fun k => tr (k + 1) f) _ + cv n _ (fun k => tr (k + 1) g)
        have h1 : cv n e (fun k => tr k (fun j => cv j (D f) g + cv j f (D g))) = cv n e (fun k => cv k (fun i => tr i (D f)) (fun i => tr i g) + cv k (fun i => tr i f) (fun i => tr i (D g))) := by
          refine cv_congr (fun _ _ => rfl) fun k hk => ?_
          rw [tr_add, ih k (by omega), ih k (by omega)]
        rw [h1, cv_addr, ← cv_assoc]
        have h2 : cv n (fun k => tr (k + 1) f) (fun k => tr k g) = cv n (fun k => cv k e (fun i => tr i (D f))) (fun k => tr k g) := cv_congr (fun k _ => tr_D) fun _ _ => rfl
        have h3 : cv n (fun k => tr k f) (fun k => tr (k + 1) g) = cv n (fun k => tr k f) (fun k => cv k e (fun i => tr i (D g))) := cv_congr (fun _ _ => rfl) fun k _ => tr_D
        rw [h2, h3, ← cv_assoc (f := fun k => tr k f)]
        have h4 : cv n (fun k => cv k (fun i => tr i f) e) (fun i => tr i (D g)) = cv n (fun k => cv k e (fun i => tr i f)) (fun i => tr i (D g)) := cv_congr (fun k _ => cv_comm) fun _ _ => rfl
        rw [h4, cv_assoc (f := e) (g := fun k => tr k f)]
/-- g is what the program makes of f -/
def Grows (f g : Nat → Int) : Prop := g 0 = 1 ∧ ∀ n, g (n + 1) = cv n (D f) g
theorem Grows.eq {f g h : Nat → Int} (a : Grows f g) (b : Grows f h) (n : Nat) : g n = h n := by
  induction (n) using Nat.strongRecOn with
  | ind n ih =>
    cases n with
    | zero => rw [a.1, b.1]
    | succ n =>
      rw [a.2, b.2]
      exact cv_congr (fun _ _ => rfl) fun k hk => ih k (by omega)
theorem Grows.tr {f g : Nat → Int} (a : Grows f g) : Grows (fun k => N30.tr k f) (fun k => N30.tr k g) := by
  refine ⟨a.1, fun n => ?_⟩
  show N30.tr (n + 1) g = cv n (fun k => N30.tr (k + 1) f) _
  have h1 : N30.tr (n + 1) g = cv n e (fun k => cv k (fun i => N30.tr i (D f)) (fun i => N30.tr i g)) := by
    rw [tr_D]
    refine cv_congr (fun _ _ => rfl) fun k _ => ?_
    rw [← tr_cv]
    exact tr_congr fun j _ => a.2 j
  rw [h1, ← cv_assoc]
  exact cv_congr (fun k _ => tr_D.symm) fun _ _ => rfl
/-- what the law reckons: bound steps -/
def ws : Nat → Nat → Int
  | 0 => e
  | b + 1 => fun n => tr n (ws b)
theorem grows_e : Grows (fun k => if k = 1 then 1 else 0) e := by
  have hz : ∀ n, cv n (fun _ => 0) e = 0 := by
    intro n
    induction n with
    | zero => rfl
    | succ n ih => show cv n (fun _ => 0) e + cv n (fun _ => 0) e = 0; omega
  refine ⟨rfl, fun n => ?_⟩
  induction n with
  | zero => rfl
  | succ n ih =>
    show (1 : Int) = cv n (fun _ => 0) e + cv n _ e
    rw [hz, Int.zero_add]
    exact ih
theorem cv_e0 : ∀ n, cv n e (fun _ => 0) = 0
  | 0 => rfl
  | n + 1 => by
    show cv n e (fun _ => 0) + cv n e (fun _ => 0) = 0
    rw [cv_e0 n]; rfl
theorem tr_0 : ∀ k, tr k (fun _ => (0 : Int)) = 0
  | 0 => rfl
  | k + 1 => by
    show tr k (L fun _ => (0 : Int)) = 0
    refine Eq.trans (tr_congr fun j _ => ?_) (tr_0 k)
    show (0 : Int) + (j : Int) * 0 = 0
    omega
theorem cv_e1 : ∀ n, cv n e (fun k => if k = 0 then 1 else 0) = 1
  | 0 => rfl
  | n + 1 => by
    show cv n e (fun k => if k = 0 then 1 else 0) + cv n e (fun k => 0) = 1
    rw [cv_e0, cv_e1 n]; rfl
theorem tr_d0 : ∀ k, tr k (fun j => if j = 0 then (1 : Int) else 0) = if k = 0 then 1 else 0
  | 0 => rfl
  | k + 1 => by
    rw [tr_D]
    refine Eq.trans (cv_congr (fun _ _ => rfl) fun i _ => ?_) (cv_e0 k)
    exact tr_0 i
theorem tr_d1 (n : Nat) : tr (n + 1) (fun k => if k = 1 then (1 : Int) else 0) = 1 := by
  rw [tr_D]
  refine Eq.trans (cv_congr (fun _ _ => rfl) fun k _ => ?_) (cv_e1 n)
  refine Eq.trans (tr_congr fun j _ => ?_) (tr_d0 k)
  show (if j + 1 = 1 then (1 : Int) else 0) = _
  by_cases h : j = 0
  · rw [if_pos h, if_pos (by omega)]; skip
  · rw [if_neg h, if_neg (by omega)]; skip
theorem ws_grows : ∀ b : Nat, Grows (ws b) (ws (b + 1))
  | 0 => ⟨rfl, fun n => (grows_e.tr.2 n).trans (cv_congr (fun k _ => tr_d1 k) fun _ _ => rfl)⟩
  | b + 1 => (ws_grows b).tr
theorem ws_nonneg : ∀ {b n : Nat}, 0 ≤ ws b n
  | 0, n => by show (0 : Int) ≤ 1; omega
  | b + 1, n => by
    show 0 ≤ tr n (ws b)
    rw [tr_sum]
    exact sm_nonneg fun k _ => Int.mul_nonneg st_nonneg ws_nonneg
theorem ws_zero : ∀ {b : Nat}, ws b 0 = 1
  | 0 => rfl
  | b + 1 => ws_zero (b := b)
theorem ws_one : ∀ {b : Nat}, ws b 1 = 1
  | 0 => rfl
  | b + 1 => by
    show ws b 1 + ((0 : Nat) : Int) * ws b 0 = 1
    rw [ws_one, ws_zero]; rfl
theorem ws_two : ∀ {b : Nat}, ws b 2 = (b : Int) + 1
  | 0 => rfl
  | b + 1 => by
    show ws b 2 + ((1 : Nat) : Int) * ws b 1 + ((0 : Nat) : Int) * (ws b 1 + ((0 : Nat) : Int) * ws b 0) = ((b + 1 : Nat) : Int) + 1
    rw [ws_two, ws_one, ws_zero]; omega
theorem ws_three : ∀ {b : Nat}, 2 * ws b 3 = 2 * ((b : Int) + 1) + 3 * b * (b + 1)
  | 0 => rfl
  | b + 1 => by
    have e : ws (b + 1) 3 = ws b 3 + 3 * ws b 2 + ws b 1 := by
      show (ws b 3 + ((2 : Nat) : Int) * ws b 2 + ((1 : Nat) : Int) * (ws b 2 + ((1 : Nat) : Int) * ws b 1)) + ((0 : Nat) : Int) * (ws b 2 + ((1 : Nat) : Int) * ws b 1 + ((0 : Nat) : Int) * (ws b 1 + ((0 : Nat) : Int) * ws b 0)) = _
      omega
    have h := ws_three (b := b)
    rw [e, ws_two, ws_one, Int.mul_add, Int.mul_add, h]
    have h1 : ((b + 1 : Nat) : Int) = (b : Int) + 1 := by omega
    rw [h1]
    generalize hx : (b : Int) = x
    have h2 : 3 * (x + 1) * (x + 1 + 1) = 3 * x * (x + 1) + 6 * (x + 1) := by
      rw [Int.mul_add (3 * (x + 1)), Int.mul_assoc 3 (x + 1) (x + 1), Int.mul_add (x+1) x 1, Int.mul_assoc 3 x, Int.mul_comm (x + 1) x]
      omega
    rw [h2]; omega
/-- a bound -/
theorem ws_le : ∀ {b n : Nat}, n ≤ 40 → ws b n ≤ (1 + 40 * b : Int) ^ n := by
  have hs : ∀ (a : Int), 0 ≤ a → ∀ n : Nat, ∀ m : Nat, n + m ≤ 40 → (sm (n + 1) fun j => st n j * a ^ j) ≤ (a + 40) ^ n := by
    intro a ha n
    induction n with
    | zero => intro m hm; show (0 : Int) + 1 * a ^ 0 ≤ _; simp
    | succ n ih =>
      intro m hm
      rw [← tr_sum (n := n + 1) (f := fun j => a ^ j)]
      show tr n (L fun j => a ^ j) ≤ _
      rw [tr_sum]
      have h1 : (sm (n + 1) fun j => st n j * L (fun j => a ^ j) j) ≤ sm (n + 1) fun j => (a + 40) * (st n j * a ^ j) := by
        refine sm_le fun j hj => ?_
        have e1 : st n j * L (fun j => a ^ j) j = (a + (j : Int)) * (st n j * a ^ j) := by
          show st n j * (a ^ (j + 1) + j * a ^ j) = _
          rw [Int.pow_succ, Int.mul_comm (a ^ j) a, ← Int.add_mul, Int.mul_left_comm]
        rw [e1]
        exact Int.mul_le_mul_of_nonneg_right (by omega) (Int.mul_nonneg st_nonneg (Int.pow_nonneg ha))
      refine Int.le_trans h1 ?_
      rw [sm_mul, Int.pow_succ, Int.mul_comm ((a + 40) ^ n)]
      exact Int.mul_le_mul_of_nonneg_left (ih (m + 1) (by omega)) (by omega)
  intro b
  induction b with
  | zero => intro n _; show (1 : Int) ≤ (1 + 40 * ((0 : Nat) : Int)) ^ n; rw [show (1 + 40 * ((0 : Nat) : Int)) = 1 by omega, Int.one_pow]; exact Int.le_refl 1
  | succ b ih =>
    intro n hn
    show tr n (ws b) ≤ _
    rw [tr_sum]
    refine Int.le_trans (sm_le fun j hj => Int.mul_le_mul_of_nonneg_left (ih (show j ≤ 40 by omega)) st_nonneg) ?_
    have := hs (1 + 40 * (b : Int)) (by omega) n 0 (by omega)
    rw [show (1 + 40 * ((b + 1 : Nat) : Int)) = 1 + 40 * (b : Int) + 40 by omega]
    exact this
end N30

/-! what the laws of the second kind share: numbers, lists of numbers, the source of drawn numbers -/
namespace DL
open PySem PySem.Spec
open PyProof.Rows L2
/-- a value of a kind that the law's values have -/
def Knd (d : Dt) : Prop := ∃ t, d.ty = some t
def isW : Dt → Bool
  | .int _ => true
  | _ => false
/-- a whole number that is at least m -/
def isGe (m : Int) : Dt → Bool
  | .int i => decide (m ≤ i)
  | _ => false
theorem isW_eq {d : Dt} : isW d = (isI d && !isB d) := by cases d <;> rfl
def dsWhole : DSp := fun as post => ∃ d, as = [.dt d] ∧ Knd d ∧ post (.dt (.bl (isW d))) [.un]
def dsGe (m : Int) : DSp := fun as post => ∃ d, as = [.dt d] ∧ Knd d ∧ post (.dt (.bl (isGe m d))) [.un]
theorem knd_int (i : Int) : Knd (.int i) := ⟨_, rfl⟩
theorem ntrue {b : Bool} (h : (!b) = true) : b = false := by cases b <;> first | rfl | cases h
theorem nfalse {b : Bool} (h : (!b) = false) : b = true := by cases b <;> first | rfl | cases h
theorem units_of {k : Nat} {A : Around} (r : Room k A) : A.units + 64 < cLine := by
  have := r.un
  omega
theorem take_map_succ {α β : Type} {f : α → β} {l : List α} {j : Nat} {a : α} (h : l[j]? = some a) : (l.take (j + 1)).map f = (l.take j).map f ++ [f a] := by
  rw [List.take_succ, h]
  simp
/-! ### lists of numbers -/
def sq (f : Nat → Int) (n : Nat) : List Dt := (List.range n).map fun i => .int (f i)
theorem sq_len (f : Nat → Int) (n : Nat) : (sq f n).length = n := by unfold sq; rw [List.length_map, List.length_range]
theorem sq_get {f : Nat → Int} {n j : Nat} (h : j < n) : (sq f n)[j]? = some (.int (f j)) := by
  unfold sq
  rw [List.getElem?_map, List.getElem?_range h]; rfl
theorem sq_inv {f : Nat → Int} {n j : Nat} {d : Dt} (h : (sq f n)[j]? = some d) : j < n ∧ d = .int (f j) := by
  have hl := (List.getElem?_eq_some_iff.mp h).1
  rw [sq_len] at hl
  rw [sq_get hl] at h
  exact ⟨hl, (Option.some.inj h).symm⟩
theorem sq_succ (f : Nat → Int) (n : Nat) : sq f (n + 1) = sq f n ++ [.int (f n)] := by
  unfold sq
  rw [List.range_succ, List.map_append]; rfl
theorem sq_first (f : Nat → Int) (n : Nat) : sq f (n + 1) = .int (f 0) :: sq (fun k => f (k + 1)) n := by
  unfold sq
  rw [List.range_succ_eq_map]; rw [List.map_cons, List.map_map]; rfl
theorem sq_congr {f g : Nat → Int} {n : Nat} (h : ∀ k, k < n → f k = g k) : sq f n = sq g n := by
  unfold sq
  exact List.map_congr_left fun k hk => by rw [h k (List.mem_range.mp hk)]
theorem sq_ints (f : Nat → Int) (n : Nat) : sq f n = ((List.range n).map f).map Dt.int := by unfold sq; rw [List.map_map]; rfl
theorem sum_sq {f : Nat → Int} {n : Nat} : ((List.range n).map f).sum = N30.sm n f := by
  induction n with
  | zero => rfl
  | succ n ih =>
    rw [List.range_succ, List.map_append, List.sum_append, ih]
    show _ + (f n + 0) = N30.sm n f + f n
    omega
theorem sq_ones {n : Nat} : (List.replicate n [Dt.int 1]).flatten = sq (fun _ => 1) n := by
  induction n with
  | zero => rfl
  | succ n ih =>
    rw [List.replicate_succ, List.flatten_cons, ih, sq_first]; rfl
theorem atI_get {ds : List Dt} {j : Nat} {d : Dt} (h : ds[j]? = some d) : atI ds (j : Int) = some d := by
  have hl := (List.getElem?_eq_some_iff.mp h).1
  unfold atI ixN
  rw [if_pos (Int.natCast_nonneg j), if_pos (by omega)]
  exact h
theorem atI_last {ds : List Dt} {d : Dt} : atI (ds ++ [d]) (-1) = some d := by
  unfold atI ixN
  rw [if_neg (by decide), if_pos (by rw [List.length_append]; show -((ds.length + 1 : Nat) : Int) ≤ -1; omega)]
  show (ds ++ [d])[(-1 + ((ds ++ [d]).length : Int)).toNat]? = some d
  rw [show (-1 + ((ds ++ [d]).length : Int)).toNat = ds.length by rw [List.length_append]; show (-1 + ((ds.length + 1 : Nat) : Int)).toNat = _; omega]
  simp
theorem sq_at {f : Nat → Int} {n : Nat} {i : Int} (h0 : 0 ≤ i) (h : i < n) : atI (sq f n) i = some (.int (f i.toNat)) := by
  rw [show i = ((i.toNat : Nat) : Int) by omega]
  exact atI_get (sq_get (by omega))
/-! ### the source of drawn numbers: digits left, a number, how many were mixed -/
def Pail (n : Int) (ds : List Dt) : Prop := ∃ a b c : Int, ds = [.int a, .int b, .int c] ∧ 0 ≤ a ∧ b.natAbs < 2 ^ 200 ∧ 0 ≤ c ∧ c ≤ n
theorem Pail.mono {n m : Int} {ds : List Dt} (h : Pail n ds) (hm : n ≤ m) : Pail m ds := by
  obtain ⟨a, b, c, e, h1, h2, h3, h4⟩ := h
  exact ⟨a, b, c, e, h1, h2, h3, by omega⟩
def dsDip : DSp := fun as post => ∃ (n m : Int) (ds : List Dt), as = [.ow ds, .dt (.int m)] ∧ Pail n ds ∧ n ≤ 1000000000 ∧ 0 < m ∧ m ≤ 10 ^ 40 ∧ ∀ (r : Nat) ds', (r : Int) < m → Pail (n + 1) ds' → post (.dt (.int (r : Nat))) [.ow ds', .un]
theorem fmod_in (x : Int) {m : Int} (h : 0 < m) : 0 ≤ x.fmod m ∧ x.fmod m < m := ⟨Int.fmod_nonneg_of_pos _ h, Int.fmod_lt_of_pos _ h⟩
theorem FnG.weaken {P : Program} {w : World} {K : PySem.W.Frag} [Tb K] {mg : Str → Option Value} {base : Heap} {k : Nat} {f : Addr} {fd : FuncData} {ps : List Str} {DS DS' : DSp} (h : ∀ as post, DS' as post → DS as post) (F : FnG P w K mg base k f fd ps (spD K DS)) : FnG P w K mg base k f fd ps (spD K DS') :=
  ⟨fun vs H Q E ⟨as, fo, post, hD, z⟩ => F.len vs H Q E ⟨as, fo, post, h as post hD, z⟩, fun A outer s H args us vs Q hr hgu e0 hb rv ⟨as, fo, post, hD, z⟩ => F.run A outer s H args us vs Q hr hgu e0 hb rv ⟨as, fo, post, h as post hD, z⟩⟩
end DL

/-! the greatest days of chains, as the program finds them -/
namespace N24
open DL L2
abbrev Link := Nat × Nat × Nat
abbrev Days := Nat → Nat → Option Nat
def ld (l : List Nat) (i : Nat) : Nat := l.getD i 0
def relead (l : List Nat) (a b : Nat) : List Nat := l.map fun x => if x = b then a else x
def lot (l : List Nat) (a : Nat) : List Nat := (List.range l.length).filter fun i => decide (ld l i = a)
def join (l : List Nat) (f : Days) (one other d : Nat) : Days := fun x y =>
  if y < x ∧ x < l.length ∧ ((ld l x = ld l one ∧ ld l y = ld l other) ∨ (ld l x = ld l other ∧ ld l y = ld l one)) then some d else f x y
def step (st : List Nat × Days) (k : Link) : List Nat × Days :=
  if ld st.1 k.1 = ld st.1 k.2.1 then st else (relead st.1 (ld st.1 k.1) (ld st.1 k.2.1), join st.1 st.2 k.1 k.2.1 k.2.2)
def run (many : Nat) (ks : List Link) : List Nat × Days := ks.foldl step (List.range many, fun _ _ => none)
def down (ks : List Link) : List Link := ks.mergeSort fun y z => decide (z.2.2 ≤ y.2.2)
def chain (many : Nat) (ks : List Link) (x y : Nat) : Nat := ((run many (down ks)).2 x y).getD 0
/-- one more item of a walk -/
theorem foldl_take {α β : Type} {g : β → α → β} {ys : List α} {i : Nat} {y : α} {s : β} (h : ys[i]? = some y) : (ys.take (i + 1)).foldl g s = g ((ys.take i).foldl g s) y := by
  rw [List.take_add_one, h, List.foldl_append]; rfl
theorem relead_len {l : List Nat} {a b : Nat} : (relead l a b).length = l.length := List.length_map _
theorem step_len {st : List Nat × Days} {k : Link} : (step st k).1.length = st.1.length := by
  unfold step
  split
  · rfl
  · exact relead_len
theorem run_len {many : Nat} {ks : List Link} : (run many ks).1.length = many := by
  unfold run
  have : ∀ (ks : List Link) (st : List Nat × Days), (ks.foldl step st).1.length = st.1.length := fun ks => by
    induction ks with
    | nil => intro st; rfl
    | cons k ks ih => intro st; rw [List.foldl_cons, ih, step_len]
  rw [this, List.length_range]
/-! the lots' days -/
def put (f : Days) (a b d : Nat) : Days := fun x y => if x = max a b ∧ y = min a b then some d else f x y
def row (f : Days) (m : Nat) (ys : List Nat) (d : Nat) : Days := ys.foldl (fun f y => put f m y d) f
def block (f : Days) (ms ys : List Nat) (d : Nat) : Days := ms.foldl (fun f m => row f m ys d) f
theorem row_at {m d : Nat} : ∀ {ys : List Nat} {f : Days} {x y : Nat}, row f m ys d x y = if (∃ z ∈ ys, x = max m z ∧ y = min m z) then some d else f x y
  | [], f, x, y => by
    show f x y = _
    rw [if_neg]
    rintro ⟨z, h, _⟩
    cases h
  | u :: ys, f, x, y => by
    show row (put f m u d) m ys d x y = _
    rw [row_at]
    by_cases h : ∃ z ∈ ys, x = max m z ∧ y = min m z
    · rw [if_pos h, if_pos (by obtain ⟨z, hz, e⟩ := h; exact ⟨z, List.mem_cons_of_mem _ hz, e⟩)]
    · rw [if_neg h]
      unfold put
      by_cases h2 : x = max m u ∧ y = min m u
      · rw [if_pos h2, if_pos ⟨u, List.mem_cons_self, h2⟩]
      · rw [if_neg h2, if_neg]
        rintro ⟨z, hz, e⟩
        rcases (List.mem_cons.mp hz) with rfl | hz
        · exact h2 e
        · exact h ⟨z, hz, e⟩
theorem block_at {ys : List Nat} {d : Nat} : ∀ {ms : List Nat} {f : Days} {x y : Nat}, block f ms ys d x y = if (∃ m ∈ ms, ∃ z ∈ ys, x = max m z ∧ y = min m z) then some d else f x y
  | [], f, x, y => by
    show f x y = _
    rw [if_neg]
    rintro ⟨z, h, _⟩
    cases h
  | u :: ms, f, x, y => by
    show block (row f u ys d) ms ys d x y = _
    rw [block_at, row_at]
    by_cases h : ∃ m ∈ ms, ∃ z ∈ ys, x = max m z ∧ y = min m z
    · rw [if_pos h, if_pos (by obtain ⟨z, hz, e⟩ := h; exact ⟨z, List.mem_cons_of_mem _ hz, e⟩)]
    · rw [if_neg h]
      by_cases h2 : ∃ z ∈ ys, x = max u z ∧ y = min u z
      · rw [if_pos h2, if_pos ⟨u, List.mem_cons_self, h2⟩]
      · rw [if_neg h2, if_neg]
        rintro ⟨z, hz, e⟩
        rcases (List.mem_cons.mp hz) with rfl | hz
        · exact h2 e
        · exact h ⟨z, hz, e⟩
theorem mem_lot {l : List Nat} {a i : Nat} : i ∈ lot l a ↔ i < l.length ∧ ld l i = a := by
  unfold lot
  rw [List.mem_filter, List.mem_range, decide_eq_true_iff]
theorem block_join {l : List Nat} {f : Days} {one other d : Nat} (h : ld l one ≠ ld l other) : block f (lot l (ld l one)) (lot l (ld l other)) d = join l f one other d := by
  funext x y
  rw [block_at]
  unfold join
  by_cases z : y < x ∧ x < l.length ∧ ((ld l x = ld l one ∧ ld l y = ld l other) ∨ (ld l x = ld l other ∧ ld l y = ld l one))
  · rw [if_pos z, if_pos]
    obtain ⟨z1, z2, z3 | z3⟩ := z
    · exact ⟨x, mem_lot.mpr ⟨z2, z3.1⟩, y, mem_lot.mpr ⟨by omega, z3.2⟩, by omega, by omega⟩
    · exact ⟨y, mem_lot.mpr ⟨by omega, z3.2⟩, x, mem_lot.mpr ⟨z2, z3.1⟩, by omega, by omega⟩
  · rw [if_neg z, if_neg]
    rintro ⟨m, hm, w, hw, e1, e2⟩
    obtain ⟨m1, m2⟩ := mem_lot.mp hm
    obtain ⟨w1, w2⟩ := mem_lot.mp hw
    have ne : m ≠ w := fun e => h (by rw [← m2, ← w2, e])
    apply z
    by_cases g : m < w
    · obtain rfl : x = w := by omega
      obtain rfl : y = m := by omega
      exact ⟨g, w1, .inr ⟨w2, m2⟩⟩
    · obtain rfl : x = m := by omega
      obtain rfl : y = w := by omega
      exact ⟨by omega, m1, .inl ⟨m2, w2⟩⟩
/-! the leaders -/
def sets (l ys : List Nat) (a : Nat) : List Nat := ys.foldl (fun l y => l.set y a) l
theorem sets_len {a : Nat} : ∀ {ys l : List Nat}, (sets l ys a).length = l.length
  | [], _ => rfl
  | y :: ys, l => by
    show (sets (l.set y a) ys a).length = _
    rw [sets_len, List.length_set]
theorem sets_at {a : Nat} : ∀ {ys l : List Nat} {i : Nat}, i < l.length → ld (sets l ys a) i = if i ∈ ys then a else ld l i
  | [], l, i, _ => by rw [if_neg (by simp)]; rfl
  | y :: ys, l, i, h => by
    show ld (sets (l.set y a) ys a) i = _
    rw [sets_at (by rw [List.length_set]; exact h)]
    by_cases h1 : i ∈ ys
    · rw [if_pos h1, if_pos (List.mem_cons_of_mem _ h1)]
    · rw [if_neg h1]
      unfold ld
      rw [List.getD_eq_getElem?_getD, List.getD_eq_getElem?_getD]
      by_cases h2 : y = i
      · subst h2
        rw [if_pos List.mem_cons_self, List.getElem?_set_self h]; rfl
      · rw [if_neg (fun z => (List.mem_cons.mp z).elim (fun z => h2 z.symm) h1), List.getElem?_set_ne h2]
theorem ld_get {l : List Nat} {i : Nat} (h : i < l.length) : l[i]? = some (ld l i) := by
  unfold ld; rw [List.getD_eq_getElem?_getD, List.getElem?_eq_getElem h]; rfl
theorem sets_relead {l : List Nat} {a b : Nat} : sets l (lot l b) a = relead l a b := by
  apply List.ext_getElem?
  intro i
  by_cases h : i < l.length
  · rw [ld_get (l := sets l (lot l b) a) (by rw [sets_len]; exact h), sets_at h]
    unfold relead
    rw [List.getElem?_map, ld_get h, Option.map_some]
    by_cases z : ld l i = b
    · rw [if_pos z, if_pos (mem_lot.mpr ⟨h, z⟩)]
    · rw [if_neg z, if_neg fun y => z (mem_lot.mp y).2]
  · rw [List.getElem?_eq_none (by rw [sets_len]; omega), List.getElem?_eq_none (by rw [relead_len]; omega)]
/-! as the program's values -/
def lkD (k : Link) : Dt := .tup [.int (k.1 : Nat), .int (k.2.1 : Nat), .int (k.2.2 : Nat)]
def natD (l : List Nat) : List Dt := l.map fun (n : Nat) => Dt.int (n : Int)
def tabD (g : Nat → Nat → Nat) (n : Nat) : Dt := .tup ((List.range n).map fun x => .tup ((List.range x).map fun y => .int (g x y : Nat)))
def Rel (kvs : List (List Key × Dt)) (f : Days) : Prop := ∀ a b : Nat, getD' kvs (tkey [(a : Int), (b : Int)]) = (f a b).map fun d => Dt.int (d : Nat)
theorem Rel.put {kvs : List (List Key × Dt)} {f : Days} (r : Rel kvs f) {a b d : Nat} : Rel (putD kvs (tkey [((max a b : Nat) : Int), ((min a b : Nat) : Int)]) (.int (d : Nat))) (N24.put f a b d) := fun x y => by
  rw [getD'_put]
  unfold N24.put
  by_cases h : x = max a b ∧ y = min a b
  · rw [if_pos h, if_pos (by rw [h.1, h.2])]; rfl
  · rw [if_neg h, if_neg]
    · exact r x y
    · intro e
      have := tkey_inj e
      simp only [List.cons.injEq, Int.natCast_inj, and_true] at this
      exact h ⟨this.1.symm, this.2.symm⟩
theorem down_D (ks : List Link) : (ks.map lkD).mergeSort (fun y z => decide (dInt 2 z ≤ dInt 2 y)) = (down ks).map lkD := by
  unfold down
  rw [List.map_mergeSort]
  intro a _ b _
  show decide (b.2.2 ≤ a.2.2) = decide ((b.2.2 : Int) ≤ (a.2.2 : Int))
  simp only [Int.ofNat_le]
theorem down_mem {ks : List Link} {k : Link} : k ∈ down ks ↔ k ∈ ks := List.mem_mergeSort
theorem down_len {ks : List Link} : (down ks).length = ks.length := List.length_mergeSort _
def links (g : Nat → Nat → Nat) (n : Nat) : List Link := (List.range n).flatMap fun x => (List.range x).map fun y => (x, y, g x y)
theorem links_succ {g : Nat → Nat → Nat} {n : Nat} : links g (n + 1) = links g n ++ (List.range n).map fun y => (n, y, g n y) := by
  unfold links
  rw [List.range_succ, List.flatMap_append]
  simp
theorem mem_links {g : Nat → Nat → Nat} {n : Nat} {k : Link} : k ∈ links g n ↔ k.1 < n ∧ k.2.1 < k.1 ∧ k.2.2 = g k.1 k.2.1 := by
  unfold links
  obtain ⟨a, b, d⟩ := k
  simp only [List.mem_flatMap, List.mem_map, List.mem_range, Prod.mk.injEq]
  constructor
  · rintro ⟨x, hx, y, hy, rfl, rfl, rfl⟩
    exact ⟨hx, hy, rfl⟩
  · rintro ⟨h1, h2, h3⟩
    exact ⟨a, h1, b, h2, rfl, rfl, h3.symm⟩
theorem links_len {g : Nat → Nat → Nat} {n : Nat} : (links g n).length ≤ n * n := by
  induction n with
  | zero => exact Nat.le_refl _
  | succ n ih =>
    rw [links_succ, List.length_append, List.length_map, List.length_range]
    have : (n + 1) * (n + 1) = n * n + 2 * n + 1 := by
      rw [Nat.add_mul, Nat.mul_add]; omega
    omega
theorem enR {n j : Nat} {f : Nat → Dt} {d : Dt} (h : (enD ((List.range n).map f))[j]? = some d) : j < n ∧ d = .tup [.int (j : Nat), f j] := by
  have l := (List.getElem?_eq_some_iff.mp h).1
  rw [enD_len, List.length_map, List.length_range] at l
  refine ⟨l, ?_⟩
  rw [enD_get (d := f j) (by rw [List.getElem?_map, List.getElem?_range l]; rfl)] at h
  exact (Option.some.inj h).symm
theorem nat_at {l : List Nat} {i : Nat} (h : i < l.length) : atI (natD l) (i : Int) = some (.int (ld l i : Nat)) :=
  DL.atI_get (by unfold natD; rw [List.getElem?_map, ld_get h]; rfl)
theorem ixN_nat {n i : Nat} (h : i < n) : ixN n (i : Int) = some i := by
  unfold ixN
  rw [if_pos (Int.natCast_nonneg i), if_pos (by omega)]; rfl
theorem natD_set {l : List Nat} {i a : Nat} : (natD l).set i (.int (a : Nat)) = natD (l.set i a) := by
  unfold natD
  rw [List.map_set]
theorem natD_len {l : List Nat} : (natD l).length = l.length := List.length_map _
theorem rngD_nat {n : Nat} : rngD 0 ((n : Int)).toNat = natD (List.range n) := by
  unfold rngD natD
  rw [Int.toNat_natCast]
  exact List.map_congr_left fun i _ => by rw [Int.zero_add]
theorem natD_at {l : List Nat} {j : Nat} {d : Dt} (h : (natD l)[j]? = some d) : ∃ y, l[j]? = some y ∧ d = .int (y : Nat) := by
  unfold natD at h
  rw [List.getElem?_map] at h
  cases e : l[j]? with
  | none => rw [e] at h; (cases h)
  | some y => rw [e] at h; exact ⟨y, rfl, (Option.some.inj h).symm⟩
theorem max_int {m y : Nat} : (if (y : Int) > (m : Int) then (y : Int) else (m : Int)) = ((max m y : Nat) : Int) := by
  split <;> omega
theorem min_int {m y : Nat} : (if (y : Int) < (m : Int) then (y : Int) else (m : Int)) = ((min m y : Nat) : Int) := by
  split <;> omega
theorem lot_len {l : List Nat} {a : Nat} : (lot l a).length ≤ l.length := by
  unfold lot
  have := List.length_filter_le (fun i => decide (ld l i = a)) (List.range l.length)
  rw [List.length_range] at this
  exact this
end N24

namespace K24
open N24 PySem PySem.Spec PyProof.Rows L2 DL
def topS (i : Nat) : Stmt := PySem.Challenge.pw_commondays_k24_errors_of_the_nearest_his.main.body.getD i (.Pass ⟨0, 0, 0, 0⟩)
abbrev s_table_links : Stmt := topS 1
theorem sc_table_links : FnScope ["table", "late", "row", "early", "day"] ["table"] (defScope s_table_links) := ⟨rfl, rfl, rfl, by decide +kernel, rfl, by decide +kernel, by decide +kernel⟩
abbrev s_chain_table : Stmt := topS 2
theorem sc_chain_table : FnScope ["many", "links", "leader", "days", "one", "other", "day", "ours", "theirs", "mine", "yours", "late", "item", "early"] ["many", "links"] (defScope s_chain_table) := ⟨rfl, rfl, rfl, by decide +kernel, rfl, by decide +kernel, by decide +kernel⟩
def dsLinks : DSp := fun as post => ∃ (g : Nat → Nat → Nat) (n : Nat), as = [.dt (tabD g n)] ∧ n ≤ 40 ∧ post (.ow ((links g n).map lkD)) [.un]
section
variable {P : Program} {w : World} {K : PySem.W.Frag} [Tb K] {mg : Str → Option Value} {base : Heap}
theorem ok_table_links (m_enumerate : mg "enumerate" = none) {f : Addr} {fd : FuncData} (F : Fun K "table_links" "table_links" s_table_links f fd) : FnG P w K mg base 1 f fd ["table"] (spD K dsLinks) := by
  refine FnG.of F sc_table_links (fun as post h => by obtain ⟨_, _, h⟩ := h; rw [h.1]; rfl) fun cdv A outer s H vs fo as post hr hgu hD => ?_
  obtain ⟨h, n, rfl, hn, hq⟩ := hD
  have a0 : At (coreOf P w K mg base (A.deeper (envOfC "table_links" (defScope s_table_links) s.heap.objs.size f cdv)) ["table", "late", "row", "early", "day"] ((envOfC "table_links" (defScope s_table_links) s.heap.objs.size f cdv) :: outer)) (varOf s H (envOfC "table_links" (defScope s_table_links) s.heap.objs.size f cdv) outer) "table" 0 := ⟨rfl, fun _ => by first | exact .inl rfl | exact .inr (.inl rfl), by decide, by decide⟩
  have s0 : AtS (coreOf P w K mg base (A.deeper (envOfC "table_links" (defScope s_table_links) s.heap.objs.size f cdv)) ["table", "late", "row", "early", "day"] ((envOfC "table_links" (defScope s_table_links) s.heap.objs.size f cdv) :: outer)) (varOf s H (envOfC "table_links" (defScope s_table_links) s.heap.objs.size f cdv) outer) "table" 0 := ⟨sc_table_links.nd, rfl, fun _ => by first | exact .inl rfl | exact .inr rfl, fun _ => .inl rfl⟩
  show BD _ _ _ _ _ [.dt (tabD h n), .un, .un, .un, .un]
  refine (bd_cons (sd_ret (ed_lc2 (own := [("late", 1), ("row", 2), ("early", 3), ("day", 4)]) (is1 := [3, 4]) (by decide) sc_table_links.nd (fun _ => blkOk_by rfl) (fun _ _ => rfl) (fun _ _ => rfl) (nls rfl) (src_enumT (fun _ => rfl) m_enumerate (fun _ => rfl) (ea_cons (fun _ => rfl) (ek_ed (ed_name 0 a0 rfl (ea_nil ⟨_, _, rfl, rfl, ⟨?_, (fun x acc Γ => Γ = [AV.dt (tabD h n), .un, .un, .un, .un] ∧ acc = (links h x).map lkD), ?_, ?_, ?_⟩⟩))))))))
  · rw [enD_len, List.length_map, List.length_range]; omega
  · exact ⟨rfl, rfl⟩
  · rintro x d acc Γ2 hd ⟨rfl, rfl⟩
    obtain ⟨hx, rfl⟩ := enR hd
    refine ⟨_, (by decide), fun g ff => (gd_tup (fun _ => rfl) (fun _ => rfl) (gds_cons (fun _ => rfl) (gd_name 1 (ats_of sc_table_links.nd rfl (fun _ => rfl) (fun _ => rfl)) (lt1 rfl) (nl rfl) (gds_cons (fun _ => rfl) (gd_name 2 (ats_of sc_table_links.nd rfl (fun _ => rfl) (fun _ => rfl)) (lt1 rfl) (nl rfl) (gds_nil (ts_nil ⟨fun _ => (sre_enumT (fun _ => rfl) m_enumerate (fun _ => rfl) (ea_cons (fun _ => rfl) (ek_ed (ed_name 2 (at_of rfl (fun _ => rfl) rfl rfl) rfl (ea_nil ⟨_, _, rfl, rfl, ⟨?_, (fun y acc Γ => Γ = [AV.dt (tabD h n), .dt (.int (x : Nat)), .dt (.tup ((List.range x).map fun y => .int (h x y : Nat))), .un, .un] ∧ acc = (links h x).map lkD ++ ((List.range y).map fun b => (x, b, h x b)).map lkD), ?_, ?_, ?_⟩⟩))))), fun hif => nomatch hif⟩)))))))⟩
    · rw [enD_len, List.length_map, List.length_range]; omega
    · exact ⟨rfl, by simp⟩
    · rintro y d acc Γ2 hd ⟨rfl, rfl⟩
      obtain ⟨hy, rfl⟩ := enR hd
      refine ⟨_, (by decide), fun g ff => (gd_tup (fun _ => rfl) (fun _ => rfl) (gds_cons (fun _ => rfl) (gd_name 3 (ats_of sc_table_links.nd rfl (fun _ => rfl) (fun _ => rfl)) (lt1 rfl) (nl rfl) (gds_cons (fun _ => rfl) (gd_name 4 (ats_of sc_table_links.nd rfl (fun _ => rfl) (fun _ => rfl)) (lt1 rfl) (nl rfl) (gds_nil (ts_nil ⟨fun _ => (ed_tup (ea_cons (fun _ => rfl) (ek_ed (ed_name 1 (at_of rfl (fun _ => rfl) rfl rfl) rfl (ea_cons (fun _ => rfl) (ek_ed (ed_name 3 (at_of rfl (fun _ => rfl) rfl rfl) rfl (ea_cons (fun _ => rfl) (ek_ed (ed_name 4 (at_of rfl (fun _ => rfl) rfl rfl) rfl (ea_nil ⟨_, rfl, le1 rfl, ⟨_, rfl, ?_⟩⟩))))))))))), fun hif => nomatch hif⟩)))))))⟩
      refine ⟨rfl, ?_⟩
      rw [List.append_assoc]
      congr 1
      rw [List.range_succ, List.map_append, List.map_append]; rfl
    · rintro acc Γ2 ⟨rfl, rfl⟩
      refine ⟨rfl, ?_⟩
      rw [enD_len, List.length_map, List.length_range, links_succ, List.map_append]
  · rintro acc Γ2 ⟨rfl, rfl⟩
    rw [enD_len, List.length_map, List.length_range]
    exact hq
end
end K24

namespace K24
open N24 PySem PySem.Spec PyProof.Rows L2 DL
/-- the links of items -/
def Lks (n : Nat) (ks : List Link) : Prop := ∀ k ∈ ks, k.1 < n ∧ k.2.1 < n
def dsChain : DSp := fun as post => ∃ (n : Nat) (ks : List Link), as = [.dt (.int (n : Nat)), .dt (.lst (ks.map lkD))] ∧ n ≤ 40 ∧ ks.length ≤ 500 ∧ Lks n ks ∧ post (.dt (tabD (chain n ks) n)) [.un, .un]
/-- the name of the lambda -/
def nmChain : Str := Str.ofString "chain_table" ++ Str.ofString ".<locals>." ++ Str.ofString "<lambda>"
theorem ints_nat {l : List Nat} : natD l = l.map fun (i : Nat) => Dt.int (i : Int) := rfl
theorem filt {l : List Nat} {a x : Nat} : (List.range (x + 1)).filter (fun i => decide (ld l i = a)) = (List.range x).filter (fun i => decide (ld l i = a)) ++ if ld l x = a then [x] else [] := by
  rw [List.range_succ, List.filter_append]
  congr 1
  by_cases h : ld l x = a
  · simp [h]
  · simp [h]
section
variable {P : Program} {w : World} {K : PySem.W.Frag} [Tb K] {mg : Str → Option Value} {base : Heap}
theorem ok_chain_table (m_list : mg "list" = none) (m_range : mg "range" = none) (m_sorted : mg "sorted" = none) (m_max : mg "max" = none) (m_min : mg "min" = none) (m_tuple : mg "tuple" = none) {C Pt : Addr} (TBc : LamX.TabB base mg C Pt) (hT : (Pt, nmChain) ∈ Tb.tb K) (only : ∀ p ∈ Tb.tb K, p.1 = Pt → p.2 = nmChain) {f : Addr} {fd : FuncData} (F : Fun K "chain_table" "chain_table" s_chain_table f fd) (hC : fd.code = .ref C) : FnG P w K mg base 1 f fd ["many", "links"] (spD K dsChain) := by
  refine FnG.ofC F sc_chain_table (fun as post h => by obtain ⟨_, _, h⟩ := h; rw [h.1]; rfl) fun cdv hcd A outer s H vs fo as post hr hgu hD => ?_
  obtain ⟨n, ks, rfl, hn, hks0, hks, hq⟩ := hD
  have a0 : At (coreOf P w K mg base (A.deeper (envOfC "chain_table" (defScope s_chain_table) s.heap.objs.size f cdv)) ["many", "links", "leader", "days", "one", "other", "day", "ours", "theirs", "mine", "yours", "late", "item", "early"] ((envOfC "chain_table" (defScope s_chain_table) s.heap.objs.size f cdv) :: outer)) (varOf s H (envOfC "chain_table" (defScope s_chain_table) s.heap.objs.size f cdv) outer) "many" 0 := ⟨rfl, fun _ => by first | exact .inl rfl | exact .inr (.inl rfl), by decide, by decide⟩
  have s0 : AtS (coreOf P w K mg base (A.deeper (envOfC "chain_table" (defScope s_chain_table) s.heap.objs.size f cdv)) ["many", "links", "leader", "days", "one", "other", "day", "ours", "theirs", "mine", "yours", "late", "item", "early"] ((envOfC "chain_table" (defScope s_chain_table) s.heap.objs.size f cdv) :: outer)) (varOf s H (envOfC "chain_table" (defScope s_chain_table) s.heap.objs.size f cdv) outer) "many" 0 := ⟨sc_chain_table.nd, rfl, fun _ => by first | exact .inl rfl | exact .inr rfl, fun _ => .inl rfl⟩
  have a1 : At (coreOf P w K mg base (A.deeper (envOfC "chain_table" (defScope s_chain_table) s.heap.objs.size f cdv)) ["many", "links", "leader", "days", "one", "other", "day", "ours", "theirs", "mine", "yours", "late", "item", "early"] ((envOfC "chain_table" (defScope s_chain_table) s.heap.objs.size f cdv) :: outer)) (varOf s H (envOfC "chain_table" (defScope s_chain_table) s.heap.objs.size f cdv) outer) "links" 1 := ⟨rfl, fun _ => by first | exact .inl rfl | exact .inr (.inl rfl), by decide, by decide⟩
  have s1 : AtS (coreOf P w K mg base (A.deeper (envOfC "chain_table" (defScope s_chain_table) s.heap.objs.size f cdv)) ["many", "links", "leader", "days", "one", "other", "day", "ours", "theirs", "mine", "yours", "late", "item", "early"] ((envOfC "chain_table" (defScope s_chain_table) s.heap.objs.size f cdv) :: outer)) (varOf s H (envOfC "chain_table" (defScope s_chain_table) s.heap.objs.size f cdv) outer) "links" 1 := ⟨sc_chain_table.nd, rfl, fun _ => by first | exact .inl rfl | exact .inr rfl, fun _ => .inl rfl⟩
  have a2 : At (coreOf P w K mg base (A.deeper (envOfC "chain_table" (defScope s_chain_table) s.heap.objs.size f cdv)) ["many", "links", "leader", "days", "one", "other", "day", "ours", "theirs", "mine", "yours", "late", "item", "early"] ((envOfC "chain_table" (defScope s_chain_table) s.heap.objs.size f cdv) :: outer)) (varOf s H (envOfC "chain_table" (defScope s_chain_table) s.heap.objs.size f cdv) outer) "leader" 2 := ⟨rfl, fun _ => by first | exact .inl rfl | exact .inr (.inl rfl), by decide, by decide⟩
  have s2 : AtS (coreOf P w K mg base (A.deeper (envOfC "chain_table" (defScope s_chain_table) s.heap.objs.size f cdv)) ["many", "links", "leader", "days", "one", "other", "day", "ours", "theirs", "mine", "yours", "late", "item", "early"] ((envOfC "chain_table" (defScope s_chain_table) s.heap.objs.size f cdv) :: outer)) (varOf s H (envOfC "chain_table" (defScope s_chain_table) s.heap.objs.size f cdv) outer) "leader" 2 := ⟨sc_chain_table.nd, rfl, fun _ => by first | exact .inl rfl | exact .inr rfl, fun _ => .inl rfl⟩
  have a3 : At (coreOf P w K mg base (A.deeper (envOfC "chain_table" (defScope s_chain_table) s.heap.objs.size f cdv)) ["many", "links", "leader", "days", "one", "other", "day", "ours", "theirs", "mine", "yours", "late", "item", "early"] ((envOfC "chain_table" (defScope s_chain_table) s.heap.objs.size f cdv) :: outer)) (varOf s H (envOfC "chain_table" (defScope s_chain_table) s.heap.objs.size f cdv) outer) "days" 3 := ⟨rfl, fun _ => by first | exact .inl rfl | exact .inr (.inl rfl), by decide, by decide⟩
  have s3 : AtS (coreOf P w K mg base (A.deeper (envOfC "chain_table" (defScope s_chain_table) s.heap.objs.size f cdv)) ["many", "links", "leader", "days", "one", "other", "day", "ours", "theirs", "mine", "yours", "late", "item", "early"] ((envOfC "chain_table" (defScope s_chain_table) s.heap.objs.size f cdv) :: outer)) (varOf s H (envOfC "chain_table" (defScope s_chain_table) s.heap.objs.size f cdv) outer) "days" 3 := ⟨sc_chain_table.nd, rfl, fun _ => by first | exact .inl rfl | exact .inr rfl, fun _ => .inl rfl⟩
  have a4 : At (coreOf P w K mg base (A.deeper (envOfC "chain_table" (defScope s_chain_table) s.heap.objs.size f cdv)) ["many", "links", "leader", "days", "one", "other", "day", "ours", "theirs", "mine", "yours", "late", "item", "early"] ((envOfC "chain_table" (defScope s_chain_table) s.heap.objs.size f cdv) :: outer)) (varOf s H (envOfC "chain_table" (defScope s_chain_table) s.heap.objs.size f cdv) outer) "one" 4 := ⟨rfl, fun _ => by first | exact .inl rfl | exact .inr (.inl rfl), by decide, by decide⟩
  have s4 : AtS (coreOf P w K mg base (A.deeper (envOfC "chain_table" (defScope s_chain_table) s.heap.objs.size f cdv)) ["many", "links", "leader", "days", "one", "other", "day", "ours", "theirs", "mine", "yours", "late", "item", "early"] ((envOfC "chain_table" (defScope s_chain_table) s.heap.objs.size f cdv) :: outer)) (varOf s H (envOfC "chain_table" (defScope s_chain_table) s.heap.objs.size f cdv) outer) "one" 4 := ⟨sc_chain_table.nd, rfl, fun _ => by first | exact .inl rfl | exact .inr rfl, fun _ => .inl rfl⟩
  have a5 : At (coreOf P w K mg base (A.deeper (envOfC "chain_table" (defScope s_chain_table) s.heap.objs.size f cdv)) ["many", "links", "leader", "days", "one", "other", "day", "ours", "theirs", "mine", "yours", "late", "item", "early"] ((envOfC "chain_table" (defScope s_chain_table) s.heap.objs.size f cdv) :: outer)) (varOf s H (envOfC "chain_table" (defScope s_chain_table) s.heap.objs.size f cdv) outer) "other" 5 := ⟨rfl, fun _ => by first | exact .inl rfl | exact .inr (.inl rfl), by decide, by decide⟩
  have s5 : AtS (coreOf P w K mg base (A.deeper (envOfC "chain_table" (defScope s_chain_table) s.heap.objs.size f cdv)) ["many", "links", "leader", "days", "one", "other", "day", "ours", "theirs", "mine", "yours", "late", "item", "early"] ((envOfC "chain_table" (defScope s_chain_table) s.heap.objs.size f cdv) :: outer)) (varOf s H (envOfC "chain_table" (defScope s_chain_table) s.heap.objs.size f cdv) outer) "other" 5 := ⟨sc_chain_table.nd, rfl, fun _ => by first | exact .inl rfl | exact .inr rfl, fun _ => .inl rfl⟩
  have a6 : At (coreOf P w K mg base (A.deeper (envOfC "chain_table" (defScope s_chain_table) s.heap.objs.size f cdv)) ["many", "links", "leader", "days", "one", "other", "day", "ours", "theirs", "mine", "yours", "late", "item", "early"] ((envOfC "chain_table" (defScope s_chain_table) s.heap.objs.size f cdv) :: outer)) (varOf s H (envOfC "chain_table" (defScope s_chain_table) s.heap.objs.size f cdv) outer) "day" 6 := ⟨rfl, fun _ => by first | exact .inl rfl | exact .inr (.inl rfl), by decide, by decide⟩
  have s6 : AtS (coreOf P w K mg base (A.deeper (envOfC "chain_table" (defScope s_chain_table) s.heap.objs.size f cdv)) ["many", "links", "leader", "days", "one", "other", "day", "ours", "theirs", "mine", "yours", "late", "item", "early"] ((envOfC "chain_table" (defScope s_chain_table) s.heap.objs.size f cdv) :: outer)) (varOf s H (envOfC "chain_table" (defScope s_chain_table) s.heap.objs.size f cdv) outer) "day" 6 := ⟨sc_chain_table.nd, rfl, fun _ => by first | exact .inl rfl | exact .inr rfl, fun _ => .inl rfl⟩
  have a7 : At (coreOf P w K mg base (A.deeper (envOfC "chain_table" (defScope s_chain_table) s.heap.objs.size f cdv)) ["many", "links", "leader", "days", "one", "other", "day", "ours", "theirs", "mine", "yours", "late", "item", "early"] ((envOfC "chain_table" (defScope s_chain_table) s.heap.objs.size f cdv) :: outer)) (varOf s H (envOfC "chain_table" (defScope s_chain_table) s.heap.objs.size f cdv) outer) "ours" 7 := ⟨rfl, fun _ => by first | exact .inl rfl | exact .inr (.inl rfl), by decide, by decide⟩
  have s7 : AtS (coreOf P w K mg base (A.deeper (envOfC "chain_table" (defScope s_chain_table) s.heap.objs.size f cdv)) ["many", "links", "leader", "days", "one", "other", "day", "ours", "theirs", "mine", "yours", "late", "item", "early"] ((envOfC "chain_table" (defScope s_chain_table) s.heap.objs.size f cdv) :: outer)) (varOf s H (envOfC "chain_table" (defScope s_chain_table) s.heap.objs.size f cdv) outer) "ours" 7 := ⟨sc_chain_table.nd, rfl, fun _ => by first | exact .inl rfl | exact .inr rfl, fun _ => .inl rfl⟩
  have a8 : At (coreOf P w K mg base (A.deeper (envOfC "chain_table" (defScope s_chain_table) s.heap.objs.size f cdv)) ["many", "links", "leader", "days", "one", "other", "day", "ours", "theirs", "mine", "yours", "late", "item", "early"] ((envOfC "chain_table" (defScope s_chain_table) s.heap.objs.size f cdv) :: outer)) (varOf s H (envOfC "chain_table" (defScope s_chain_table) s.heap.objs.size f cdv) outer) "theirs" 8 := ⟨rfl, fun _ => by first | exact .inl rfl | exact .inr (.inl rfl), by decide, by decide⟩
  have s8 : AtS (coreOf P w K mg base (A.deeper (envOfC "chain_table" (defScope s_chain_table) s.heap.objs.size f cdv)) ["many", "links", "leader", "days", "one", "other", "day", "ours", "theirs", "mine", "yours", "late", "item", "early"] ((envOfC "chain_table" (defScope s_chain_table) s.heap.objs.size f cdv) :: outer)) (varOf s H (envOfC "chain_table" (defScope s_chain_table) s.heap.objs.size f cdv) outer) "theirs" 8 := ⟨sc_chain_table.nd, rfl, fun _ => by first | exact .inl rfl | exact .inr rfl, fun _ => .inl rfl⟩
  have a9 : At (coreOf P w K mg base (A.deeper (envOfC "chain_table" (defScope s_chain_table) s.heap.objs.size f cdv)) ["many", "links", "leader", "days", "one", "other", "day", "ours", "theirs", "mine", "yours", "late", "item", "early"] ((envOfC "chain_table" (defScope s_chain_table) s.heap.objs.size f cdv) :: outer)) (varOf s H (envOfC "chain_table" (defScope s_chain_table) s.heap.objs.size f cdv) outer) "mine" 9 := ⟨rfl, fun _ => by first | exact .inl rfl | exact .inr (.inl rfl), by decide, by decide⟩
  have s9 : AtS (coreOf P w K mg base (A.deeper (envOfC "chain_table" (defScope s_chain_table) s.heap.objs.size f cdv)) ["many", "links", "leader", "days", "one", "other", "day", "ours", "theirs", "mine", "yours", "late", "item", "early"] ((envOfC "chain_table" (defScope s_chain_table) s.heap.objs.size f cdv) :: outer)) (varOf s H (envOfC "chain_table" (defScope s_chain_table) s.heap.objs.size f cdv) outer) "mine" 9 := ⟨sc_chain_table.nd, rfl, fun _ => by first | exact .inl rfl | exact .inr rfl, fun _ => .inl rfl⟩
  have a10 : At (coreOf P w K mg base (A.deeper (envOfC "chain_table" (defScope s_chain_table) s.heap.objs.size f cdv)) ["many", "links", "leader", "days", "one", "other", "day", "ours", "theirs", "mine", "yours", "late", "item", "early"] ((envOfC "chain_table" (defScope s_chain_table) s.heap.objs.size f cdv) :: outer)) (varOf s H (envOfC "chain_table" (defScope s_chain_table) s.heap.objs.size f cdv) outer) "yours" 10 := ⟨rfl, fun _ => by first | exact .inl rfl | exact .inr (.inl rfl), by decide, by decide⟩
  have s10 : AtS (coreOf P w K mg base (A.deeper (envOfC "chain_table" (defScope s_chain_table) s.heap.objs.size f cdv)) ["many", "links", "leader", "days", "one", "other", "day", "ours", "theirs", "mine", "yours", "late", "item", "early"] ((envOfC "chain_table" (defScope s_chain_table) s.heap.objs.size f cdv) :: outer)) (varOf s H (envOfC "chain_table" (defScope s_chain_table) s.heap.objs.size f cdv) outer) "yours" 10 := ⟨sc_chain_table.nd, rfl, fun _ => by first | exact .inl rfl | exact .inr rfl, fun _ => .inl rfl⟩
  show BD _ _ _ _ _ [AV.dt (.int (n : Nat)), .dt (.lst (ks.map lkD)), .un, .un, .un, .un, .un, .un, .un, .un, .un, .un, .un, .un]
  have hu := units_of hr
  refine (bd_cons (sd_set 2 s2 (fun _ => rfl) (lt1 rfl) (nl rfl) (ed_listR1 (fun _ => rfl) m_list (fun _ => rfl) m_range (fun _ => rfl) (fun _ => rfl) (ek_ed (ed_name 0 a0 rfl ⟨_, rfl, ?_, (bd_cons (sd_set 3 s3 (fun _ => rfl) (lt1 rfl) (nl rfl) (ed_dictT (bd_cons (sd_for (fun _ => PassesOwn.never) (fun _ _ => rfl) (src_L (ek_ed (ed_sortNeg (a := "link") (n := 2) (by exact ⟨⟨_, _, _, _, _, rfl⟩, rfl, rfl, rfl, rfl, rfl, fun _ _ _ _ _ _ _ => rfl⟩) (by decide) (fun _ => hr.mono (by decide)) (fun _ => rfl) m_sorted TBc (fun _ => hcd.symm.trans hC) (fun _ => rfl) hT only (fun _ => rfl) (fun _ => rfl) (ek_ed (ed_name 1 a1 rfl ⟨_, rfl, ?_, ⟨_, rfl, rfl, rfl, ⟨(fun j Γ => ∃ kvs u4 u5 u6 u7 u8 u9 u10 u11 u12 u13, Γ = [AV.dt (.int (n : Nat)), .dt (.lst (ks.map lkD)), .ow (natD (run n ((down ks).take j)).1), .own (.dt kvs), u4, u5, u6, u7, u8, u9, u10, u11, u12, u13] ∧ Rel kvs (run n ((down ks).take j)).2 ∧ kvs.length ≤ j * (n * n)), ?_, ?_, ?_⟩⟩⟩))))))))))⟩)))))
  · exact ⟨by omega, by omega⟩
  · intro d hd
    obtain ⟨k, _, rfl⟩ := List.mem_map.mp hd
    exact ⟨_, _, rfl, rfl⟩
  · refine ⟨[], .un, .un, .un, .un, .un, .un, .un, .un, .un, .un, ?_, fun a b => rfl, Nat.zero_le _⟩
    show [AV.dt (.int (n : Nat)), .dt (.lst (ks.map lkD)), .ow (rngD 0 ((n : Int)).toNat), _, _, _, _, _, _, _, _, _, _, _] = _
    rw [rngD_nat]; rfl
  · rw [down_D]
    rintro j d Γ2 hd ⟨kvs, u4, u5, u6, u7, u8, u9, u10, u11, u12, u13, rfl, rel, few⟩
    obtain ⟨k, hk, rfl⟩ : ∃ k, (down ks)[j]? = some k ∧ lkD k = d := by
      rw [List.getElem?_map] at hd
      cases e : (down ks)[j]? with
      | none => rw [e] at hd; cases hd
      | some k => rw [e] at hd; exact ⟨k, rfl, Option.some.inj hd⟩
    have hj : j < ks.length := by
      have := (List.getElem?_eq_some_iff.mp hk).1
      rw [down_len] at this
      exact this
    obtain ⟨b1, b2⟩ := hks k (down_mem.mp (List.mem_of_getElem? hk))
    have hnn : n * n ≤ 1600 := Nat.mul_le_mul hn hn
    have few2 : kvs.length ≤ 800000 := Nat.le_trans few (Nat.mul_le_mul (by omega : j ≤ 500) hnn)
    have hrun : run n ((down ks).take (j + 1)) = step (run n ((down ks).take j)) k := foldl_take hk
    have hlen : (run n ((down ks).take j)).1.length = n := run_len
    obtain ⟨l, fd0, hst⟩ : ∃ l f, run n ((down ks).take j) = (l, f) := ⟨_, _, rfl⟩
    rw [hst] at rel hlen hrun ⊢
    have hlen : l.length = n := hlen
    have rel : Rel kvs fd0 := rel
    have el : ∀ a, (List.range n).filter (fun i => decide (ld l i = a)) = lot l a := fun a => by unfold lot; rw [hlen]
    refine ⟨_, fun ff => (gd_tup (fun _ => rfl) (fun _ => rfl) (gds_cons (fun _ => rfl) (gd_name 4 s4 (lt1 rfl) (nl rfl) (gds_cons (fun _ => rfl) (gd_name 5 s5 (lt1 rfl) (nl rfl) (gds_cons (fun _ => rfl) (gd_name 6 s6 (lt1 rfl) (nl rfl) (gds_nil (bd_cons (sd_if (td_neI (ek_ed (ed_ixD (fun _ _ => rfl) (ek_loan 2 a2 rfl (ek_ed (ed_name 4 a4 rfl (IxD.mk rfl rfl (nat_at (by rw [hlen]; exact b1)) (ek_ed (ed_ixD (fun _ _ => rfl) (ek_loan 2 a2 rfl (ek_ed (ed_name 5 a5 rfl (IxD.mk rfl rfl (nat_at (by rw [hlen]; exact b2)) (CmpT.mk rfl rfl ⟨fun hif => ?_, fun hif => ?_⟩))))))))))))))))))))))))⟩
    · have hne : ld l k.1 ≠ ld l k.2.1 := by
        intro e
        rw [show N24.ld (l, fd0).1 k.1 = N24.ld (l, fd0).1 k.2.1 from e, decide_eq_true rfl] at hif
        cases hif
      refine (bd_cons (sd_setLc 7 (own := [("item", 12)])  s7 (fun _ => rfl) (fun _ => sw_true rfl rfl rfl rfl) (lt1 rfl) (nl rfl) (fun _ => blkOk_by rfl) (fun _ _ => rfl) (nls rfl) (src_R1 (fun _ => rfl) m_range (fun _ => rfl) (ea_cons (fun _ => rfl) (ek_ed (ed_name 0 a0 rfl (ea_nil ⟨_, _, rfl, rfl, ?_, ⟨?_, (fun x acc Γ => Γ = [AV.dt (.int (n : Nat)), .dt (.lst (ks.map lkD)), .ow (natD l), .own (.dt kvs), .dt (.int (k.1 : Nat)), .dt (.int (k.2.1 : Nat)), .dt (.int (k.2.2 : Nat)), u7, u8, u9, u10, u11, .un, u13] ∧ acc = natD ((List.range x).filter fun i => decide (ld l i = (ld l k.1)))), ?_, ?_, ?_⟩⟩)))))))
      · exact ⟨by omega, by omega⟩
      · rw [rngD_len]; omega
      · exact ⟨rfl, rfl⟩
      · rintro x d acc Γ2 hd ⟨rfl, rfl⟩
        have hx : x < n := by
          have := (List.getElem?_eq_some_iff.mp hd).1
          rw [rngD_len] at this
          omega
        rw [rngD_get (by omega), Int.zero_add] at hd
        cases hd
        refine ⟨_, (by decide), fun g ff => (gd_name 12 (ats_of sc_chain_table.nd rfl (fun _ => rfl) (fun _ => rfl)) (lt1 rfl) (nl rfl) (ts_one (td_eqI (ek_ed (ed_ixD (fun _ _ => rfl) (ek_loan 2 (at_of rfl (fun _ => rfl) rfl rfl) rfl (ek_ed (ed_name 12 (at_of rfl (fun _ => rfl) rfl rfl) rfl (IxD.mk rfl rfl (nat_at (by rw [hlen]; omega)) (ek_ed (ed_ixD (fun _ _ => rfl) (ek_loan 2 (at_of rfl (fun _ => rfl) rfl rfl) rfl (ek_ed (ed_name 4 (at_of rfl (fun _ => rfl) rfl rfl) rfl (IxD.mk rfl rfl (nat_at (by rw [hlen]; exact b1)) (CmpT.mk rfl rfl ⟨fun hif => (ed_name 12 (at_of rfl (fun _ => rfl) rfl rfl) rfl ⟨_, rfl, ?_⟩), fun hif => ?_⟩))))))))))))))))⟩
        · refine ⟨rfl, ?_⟩
          have e : ld l x = ld l k.1 := by
            have z := hif
            simp at z
            omega
          rw [filt, if_pos e]; simp [natD]
        · refine ⟨rfl, ?_⟩
          have e : ¬ ld l x = ld l k.1 := by
            have z := hif
            simp at z
            omega
          rw [filt, if_neg e]; simp [natD]
      · rintro acc Γ2 ⟨rfl, rfl⟩
        rw [rngD_len, Int.toNat_natCast, el]
        refine bd_freeze 7 rfl ?_
        refine (bd_cons (sd_setLc 8 (own := [("item", 12)])  s8 (fun _ => rfl) (fun _ => sw_true rfl rfl rfl rfl) (lt1 rfl) (nl rfl) (fun _ => blkOk_by rfl) (fun _ _ => rfl) (nls rfl) (src_R1 (fun _ => rfl) m_range (fun _ => rfl) (ea_cons (fun _ => rfl) (ek_ed (ed_name 0 a0 rfl (ea_nil ⟨_, _, rfl, rfl, ?_, ⟨?_, (fun x acc Γ => Γ = [AV.dt (.int (n : Nat)), .dt (.lst (ks.map lkD)), .ow (natD l), .own (.dt kvs), .dt (.int (k.1 : Nat)), .dt (.int (k.2.1 : Nat)), .dt (.int (k.2.2 : Nat)), .dt (.lst (natD (lot l (ld l k.1)))), u8, u9, u10, u11, .un, u13] ∧ acc = natD ((List.range x).filter fun i => decide (ld l i = (ld l k.2.1)))), ?_, ?_, ?_⟩⟩)))))))
        · exact ⟨by omega, by omega⟩
        · rw [rngD_len]; omega
        · exact ⟨rfl, rfl⟩
        · rintro x d acc Γ2 hd ⟨rfl, rfl⟩
          have hx : x < n := by
            have := (List.getElem?_eq_some_iff.mp hd).1
            rw [rngD_len] at this
            omega
          rw [rngD_get (by omega), Int.zero_add] at hd
          cases hd
          refine ⟨_, (by decide), fun g ff => (gd_name 12 (ats_of sc_chain_table.nd rfl (fun _ => rfl) (fun _ => rfl)) (lt1 rfl) (nl rfl) (ts_one (td_eqI (ek_ed (ed_ixD (fun _ _ => rfl) (ek_loan 2 (at_of rfl (fun _ => rfl) rfl rfl) rfl (ek_ed (ed_name 12 (at_of rfl (fun _ => rfl) rfl rfl) rfl (IxD.mk rfl rfl (nat_at (by rw [hlen]; omega)) (ek_ed (ed_ixD (fun _ _ => rfl) (ek_loan 2 (at_of rfl (fun _ => rfl) rfl rfl) rfl (ek_ed (ed_name 5 (at_of rfl (fun _ => rfl) rfl rfl) rfl (IxD.mk rfl rfl (nat_at (by rw [hlen]; exact b2)) (CmpT.mk rfl rfl ⟨fun hif => (ed_name 12 (at_of rfl (fun _ => rfl) rfl rfl) rfl ⟨_, rfl, ?_⟩), fun hif => ?_⟩))))))))))))))))⟩
          · refine ⟨rfl, ?_⟩
            have e : ld l x = ld l k.2.1 := by
              have z := hif
              simp at z
              omega
            rw [filt, if_pos e]; simp [natD]
          · refine ⟨rfl, ?_⟩
            have e : ¬ ld l x = ld l k.2.1 := by
              have z := hif
              simp at z
              omega
            rw [filt, if_neg e]; simp [natD]
        · rintro acc Γ2 ⟨rfl, rfl⟩
          rw [rngD_len, Int.toNat_natCast, el]
          refine bd_freeze 8 rfl ?_
          refine (bd_cons (sd_for (fun _ => PassesOwn.never) (fun _ _ => rfl) (src_L (ek_ed (ed_name 7 a7 rfl ⟨_, rfl, rfl, rfl, ⟨(fun j Γ => ∃ kw u9 u10 u12, Γ = [AV.dt (.int (n : Nat)), .dt (.lst (ks.map lkD)), .ow (natD l), .own (.dt kw), .dt (.int (k.1 : Nat)), .dt (.int (k.2.1 : Nat)), .dt (.int (k.2.2 : Nat)), .dt (.lst (natD (lot l (ld l k.1)))), .dt (.lst (natD (lot l (ld l k.2.1)))), u9, u10, u11, u12, u13] ∧ Rel kw (block fd0 ((lot l (ld l k.1)).take j) (lot l (ld l k.2.1)) k.2.2) ∧ kw.length ≤ kvs.length + j * n), ?_, ?_, ?_⟩⟩)))))
          · exact ⟨kvs, u9, u10, .un, rfl, rel, by omega⟩
          · rintro j2 d Γ2 hd ⟨kw, v9, v10, v12, rfl, rel2, few3⟩
            obtain ⟨m, hm, rfl⟩ := natD_at hd
            have hj2 : j2 < n := Nat.lt_of_lt_of_le (List.getElem?_eq_some_iff.mp hm).1 (by rw [← hlen]; exact lot_len)
            have hjn : (j2 + 1) * n ≤ 1600 := Nat.le_trans (Nat.mul_le_mul hj2 (Nat.le_refl n)) hnn
            refine ⟨_, fun ff => (gd_name 9 s9 (lt1 rfl) (nl rfl) ?_)⟩
            refine (bd_cons (sd_for (fun _ => PassesOwn.never) (fun _ _ => rfl) (src_L (ek_ed (ed_name 8 a8 rfl ⟨_, rfl, rfl, rfl, ⟨(fun i Γ => ∃ kz u10 u12, Γ = [AV.dt (.int (n : Nat)), .dt (.lst (ks.map lkD)), .ow (natD l), .own (.dt kz), .dt (.int (k.1 : Nat)), .dt (.int (k.2.1 : Nat)), .dt (.int (k.2.2 : Nat)), .dt (.lst (natD (lot l (ld l k.1)))), .dt (.lst (natD (lot l (ld l k.2.1)))), .dt (.int (m : Nat)), u10, u11, u12, u13] ∧ Rel kz (row (block fd0 ((lot l (ld l k.1)).take j2) (lot l (ld l k.2.1)) k.2.2) m ((lot l (ld l k.2.1)).take i) k.2.2) ∧ kz.length ≤ kvs.length + j2 * n + i), ?_, ?_, ?_⟩⟩)))))
            · exact ⟨kw, v10, v12, rfl, rel2, by omega⟩
            · rintro i d Γ3 hd ⟨kz, w10, w12, rfl, rel3, few4⟩
              obtain ⟨y, hy, rfl⟩ := natD_at hd
              have hi : i < n := Nat.lt_of_lt_of_le (List.getElem?_eq_some_iff.mp hy).1 (by rw [← hlen]; exact lot_len)
              have hjn2 : (j2 + 1) * n = j2 * n + n := Nat.succ_mul _ _
              refine ⟨_, fun ff => (gd_name 10 s10 (lt1 rfl) (nl rfl) (bd_cons (sd_dputT hu 3 a3 (fun _ => rfl) (ek_ed (ed_name 6 a6 rfl ⟨⟨_, rfl⟩, (ek_ed (ed_tup (ea_cons (fun _ => rfl) (ek_ed (ed_max2 (fun _ => rfl) m_max (fun _ => rfl) (fun _ => rfl) (fun _ => rfl) (ek_ed (ed_name 9 a9 rfl (ek_ed (ed_name 10 a10 rfl ⟨_, _, rfl, rfl, (ea_cons (fun _ => rfl) (ek_ed (ed_min2 (fun _ => rfl) m_min (fun _ => rfl) (fun _ => rfl) (fun _ => rfl) (ek_ed (ed_name 9 a9 rfl (ek_ed (ed_name 10 a10 rfl ⟨_, _, rfl, rfl, (ea_nil ⟨_, rfl, le1 rfl, ⟨_, [_, _], _, rfl, rfl, rfl, ?_, (bd_nil ?_)⟩⟩)⟩)))))))⟩)))))))))⟩)))))⟩
              · omega
              · refine ⟨_, .dt (.int (y : Nat)), w12, rfl, ?_, ?_⟩
                · have z := rel3.put (a := m) (b := y) (d := k.2.2)
                  rw [← max_int, ← min_int] at z
                  unfold row
                  rw [foldl_take hy]
                  exact z
                · exact Nat.le_trans (putD_len _ _ _) (by omega)
            · rintro Γ3 ⟨kz, w10, w12, rfl, rel3, few4⟩
              rw [natD_len] at few4
              rw [natD_len, List.take_length] at rel3
              have hl2 : (lot l (ld l k.2.1)).length ≤ n := by rw [← hlen]; exact lot_len
              have hjn2 : (j2 + 1) * n = j2 * n + n := Nat.succ_mul _ _
              refine bd_nil ?_
              refine ⟨kz, .dt (.int (m : Nat)), w10, w12, rfl, ?_, by omega⟩
              unfold block
              rw [foldl_take hm]
              exact rel3
          · rintro Γ2 ⟨kw, u9, u10, u12, rfl, rel2, few3⟩
            rw [natD_len, List.take_length, block_join hne] at rel2
            rw [natD_len] at few3
            have hl1 : (lot l (ld l k.1)).length * n ≤ n * n := Nat.mul_le_mul (by rw [← hlen]; exact lot_len) (Nat.le_refl n)
            have hs : step (l, fd0) k = (relead l (ld l k.1) (ld l k.2.1), join l fd0 k.1 k.2.1 k.2.2) := if_neg hne
            refine (bd_cons (sd_for (fun _ => PassesOwn.never) (fun _ _ => rfl) (src_L (ek_ed (ed_name 8 a8 rfl ⟨_, rfl, rfl, rfl, ⟨(fun i Γ => ∃ u10, Γ = [AV.dt (.int (n : Nat)), .dt (.lst (ks.map lkD)), .ow (natD (sets l ((lot l (ld l k.2.1)).take i) (ld l k.1))), .own (.dt kw), .dt (.int (k.1 : Nat)), .dt (.int (k.2.1 : Nat)), .dt (.int (k.2.2 : Nat)), .dt (.lst (natD (lot l (ld l k.1)))), .dt (.lst (natD (lot l (ld l k.2.1)))), u9, u10, u11, u12, u13]), ?_, ?_, ?_⟩⟩)))))
            · exact ⟨u10, rfl⟩
            · rintro i d Γ3 hd ⟨w10, rfl⟩
              obtain ⟨y, hy, rfl⟩ := natD_at hd
              have by2 : y < n := by rw [← hlen]; exact (mem_lot.mp (List.mem_of_getElem? hy)).1
              have same : ld (sets l ((lot l (ld l k.2.1)).take i) (ld l k.1)) k.1 = ld l k.1 := by
                rw [sets_at (by rw [hlen]; exact b1)]
                split <;> rfl
              refine ⟨_, fun ff => (gd_name 10 s10 (lt1 rfl) (nl rfl) (bd_cons (sd_setItem 2 a2 (fun _ => rfl) (fun _ => rfl) (fun _ => rfl) (fun _ _ => rfl) (ek_ed (ed_ixD (fun _ _ => rfl) (ek_loan 2 a2 rfl (ek_ed (ed_name 4 a4 rfl (IxD.mk rfl rfl (nat_at (by rw [sets_len, hlen]; exact b1)) ⟨⟨_, rfl⟩, (ek_ed (ed_name 10 a10 rfl ⟨_, _, _, _, rfl, rfl, ((congrArg (fun z => ixN z _) natD_len).trans (ixN_nat (by rw [sets_len, hlen]; exact by2))), rfl, (bd_nil ?_)⟩))⟩)))))))))⟩
              refine ⟨.dt (.int (y : Nat)), ?_⟩
              show [AV.dt (.int (n : Nat)), .dt (.lst (ks.map lkD)), .ow ((natD _).set y _), _, _, _, _, _, _, _, _, _, _, _] = _
              rw [same, natD_set]
              have : sets l ((lot l (ld l k.2.1)).take (i + 1)) (ld l k.1) = (sets l ((lot l (ld l k.2.1)).take i) (ld l k.1)).set y (ld l k.1) := by
                unfold sets
                rw [foldl_take hy]
              rw [this]
            · rintro Γ3 ⟨w10, rfl⟩
              rw [natD_len, List.take_length, sets_relead]
              refine bd_nil ?_
              refine bd_nil ?_
              refine ⟨kw, .dt (.int (k.1 : Nat)), .dt (.int (k.2.1 : Nat)), .dt (.int (k.2.2 : Nat)), .dt (.lst (natD (lot l (ld l k.1)))), .dt (.lst (natD (lot l (ld l k.2.1)))), u9, w10, u11, u12, u13, ?_, ?_, ?_⟩
              rotate_left
              · rw [hrun, hs]; exact rel2
              · have : (j + 1) * (n * n) = j * (n * n) + n * n := Nat.succ_mul _ _
                omega
              · rw [hrun, hs]
    · have hne : ld l k.1 = ld l k.2.1 := by
        have z := hif
        simp at z
        omega
      have hs : step (l, fd0) k = (l, fd0) := if_pos hne
      refine bd_nil ?_
      refine bd_nil ?_
      refine ⟨kvs, .dt (.int (k.1 : Nat)), .dt (.int (k.2.1 : Nat)), .dt (.int (k.2.2 : Nat)), u7, u8, u9, u10, u11, u12, u13, ?_, ?_, ?_⟩
      rotate_left
      · rw [hrun, hs]; exact rel
      · exact Nat.le_trans few (Nat.mul_le_mul (Nat.le_succ j) (Nat.le_refl _))
      · rw [hrun, hs]; rfl
  · rw [down_D]
    rintro Γ2 ⟨kvs, u4, u5, u6, u7, u8, u9, u10, u11, u12, u13, rfl, rel, few⟩
    rw [List.length_map, List.take_length] at rel ⊢
    generalize hL : (run n (down ks)).1 = L
    have item : ∀ a b : Nat, (getD' kvs (tkey [(a : Int), (b : Int)])).getD (.int 0) = .int (chain n ks a b : Nat) := fun a b => by
      rw [rel a b]
      unfold chain
      cases (run n (down ks)).2 a b <;> rfl
    refine (bd_cons (sd_ret (ed_tuple (fun _ => rfl) m_tuple (fun _ => rfl) (ek_ed (ed_lc (own := [("late", 11)]) sc_chain_table.nd (fun _ => blkOk_by rfl) (fun _ _ => rfl) (nls rfl) (src_R1 (fun _ => rfl) m_range (fun _ => rfl) (ea_cons (fun _ => rfl) (ek_ed (ed_name 0 a0 rfl (ea_nil ⟨_, _, rfl, rfl, ?_, ⟨?_, (fun x acc Γ => ∃ u13, Γ = [AV.dt (.int (n : Nat)), .dt (.lst (ks.map lkD)), .ow (natD L), .own (.dt kvs), u4, u5, u6, u7, u8, u9, u10, .un, u12, u13] ∧ acc = (List.range x).map fun a => Dt.tup ((List.range a).map fun b => .int (chain n ks a b : Nat))), ?_, ?_, ?_⟩⟩))))))))))
    · exact ⟨by omega, by omega⟩
    · rw [rngD_len]; omega
    · exact ⟨u13, rfl, rfl⟩
    · rintro x d acc Γ2 hd ⟨v13, rfl, rfl⟩
      have hx : x < n := by
        have := (List.getElem?_eq_some_iff.mp hd).1
        rw [rngD_len] at this
        omega
      rw [rngD_get (by omega), Int.zero_add] at hd
      cases hd
      refine ⟨_, (by decide), fun g ff => (gd_name 11 (ats_of sc_chain_table.nd rfl (fun _ => rfl) (fun _ => rfl)) (lt1 rfl) (nl rfl) (ts_nil ⟨fun _ => (ed_tuple (fun _ => rfl) m_tuple (fun _ => rfl) (ek_ed (ed_lc (own := [("early", 13)]) sc_chain_table.nd (fun _ => blkOk_by rfl) (fun _ _ => rfl) (nls rfl) (src_R1 (fun _ => rfl) m_range (fun _ => rfl) (ea_cons (fun _ => rfl) (ek_ed (ed_name 11 (at_of rfl (fun _ => rfl) rfl rfl) rfl (ea_nil ⟨_, _, rfl, rfl, ?_, ⟨?_, (fun y acc Γ => Γ = [AV.dt (.int (n : Nat)), .dt (.lst (ks.map lkD)), .ow (natD L), .own (.dt kvs), u4, u5, u6, u7, u8, u9, u10, .dt (.int (x : Nat)), u12, .un] ∧ acc = (List.range y).map fun b => Dt.int (chain n ks x b : Nat)), ?_, ?_, ?_⟩⟩)))))))), fun hif => nomatch hif⟩))⟩
      · exact ⟨by omega, by omega⟩
      · rw [rngD_len]; omega
      · exact ⟨rfl, rfl⟩
      · rintro y d acc Γ2 hd ⟨rfl, rfl⟩
        have hy : y < x := by
          have := (List.getElem?_eq_some_iff.mp hd).1
          rw [rngD_len] at this
          omega
        rw [rngD_get (by omega), Int.zero_add] at hd
        cases hd
        refine ⟨_, (by decide), fun g ff => (gd_name 13 (ats_of sc_chain_table.nd rfl (fun _ => rfl) (fun _ => rfl)) (lt1 rfl) (nl rfl) (ts_nil ⟨fun _ => (ed_getT hu 3 (at_of rfl (fun _ => rfl) rfl rfl) rfl (fun _ => ⟨rfl, rfl, rfl, rfl⟩) (ek_ed (ed_tup (ea_cons (fun _ => rfl) (ek_ed (ed_name 11 (at_of rfl (fun _ => rfl) rfl rfl) rfl (ea_cons (fun _ => rfl) (ek_ed (ed_name 13 (at_of rfl (fun _ => rfl) rfl rfl) rfl (ea_nil ⟨_, rfl, le1 rfl, (ek_ed (ed_int ⟨_, [_, _], _, rfl, rfl, rfl, ⟨_, rfl, ?_⟩⟩))⟩)))))))))), fun hif => nomatch hif⟩))⟩
        refine ⟨rfl, ?_⟩
        rw [item, List.range_succ, List.map_append]; rfl
      · rintro acc Γ2 ⟨rfl, rfl⟩
        rw [rngD_len, Int.toNat_natCast]
        refine ⟨_, rfl, ⟨_, rfl, ?_⟩⟩
        refine ⟨.un, rfl, ?_⟩
        rw [List.range_succ, List.map_append]; rfl
    · rintro acc Γ2 ⟨v13, rfl, rfl⟩
      rw [rngD_len, Int.toNat_natCast]
      exact ⟨_, rfl, hq⟩
end
end K24

/-! dicts of one's own with whole numbers as keys -/
namespace DL
open PySem PySem.Spec
open PyProof.Rows L2
/-- a place that is set aside may be written -/
theorem RS.writeX {K : PySem.W.Frag} [Tb K] {S : Ent} {ex : AP} {Γ : List AV} {σ : Sg} {H : Hp} {p : Addr} {old o : HO} (r : RS K S ex Γ σ H) (hx : ex p) (e : H p = some old) (m : Mt old) (nf : ¬ S.fo p) (nS : S.H p = none) : RS K S ex Γ σ (upd H p o) :=
  have up : ∀ b u, H b = some u → b ≠ p → (upd H p o) b = some u := fun b u e n => by rw [upd_ne n]; exact e
  { r with
    slots := fun i a e => (r.slots i a e).mono (fun b u e _ n => ⟨up b u e fun z => n (.inr (.inr (by rw [z]; exact hx))), n⟩) fun ds q u ea es eq _ => up q _ eq fun z => r.nex q ⟨i, ds, by rw [← ea]; exact e, es⟩ (by rw [z]; exact hx)
    fr := fun b u e n => up b u (r.fr b u e n) fun z => by rw [z, nS] at e; cases e
    fo := fun b z => by
      obtain ⟨⟨u, e, t⟩, h⟩ := r.fo b z
      exact ⟨⟨u, up b u e fun y => nf (by rw [← y]; exact z), t⟩, h⟩
    pin := fun b u z => ⟨up b u (r.pin b u z).1 fun y => (r.pin b u z).2.2 (by rw [y]; exact hx), (r.pin b u z).2⟩
    tabs := tabs_write r.tabs e m }
section
variable {c : Core} [Tb c.K] {ι : Type} {v : ι → Var} {S : Ent} {Γ : List AV} {D : DE} {Q : AV → List AV → Prop} {e a b : Expr} {pos p apos cpos px pt : Pos} {x : Str}
/-- the dict that an argument is -/
def akKK (Γ : List AV) : AK → Option (List (Key × Dt))
  | .ln i => match Γ[i]? with
    | some (.own (.dk kvs)) => some kvs
    | _ => none
  | _ => none
theorem akKK_of {K : PySem.W.Frag} [Tb K] {H : Hp} {σ : Sg} {k : AK} {x : V} {kvs : List (Key × Dt)} (e : akKK Γ k = some kvs) (r : RS K S no Γ σ H) (q : RpK K H (Exc S Γ σ no) σ x k) : ∃ p ws, x = .ref p ∧ H p = some (.dK ws) ∧ ws.map (·.1) = kvs.map (·.1) ∧ RpL K H (Exc S Γ σ no) (ws.map (·.2)) (kvs.map (·.2)) := by
  cases k with
  | d a => cases e
  | ln i =>
    have e' : (match Γ[i]? with | some (AV.own (.dk kvs)) => some kvs | _ => none) = some kvs := e
    split at e'
    · rename_i es g
      cases e'
      obtain ⟨p, _, e1, e2, ws, rfl, e3, q2⟩ := r.slots i _ g
      have q' : σ[i]? = some (some x) := q
      rw [q'] at e1
      cases e1
      exact ⟨p, ws, rfl, e2, e3, q2⟩
    · cases e'
/-- i in d, i not in d -/
def InK (n : Bool) (Q : AV → List AV → Prop) (k l : AK) (Γ : List AV) : Prop := ∃ i kvs, akD Γ k = some (.int i) ∧ akKK Γ l = some kvs ∧ Q (.dt (.bl (n ^^ (getD' kvs (Sum.inl i)).isSome))) Γ
theorem ed_inK (hu : c.A.units + 64 < cLine) (hm : behindInMarks .In b = false) (h : EK c v S a Γ fun k Γ1 => EK c v S b Γ1 fun l Γ2 => InK false Q k l Γ2) : ED c v S (.Compare a [.In] [b] pos) Γ Q := fun σ H R r kk =>
  ⟨_, fun i => pe_cmp (pc_din (by show c.A.units + 1 < cLine; omega) (wE.pe i) (wE.pe i)) hm, EK.two h r fun x y H' k l Γ' ⟨i, kvs, e1, e2, q⟩ r' hk hl s => by
    cases akD_of e1 hk
    obtain ⟨p2, ws, rfl, h2, e3, hw⟩ := akKK_of e2 r' hl
    refine ⟨p2, _, rfl, .inl ⟨ws, Sum.inl i, .inl h2, rfl, rfl⟩, ?_⟩
    rw [some_eq e3 hw]
    rw [Bool.false_xor] at q
    exact kk _ _ _ _ q ⟨r', .bl _⟩ s trivial⟩
theorem ed_notinK (hu : c.A.units + 64 < cLine) (hm : behindInMarks .NotIn b = false) (h : EK c v S a Γ fun k Γ1 => EK c v S b Γ1 fun l Γ2 => InK true Q k l Γ2) : ED c v S (.Compare a [.NotIn] [b] pos) Γ Q := fun σ H R r kk =>
  ⟨_, fun i => pe_cmp (pc_dnotin (by show c.A.units + 1 < cLine; omega) (wE.pe i) (wE.pe i)) hm, EK.two h r fun x y H' k l Γ' ⟨i, kvs, e1, e2, q⟩ r' hk hl s => by
    cases akD_of e1 hk
    obtain ⟨p2, ws, rfl, h2, e3, hw⟩ := akKK_of e2 r' hl
    refine ⟨p2, _, rfl, .inl ⟨ws, Sum.inl i, .inl h2, rfl, rfl⟩, ?_⟩
    rw [some_eq e3 hw]
    rw [Bool.true_xor] at q
    exact kk _ _ _ _ q ⟨r', .bl _⟩ s trivial⟩
/-- d[i] -/
theorem ed_getK (hu : c.A.units + 64 < cLine) (hs : NoSl b) (h : EK c v S a Γ fun k Γ1 => EK c v S b Γ1 fun l Γ2 => ∃ kvs i d, akKK Γ2 k = some kvs ∧ akD Γ2 l = some (.int i) ∧ getD' kvs (Sum.inl i) = some d ∧ Q (.dt d) Γ2) : ED c v S (.Subscript a b pos) Γ Q := fun σ H R r kk =>
  ⟨_, fun i => pe_dget (by show c.A.units + 1 < cLine; omega) (wE.pe i) (wE.pe i) hs, EK.two h r fun x y H' k l Γ' ⟨kvs, i, d, e1, e2, e3, q⟩ r' hk hl s => by
    obtain ⟨p2, ws, rfl, h2, e4, hw⟩ := akKK_of e1 r' hk
    cases akD_of e2 hl
    rcases rel_get e4 hw (Sum.inl i) with ⟨_, z⟩ | ⟨x, d', z1, z2, z3⟩
    · rw [z] at e3; cases e3
    · rw [z2] at e3
      cases e3
      exact ⟨p2, x, rfl, .inl ⟨ws, Sum.inl i, .inl h2, rfl, z1.symm⟩, kk _ _ _ _ q ⟨r', z3⟩ s trivial⟩⟩
/-- d[i] = e, d a slot's own dict -/
theorem sd_dputK (hu : c.A.units + 64 < cLine) (i : Nat) (hx : At c v x i) (hsw : ∀ k, swapsWith e (some (.Subscript (.Name x px) b pt)) pos.line (v k).env = pure false)
    (h : EK c v S e Γ fun k Γ1 => (∃ kvs, Γ1[i]? = some (.own (.dk kvs))) ∧ EK c v S b Γ1 fun l Γ2 => ∃ kvs n d, Γ2[i]? = some (.own (.dk kvs)) ∧ akD Γ2 l = some (.int n) ∧ akD Γ2 k = some d ∧ kvs.length < 1000000 ∧ D.nx (Γ2.set i (.own (.dk (putD kvs (Sum.inl n) d))))) :
    SD c v S (.Assign [.Subscript (.Name x px) b pt] e pos) D Γ := fun E σ H L r => by
  refine ⟨_, fun k => ps_dput (by show c.A.units + 1 < cLine; omega) (hx.pe k) (wE.pe k) (wE.pe k) (hsw k), ?_⟩
  refine h σ H _ r fun y H1 k Γ1 ⟨⟨kvs1, g1⟩, q1⟩ r1 hk s1 => ?_
  obtain ⟨p1, _, e1, z1, ws1, rfl, k1, w1⟩ := r1.slots i _ g1
  refine ⟨_, e1, ?_⟩
  refine q1 σ H1 _ r1 fun w H2 l Γ2 ⟨kvs, n, d, g2, en, ed, few, q⟩ r2 hl s2 => ?_
  obtain ⟨p2, _, e2, z2, ws2, rfl, k2, w2⟩ := r2.slots i _ g2
  rw [e1] at e2
  cases e2
  cases akD_of en hl
  have hd := akD_of ed (hk.mono s2.keeps)
  have lw : ws2.length = kvs.length := by
    have := congrArg List.length k2
    rw [List.length_map, List.length_map] at this
    exact this
  have rel := rel_put (k := Sum.inl n) hd k2 w2
  exact ⟨p1, _, rfl, .inl ⟨ws2, Sum.inl n, z2, rfl, Nat.lt_of_lt_of_le (by rw [lw]; exact few) (line1 (Nat.le_refl _)), rfl⟩, L.nx _ _ _ q (r2.writeC g2 e1 ⟨_, rfl, rel.1, rel.2⟩)⟩
/-- {i: e} -/
theorem ed_disp1 (h : ∀ g f, EK c v (S.lc g f) a Γ fun k Γ1 => EK c v (S.lc g f) b Γ1 fun l Γ2 => ∃ i d, akD Γ2 k = some (.int i) ∧ akD Γ2 l = some d ∧ Q (.own (.dk [(Sum.inl i, d)])) Γ2) : ED c v S (.Dict [some a] [b] pos) Γ Q := fun σ H R r kk => by
  refine ⟨tDisp [(wE c v a, wE c v b)], fun i => pe_disp (pps_cons (wE.pe i) (wE.pe i) pps_nil) rfl rfl nofun (by simp), ?_⟩
  intro p hp
  have nD := r.new hp
  let F : Addr → HO → Prop := fun b o => b = p ∧ o = .dK []
  have rp : RS c.K (S.lc (· = p) F) no Γ σ (upd H p (.dK [])) := by
    have rA := (r.alloc (o := .dK []) hp).ex_mono (ex' := (· = p)) fun _ z => .inr z
    have q := RS.to_fo rA fun b e => by
      subst e
      exact ⟨⟨_, upd_same, trivial⟩, fun z => r.xtr _ z nD.2.2⟩
    refine q.dopin (fun b o ⟨z1, z2⟩ => ?_) fun b o z => ?_
    · subst z1 z2
      exact ⟨upd_same, nD.1, id⟩
    · rw [z.2]; trivial
  refine h (· = p) F σ _ _ rp fun x H1 k Γ1 next r1 hk s1 => ?_
  refine next σ H1 _ r1 fun y H2 l Γ2 ⟨i, d, e1, e2, q⟩ r2 hl s2 => ?_
  have hk2 := hk.mono s2.keeps
  cases akD_of e1 hk2
  have hd := akD_of e2 hl
  have at2 : H2 p = some (.dK []) := (r2.pin p (.dK []) (.inr ⟨rfl, rfl⟩)).1
  refine ⟨at2, [(Sum.inl i, y)], rfl, by simp, ?_⟩
  have no2 : ¬ Own Γ2 σ p := fun z => r2.nfo p z (.inr rfl)
  have npn : ∀ b o, S.pn b o → b ≠ p := fun b o z e => by
    have := (r.pin b o z).1
    rw [e, hp] at this
    cases this
  have r3 : RS c.K S (· = p) Γ2 σ H2 := RS.move_fo (S := S) (f := (· = p)) { r2 with nts := ⟨r2.nts.1, fun b o y => r2.nts.2 b o (.inl y)⟩, pin := fun b o y => r2.pin b o (.inl y) } npn
  have r4 := r3.writeX (o := .dK [(Sum.inl i, y)]) rfl at2 trivial nD.2.1 nD.2.2
  have s : Step Γ Γ2 σ H (upd H2 p (.dK [(Sum.inl i, y)])) := ⟨fun b o e t n => by
    have nb : b ≠ p := fun z => by rw [z, hp] at e; cases e
    rw [upd_ne nb]
    exact (s1.trans s2).fr b o (by rw [upd_ne nb]; exact e) t n, (s1.trans s2).own⟩
  refine kk _ _ _ _ q ⟨p, .dK [(Sum.inl i, y)], rfl, r4, upd_same, ⟨[(Sum.inl i, y)], rfl, rfl, .cons ?_ .nil⟩, nD.2.1, nD.2.2⟩ s ⟨p, rfl, .inl fun o e => by rw [hp] at e; cases e⟩
  exact Rp.mono (fun b o e t n => ⟨by rw [upd_ne fun z => n (.inr (.inl (.inr z)))]; exact e, fun z => n (z.elim .inl fun z => .inr (z.elim (fun z => .inl (.inl z)) fun z => .inl (.inr z)))⟩) hd
end
end DL

/-! (*xs, e) -/
namespace DL
open PySem PySem.Spec
open PyProof.Rows L2
section
variable {c : Core} [Tb c.K] {ι : Type} {v : ι → Var} {S : Ent} {Γ : List AV} {Q : AV → List AV → Prop} {QK QK' : AK → List AV → Prop} {e b : Expr} {pos p : Pos}
theorem EK.imp (h : EK c v S e Γ QK) (f : ∀ k Γ', QK k Γ' → QK' k Γ') : EK c v S e Γ QK' := fun σ H R r kk => h σ H R r fun x H' k Γ' q => kk x H' k Γ' (f k Γ' q)
theorem akF_star (Γ : List AV) (k : AK) : ∀ ds : List Dt, akF Γ (ds.map (fun d => AK.d (.dt d)) ++ [k]) = (akD Γ k).map fun d => ds ++ [d]
  | [] => by
    show (do let y ← akD Γ k; let ys ← pure []; pure (y :: ys)) = _
    cases akD Γ k <;> rfl
  | d :: ds => by
    have ih := akF_star Γ k ds
    unfold akF at ih ⊢
    rw [List.map_cons, List.cons_append, List.mapM_cons, ih]
    show (do let y ← some d; let ys ← (akD Γ k).map fun d => ds ++ [d]; pure (y :: ys)) = _
    cases akD Γ k <;> rfl
theorem ed_tupS {kk : Nat} (hs : ∀ i, starEach [.Starred e p, b] (v i).env = (true, eval e (v i).env) :: starEach [b] (v i).env) (hb : NoStar v b [])
    (h : EK c v S e Γ fun k Γ1 => ∃ ds, akS Γ1 k = some ds ∧ EK c v S b Γ1 fun l Γ2 => ∃ d, akD Γ2 l = some d ∧ ds.length < 1000 ∧ Q (.dt (.tup (ds ++ [d]))) Γ2) : ED c v S (.Tuple [.Starred e p, b] kk pos) Γ Q := by
  refine ed_tup (ea_star hs (h.imp fun k Γ1 ⟨ds, e1, h2⟩ => ⟨ds, e1, ea_cons hb (h2.imp fun l Γ2 ⟨d, e2, few, q⟩ => ea_nil ⟨ds ++ [d], ?_, ?_, q⟩)⟩))
  · rw [akF_star, e2]; rfl
  · rw [List.length_append]; rw [List.length_singleton]; omega
end
end DL
namespace DL
open PySem PySem.Spec
open PyProof.Rows L2
section
variable {c : Core} [Tb c.K] {ι : Type} {v : ι → Var} {S : Ent} {Γ : List AV} {QB : Bool → List AV → Prop} {a b : Expr} {pos : Pos}
/-- i in d, i not in d, as tests -/
def InKT (n : Bool) (Q : Bool → List AV → Prop) (k l : AK) (Γ : List AV) : Prop := ∃ i kvs, akD Γ k = some (.int i) ∧ akKK Γ l = some kvs ∧ Q (n ^^ (getD' kvs (Sum.inl i)).isSome) Γ
theorem td_inK (hu : c.A.units + 64 < cLine) (hm : behindInMarks .In b = false) (h : EK c v S a Γ fun k Γ1 => EK c v S b Γ1 fun l Γ2 => InKT false QB k l Γ2) : TD c v S (.Compare a [.In] [b] pos) Γ QB := fun σ H R r kk =>
  ⟨_, fun i => pt_cmp (pc_din (by show c.A.units + 1 < cLine; omega) (wE.pe i) (wE.pe i)) hm, EK.two h r fun x y H' k l Γ' ⟨i, kvs, e1, e2, q⟩ r' hk hl s => by
    cases akD_of e1 hk
    obtain ⟨p2, ws, rfl, h2, e3, hw⟩ := akKK_of e2 r' hl
    refine ⟨p2, _, rfl, .inl ⟨ws, Sum.inl i, .inl h2, rfl, rfl⟩, _, rfl, ?_⟩
    rw [some_eq e3 hw]
    rw [Bool.false_xor] at q
    exact kk _ _ _ q r' s⟩
theorem td_notinK (hu : c.A.units + 64 < cLine) (hm : behindInMarks .NotIn b = false) (h : EK c v S a Γ fun k Γ1 => EK c v S b Γ1 fun l Γ2 => InKT true QB k l Γ2) : TD c v S (.Compare a [.NotIn] [b] pos) Γ QB := fun σ H R r kk =>
  ⟨_, fun i => pt_cmp (pc_dnotin (by show c.A.units + 1 < cLine; omega) (wE.pe i) (wE.pe i)) hm, EK.two h r fun x y H' k l Γ' ⟨i, kvs, e1, e2, q⟩ r' hk hl s => by
    cases akD_of e1 hk
    obtain ⟨p2, ws, rfl, h2, e3, hw⟩ := akKK_of e2 r' hl
    refine ⟨p2, _, rfl, .inl ⟨ws, Sum.inl i, .inl h2, rfl, rfl⟩, _, rfl, ?_⟩
    rw [some_eq e3 hw]
    rw [Bool.true_xor] at q
    exact kk _ _ _ q r' s⟩
end
end DL

/-! chains in a graph of links -/
namespace N24
open DL L2
def Adj (ks : List Link) (d a b : Nat) : Prop := ∃ k ∈ ks, d ≤ k.2.2 ∧ ((k.1 = a ∧ k.2.1 = b) ∨ (k.1 = b ∧ k.2.1 = a))
def IsChain (ks : List Link) (d a b : Nat) (p : List Nat) : Prop := p.head? = some a ∧ p.getLast? = some b ∧ ∀ (i x y : Nat), p[i]? = some x → p[i + 1]? = some y → Adj ks d x y
theorem IsChain.one {ks : List Link} {d a : Nat} : IsChain ks d a a [a] := ⟨rfl, rfl, fun i x y _ h => by
  rw [List.getElem?_eq_none (by simp)] at h
  cases h⟩
theorem IsChain.snoc {ks : List Link} {d a b c : Nat} {p : List Nat} (h : IsChain ks d a b p) (e : Adj ks d b c) : IsChain ks d a c (p ++ [c]) := by
  obtain ⟨h1, h2, h3⟩ := h
  refine ⟨?_, by simp, fun i x y hx hy => ?_⟩
  · cases p with
    | nil => cases h1
    | cons u t => exact h1
  · by_cases hi : i + 1 < p.length
    · rw [List.getElem?_append_left (by omega)] at hx
      rw [List.getElem?_append_left hi] at hy
      exact h3 i x y hx hy
    · have lt := (List.getElem?_eq_some_iff.mp hy).1
      rw [List.length_append, List.length_singleton] at lt
      have ei : i + 1 = p.length := by omega
      rw [List.getElem?_append_right (by omega), ei, Nat.sub_self] at hy
      obtain rfl := Option.some.inj hy
      rw [List.getElem?_append_left (by omega)] at hx
      rw [List.getLast?_eq_getElem?, ← ei, Nat.add_sub_cancel, hx] at h2
      obtain rfl := Option.some.inj h2
      exact e
inductive Conn (ks : List Link) (d a : Nat) : Nat → Prop
  | refl : Conn ks d a a
  | step {b c : Nat} : Conn ks d a b → Adj ks d b c → Conn ks d a c
abbrev Ways := Nat → Option (List Nat)
def cnt (n : Nat) (f : Ways) : Nat := ((List.range n).filter fun i => (f i).isSome).length
theorem cnt_le {n : Nat} {f : Ways} : cnt n f ≤ n := by
  unfold cnt
  have := List.length_filter_le (fun i => (f i).isSome) (List.range n)
  rw [List.length_range] at this
  exact this
def setW (f : Ways) (b : Nat) (p : List Nat) : Ways := fun x => if x = b then some p else f x
theorem filt_le {f g : Nat → Bool} (h : ∀ x, f x = true → g x = true) : ∀ l : List Nat, (l.filter f).length ≤ (l.filter g).length
  | [] => Nat.le_refl _
  | x :: l => by
    have ih := filt_le h l
    rw [List.filter_cons, List.filter_cons]; skip
    cases e : f x with
    | true => rw [h x e, if_pos rfl, if_pos rfl, List.length_cons, List.length_cons]; omega
    | false =>
      rw [if_neg Bool.false_ne_true]; skip
      split
      · rw [List.length_cons]; omega
      · exact ih
theorem filt_lt {f g : Nat → Bool} (h : ∀ x, f x = true → g x = true) {b : Nat} (hf : f b = false) (hg : g b = true) : ∀ l : List Nat, b ∈ l → (l.filter f).length + 1 ≤ (l.filter g).length
  | [], m => by cases m
  | x :: l, m => by
    have le := filt_le h l
    rw [List.filter_cons, List.filter_cons]; by_cases e : x = b
    · subst e
      rw [hf, hg, if_neg Bool.false_ne_true, if_pos rfl, List.length_cons]; omega
    · have ih := filt_lt h hf hg l ((List.mem_cons.mp m).resolve_left fun z => e z.symm)
      cases e : f x with
      | true => rw [h x e, if_pos rfl, if_pos rfl, List.length_cons, List.length_cons]; omega
      | false =>
        rw [if_neg Bool.false_ne_true]; skip
        split
        · rw [List.length_cons]; omega
        · exact ih
theorem cnt_set {n : Nat} {f : Ways} {b : Nat} {p : List Nat} (hb : b < n) (h : f b = none) : cnt n f + 1 ≤ cnt n (setW f b p) := by
  unfold cnt
  refine filt_lt (fun x hx => ?_) (b := b) ?_ ?_ _ (List.mem_range.mpr hb)
  · unfold setW
    split
    · rfl
    · exact hx
  · show (f b).isSome = false
    rw [h]; rfl
  · show (setW f b p b).isSome = true
    unfold setW
    rw [if_pos rfl]; rfl
def prs (ks : List Link) (d : Nat) : List (Nat × Nat) := (ks.filter fun k => decide (d ≤ k.2.2)).map fun k => (k.1, k.2.1)
def stp (ks : List Link) (d : Nat) : List (Nat × Nat) := prs ks d ++ (prs ks d).map fun p => (p.2, p.1)
theorem mem_prs {ks : List Link} {d a b : Nat} : (a, b) ∈ prs ks d ↔ ∃ k ∈ ks, d ≤ k.2.2 ∧ k.1 = a ∧ k.2.1 = b := by
  unfold prs
  simp only [List.mem_map, List.mem_filter, decide_eq_true_iff, Prod.mk.injEq]
  constructor
  · rintro ⟨k, ⟨h1, h2⟩, h3, h4⟩
    exact ⟨k, h1, h2, h3, h4⟩
  · rintro ⟨k, h1, h2, h3, h4⟩
    exact ⟨k, ⟨h1, h2⟩, h3, h4⟩
theorem mem_stp {ks : List Link} {d a b : Nat} : (a, b) ∈ stp ks d ↔ Adj ks d a b := by
  unfold stp Adj
  rw [List.mem_append, mem_prs]
  constructor
  · rintro (⟨k, h1, h2, h3⟩ | h)
    · exact ⟨k, h1, h2, .inl h3⟩
    · obtain ⟨⟨x, y⟩, hq, e⟩ := List.mem_map.mp h
      simp only [Prod.mk.injEq] at e
      obtain ⟨rfl, rfl⟩ := e
      obtain ⟨k, h1, h2, h3⟩ := mem_prs.mp hq
      exact ⟨k, h1, h2, .inr h3⟩
  · rintro ⟨k, h1, h2, h3 | h3⟩
    · exact .inl ⟨k, h1, h2, h3⟩
    · exact .inr (List.mem_map.mpr ⟨(b, a), mem_prs.mpr ⟨k, h1, h2, h3⟩, rfl⟩)
theorem stp_len {ks : List Link} {d : Nat} : (stp ks d).length ≤ 2 * ks.length := by
  unfold stp prs
  rw [List.length_append, List.length_map, List.length_map, List.length_map]
  have := List.length_filter_le (fun k : Link => decide (d ≤ k.2.2)) ks
  omega
def prD (p : Nat × Nat) : Dt := .tup [.int (p.1 : Nat), .int (p.2 : Nat)]
def RelW (kvs : List (Key × Dt)) (f : Ways) : Prop := ∀ a : Nat, getD' kvs (Sum.inl (a : Int)) = (f a).map fun p => Dt.tup (natD p)
theorem RelW.set {kvs : List (Key × Dt)} {f : Ways} (r : RelW kvs f) {b : Nat} {p : List Nat} : RelW (putD kvs (Sum.inl (b : Int)) (.tup (natD p))) (setW f b p) := fun x => by
  rw [getD'_put]
  unfold setW
  by_cases h : x = b
  · rw [if_pos h, if_pos (by rw [h])]; rfl
  · rw [if_neg h, if_neg]
    · exact r x
    · intro e
      exact h (Int.ofNat.inj (Sum.inl.inj e)).symm
theorem RelW.some {kvs : List (Key × Dt)} {f : Ways} (r : RelW kvs f) {a : Nat} : (getD' kvs (Sum.inl (a : Int))).isSome = (f a).isSome := by
  rw [r a]
  cases f a <;> rfl
/-- what the table of chains holds -/
def WOk (ks : List Link) (d one n : Nat) (f : Ways) : Prop := ∀ a p, f a = some p → a < n ∧ p.length ≤ cnt n f ∧ IsChain ks d one a p
theorem WOk.set {ks : List Link} {d one n a b : Nat} {f : Ways} {p : List Nat} (h : WOk ks d one n f) (hb : b < n) (hf : f b = none) (ha : f a = some p) (e : Adj ks d a b) : WOk ks d one n (setW f b (p ++ [b])) := fun x q hx => by
  have c := cnt_set (p := p ++ [b]) hb hf
  unfold setW at hx
  by_cases hxb : x = b
  · rw [if_pos hxb] at hx
    obtain rfl := Option.some.inj hx
    obtain ⟨_, h2, h3⟩ := h a p ha
    rw [hxb]
    exact ⟨hb, by rw [List.length_append, List.length_singleton]; omega, h3.snoc e⟩
  · rw [if_neg hxb] at hx
    obtain ⟨h1, h2, h3⟩ := h x q hx
    exact ⟨h1, by omega, h3⟩
theorem WOk.init {ks : List Link} {d one n : Nat} (h : one < n) : WOk ks d one n (setW (fun _ => none) one [one]) ∧ 1 ≤ cnt n (setW (fun _ => none) one [one]) := by
  have c := cnt_set (f := fun _ => none) (p := [one]) h rfl
  refine ⟨fun a p hp => ?_, by omega⟩
  unfold setW at hp
  by_cases e : a = one
  · rw [if_pos e] at hp
    obtain rfl := Option.some.inj hp
    rw [e]
    exact ⟨h, by show 1 ≤ _; omega, .one⟩
  · rw [if_neg e] at hp
    cases hp
theorem RelW.init {one : Nat} : RelW [(Sum.inl (one : Int), .tup [.int (one : Nat)])] (setW (fun _ => none) one [one]) := RelW.set (kvs := []) (f := fun _ => none) (p := [one]) fun _ => rfl
/-- a set with the first item that is closed holds what is reached -/
theorem Conn.closed {ks : List Link} {d a b : Nat} (h : Conn ks d a b) {S : Nat → Prop} (h0 : S a) (hs : ∀ x y, S x → Adj ks d x y → S y) : S b := by
  induction h with
  | refl => exact h0
  | step _ e ih => exact hs _ _ ih e
end N24

namespace K24
open N24 PySem PySem.Spec PyProof.Rows L2 DL
abbrev s_find_chain : Stmt := topS 3
theorem sc_find_chain : FnScope ["links", "one", "other", "day", "ahead", "steps", "chains", "start", "end", "last"] ["links", "one", "other", "day"] (defScope s_find_chain) := ⟨rfl, rfl, rfl, by decide +kernel, rfl, by decide +kernel, by decide +kernel⟩
def dsFind : DSp := fun as post => ∃ (n : Nat) (ks : List Link) (one other d : Nat), as = [.dt (.lst (ks.map lkD)), .dt (.int (one : Nat)), .dt (.int (other : Nat)), .dt (.int (d : Nat))] ∧ n ≤ 40 ∧ ks.length ≤ 500 ∧ Lks n ks ∧ one < n ∧ other < n ∧ Conn ks d one other ∧
  ∀ p, p.length ≤ 40 → IsChain ks d one other p → post (.dt (.tup (natD p))) [.un, .un, .un, .un]
theorem natD_snoc {p : List Nat} {b : Nat} : natD p ++ [Dt.int (b : Nat)] = natD (p ++ [b]) := by unfold natD; rw [List.map_append]; rfl
section
variable {P : Program} {w : World} {K : PySem.W.Frag} [Tb K] {mg : Str → Option Value} {base : Heap}
theorem ok_find_chain {f : Addr} {fd : FuncData} (F : Fun K "find_chain" "find_chain" s_find_chain f fd) : FnG P w K mg base 1 f fd ["links", "one", "other", "day"] (spD K dsFind) := by
  refine FnG.of F sc_find_chain (fun as post h => by obtain ⟨_, _, _, _, _, h⟩ := h; rw [h.1]; rfl) fun cdv A outer s H vs fo as post hr hgu hD => ?_
  obtain ⟨n, ks, one, other, d, rfl, hn, hks0, hks, ho1, ho2, conn, hq⟩ := hD
  have a0 : At (coreOf P w K mg base (A.deeper (envOfC "find_chain" (defScope s_find_chain) s.heap.objs.size f cdv)) ["links", "one", "other", "day", "ahead", "steps", "chains", "start", "end", "last"] ((envOfC "find_chain" (defScope s_find_chain) s.heap.objs.size f cdv) :: outer)) (varOf s H (envOfC "find_chain" (defScope s_find_chain) s.heap.objs.size f cdv) outer) "links" 0 := ⟨rfl, fun _ => by first | exact .inl rfl | exact .inr (.inl rfl), by decide, by decide⟩
  have s0 : AtS (coreOf P w K mg base (A.deeper (envOfC "find_chain" (defScope s_find_chain) s.heap.objs.size f cdv)) ["links", "one", "other", "day", "ahead", "steps", "chains", "start", "end", "last"] ((envOfC "find_chain" (defScope s_find_chain) s.heap.objs.size f cdv) :: outer)) (varOf s H (envOfC "find_chain" (defScope s_find_chain) s.heap.objs.size f cdv) outer) "links" 0 := ⟨sc_find_chain.nd, rfl, fun _ => by first | exact .inl rfl | exact .inr rfl, fun _ => .inl rfl⟩
  have a1 : At (coreOf P w K mg base (A.deeper (envOfC "find_chain" (defScope s_find_chain) s.heap.objs.size f cdv)) ["links", "one", "other", "day", "ahead", "steps", "chains", "start", "end", "last"] ((envOfC "find_chain" (defScope s_find_chain) s.heap.objs.size f cdv) :: outer)) (varOf s H (envOfC "find_chain" (defScope s_find_chain) s.heap.objs.size f cdv) outer) "one" 1 := ⟨rfl, fun _ => by first | exact .inl rfl | exact .inr (.inl rfl), by decide, by decide⟩
  have s1 : AtS (coreOf P w K mg base (A.deeper (envOfC "find_chain" (defScope s_find_chain) s.heap.objs.size f cdv)) ["links", "one", "other", "day", "ahead", "steps", "chains", "start", "end", "last"] ((envOfC "find_chain" (defScope s_find_chain) s.heap.objs.size f cdv) :: outer)) (varOf s H (envOfC "find_chain" (defScope s_find_chain) s.heap.objs.size f cdv) outer) "one" 1 := ⟨sc_find_chain.nd, rfl, fun _ => by first | exact .inl rfl | exact .inr rfl, fun _ => .inl rfl⟩
  have a2 : At (coreOf P w K mg base (A.deeper (envOfC "find_chain" (defScope s_find_chain) s.heap.objs.size f cdv)) ["links", "one", "other", "day", "ahead", "steps", "chains", "start", "end", "last"] ((envOfC "find_chain" (defScope s_find_chain) s.heap.objs.size f cdv) :: outer)) (varOf s H (envOfC "find_chain" (defScope s_find_chain) s.heap.objs.size f cdv) outer) "other" 2 := ⟨rfl, fun _ => by first | exact .inl rfl | exact .inr (.inl rfl), by decide, by decide⟩
  have s2 : AtS (coreOf P w K mg base (A.deeper (envOfC "find_chain" (defScope s_find_chain) s.heap.objs.size f cdv)) ["links", "one", "other", "day", "ahead", "steps", "chains", "start", "end", "last"] ((envOfC "find_chain" (defScope s_find_chain) s.heap.objs.size f cdv) :: outer)) (varOf s H (envOfC "find_chain" (defScope s_find_chain) s.heap.objs.size f cdv) outer) "other" 2 := ⟨sc_find_chain.nd, rfl, fun _ => by first | exact .inl rfl | exact .inr rfl, fun _ => .inl rfl⟩
  have a3 : At (coreOf P w K mg base (A.deeper (envOfC "find_chain" (defScope s_find_chain) s.heap.objs.size f cdv)) ["links", "one", "other", "day", "ahead", "steps", "chains", "start", "end", "last"] ((envOfC "find_chain" (defScope s_find_chain) s.heap.objs.size f cdv) :: outer)) (varOf s H (envOfC "find_chain" (defScope s_find_chain) s.heap.objs.size f cdv) outer) "day" 3 := ⟨rfl, fun _ => by first | exact .inl rfl | exact .inr (.inl rfl), by decide, by decide⟩
  have s3 : AtS (coreOf P w K mg base (A.deeper (envOfC "find_chain" (defScope s_find_chain) s.heap.objs.size f cdv)) ["links", "one", "other", "day", "ahead", "steps", "chains", "start", "end", "last"] ((envOfC "find_chain" (defScope s_find_chain) s.heap.objs.size f cdv) :: outer)) (varOf s H (envOfC "find_chain" (defScope s_find_chain) s.heap.objs.size f cdv) outer) "day" 3 := ⟨sc_find_chain.nd, rfl, fun _ => by first | exact .inl rfl | exact .inr rfl, fun _ => .inl rfl⟩
  have a4 : At (coreOf P w K mg base (A.deeper (envOfC "find_chain" (defScope s_find_chain) s.heap.objs.size f cdv)) ["links", "one", "other", "day", "ahead", "steps", "chains", "start", "end", "last"] ((envOfC "find_chain" (defScope s_find_chain) s.heap.objs.size f cdv) :: outer)) (varOf s H (envOfC "find_chain" (defScope s_find_chain) s.heap.objs.size f cdv) outer) "ahead" 4 := ⟨rfl, fun _ => by first | exact .inl rfl | exact .inr (.inl rfl), by decide, by decide⟩
  have s4 : AtS (coreOf P w K mg base (A.deeper (envOfC "find_chain" (defScope s_find_chain) s.heap.objs.size f cdv)) ["links", "one", "other", "day", "ahead", "steps", "chains", "start", "end", "last"] ((envOfC "find_chain" (defScope s_find_chain) s.heap.objs.size f cdv) :: outer)) (varOf s H (envOfC "find_chain" (defScope s_find_chain) s.heap.objs.size f cdv) outer) "ahead" 4 := ⟨sc_find_chain.nd, rfl, fun _ => by first | exact .inl rfl | exact .inr rfl, fun _ => .inl rfl⟩
  have a5 : At (coreOf P w K mg base (A.deeper (envOfC "find_chain" (defScope s_find_chain) s.heap.objs.size f cdv)) ["links", "one", "other", "day", "ahead", "steps", "chains", "start", "end", "last"] ((envOfC "find_chain" (defScope s_find_chain) s.heap.objs.size f cdv) :: outer)) (varOf s H (envOfC "find_chain" (defScope s_find_chain) s.heap.objs.size f cdv) outer) "steps" 5 := ⟨rfl, fun _ => by first | exact .inl rfl | exact .inr (.inl rfl), by decide, by decide⟩
  have s5 : AtS (coreOf P w K mg base (A.deeper (envOfC "find_chain" (defScope s_find_chain) s.heap.objs.size f cdv)) ["links", "one", "other", "day", "ahead", "steps", "chains", "start", "end", "last"] ((envOfC "find_chain" (defScope s_find_chain) s.heap.objs.size f cdv) :: outer)) (varOf s H (envOfC "find_chain" (defScope s_find_chain) s.heap.objs.size f cdv) outer) "steps" 5 := ⟨sc_find_chain.nd, rfl, fun _ => by first | exact .inl rfl | exact .inr rfl, fun _ => .inl rfl⟩
  have a6 : At (coreOf P w K mg base (A.deeper (envOfC "find_chain" (defScope s_find_chain) s.heap.objs.size f cdv)) ["links", "one", "other", "day", "ahead", "steps", "chains", "start", "end", "last"] ((envOfC "find_chain" (defScope s_find_chain) s.heap.objs.size f cdv) :: outer)) (varOf s H (envOfC "find_chain" (defScope s_find_chain) s.heap.objs.size f cdv) outer) "chains" 6 := ⟨rfl, fun _ => by first | exact .inl rfl | exact .inr (.inl rfl), by decide, by decide⟩
  have s6 : AtS (coreOf P w K mg base (A.deeper (envOfC "find_chain" (defScope s_find_chain) s.heap.objs.size f cdv)) ["links", "one", "other", "day", "ahead", "steps", "chains", "start", "end", "last"] ((envOfC "find_chain" (defScope s_find_chain) s.heap.objs.size f cdv) :: outer)) (varOf s H (envOfC "find_chain" (defScope s_find_chain) s.heap.objs.size f cdv) outer) "chains" 6 := ⟨sc_find_chain.nd, rfl, fun _ => by first | exact .inl rfl | exact .inr rfl, fun _ => .inl rfl⟩
  have a7 : At (coreOf P w K mg base (A.deeper (envOfC "find_chain" (defScope s_find_chain) s.heap.objs.size f cdv)) ["links", "one", "other", "day", "ahead", "steps", "chains", "start", "end", "last"] ((envOfC "find_chain" (defScope s_find_chain) s.heap.objs.size f cdv) :: outer)) (varOf s H (envOfC "find_chain" (defScope s_find_chain) s.heap.objs.size f cdv) outer) "start" 7 := ⟨rfl, fun _ => by first | exact .inl rfl | exact .inr (.inl rfl), by decide, by decide⟩
  have s7 : AtS (coreOf P w K mg base (A.deeper (envOfC "find_chain" (defScope s_find_chain) s.heap.objs.size f cdv)) ["links", "one", "other", "day", "ahead", "steps", "chains", "start", "end", "last"] ((envOfC "find_chain" (defScope s_find_chain) s.heap.objs.size f cdv) :: outer)) (varOf s H (envOfC "find_chain" (defScope s_find_chain) s.heap.objs.size f cdv) outer) "start" 7 := ⟨sc_find_chain.nd, rfl, fun _ => by first | exact .inl rfl | exact .inr rfl, fun _ => .inl rfl⟩
  have a8 : At (coreOf P w K mg base (A.deeper (envOfC "find_chain" (defScope s_find_chain) s.heap.objs.size f cdv)) ["links", "one", "other", "day", "ahead", "steps", "chains", "start", "end", "last"] ((envOfC "find_chain" (defScope s_find_chain) s.heap.objs.size f cdv) :: outer)) (varOf s H (envOfC "find_chain" (defScope s_find_chain) s.heap.objs.size f cdv) outer) "end" 8 := ⟨rfl, fun _ => by first | exact .inl rfl | exact .inr (.inl rfl), by decide, by decide⟩
  have s8 : AtS (coreOf P w K mg base (A.deeper (envOfC "find_chain" (defScope s_find_chain) s.heap.objs.size f cdv)) ["links", "one", "other", "day", "ahead", "steps", "chains", "start", "end", "last"] ((envOfC "find_chain" (defScope s_find_chain) s.heap.objs.size f cdv) :: outer)) (varOf s H (envOfC "find_chain" (defScope s_find_chain) s.heap.objs.size f cdv) outer) "end" 8 := ⟨sc_find_chain.nd, rfl, fun _ => by first | exact .inl rfl | exact .inr rfl, fun _ => .inl rfl⟩
  show BD _ _ _ _ _ [AV.dt (.lst (ks.map lkD)), .dt (.int (one : Nat)), .dt (.int (other : Nat)), .dt (.int (d : Nat)), .un, .un, .un, .un, .un, .un]
  have hu := units_of hr
  refine (bd_cons (sd_setLc 4 (own := [("start", 7), ("end", 8), ("last", 9)])  s4 (fun _ => rfl) (fun _ => sw_true rfl rfl rfl rfl) (lt1 rfl) (nl rfl) (fun _ => blkOk_by rfl) (fun _ _ => rfl) (nls rfl) (src_L (ek_ed (ed_name 0 a0 rfl ⟨_, rfl, rfl, rfl, ⟨?_, (fun j acc Γ => ∃ u4 u5 u6, Γ = [AV.dt (.lst (ks.map lkD)), .dt (.int (one : Nat)), .dt (.int (other : Nat)), .dt (.int (d : Nat)), u4, u5, u6, .un, .un, .un] ∧ acc = (prs (ks.take j) d).map prD), ?_, ?_, ?_⟩⟩)))))
  · rw [List.length_map]; omega
  · exact ⟨.un, .un, .un, rfl, rfl⟩
  · rintro j e acc Γ2 hd ⟨u4, u5, u6, rfl, rfl⟩
    obtain ⟨k, hk, rfl⟩ : ∃ k, ks[j]? = some k ∧ lkD k = e := by
      rw [List.getElem?_map] at hd
      cases e : ks[j]? with
      | none => rw [e] at hd; cases hd
      | some k => rw [e] at hd; exact ⟨k, rfl, Option.some.inj hd⟩
    have hp : prs (ks.take (j + 1)) d = prs (ks.take j) d ++ if d ≤ k.2.2 then [(k.1, k.2.1)] else [] := by
      unfold prs
      rw [List.take_add_one, hk, List.filter_append, List.map_append]
      congr 1
      by_cases h : d ≤ k.2.2
      · simp [h]
      · simp [h]
    refine ⟨_, (by decide), fun g ff => (gd_tup (fun _ => rfl) (fun _ => rfl) (gds_cons (fun _ => rfl) (gd_name 7 (ats_of sc_find_chain.nd rfl (fun _ => rfl) (fun _ => rfl)) (lt1 rfl) (nl rfl) (gds_cons (fun _ => rfl) (gd_name 8 (ats_of sc_find_chain.nd rfl (fun _ => rfl) (fun _ => rfl)) (lt1 rfl) (nl rfl) (gds_cons (fun _ => rfl) (gd_name 9 (ats_of sc_find_chain.nd rfl (fun _ => rfl) (fun _ => rfl)) (lt1 rfl) (nl rfl) (gds_nil (ts_one (td_ge (ek_ed (ed_name 9 (at_of rfl (fun _ => rfl) rfl rfl) rfl (ek_ed (ed_name 3 (at_of rfl (fun _ => rfl) rfl rfl) rfl (CmpT.mk rfl rfl ⟨fun hif => (ed_tup (ea_cons (fun _ => rfl) (ek_ed (ed_name 7 (at_of rfl (fun _ => rfl) rfl rfl) rfl (ea_cons (fun _ => rfl) (ek_ed (ed_name 8 (at_of rfl (fun _ => rfl) rfl rfl) rfl (ea_nil ⟨_, rfl, le1 rfl, ⟨_, rfl, ?_⟩⟩)))))))), fun hif => ?_⟩)))))))))))))))⟩
    · refine ⟨u4, u5, u6, rfl, ?_⟩
      have z : d ≤ k.2.2 := by
        have z := hif
        simp at z
        omega
      rw [hp, if_pos z, List.map_append]; rfl
    · refine ⟨u4, u5, u6, rfl, ?_⟩
      have z : ¬ d ≤ k.2.2 := by
        have z := hif
        simp at z
        omega
      rw [hp, if_neg z, List.append_nil]
  · rintro acc Γ2 ⟨u4, u5, u6, rfl, rfl⟩
    rw [List.length_map, List.take_length]; refine bd_freeze 4 rfl ?_
    refine (bd_cons (sd_set 5 s5 (fun _ => rfl) (lt1 rfl) (nl rfl) (ed_add (ek_ed (ed_name 4 a4 rfl (ek_ed (ed_lc (own := [("start", 7), ("end", 8)]) sc_find_chain.nd (fun _ => blkOk_by rfl) (fun _ _ => rfl) (nls rfl) (src_L (ek_ed (ed_name 4 a4 rfl ⟨_, rfl, rfl, rfl, ⟨?_, (fun j acc Γ => ∃ u5 u6 u9, Γ = [AV.dt (.lst (ks.map lkD)), .dt (.int (one : Nat)), .dt (.int (other : Nat)), .dt (.int (d : Nat)), .dt (.lst ((prs ks d).map prD)), u5, u6, .un, .un, u9] ∧ acc = (((prs ks d).take j).map fun q => (q.2, q.1)).map prD), ?_, ?_, ?_⟩⟩))))))))))
    · rw [List.length_map]
      have : (prs ks d).length ≤ ks.length := by unfold prs; rw [List.length_map]; exact List.length_filter_le _ _
      omega
    · exact ⟨u5, u6, .un, rfl, rfl⟩
    · rintro j e acc Γ2 hd ⟨u5, u6, u9, rfl, rfl⟩
      obtain ⟨q, hk, rfl⟩ : ∃ q, (prs ks d)[j]? = some q ∧ prD q = e := by
        rw [List.getElem?_map] at hd
        cases e : (prs ks d)[j]? with
        | none => rw [e] at hd; cases hd
        | some k => rw [e] at hd; exact ⟨k, rfl, Option.some.inj hd⟩
      refine ⟨_, (by decide), fun g ff => (gd_tup (fun _ => rfl) (fun _ => rfl) (gds_cons (fun _ => rfl) (gd_name 7 (ats_of sc_find_chain.nd rfl (fun _ => rfl) (fun _ => rfl)) (lt1 rfl) (nl rfl) (gds_cons (fun _ => rfl) (gd_name 8 (ats_of sc_find_chain.nd rfl (fun _ => rfl) (fun _ => rfl)) (lt1 rfl) (nl rfl) (gds_nil (ts_nil ⟨fun _ => (ed_tup (ea_cons (fun _ => rfl) (ek_ed (ed_name 8 (at_of rfl (fun _ => rfl) rfl rfl) rfl (ea_cons (fun _ => rfl) (ek_ed (ed_name 7 (at_of rfl (fun _ => rfl) rfl rfl) rfl (ea_nil ⟨_, rfl, le1 rfl, ⟨_, rfl, ?_⟩⟩)))))))), fun hif => nomatch hif⟩)))))))⟩
      refine ⟨u5, u6, u9, rfl, ?_⟩
      rw [List.take_add_one, hk, List.map_append, List.map_append]; rfl
    · rintro acc Γ2 ⟨u5, u6, u9, rfl, rfl⟩
      rw [List.length_map, List.take_length]; refine AddR.lst rfl rfl rfl rfl ?_ ?_
      · have h1 : (prs ks d).length ≤ ks.length := by unfold prs; rw [List.length_map]; exact List.length_filter_le _ _
        rw [List.length_map, List.length_map, List.length_map]
        omega
      rw [← List.map_append]
      refine bd_freeze 5 rfl ?_
      refine (bd_cons (sd_set 6 s6 (fun _ => rfl) (lt1 rfl) (nl rfl) (ed_disp1 fun g ff => (ek_ed (ed_name 1 a1 rfl (ek_ed (ed_tup (ea_cons (fun _ => rfl) (ek_ed (ed_name 1 a1 rfl (ea_nil ⟨_, rfl, le1 rfl, ⟨_, _, rfl, rfl, (bd_cons (sd_while (fun _ => PassesOwn.never) (fun m Γ => ∃ f kvs u7 u8 u9, m = n - N24.cnt n f ∧ Γ = [AV.dt (.lst (ks.map lkD)), .dt (.int (one : Nat)), .dt (.int (other : Nat)), .dt (.int (d : Nat)), .dt (.lst ((prs ks d).map prD)), .dt (.lst ((stp ks d).map prD)), .own (.dk kvs), u7, u8, u9] ∧ RelW kvs f ∧ WOk ks d one n f ∧ kvs.length ≤ N24.cnt n f ∧ (f one).isSome = true) ?_ ?_))⟩⟩)))))))))))
      · exact ⟨_, setW (fun _ => none) one [one], _, .un, .un, u9, rfl, rfl, RelW.init, (WOk.init ho1).1, (WOk.init (ks := ks) (d := d) ho1).2, by unfold setW; rw [if_pos rfl]; rfl⟩
      · rintro m Γ2 ⟨f0, kvs, u7, u8, u9, rfl, rfl, rel, ok, few, hone⟩
        have hcl : N24.cnt n f0 ≤ n := cnt_le
        refine (td_notinK hu rfl (ek_ed (ed_name 2 a2 rfl (ek_loanC 6 a6 rfl ⟨_, _, rfl, rfl, ⟨fun hif => ?_, fun hif => ?_⟩⟩))))
        · have no : (f0 other).isSome = false := by
            have z := hif
            rw [RelW.some rel] at z
            simpa using z
          refine (bd_cons (sd_for (fun _ => PassesOwn.never) (fun _ _ => rfl) (src_L (ek_ed (ed_name 5 a5 rfl ⟨_, rfl, rfl, rfl, ⟨(fun j Γ => ∃ f kvs u7 u8, Γ = [AV.dt (.lst (ks.map lkD)), .dt (.int (one : Nat)), .dt (.int (other : Nat)), .dt (.int (d : Nat)), .dt (.lst ((prs ks d).map prD)), .dt (.lst ((stp ks d).map prD)), .own (.dk kvs), u7, u8, u9] ∧ RelW kvs f ∧ WOk ks d one n f ∧ kvs.length ≤ N24.cnt n f ∧ (∀ a, (f0 a).isSome = true → (f a).isSome = true) ∧ (∀ q ∈ (stp ks d).take j, (f0 q.1).isSome = true → (f q.2).isSome = true) ∧ N24.cnt n f0 ≤ N24.cnt n f ∧ (N24.cnt n f0 < N24.cnt n f ∨ ∀ a, (f a).isSome = true → (f0 a).isSome = true)), ?_, ?_, ?_⟩⟩)))))
          · exact ⟨f0, kvs, u7, u8, rfl, rel, ok, few, fun _ h => h, (fun q hq => by cases hq), Nat.le_refl _, .inr fun _ h => h⟩
          · rintro j e Γ2 hd ⟨f, kw, u7, u8, rfl, rel, ok, few, mono, done, ge, same⟩
            obtain ⟨⟨a, b⟩, hk, rfl⟩ : ∃ q, (stp ks d)[j]? = some q ∧ prD q = e := by
              rw [List.getElem?_map] at hd
              cases e : (stp ks d)[j]? with
              | none => rw [e] at hd; cases hd
              | some k => rw [e] at hd; exact ⟨k, rfl, Option.some.inj hd⟩
            have adj : Adj ks d a b := mem_stp.mp (List.mem_of_getElem? hk)
            have hb : b < n := by
              obtain ⟨k, k1, _, k3⟩ := adj
              have := hks k k1
              rcases k3 with z | z <;> omega
            have hcl : N24.cnt n f ≤ n := cnt_le
            refine ⟨_, fun ff => (gd_tup (fun _ => rfl) (fun _ => rfl) (gds_cons (fun _ => rfl) (gd_name 7 s7 (lt1 rfl) (nl rfl) (gds_cons (fun _ => rfl) (gd_name 8 s8 (lt1 rfl) (nl rfl) (gds_nil (bd_cons (sd_if (td_wd (wd_and (td_inK hu rfl (ek_ed (ed_name 7 a7 rfl (ek_loanC 6 a6 rfl ⟨_, _, rfl, rfl, ⟨fun hif => (wd_and1 (td_notinK hu rfl (ek_ed (ed_name 8 a8 rfl (ek_loanC 6 a6 rfl ⟨_, _, rfl, rfl, ⟨fun hif => ?_, fun hif => ?_⟩⟩))))), fun hif => ⟨fun hit => (nomatch hit), fun hit => ?_⟩⟩⟩))))))))))))))⟩
            · rename_i h1 h2
              have ha : (f a).isSome = true := by
                have z : (false ^^ (getD' kw (Sum.inl (a : Int))).isSome) = true := h2
                rw [rel.some] at z
                simpa using z
              have hb0 : f b = none := by
                have z : (true ^^ (getD' kw (Sum.inl (b : Int))).isSome) = true := hif
                rw [rel.some] at z
                simpa using z
              obtain ⟨p, hp⟩ := Option.isSome_iff_exists.mp ha
              have hget : getD' kw (Sum.inl (a : Int)) = some (.tup (natD p)) := by rw [rel a, hp]; rfl
              obtain ⟨_, hl, _⟩ := ok a p hp
              have cs := cnt_set (p := p ++ [b]) hb hb0
              have sm : ∀ x, (f x).isSome = true → (setW f b (p ++ [b]) x).isSome = true := fun x hx => by
                unfold setW
                split
                · rfl
                · exact hx
              refine (bd_cons (sd_dputK hu 6 a6 (fun _ => rfl) (ek_ed (ed_tupS (fun _ => rfl) (fun _ => rfl) (ek_ed (ed_getK hu (fun _ _ => rfl) (ek_loanC 6 a6 rfl (ek_ed (ed_name 7 a7 rfl ⟨_, _, _, rfl, rfl, (hget), ⟨_, rfl, (ek_ed (ed_name 8 a8 rfl ⟨_, rfl, ?_, ⟨⟨_, rfl⟩, (ek_ed (ed_name 8 a8 rfl ⟨_, _, _, rfl, rfl, rfl, ?_, ?_⟩))⟩⟩))⟩⟩)))))))))
              · rw [natD_len]; omega
              · omega
              · refine bd_nil ?_
                refine bd_nil ?_
                refine ⟨setW f b (p ++ [b]), putD kw (Sum.inl (b : Int)) (.tup (natD (p ++ [b]))), .dt (.int (a : Nat)), .dt (.int (b : Nat)), ?_, rel.set, ok.set hb hb0 hp adj, ?_, fun x hx => sm x (mono x hx), fun q hq => ?_, by omega, .inl (by omega)⟩
                · rw [← natD_snoc]; rfl
                · exact Nat.le_trans (putD_len _ _ _) (by omega)
                · rw [List.take_add_one, hk] at hq; rcases List.mem_append.mp hq with hq | hq
                  · exact fun h => sm _ (done q hq h)
                  · obtain rfl := List.mem_singleton.mp hq; intro _
                    show (setW f b (p ++ [b]) b).isSome = true
                    unfold setW
                    rw [if_pos rfl]; rfl
            · have hb0 : (f b).isSome = true := by
                have z : (true ^^ (getD' kw (Sum.inl (b : Int))).isSome) = false := hif
                rw [rel.some] at z
                simpa using z
              refine bd_nil ?_
              refine bd_nil ?_
              refine ⟨f, kw, .dt (.int (a : Nat)), .dt (.int (b : Nat)), rfl, rel, ok, few, mono, fun q hq => ?_, ge, same⟩
              rw [List.take_add_one, hk] at hq; rcases List.mem_append.mp hq with hq | hq
              · exact done q hq
              · obtain rfl := List.mem_singleton.mp hq; exact fun _ => hb0
            · have ha : (f a).isSome = false := by
                have z : (false ^^ (getD' kw (Sum.inl (a : Int))).isSome) = false := hif
                rw [rel.some] at z
                simpa using z
              refine bd_nil ?_
              refine bd_nil ?_
              refine ⟨f, kw, .dt (.int (a : Nat)), .dt (.int (b : Nat)), rfl, rel, ok, few, mono, fun q hq => ?_, ge, same⟩
              rw [List.take_add_one, hk] at hq; rcases List.mem_append.mp hq with hq | hq
              · exact done q hq
              · obtain rfl := List.mem_singleton.mp hq; intro h
                rw [mono a h] at ha
                cases ha
          · rintro Γ2 ⟨f, kw, u7, u8, rfl, rel, ok, few, mono, done, ge, same⟩
            refine bd_nil ?_
            rw [List.length_map, List.take_length] at done
            refine ⟨_, ?_, f, kw, u7, u8, u9, rfl, rfl, rel, ok, few, mono one hone⟩
            have : N24.cnt n f ≤ n := cnt_le
            rcases same with z | z
            · omega
            · exfalso
              have := conn.closed (S := fun x => (f0 x).isSome = true) hone fun x y hx e => z y (done (x, y) (mem_stp.mpr e) hx)
              rw [no] at this
              cases this
        · have yes : (f0 other).isSome = true := by
            have z := hif
            rw [RelW.some rel] at z
            simpa using z
          obtain ⟨p, hp⟩ := Option.isSome_iff_exists.mp yes
          have hget : getD' kvs (Sum.inl (other : Int)) = some (.tup (natD p)) := by rw [rel other, hp]; rfl
          obtain ⟨_, h2, h3⟩ := ok other p hp
          refine (bd_cons (sd_ret (ed_getK hu (fun _ _ => rfl) (ek_loanC 6 a6 rfl (ek_ed (ed_name 2 a2 rfl ⟨_, _, _, rfl, rfl, (hget), ?_⟩))))))
          exact hq p (by omega) h3
end
end K24

/-! what the laws of tables share: rows, tables -/
namespace DL
open PySem PySem.Spec
open PyProof.Rows L2
/-- a row of so many days -/
def isRow (n : Nat) : Dt → Bool
  | .tup ds => decide (ds.length = n) && ds.all (isGe 0)
  | _ => false
def Knds (d : Dt) : Prop := Knd d ∧ ∀ ds, d = .tup ds → ds.length ≤ 1000000 ∧ ∀ e ∈ ds, Knd e
def dsRow : DSp := fun as post => ∃ d n, as = [.dt d, .dt (.int (n : Nat))] ∧ Knds d ∧ post (.dt (.bl (isRow n d))) [.un, .un]
/-- rows of 0, 1, 2, .. days -/
def isTbl : Dt → Bool
  | .tup ds => !ds.isEmpty && ds.zipIdx.all fun p => isRow p.2 p.1
  | _ => false
def Knd3 (d : Dt) : Prop := Knd d ∧ ∀ ds, d = .tup ds → ds.length ≤ 1000000 ∧ ∀ e ∈ ds, Knds e
def dsTable : DSp := fun as post => ∃ d, as = [.dt d] ∧ Knd3 d ∧ post (.dt (.bl (isTbl d))) [.un]
theorem ne_of_nd {p : Prop} [Decidable p] (h : (!decide p) = true) : ¬ p := fun q => by rw [decide_eq_true q] at h; cases h
theorem eq_of_nd {p : Prop} [Decidable p] (h : (!decide p) = false) : p := Classical.byContradiction fun q => by rw [decide_eq_false q] at h; cases h
end DL
namespace N24
open DL L2
/-- the days that a table has -/
def tOf : Dt → Nat → Nat → Nat
  | .tup ds, x, y => match ds[x]? with
    | some (.tup es) => match es[y]? with
      | some (.int i) => i.toNat
      | _ => 0
    | _ => 0
  | _, _, _ => 0
def nOf : Dt → Nat
  | .tup ds => ds.length
  | _ => 0
theorem row_form {n : Nat} {d : Dt} (h : isRow n d = true) {f : Nat → Nat} (hf : ∀ es y i, d = .tup es → es[y]? = some (.int i) → f y = i.toNat) : d = .tup ((List.range n).map fun y => .int (f y : Nat)) := by
  cases d with
  | tup es =>
    have h' : (decide (es.length = n) && es.all (isGe 0)) = true := h
    rw [Bool.and_eq_true] at h'
    have hl : es.length = n := of_decide_eq_true h'.1
    congr 1
    apply List.ext_getElem?
    intro y
    by_cases hy : y < n
    · have e := List.getElem?_eq_getElem (l := es) (i := y) (by omega)
      have g : isGe 0 es[y] = true := List.all_eq_true.mp h'.2 _ (List.getElem_mem _)
      rw [List.getElem?_map, List.getElem?_range hy, e]
      cases u : es[y] with
      | int i =>
        rw [u] at e g
        have hi : 0 ≤ i := of_decide_eq_true g
        rw [Option.map_some, hf es y i rfl e, Int.toNat_of_nonneg hi]
      | _ => rw [u] at g; cases g
    · rw [List.getElem?_eq_none (by omega), List.getElem?_eq_none (by rw [List.length_map, List.length_range]; omega)]
  | _ => cases h
theorem tbl_form {d : Dt} (h : isTbl d = true) : d = tabD (tOf d) (nOf d) ∧ 1 ≤ nOf d := by
  cases d with
  | tup ds =>
    have h' : (!ds.isEmpty && ds.zipIdx.all fun p => isRow p.2 p.1) = true := h
    rw [Bool.and_eq_true] at h'
    refine ⟨?_, ?_⟩
    · unfold tabD
      congr 1
      apply List.ext_getElem?
      intro x
      by_cases hx : x < ds.length
      · have e := List.getElem?_eq_getElem hx
        show ds[x]? = ((List.range ds.length).map _)[x]?
        rw [List.getElem?_map, List.getElem?_range hx, e, Option.map_some]
        have g : isRow x ds[x] = true := List.all_eq_true.mp h'.2 (ds[x], x) (List.mem_of_getElem? (i := x) (by rw [List.getElem?_zipIdx, e]; simp))
        congr 1
        refine row_form g fun es y i he hy => ?_
        show (match ds[x]? with | some (.tup es) => _ | _ => _) = _
        rw [e, he]
        show (match es[y]? with | some (.int i) => _ | _ => _) = _
        rw [hy]
      · show ds[x]? = ((List.range ds.length).map _)[x]?
        rw [List.getElem?_eq_none (by omega), List.getElem?_eq_none (by rw [List.length_map, List.length_range]; omega)]
    · show 1 ≤ ds.length
      cases ds with
      | nil => cases h'.1
      | cons a b => rw [List.length_cons]; omega
  | _ => cases h
theorem tab_is {g : Nat → Nat → Nat} {n : Nat} (h : 1 ≤ n) : isTbl (tabD g n) = true := by
  show (!((List.range n).map _).isEmpty && ((List.range n).map _).zipIdx.all _) = true
  rw [Bool.and_eq_true]
  refine ⟨?_, List.all_eq_true.mpr fun p hp => ?_⟩
  · cases n with
    | zero => omega
    | succ n => rw [List.range_succ_eq_map]; rfl
  · obtain ⟨d, x⟩ := p
    have e := List.mem_zipIdx_iff_getElem?.mp hp
    rw [List.getElem?_map] at e
    have hx : x < n := Classical.byContradiction fun z => by
      rw [List.getElem?_eq_none (by rw [List.length_range]; omega)] at e
      cases e
    rw [List.getElem?_range hx] at e
    obtain rfl := Option.some.inj e
    show (decide (((List.range x).map _).length = x) && _) = true
    rw [List.length_map, List.length_range, decide_eq_true rfl, Bool.true_and]
    refine List.all_eq_true.mpr fun u hu => ?_
    obtain ⟨y, _, rfl⟩ := List.mem_map.mp hu
    exact decide_eq_true (show (0 : Int) ≤ ((g x y : Nat) : Int) from Int.natCast_nonneg _)
end N24

namespace K24
open N24 PySem PySem.Spec PyProof.Rows L2 DL
abbrev s_is_whole : Stmt := topS 29
theorem sc_is_whole : FnScope ["value"] ["value"] (defScope s_is_whole) := ⟨rfl, rfl, rfl, by decide +kernel, rfl, by decide +kernel, by decide +kernel⟩
abbrev s_is_day : Stmt := topS 30
theorem sc_is_day : FnScope ["value"] ["value"] (defScope s_is_day) := ⟨rfl, rfl, rfl, by decide +kernel, rfl, by decide +kernel, by decide +kernel⟩
abbrev s__is_row : Stmt := topS 33
theorem sc__is_row : FnScope ["value", "length", "day"] ["value", "length"] (defScope s__is_row) := ⟨rfl, rfl, rfl, by decide +kernel, rfl, by decide +kernel, by decide +kernel⟩
abbrev s_is_table : Stmt := topS 32
theorem sc_is_table : FnScope ["value", "length", "row"] ["value"] (defScope s_is_table) := ⟨rfl, rfl, rfl, by decide +kernel, rfl, by decide +kernel, by decide +kernel⟩
section
variable {P : Program} {w : World} {K : PySem.W.Frag} [Tb K] {mg : Str → Option Value} {base : Heap}
theorem ok_is_whole (m_isinstance : mg "isinstance" = none) (m_int : mg "int" = none) (m_bool : mg "bool" = none) {f : Addr} {fd : FuncData} (F : Fun K "is_whole" "is_whole" s_is_whole f fd) : FnG P w K mg base 1 f fd ["value"] (spD K dsWhole) := by
  refine FnG.of F sc_is_whole (fun as post h => by obtain ⟨_, h⟩ := h; rw [h.1]; rfl) fun cdv A outer s H vs fo as post hr hgu hD => ?_
  obtain ⟨d, rfl, ⟨t, hk⟩, hq⟩ := hD
  have a0 : At (coreOf P w K mg base (A.deeper (envOfC "is_whole" (defScope s_is_whole) s.heap.objs.size f cdv)) ["value"] ((envOfC "is_whole" (defScope s_is_whole) s.heap.objs.size f cdv) :: outer)) (varOf s H (envOfC "is_whole" (defScope s_is_whole) s.heap.objs.size f cdv) outer) "value" 0 := ⟨rfl, fun _ => by first | exact .inl rfl | exact .inr (.inl rfl), by decide, by decide⟩
  have s0 : AtS (coreOf P w K mg base (A.deeper (envOfC "is_whole" (defScope s_is_whole) s.heap.objs.size f cdv)) ["value"] ((envOfC "is_whole" (defScope s_is_whole) s.heap.objs.size f cdv) :: outer)) (varOf s H (envOfC "is_whole" (defScope s_is_whole) s.heap.objs.size f cdv) outer) "value" 0 := ⟨sc_is_whole.nd, rfl, fun _ => by first | exact .inl rfl | exact .inr rfl, fun _ => .inl rfl⟩
  show BD _ _ _ _ _ [.dt d]
  refine (bd_cons (sd_ret (ed_and (ed_isT (fun _ => rfl) m_isinstance (fun _ => rfl) m_int (by decide +kernel) (by decide) (by decide) (fun _ => rfl) (fun _ => rfl) (fun _ => rfl) (ek_ed (ed_name 0 a0 rfl ⟨_, _, _, rfl, hk, ty_int hk, ⟨_, rfl, fun hif => (ed_bool1 (ed_not (ed_isT (fun _ => rfl) m_isinstance (fun _ => rfl) m_bool (by decide +kernel) (by decide) (by decide) (fun _ => rfl) (fun _ => rfl) (fun _ => rfl) (ek_ed (ed_name 0 a0 rfl ⟨_, _, _, rfl, hk, ty_bool hk, ⟨_, rfl, ?_⟩⟩))))), fun hif => ?_⟩⟩))))))
  · have hi : isI d = true := ‹_›
    have : post (.dt (.bl (isW d))) [.un] := hq
    rw [isW_eq, hi] at this
    exact this
  · have hi : isI d = false := ‹_›
    have : post (.dt (.bl (isW d))) [.un] := hq
    rw [isW_eq, hi] at this
    exact this
theorem ok_is_day {f_is_whole : Addr} {d_is_whole : FuncData} (G_is_whole : FnG P w K mg base 1 f_is_whole d_is_whole ["value"] (spD K dsWhole)) (g_is_whole : mg "is_whole" = some (.ref f_is_whole)) (k_is_whole : PySem.W.keepIn K (.ref f_is_whole) = true) (b_is_whole : Binds K d_is_whole ["value"] []) {f : Addr} {fd : FuncData} (F : Fun K "is_day" "is_day" s_is_day f fd) : FnG P w K mg base 2 f fd ["value"] (spD K (dsGe 0)) := by
  refine FnG.of F sc_is_day (fun as post h => by obtain ⟨_, h⟩ := h; rw [h.1]; rfl) fun cdv A outer s H vs fo as post hr hgu hD => ?_
  obtain ⟨d, rfl, ⟨t, hk⟩, hq⟩ := hD
  have a0 : At (coreOf P w K mg base (A.deeper (envOfC "is_day" (defScope s_is_day) s.heap.objs.size f cdv)) ["value"] ((envOfC "is_day" (defScope s_is_day) s.heap.objs.size f cdv) :: outer)) (varOf s H (envOfC "is_day" (defScope s_is_day) s.heap.objs.size f cdv) outer) "value" 0 := ⟨rfl, fun _ => by first | exact .inl rfl | exact .inr (.inl rfl), by decide, by decide⟩
  have s0 : AtS (coreOf P w K mg base (A.deeper (envOfC "is_day" (defScope s_is_day) s.heap.objs.size f cdv)) ["value"] ((envOfC "is_day" (defScope s_is_day) s.heap.objs.size f cdv) :: outer)) (varOf s H (envOfC "is_day" (defScope s_is_day) s.heap.objs.size f cdv) outer) "value" 0 := ⟨sc_is_day.nd, rfl, fun _ => by first | exact .inl rfl | exact .inr rfl, fun _ => .inl rfl⟩
  show BD _ _ _ _ _ [AV.dt _]
  cases d with
  | int i =>
    refine (bd_cons (sd_ret (ed_and (ed_call G_is_whole (hr.mono (by decide)) hgu (fun _ => rfl) g_is_whole k_is_whole b_is_whole (by decide) (fun _ => rfl) (fun _ => rfl) (ea_cons (fun _ => rfl) (ek_ed (ed_name 0 a0 rfl (ea_nil ⟨_, rfl, rfl, ⟨_, rfl, ⟨t, hk⟩, fun _ => ⟨_, rfl, fun hif => (ed_bool1 (ed_ge (ek_ed (ed_name 0 a0 rfl (ek_ed (ed_int (CmpR.mk rfl rfl ?_))))))), fun hif => ?_⟩⟩⟩))))))))
    · exact hq
    · rename_i hif
      cases hif
  | _ =>
    refine (bd_cons (sd_ret (ed_and (ed_call G_is_whole (hr.mono (by decide)) hgu (fun _ => rfl) g_is_whole k_is_whole b_is_whole (by decide) (fun _ => rfl) (fun _ => rfl) (ea_cons (fun _ => rfl) (ek_ed (ed_name 0 a0 rfl (ea_nil ⟨_, rfl, rfl, ⟨_, rfl, ⟨t, hk⟩, fun _ => ⟨_, rfl, fun hif => (Bool.noConfusion (show false = true from hif)), fun hif => ?_⟩⟩⟩))))))))
    exact hq
theorem ok__is_row {f_is_day : Addr} {d_is_day : FuncData} (G_is_day : FnG P w K mg base 2 f_is_day d_is_day ["value"] (spD K (dsGe 0))) (g_is_day : mg "is_day" = some (.ref f_is_day)) (k_is_day : PySem.W.keepIn K (.ref f_is_day) = true) (b_is_day : Binds K d_is_day ["value"] []) (m_isinstance : mg "isinstance" = none) (m_tuple : mg "tuple" = none) (m_len : mg "len" = none) (m_all : mg "all" = none) {f : Addr} {fd : FuncData} (F : Fun K "_is_row" "_is_row" s__is_row f fd) : FnG P w K mg base 3 f fd ["value", "length"] (spD K dsRow) := by
  refine FnG.of F sc__is_row (fun as post h => by obtain ⟨_, _, h⟩ := h; rw [h.1]; rfl) fun cdv A outer s H vs fo as post hr hgu hD => ?_
  obtain ⟨d, n, rfl, ⟨⟨t, hk⟩, hks⟩, hq⟩ := hD
  have a0 : At (coreOf P w K mg base (A.deeper (envOfC "_is_row" (defScope s__is_row) s.heap.objs.size f cdv)) ["value", "length", "day"] ((envOfC "_is_row" (defScope s__is_row) s.heap.objs.size f cdv) :: outer)) (varOf s H (envOfC "_is_row" (defScope s__is_row) s.heap.objs.size f cdv) outer) "value" 0 := ⟨rfl, fun _ => by first | exact .inl rfl | exact .inr (.inl rfl), by decide, by decide⟩
  have s0 : AtS (coreOf P w K mg base (A.deeper (envOfC "_is_row" (defScope s__is_row) s.heap.objs.size f cdv)) ["value", "length", "day"] ((envOfC "_is_row" (defScope s__is_row) s.heap.objs.size f cdv) :: outer)) (varOf s H (envOfC "_is_row" (defScope s__is_row) s.heap.objs.size f cdv) outer) "value" 0 := ⟨sc__is_row.nd, rfl, fun _ => by first | exact .inl rfl | exact .inr rfl, fun _ => .inl rfl⟩
  have a1 : At (coreOf P w K mg base (A.deeper (envOfC "_is_row" (defScope s__is_row) s.heap.objs.size f cdv)) ["value", "length", "day"] ((envOfC "_is_row" (defScope s__is_row) s.heap.objs.size f cdv) :: outer)) (varOf s H (envOfC "_is_row" (defScope s__is_row) s.heap.objs.size f cdv) outer) "length" 1 := ⟨rfl, fun _ => by first | exact .inl rfl | exact .inr (.inl rfl), by decide, by decide⟩
  have s1 : AtS (coreOf P w K mg base (A.deeper (envOfC "_is_row" (defScope s__is_row) s.heap.objs.size f cdv)) ["value", "length", "day"] ((envOfC "_is_row" (defScope s__is_row) s.heap.objs.size f cdv) :: outer)) (varOf s H (envOfC "_is_row" (defScope s__is_row) s.heap.objs.size f cdv) outer) "length" 1 := ⟨sc__is_row.nd, rfl, fun _ => by first | exact .inl rfl | exact .inr rfl, fun _ => .inl rfl⟩
  show BD _ _ _ _ _ [AV.dt _, .dt (.int n), .un]
  cases d with
  | tup ds =>
    refine (bd_cons (sd_if (td_wd (wd_or (td_not (td_val (fun _ _ => rfl) (ed_isT (fun _ => rfl) m_isinstance (fun _ => rfl) m_tuple (by decide +kernel) (by decide) (by decide) (fun _ => rfl) (fun _ => rfl) (fun _ => rfl) (ek_ed (ed_name 0 a0 rfl ⟨_, _, _, rfl, hk, ty_tuple hk, ⟨_, rfl, ⟨fun hif => (wd_or1 (td_neI (ek_ed (ed_len (fun _ => rfl) m_len (fun _ => rfl) (ek_ed (ed_name 0 a0 rfl ⟨_, rfl, (ek_ed (ed_name 1 a1 rfl (CmpT.mk rfl rfl ⟨fun hif => (bd_cons (sd_ret (ed_bl ?_))), fun hif => (bd_nil (bd_cons (sd_ret (ed_all (fun _ => rfl) m_all (fun _ => rfl) (ek_ed (ed_lc (own := [("day", 2)]) sc__is_row.nd (fun _ => blkOk_by rfl) (fun _ _ => rfl) (nls rfl) (src_T (ek_ed (ed_name 0 a0 rfl ⟨_, rfl, ⟨?_, (fun j acc Γ => Γ = [AV.dt (.tup ds), .dt (.int (n : Nat)), .un] ∧ acc = (ds.take j).map fun d => .bl (isGe 0 d)), ?_, ?_, ?_⟩⟩)))))))))⟩)))⟩)))))), fun hif => ⟨fun hit => (bd_cons (sd_ret (ed_bl ?_))), fun hit => (nomatch hit)⟩⟩⟩⟩)))))))))
    · have h : ¬ ((ds.length : Int) = n) := ne_of_nd hif
      have e : isRow n (.tup ds) = false := by
        show (decide (ds.length = n) && _) = false
        rw [decide_eq_false (by omega), Bool.false_and]
      rw [e] at hq
      exact hq
    · exact (hks ds rfl).1
    · exact ⟨rfl, rfl⟩
    · rintro j d acc Γ2 hj ⟨rfl, rfl⟩
      have hkd : Knd d := (hks ds rfl).2 d (List.mem_of_getElem? hj)
      refine ⟨_, (by decide), fun g ff => (gd_name 2 (ats_of sc__is_row.nd rfl (fun _ => rfl) (fun _ => rfl)) (lt1 rfl) (nl rfl) (ts_nil ⟨fun _ => (ed_call G_is_day (hr.mono (by decide)) hgu (fun _ => rfl) g_is_day k_is_day b_is_day (by decide) (fun _ => rfl) (fun _ => rfl) (ea_cons (fun _ => rfl) (ek_ed (ed_name 2 (at_of rfl (fun _ => rfl) rfl rfl) rfl (ea_nil ⟨_, rfl, rfl, ⟨_, rfl, hkd, fun _ => ⟨_, rfl, ?_⟩⟩⟩))))), fun hif => nomatch hif⟩))⟩
      refine ⟨rfl, ?_⟩
      rw [take_map_succ hj]
    · rintro acc Γ2 ⟨rfl, rfl⟩
      refine ⟨ds.map (isGe 0), ?_, ?_⟩
      · rw [List.take_length, List.map_map]
        rfl
      · have h : (ds.length : Int) = n := eq_of_nd ‹_›
        have e : isRow n (.tup ds) = ((ds.map (isGe 0)).all fun z => z) := by
          show (decide (ds.length = n) && ds.all (isGe 0)) = _
          rw [decide_eq_true (by omega), Bool.true_and, List.all_map]
          rfl
        rw [e] at hq
        exact hq
    · exact Bool.noConfusion (show false = true from ‹_›)
  | _ =>
    refine (bd_cons (sd_if (td_wd (wd_or (td_not (td_val (fun _ _ => rfl) (ed_isT (fun _ => rfl) m_isinstance (fun _ => rfl) m_tuple (by decide +kernel) (by decide) (by decide) (fun _ => rfl) (fun _ => rfl) (fun _ => rfl) (ek_ed (ed_name 0 a0 rfl ⟨_, _, _, rfl, hk, ty_tuple hk, ⟨_, rfl, ⟨fun hif => (Bool.noConfusion (show false = true from (by cases hif))), fun hif => ⟨fun hif => (bd_cons (sd_ret (ed_bl ?_))), fun hif => nomatch hif⟩⟩⟩⟩)))))))))
    exact hq
theorem ok_is_table {f__is_row : Addr} {d__is_row : FuncData} (G__is_row : FnG P w K mg base 3 f__is_row d__is_row ["value", "length"] (spD K dsRow)) (g__is_row : mg "_is_row" = some (.ref f__is_row)) (k__is_row : PySem.W.keepIn K (.ref f__is_row) = true) (b__is_row : Binds K d__is_row ["value", "length"] []) (m_isinstance : mg "isinstance" = none) (m_tuple : mg "tuple" = none) (m_len : mg "len" = none) (m_all : mg "all" = none) (m_enumerate : mg "enumerate" = none) {f : Addr} {fd : FuncData} (F : Fun K "is_table" "is_table" s_is_table f fd) : FnG P w K mg base 4 f fd ["value"] (spD K dsTable) := by
  refine FnG.of F sc_is_table (fun as post h => by obtain ⟨_, h⟩ := h; rw [h.1]; rfl) fun cdv A outer s H vs fo as post hr hgu hD => ?_
  obtain ⟨d, rfl, ⟨⟨t, hk⟩, hks⟩, hq⟩ := hD
  have a0 : At (coreOf P w K mg base (A.deeper (envOfC "is_table" (defScope s_is_table) s.heap.objs.size f cdv)) ["value", "length", "row"] ((envOfC "is_table" (defScope s_is_table) s.heap.objs.size f cdv) :: outer)) (varOf s H (envOfC "is_table" (defScope s_is_table) s.heap.objs.size f cdv) outer) "value" 0 := ⟨rfl, fun _ => by first | exact .inl rfl | exact .inr (.inl rfl), by decide, by decide⟩
  have s0 : AtS (coreOf P w K mg base (A.deeper (envOfC "is_table" (defScope s_is_table) s.heap.objs.size f cdv)) ["value", "length", "row"] ((envOfC "is_table" (defScope s_is_table) s.heap.objs.size f cdv) :: outer)) (varOf s H (envOfC "is_table" (defScope s_is_table) s.heap.objs.size f cdv) outer) "value" 0 := ⟨sc_is_table.nd, rfl, fun _ => by first | exact .inl rfl | exact .inr rfl, fun _ => .inl rfl⟩
  show BD _ _ _ _ _ [AV.dt _, .un, .un]
  cases d with
  | tup ds =>
    refine (bd_cons (sd_if (td_wd (wd_or (td_not (td_val (fun _ _ => rfl) (ed_isT (fun _ => rfl) m_isinstance (fun _ => rfl) m_tuple (by decide +kernel) (by decide) (by decide) (fun _ => rfl) (fun _ => rfl) (fun _ => rfl) (ek_ed (ed_name 0 a0 rfl ⟨_, _, _, rfl, hk, ty_tuple hk, ⟨_, rfl, ⟨fun hif => (wd_or1 (td_eqI (ek_ed (ed_len (fun _ => rfl) m_len (fun _ => rfl) (ek_ed (ed_name 0 a0 rfl ⟨_, rfl, (ek_ed (ed_int (CmpT.mk rfl rfl ⟨fun hif => (bd_cons (sd_ret (ed_bl ?_))), fun hif => (bd_nil (bd_cons (sd_ret (ed_all (fun _ => rfl) m_all (fun _ => rfl) (ek_ed (ed_lc (own := [("length", 1), ("row", 2)]) sc_is_table.nd (fun _ => blkOk_by rfl) (fun _ _ => rfl) (nls rfl) (src_enumT (fun _ => rfl) m_enumerate (fun _ => rfl) (ea_cons (fun _ => rfl) (ek_ed (ed_name 0 a0 rfl (ea_nil ⟨_, _, rfl, rfl, ⟨?_, (fun j acc Γ => Γ = [AV.dt (.tup ds), .un, .un] ∧ acc = (ds.zipIdx.take j).map fun p => .bl (isRow p.2 p.1)), ?_, ?_, ?_⟩⟩)))))))))))⟩)))⟩)))))), fun hif => ⟨fun hit => (bd_cons (sd_ret (ed_bl ?_))), fun hit => (nomatch hit)⟩⟩⟩⟩)))))))))
    · have h : (ds.length : Int) = 0 := of_decide_eq_true ‹_›
      have e : isTbl (.tup ds) = false := by
        have : ds = [] := List.length_eq_zero_iff.mp (by omega)
        rw [this]
        rfl
      rw [e] at hq
      exact hq
    · rw [enD_len]
      exact (hks ds rfl).1
    · exact ⟨rfl, rfl⟩
    · rintro j d acc Γ2 hj ⟨rfl, rfl⟩
      have hl : j < ds.length := by
        rw [← enD_len]
        exact (List.getElem?_eq_some_iff.mp hj).1
      have he := List.getElem?_eq_getElem hl
      rw [enD_get he] at hj
      cases hj
      have hkd : Knds ds[j] := (hks ds rfl).2 _ (List.getElem_mem hl)
      refine ⟨_, (by decide), fun g ff => (gd_tup (fun _ => rfl) (fun _ => rfl) (gds_cons (fun _ => rfl) (gd_name 1 (ats_of sc_is_table.nd rfl (fun _ => rfl) (fun _ => rfl)) (lt1 rfl) (nl rfl) (gds_cons (fun _ => rfl) (gd_name 2 (ats_of sc_is_table.nd rfl (fun _ => rfl) (fun _ => rfl)) (lt1 rfl) (nl rfl) (gds_nil (ts_nil ⟨fun _ => (ed_call G__is_row (hr.mono (by decide)) hgu (fun _ => rfl) g__is_row k__is_row b__is_row (by decide) (fun _ => rfl) (fun _ => rfl) (ea_cons (fun _ => rfl) (ek_ed (ed_name 2 (at_of rfl (fun _ => rfl) rfl rfl) rfl (ea_cons (fun _ => rfl) (ek_ed (ed_name 1 (at_of rfl (fun _ => rfl) rfl rfl) rfl (ea_nil ⟨_, rfl, rfl, ⟨_, _, rfl, hkd, fun _ => ⟨_, rfl, ?_⟩⟩⟩)))))))), fun hif => nomatch hif⟩)))))))⟩
      refine ⟨rfl, ?_⟩
      have hz : ds.zipIdx[j]? = some (ds[j], j) := by
        rw [List.getElem?_zipIdx, he]
        simp
      exact (take_map_succ (f := fun p => Dt.bl (isRow p.2 p.1)) hz).symm
    · rintro acc Γ2 ⟨rfl, rfl⟩
      refine ⟨ds.zipIdx.map fun p => isRow p.2 p.1, ?_, ?_⟩
      · rw [enD_len, List.take_of_length_le (by rw [List.length_zipIdx]; exact Nat.le_refl _), List.map_map]
        rfl
      · have h : ¬ ((ds.length : Int) = 0) := of_decide_eq_false ‹_›
        have e : isTbl (.tup ds) = ((ds.zipIdx.map fun p => isRow p.2 p.1).all fun z => z) := by
          show (!ds.isEmpty && ds.zipIdx.all _) = _
          have : ds.isEmpty = false := by
            cases ds with
            | nil => exact absurd rfl h
            | cons a b => rfl
          rw [this, List.all_map]
          rfl
        rw [e] at hq
        exact hq
    · exact Bool.noConfusion (show false = true from ‹_›)
  | _ =>
    refine (bd_cons (sd_if (td_wd (wd_or (td_not (td_val (fun _ _ => rfl) (ed_isT (fun _ => rfl) m_isinstance (fun _ => rfl) m_tuple (by decide +kernel) (by decide) (by decide) (fun _ => rfl) (fun _ => rfl) (fun _ => rfl) (ek_ed (ed_name 0 a0 rfl ⟨_, _, _, rfl, hk, ty_tuple hk, ⟨_, rfl, ⟨fun hif => (Bool.noConfusion (show false = true from (by cases hif))), fun hif => ⟨fun hif => (bd_cons (sd_ret (ed_bl ?_))), fun hif => nomatch hif⟩⟩⟩⟩)))))))))
    exact hq
end
end K24

/-! max(xs, default=d) -/
namespace DL
open PySem PySem.Spec
open PyProof.Rows L2
abbrev Kept (h h' : Heap) : Prop := ∀ b o, h.get? b = some o → h'.get? b = some o
theorem ints_at {vs : List Value} {ns : List Int} (h : IntsAre vs ns) : ∀ {j : Nat} {x : Value}, vs[j]? = some x → ∃ n t, x = .int n t ∧ ns[j]? = some n := by
  induction h with
  | nil => intro j x e; cases j <;> cases e
  | cons n t _ ih =>
    intro j x e
    cases j with
    | zero => cases e; exact ⟨n, t, rfl, rfl⟩
    | succ j => exact ih e
def BestOf (ns : List Int) (j : Nat) (xs : Array Value) : Prop := (j = 0 ∧ xs = #[]) ∨ ∃ M t t', xs = #[.int M t, .int M t'] ∧ M ∈ ns.take j ∧ ∀ a ∈ ns.take j, a ≤ M
theorem max_go {prog : Program} {w : World} {A : Around} {R : Result → Shared → Prop} {l I S : Addr} {vs : List Value} {ns : List Int} {key : Str} {d : Value} {gens : Array GenState} {drawn : Drawn} {os : OsState} {h0 : Heap}
    (hh : A.handled = none) (iv : IntsAre vs ns) (hl : h0.IsList l vs.toArray) (nI : h0.get? I = none) (nS : h0.get? S = none) (IS : I ≠ S)
    (fin0 : ns = [] → ∀ h' tk, Kept h0 h' → R (.ok (.ret d)) ⟨h', gens, drawn, tk, os⟩)
    (fin : ∀ M t h' tk, Kept h0 h' → M ∈ ns → (∀ a ∈ ns, a ≤ M) → R (.ok (.ret (.int M t))) ⟨h', gens, drawn, tk, os⟩) :
    ∀ (r j : Nat) (h : Heap) (tk : Nat) (xs : Array Value) (c : Nat), vs.length - j = r → j ≤ vs.length → Kept h0 h → h.IsListIter I l j → h.get? S = some (seqObj "list" xs c) → BestOf ns j xs →
      codeAny (model prog w) A (.builtin "max.loop" { pos := [.ref I, .none, .ref S], kw := [(key, d)] }) R ⟨h, gens, drawn, tk, os⟩ := by
  have ln : vs.length = ns.length := iv.length
  intro r
  induction r with
  | zero =>
    intro j h tk xs c hr hj keep hI hS best
    have e : j = vs.length := by omega
    obtain ⟨ol, o1, o2, o3⟩ := hl
    refine codeAny_builtin F.entry_max_loop (wpAny_bind (wpAny_seqItems hS rfl ?_))
    refine wpAny_bind (wpAny_tryCatch ?_); refine wpAny_pyNext_list_end hh hI ⟨ol, keep _ _ o1, o2, o3⟩ (by rw [e]; simp) fun h' ext => ?_
    have keep' : Kept h0 h' := fun b o g => ext b o (fun z => by rw [z, nI] at g; cases g) (keep b o g)
    have hS' := ext S _ (fun z => IS z.symm) hS
    rcases best with ⟨j0, rfl⟩ | ⟨M, t, t', rfl, hM, top⟩
    · refine wpAny_bind (wpAny_rule (wpAny_pure ?_))
      refine fin0 ?_ _ _ keep'
      exact List.eq_nil_of_length_eq_zero (by omega)
    · rw [List.take_of_length_le (by omega)] at hM top
      refine wpAny_bind (wpAny_updateSeq hS' rfl ?_ (by show 2 ≤ sizeLine; exact Nat.le_trans (by decide) (line1 (Nat.le_refl _))) (Nat.zero_le _))
      refine wpAny_bind (wpAny_letGo (wpAny_pure ?_)); refine fin M t _ _ (fun b o g => ?_) hM top
      rw [(Heap.SameBut.update h' S _).2 b fun z => by rw [z, nS] at g; cases g]
      exact keep' b o g
  | succ r ih =>
    intro j h tk xs c hr hj keep hI hS best
    have hjl : j < vs.length := by omega
    obtain ⟨ol, o1, o2, o3⟩ := hl
    have hx : vs[j]? = some vs[j] := List.getElem?_eq_getElem hjl
    obtain ⟨n, tn, ex, en⟩ := ints_at iv hx
    have htake : ns.take (j + 1) = ns.take j ++ [n] := by rw [List.take_add_one, en]; rfl
    refine codeAny_builtin F.entry_max_loop (wpAny_bind (wpAny_seqItems hS rfl ?_))
    refine wpAny_bind (wpAny_tryCatch ?_); refine wpAny_pyNext_list_item (x := .int n tn) hI ⟨ol, keep _ _ o1, o2, o3⟩ (by rw [← ex]; simpa using hx) fun h' it' sb => ?_
    have keep' : Kept h0 h' := fun b o g => by
      rw [sb.2 b fun z => by rw [z, nI] at g; cases g]
      exact keep b o g
    have hS' : h'.get? S = some (seqObj "list" xs c) := by
      rw [sb.2 S fun z => IS z.symm]
      exact hS
    have room2 : 2 ≤ sizeLine := Nat.le_trans (by decide) (line1 (n := 1000000) (Nat.le_refl _))
    -- the best so far is written
    have wr : ∀ (tk2 : Nat), (∀ a ∈ ns.take j, a ≤ n) → xs.size ≤ 2 → ∃ c', (h'.update S (Obj.mapSeq fun _ => #[.int n tn, .int n tn])).get? S = some (seqObj "list" #[.int n tn, .int n tn] c') ∧ codeAny (model prog w) A (.builtin "max.loop" { pos := [.ref I, .none, .ref S], kw := [(key, d)] }) R ⟨h'.update S (Obj.mapSeq fun _ => #[.int n tn, .int n tn]), gens, drawn, tk2, os⟩ := fun tk2 top hx2 => by
      have g := Heap.get?_update_self (Obj.mapSeq fun _ => #[.int n tn, .int n tn]) hS' rfl
      refine ⟨_, g, ih (j + 1) _ tk2 _ _ (by omega) hjl (fun b o g => ?_) ?_ g (.inr ⟨n, tn, tn, rfl, by rw [htake]; simp, fun a ha => ?_⟩)⟩
      · rw [(Heap.SameBut.update h' S _).2 b fun z => by rw [z, nS] at g; cases g]
        exact keep' b o g
      · obtain ⟨oi, i1, i2⟩ := it'
        exact ⟨oi, by rw [(Heap.SameBut.update h' S _).2 I IS]; exact i1, i2⟩
      · rw [htake] at ha; rcases List.mem_append.mp ha with ha | ha
        · exact top a ha
        · rw [List.mem_singleton.mp ha]; exact Int.le_refl _
    refine wpAny_bind (wpAny_pure ?_); rcases best with ⟨j0, rfl⟩ | ⟨M, t, t', rfl, hM, top⟩
    · refine wpAny_bind (wpAny_updateSeq hS' rfl ?_ (Nat.zero_le _) (Nat.le_succ_of_le room2))
      refine wpAny_pure ⟨rfl, ?_⟩
      subst j0
      exact (wr _ (fun a ha => by cases ha) (Nat.zero_le _)).choose_spec.2
    · refine wpAny_bind (wpAny_tryCatch (wpAny_holding (wpAny_bind ?_)))
      refine (show wpAny _ _ (compareOp CmpOp.Gt (.int n tn) (.int M t')) _ _ _ from P.gt_int ?_)
      refine wpAny_bind (wpAny_holding (wpAny_truthy_bool (wpAny_bind (wpAny_letGo (wpAny_pure ?_)))))
      by_cases hb : n > M
      · rw [decide_eq_true hb]
        refine wpAny_bind (wpAny_updateSeq hS' rfl ?_ room2 (Nat.le_succ_of_le room2))
        refine wpAny_bind (wpAny_letGo ?_); refine wpAny_pure ⟨rfl, ?_⟩
        exact (wr _ (fun a ha => by have := top a ha; omega) (Nat.le_refl _)).choose_spec.2
      · rw [decide_eq_false hb]
        refine wpAny_bind (wpAny_letGo ?_); refine wpAny_pure ⟨rfl, ?_⟩
        refine ih (j + 1) _ _ _ _ (by omega) hjl keep' it' hS' (.inr ⟨M, t, t', rfl, by rw [htake]; exact List.mem_append_left _ hM, fun a ha => ?_⟩)
        rw [htake] at ha; rcases List.mem_append.mp ha with ha | ha
        · exact top a ha
        · rw [List.mem_singleton.mp ha]; omega
end DL
namespace DL
open PySem PySem.Spec
open PyProof.Rows L2
theorem max_chk (a d : Value) : checkBuiltinCall "max" { pos := [a], kw := [(Str.ofString "default", d)] } = pure () := rfl
theorem max_par (d : Value) : Builtin.Builtins.bindParams "max" ["key", "default"] 0 { kw := [(Str.ofString "default", d)] } = pure [none, some d] := rfl
def rMaxD (K : PySem.W.Frag) : List V → List V → Hp → VK → Prop := fun xs zs H Q => ∃ (a : Addr) (ns : List Int) (i : Int), xs = [.ref a] ∧ zs = [.int i] ∧ SqL K H a (ns.map V.int) ∧ (ns = [] → Q (.int i) H) ∧ ∀ m ∈ ns, (∀ j ∈ ns, j ≤ m) → Q (.int m) H
theorem intsAre_of {ns : List Int} {its : List Value} (h : Vals (ns.map V.int) its) : IntsAre its ns := by
  induction ns generalizing its with
  | nil => cases h; exact .nil
  | cons n ns ih =>
    cases h with
    | cons r t =>
      obtain ⟨u, rfl⟩ := r
      exact .cons n u (ih t)
theorem call_maxD {X : Cx} (calm : X.calm = true) : CallRK X (.builtin "max") [Str.ofString "default"] (rMaxD X.K) := fun pins s σ H xs zs us ws Q I r1 r2 ⟨a, ns, i, e1, e2, sq, q0, q1⟩ => by
  subst e1 e2
  cases r1 with
  | cons ra rn =>
  cases rn
  cases r2 with
  | cons rb rm =>
  cases rm
  obtain ⟨t, rfl⟩ := rb
  obtain rfl : _ = Value.ref a := ra
  obtain ⟨its, vi, ⟨o, nn, g1, g2, g3, g4⟩, _⟩ := I.list sq
  have iv := intsAre_of vi
  have hh : X.A.handled = none := I.ok.hd calm
  show wpAny _ _ (call (Value.builtin "max") [Value.ref a] [(Str.ofString "default", Value.int i t)]) _ _ _
  refine wpAny_call (codeAny_call_builtin (by decide +kernel) F.entry_max ?_)
  rw [max_chk]
  refine wpAny_pure ?_
  refine wpAny_bind ?_
  rw [max_par]
  refine wpAny_pure ?_
  refine wpAny_bind (wpAny_pure ?_); refine wpAny_bind (wpAny_pyIter_list ⟨o, g1, g2, nn, g4⟩ ?_)
  refine wpAny_bind (wpAny_newList ?_ (Nat.zero_le _)); refine wpAny_pure ⟨rfl, ?_⟩
  have none1 : ∀ {b : Addr}, s.heap.objs.size ≤ b → s.heap.get? b = none := fun {b} hb => by
    cases e : s.heap.get? b with
    | none => rfl
    | some o => exact absurd (Heap.lt_size e) (Nat.not_lt.mpr hb)
  have sz : (s.heap.push { cls := Value.type "list_iterator", data := Data.fields #[Value.ref a, Value.int 0 0] }).objs.size = s.heap.objs.size + 1 := Heap.size_push _ _
  refine max_go (h0 := s.heap) (vs := its) (ns := ns) hh iv ⟨o, g1, g2, nn, g4⟩ (none1 (Nat.le_refl _)) (none1 (by rw [sz]; exact Nat.le_succ _)) (by rw [sz]; exact Nat.ne_of_lt (Nat.lt_succ_self _)) (fun e h' tk keep => ?_) (fun M t h' tk keep hM top => ?_) its.length 0 _ _ #[] 0 (by omega) (Nat.zero_le _) (fun b o g => ?_) ?_ ?_ (.inl ⟨rfl, rfl⟩)
  · exact ⟨.int i, H, I.kept keep, ⟨t, rfl⟩, q0 e⟩
  · exact ⟨.int M, H, I.kept keep, ⟨t, rfl⟩, q1 M hM top⟩
  · exact Heap.get?_push_of_some _ (Heap.get?_push_of_some _ g)
  · exact ⟨_, Heap.get?_push_of_some _ (Heap.get?_push_size _ rfl), rfl, rfl⟩
  · exact (Heap.get?_push_size _ rfl)
end DL
namespace DL
open PySem PySem.Spec
open PyProof.Rows L2
section
variable {c : Core} [Tb c.K] {ι : Type} {v : ι → Var} {S : Ent} {Γ : List AV} {Q : AV → List AV → Prop} {e b : Expr} {pos p kp : Pos}
/-- max(xs, default=i) -/
theorem ed_maxD (hg : ∀ i, Gl (mkX c (v i)) (Str.ofString "max")) (hm : c.mg (Str.ofString "max") = none) (he : NoStar v e [])
    (h : EK c v S e Γ fun k Γ1 => EK c v S b Γ1 fun l Γ2 => ∃ (ns : List Int) (i : Int), akL Γ2 k = some (ns.map .int) ∧ akD Γ2 l = some (.int i) ∧ (ns = [] → Q (.dt (.int i)) Γ2) ∧ ∀ m ∈ ns, (∀ j ∈ ns, j ≤ m) → Q (.dt (.int m)) Γ2) (still : c.calm = true := by rfl) :
    ED c v S (.Call (.Name (Str.ofString "max") p) [e] [⟨some (Str.ofString "default"), b, kp⟩] pos) Γ Q := fun σ H R r kk => by
  refine ⟨tCKw (rMaxD c.K) (tCons (wE c v e) tNil) (tCons (wE c v b) tNil), fun i => pe_callBK (X := mkX c (v i)) (call_maxD still) (hg i) hm rfl (pa_cons (wE.pe i) pa_nil (he i)) (pk_cons (wE.pe i) pk_nil) (by decide) rfl (by show backTo pos (starEach [e] (v i).env) = _; rw [he i]; rfl) (by show (backTo pos (starEach [e] (v i).env)).any _ = _; rw [he i]; rfl) rfl rfl rfl, ?_⟩
  refine EK.two h r fun x y H' k l Γ' ⟨ns, i, e1, e2, q0, q1⟩ r' hk hl s => ?_
  obtain ⟨a, xs, rfl, hs, hx⟩ := akL_of e1 r' hk
  cases akD_of e2 hl
  rw [hx.ints] at hs
  exact ⟨a, ns, i, rfl, rfl, hs, fun z => kk _ _ _ _ (q0 z) ⟨r', .int _⟩ s trivial, fun m hm2 top => kk _ _ _ _ (q1 m hm2 top) ⟨r', .int _⟩ s trivial⟩
end
end DL

/-! the greatest days of chains: what they lean on -/
namespace N24
open DL L2
theorem Adj.symm {ks : List Link} {d a b : Nat} (h : Adj ks d a b) : Adj ks d b a := by
  obtain ⟨k, h1, h2, h3⟩ := h
  exact ⟨k, h1, h2, h3.symm⟩
theorem Conn.trans {ks : List Link} {d a b c : Nat} (h : Conn ks d a b) (g : Conn ks d b c) : Conn ks d a c := by
  induction g with
  | refl => exact h
  | step _ e ih => exact .step ih e
theorem Conn.symm {ks : List Link} {d a b : Nat} (h : Conn ks d a b) : Conn ks d b a := by
  induction h with
  | refl => exact .refl
  | step _ e ih => exact Conn.trans (.step .refl e.symm) ih
theorem Conn.imp {ks ls : List Link} {d c a b : Nat} (h : Conn ks d a b) (f : ∀ x y, Adj ks d x y → Adj ls c x y) : Conn ls c a b := by
  induction h with
  | refl => exact .refl
  | step _ e ih => exact .step ih (f _ _ e)
theorem relead_at {l : List Nat} {a b i : Nat} (h : i < l.length) : ld (relead l a b) i = if ld l i = b then a else ld l i := by
  have e := ld_get (l := relead l a b) (i := i) (by rw [relead_len]; exact h)
  unfold relead at e
  rw [List.getElem?_map, ld_get h] at e
  exact (Option.some.inj e).symm
/-- what stands behind some links, all others being no later -/
structure RunOk (n : Nat) (ks P : List Link) (st : List Nat × Days) : Prop where
  len : st.1.length = n
  one : ∀ a b, a < n → b < n → ld st.1 a = ld st.1 b → Conn P 0 a b
  day : ∀ x y d, st.2 x y = some d → Conn ks d x y
theorem RunOk.step {n : Nat} {ks P : List Link} {st : List Nat × Days} {k : Link} (h : RunOk n ks P st) (hk : k ∈ ks) (b1 : k.1 < n) (b2 : k.2.1 < n) (hP : ∀ p ∈ P, p ∈ ks ∧ k.2.2 ≤ p.2.2) : RunOk n ks (P ++ [k]) (step st k) := by
  have up : ∀ {a b}, Conn P 0 a b → Conn (P ++ [k]) 0 a b := fun c => c.imp fun x y ⟨p, p1, p2, p3⟩ => ⟨p, List.mem_append_left _ p1, p2, p3⟩
  have dn : ∀ {a b}, Conn P 0 a b → Conn ks k.2.2 a b := fun c => c.imp fun x y ⟨p, p1, p2, p3⟩ => ⟨p, (hP p p1).1, (hP p p1).2, p3⟩
  have ek : Conn (P ++ [k]) 0 k.1 k.2.1 := .step .refl ⟨k, by simp, Nat.zero_le _, .inl ⟨rfl, rfl⟩⟩
  have el : Conn ks k.2.2 k.1 k.2.1 := .step .refl ⟨k, hk, Nat.le_refl _, .inl ⟨rfl, rfl⟩⟩
  unfold N24.step
  split
  · exact ⟨h.len, fun a b ha hb e => up (h.one a b ha hb e), h.day⟩
  · rename_i ne
    refine ⟨by rw [relead_len]; exact h.len, fun a b ha hb e => ?_, fun x y d e => ?_⟩
    · have e : ld (relead st.1 _ _) a = ld (relead st.1 _ _) b := e
      rw [relead_at (by rw [h.len]; exact ha), relead_at (by rw [h.len]; exact hb)] at e
      by_cases ea : ld st.1 a = ld st.1 k.2.1
      · by_cases eb : ld st.1 b = ld st.1 k.2.1
        · exact up (h.one a b ha hb (ea.trans eb.symm))
        · rw [if_pos ea, if_neg eb] at e
          exact ((up (h.one a _ ha b2 ea)).trans ek.symm).trans (up (h.one _ b b1 hb e))
      · by_cases eb : ld st.1 b = ld st.1 k.2.1
        · rw [if_neg ea, if_pos eb] at e
          exact ((up (h.one a _ ha b1 e)).trans ek).trans (up (h.one _ b b2 hb eb.symm))
        · rw [if_neg ea, if_neg eb] at e
          exact up (h.one a b ha hb e)
    · have e : join st.1 st.2 k.1 k.2.1 k.2.2 x y = some d := e
      unfold join at e
      split at e
      · rename_i z
        obtain rfl := Option.some.inj e
        obtain ⟨z1, z2, z3⟩ := z
        rw [h.len] at z2
        rcases z3 with ⟨w1, w2⟩ | ⟨w1, w2⟩
        · exact ((dn (h.one x _ z2 b1 w1)).trans el).trans (dn (h.one _ y b2 (by omega) w2.symm))
        · exact ((dn (h.one x _ z2 b2 w1)).trans el.symm).trans (dn (h.one _ y b1 (by omega) w2.symm))
      · exact h.day x y d e
theorem run_ok {n : Nat} {ks : List Link} : ∀ (Q P : List Link) (st : List Nat × Days), RunOk n ks P st → (∀ k ∈ Q, k ∈ ks ∧ k.1 < n ∧ k.2.1 < n) → (∀ p ∈ P, p ∈ ks) → (P ++ Q).Pairwise (fun y z => z.2.2 ≤ y.2.2) → RunOk n ks (P ++ Q) (Q.foldl step st)
  | [], P, st, h, _, _, _ => by rw [List.append_nil]; exact h
  | k :: Q, P, st, h, hQ, hP, s => by
    obtain ⟨k1, k2, k3⟩ := hQ k List.mem_cons_self
    have e : P ++ k :: Q = (P ++ [k]) ++ Q := by rw [List.append_assoc]; rfl
    rw [e] at s ⊢
    have s2 := (List.pairwise_append.mp (List.pairwise_append.mp s).1).2.2
    refine run_ok Q (P ++ [k]) (step st k) (h.step k1 k2 k3 fun p hp => ⟨hP p hp, s2 p hp k List.mem_cons_self⟩) (fun x hx => hQ x (List.mem_cons_of_mem _ hx)) (fun p hp => ?_) s
    rcases (List.mem_append.mp hp) with hp | hp
    · exact hP p hp
    · rw [List.mem_singleton.mp hp]; exact k1
theorem down_sorted (ks : List Link) : (down ks).Pairwise (fun y z => z.2.2 ≤ y.2.2) := by
  have := List.pairwise_mergeSort (le := fun (y z : Link) => decide (z.2.2 ≤ y.2.2)) (fun a b c h1 h2 => by
    simp only [decide_eq_true_iff] at *
    omega) (fun a b => by
    simp only [Bool.or_eq_true, decide_eq_true_iff]
    omega) ks
  exact this.imp fun h => of_decide_eq_true h
theorem conn_run {n : Nat} {ks : List Link} (h : ∀ k ∈ ks, k.1 < n ∧ k.2.1 < n) {x y d : Nat} (e : (run n (down ks)).2 x y = some d) : Conn ks d x y := by
  have := run_ok (n := n) (ks := ks) (down ks) [] (List.range n, fun _ _ => none) ⟨List.length_range, fun a b ha hb e => ?_, fun x y d e => by cases e⟩ (fun k hk => ⟨down_mem.mp hk, h k (down_mem.mp hk)⟩) (fun p hp => by cases hp) (down_sorted ks)
  · exact this.day x y d e
  · have r : ∀ i, i < n → ld (List.range n) i = i := fun i hi => by
      have := ld_get (l := List.range n) (i := i) (by rw [List.length_range]; exact hi)
      rw [List.getElem?_range hi] at this; exact (Option.some.inj this).symm
    have e : ld (List.range n) a = ld (List.range n) b := e
    rw [r a ha, r b hb] at e
    rw [e]
    exact .refl
def chainT (g : Nat → Nat → Nat) (n : Nat) : Nat → Nat → Nat := chain n (links g n)
/-- two items are linked by way of days that are at least that of the chains -/
theorem chainT_conn {g : Nat → Nat → Nat} {n x y : Nat} (hy : y < x) (hx : x < n) : Conn (links g n) (chainT g n x y) x y := by
  unfold chainT chain
  cases e : (run n (down (links g n))).2 x y with
  | some d => exact conn_run (fun k hk => by have := mem_links.mp hk; omega) e
  | none => exact .step .refl ⟨(x, y, g x y), mem_links.mpr ⟨hx, hy, rfl⟩, Nat.zero_le _, .inl ⟨rfl, rfl⟩⟩
/-- the greatest gap -/
def IsExc (g h : Nat → Nat → Nat) (n : Nat) (e : Int) : Prop := (∀ x y, y < x → x < n → (h x y : Int) - (g x y : Int) ≤ e) ∧ ((∃ x y, y < x ∧ x < n ∧ (h x y : Int) - (g x y : Int) = e) ∨ (e = 0 ∧ n ≤ 1))
theorem tab_at {g : Nat → Nat → Nat} {n x : Nat} (h : x < n) : atI ((List.range n).map fun x => Dt.tup ((List.range x).map fun y => .int (g x y : Nat))) (x : Int) = some (.tup ((List.range x).map fun y => .int (g x y : Nat))) :=
  DL.atI_get (by rw [List.getElem?_map, List.getElem?_range h]; rfl)
theorem row_at2 {g : Nat → Nat → Nat} {x y : Nat} (h : y < x) : atI ((List.range x).map fun y => Dt.int (g x y : Nat)) (y : Int) = some (.int (g x y : Nat)) :=
  DL.atI_get (by rw [List.getElem?_map, List.getElem?_range h]; rfl)
end N24

namespace K24
open N24 PySem PySem.Spec PyProof.Rows L2 DL
abbrev s__greatest_excess : Stmt := topS 40
theorem sc__greatest_excess : FnScope ["table", "greatest", "one", "other", "day"] ["table", "greatest"] (defScope s__greatest_excess) := ⟨rfl, rfl, rfl, by decide +kernel, rfl, by decide +kernel, by decide +kernel⟩
abbrev s__error_of : Stmt := topS 39
theorem sc__error_of : FnScope ["table", "greatest"] ["table", "greatest"] (defScope s__error_of) := ⟨rfl, rfl, rfl, by decide +kernel, rfl, by decide +kernel, by decide +kernel⟩
abbrev s__chain_days : Stmt := topS 38
theorem sc__chain_days : FnScope ["table"] ["table"] (defScope s__chain_days) := ⟨rfl, rfl, rfl, by decide +kernel, rfl, by decide +kernel, by decide +kernel⟩
def dsExc : DSp := fun as post => ∃ (g h : Nat → Nat → Nat) (n : Nat), as = [.dt (tabD g n), .dt (tabD h n)] ∧ n ≤ 20 ∧ ∀ e, IsExc g h n e → post (.dt (.int e)) [.un, .un]
def dsErr : DSp := fun as post => ∃ (g h : Nat → Nat → Nat) (n : Nat), as = [.dt (tabD g n), .dt (tabD h n)] ∧ n ≤ 20 ∧ ∀ e, IsExc g h n e → post (.dt (.int ((e + 1) / 2))) [.un, .un]
def dsCD (cT : Addr) : DXp := fun as post out => ∃ d, as = [.dt d] ∧ Knd3 d ∧ (isTbl d = true → nOf d ≤ 20) ∧ (isTbl d = false → out (.ref cT) [.un]) ∧ (isTbl d = true → post (.dt (tabD (chainT (tOf d) (nOf d)) (nOf d))) [.un])
theorem links_fit {g : Nat → Nat → Nat} {n : Nat} (hn : n ≤ 20) : (links g n).length ≤ 400 := Nat.le_trans links_len (Nat.mul_le_mul hn hn)
theorem links_lks {g : Nat → Nat → Nat} {n : Nat} : Lks n (links g n) := fun k hk => by
  have := mem_links.mp hk
  omega
section
variable {P : Program} {w : World} {K : PySem.W.Frag} [Tb K] {mg : Str → Option Value} {base : Heap}
theorem ok__greatest_excess {f_table_links : Addr} {d_table_links : FuncData} (G_table_links : FnG P w K mg base 1 f_table_links d_table_links ["table"] (spD K dsLinks)) (g_table_links : mg "table_links" = some (.ref f_table_links)) (k_table_links : PySem.W.keepIn K (.ref f_table_links) = true) (b_table_links : Binds K d_table_links ["table"] []) (m_max : mg "max" = none) {f : Addr} {fd : FuncData} (F : Fun K "_greatest_excess" "_greatest_excess" s__greatest_excess f fd) : FnG P w K mg base 2 f fd ["table", "greatest"] (spD K dsExc) := by
  refine FnG.of F sc__greatest_excess (fun as post h => by obtain ⟨_, _, _, h⟩ := h; rw [h.1]; rfl) fun cdv A outer s H vs fo as post hr hgu hD => ?_
  obtain ⟨g, h, n, rfl, hn, hq⟩ := hD
  have a0 : At (coreOf P w K mg base (A.deeper (envOfC "_greatest_excess" (defScope s__greatest_excess) s.heap.objs.size f cdv)) ["table", "greatest", "one", "other", "day"] ((envOfC "_greatest_excess" (defScope s__greatest_excess) s.heap.objs.size f cdv) :: outer)) (varOf s H (envOfC "_greatest_excess" (defScope s__greatest_excess) s.heap.objs.size f cdv) outer) "table" 0 := ⟨rfl, fun _ => by first | exact .inl rfl | exact .inr (.inl rfl), by decide, by decide⟩
  have s0 : AtS (coreOf P w K mg base (A.deeper (envOfC "_greatest_excess" (defScope s__greatest_excess) s.heap.objs.size f cdv)) ["table", "greatest", "one", "other", "day"] ((envOfC "_greatest_excess" (defScope s__greatest_excess) s.heap.objs.size f cdv) :: outer)) (varOf s H (envOfC "_greatest_excess" (defScope s__greatest_excess) s.heap.objs.size f cdv) outer) "table" 0 := ⟨sc__greatest_excess.nd, rfl, fun _ => by first | exact .inl rfl | exact .inr rfl, fun _ => .inl rfl⟩
  have a1 : At (coreOf P w K mg base (A.deeper (envOfC "_greatest_excess" (defScope s__greatest_excess) s.heap.objs.size f cdv)) ["table", "greatest", "one", "other", "day"] ((envOfC "_greatest_excess" (defScope s__greatest_excess) s.heap.objs.size f cdv) :: outer)) (varOf s H (envOfC "_greatest_excess" (defScope s__greatest_excess) s.heap.objs.size f cdv) outer) "greatest" 1 := ⟨rfl, fun _ => by first | exact .inl rfl | exact .inr (.inl rfl), by decide, by decide⟩
  have s1 : AtS (coreOf P w K mg base (A.deeper (envOfC "_greatest_excess" (defScope s__greatest_excess) s.heap.objs.size f cdv)) ["table", "greatest", "one", "other", "day"] ((envOfC "_greatest_excess" (defScope s__greatest_excess) s.heap.objs.size f cdv) :: outer)) (varOf s H (envOfC "_greatest_excess" (defScope s__greatest_excess) s.heap.objs.size f cdv) outer) "greatest" 1 := ⟨sc__greatest_excess.nd, rfl, fun _ => by first | exact .inl rfl | exact .inr rfl, fun _ => .inl rfl⟩
  show BD _ _ _ _ _ [AV.dt (tabD g n), .dt (tabD h n), .un, .un, .un]
  refine (bd_cons (sd_ret (ed_maxD (fun _ => rfl) m_max (fun _ => rfl) (ek_ed (ed_lc (own := [("one", 2), ("other", 3), ("day", 4)]) sc__greatest_excess.nd (fun _ => blkOk_by rfl) (fun _ _ => rfl) (nls rfl) (src_L (ek_ed (ed_call G_table_links (hr.mono (by decide)) hgu (fun _ => rfl) g_table_links k_table_links b_table_links (by decide) (fun _ => rfl) (fun _ => rfl) (ea_cons (fun _ => rfl) (ek_ed (ed_name 0 a0 rfl (ea_nil ⟨_, rfl, rfl, ⟨g, n, rfl, (by omega), fun _ => ⟨_, rfl, rfl, rfl, ⟨?_, (fun j acc Γ => Γ = [AV.dt (tabD g n), .dt (tabD h n), .un, .un, .un] ∧ acc = (((links g n).take j).map fun k => (h k.1 k.2.1 : Int) - (k.2.2 : Int)).map Dt.int), ?_, ?_, ?_⟩⟩⟩⟩))))))))))))
  · rw [List.length_map]
    exact Nat.le_trans (links_fit hn) (by decide)
  · exact ⟨rfl, rfl⟩
  · rintro j d acc Γ2 hd ⟨rfl, rfl⟩
    obtain ⟨k, hk, rfl⟩ : ∃ k, (links g n)[j]? = some k ∧ lkD k = d := by
      rw [List.getElem?_map] at hd
      cases e : (links g n)[j]? with
      | none => rw [e] at hd; cases hd
      | some k => rw [e] at hd; exact ⟨k, rfl, Option.some.inj hd⟩
    obtain ⟨k1, k2, _⟩ := mem_links.mp (List.mem_of_getElem? hk)
    refine ⟨_, (by decide), fun g ff => (gd_tup (fun _ => rfl) (fun _ => rfl) (gds_cons (fun _ => rfl) (gd_name 2 (ats_of sc__greatest_excess.nd rfl (fun _ => rfl) (fun _ => rfl)) (lt1 rfl) (nl rfl) (gds_cons (fun _ => rfl) (gd_name 3 (ats_of sc__greatest_excess.nd rfl (fun _ => rfl) (fun _ => rfl)) (lt1 rfl) (nl rfl) (gds_cons (fun _ => rfl) (gd_name 4 (ats_of sc__greatest_excess.nd rfl (fun _ => rfl) (fun _ => rfl)) (lt1 rfl) (nl rfl) (gds_nil (ts_nil ⟨fun _ => (ed_sub (ek_ed (ed_ixD (fun _ _ => rfl) (ek_ed (ed_ixD (fun _ _ => rfl) (ek_ed (ed_name 1 (at_of rfl (fun _ => rfl) rfl rfl) rfl (ek_ed (ed_name 2 (at_of rfl (fun _ => rfl) rfl rfl) rfl (IxD.mk rfl rfl (tab_at k1) (ek_ed (ed_name 3 (at_of rfl (fun _ => rfl) rfl rfl) rfl (IxD.mk rfl rfl (row_at2 k2) (ek_ed (ed_name 4 (at_of rfl (fun _ => rfl) rfl rfl) rfl (IntR.mk rfl rfl trivial ⟨_, rfl, ?_⟩)))))))))))))))), fun hif => nomatch hif⟩)))))))))⟩
    refine ⟨rfl, ?_⟩
    rw [List.take_add_one, hk, List.map_append, List.map_append]; rfl
  · rintro acc Γ2 ⟨rfl, rfl⟩
    rw [List.length_map, List.take_length]; refine (ek_ed (ed_int ⟨_, 0, rfl, rfl, ?_, ?_⟩))
    · intro z
      have z : links g n = [] := List.map_eq_nil_iff.mp z
      refine hq 0 ⟨fun x y hy hx => ?_, .inr ⟨rfl, ?_⟩⟩
      · have := mem_links (g := g) (n := n) (k := (x, y, g x y)).mpr ⟨hx, hy, rfl⟩
        rw [z] at this
        cases this
      · refine Nat.le_of_not_lt fun z2 => ?_
        have := mem_links (g := g) (n := n) (k := (1, 0, g 1 0)).mpr ⟨z2, Nat.zero_lt_one, rfl⟩
        rw [z] at this
        cases this
    · intro m hm top
      obtain ⟨k, hk, rfl⟩ := List.mem_map.mp hm
      obtain ⟨k1, k2, k3⟩ := mem_links.mp hk
      refine hq _ ⟨fun x y hy hx => top _ (List.mem_map.mpr ⟨(x, y, g x y), mem_links.mpr ⟨hx, hy, rfl⟩, rfl⟩), .inl ⟨k.1, k.2.1, k2, k1, by rw [k3]⟩⟩
theorem ok__error_of {f__greatest_excess : Addr} {d__greatest_excess : FuncData} (G__greatest_excess : FnG P w K mg base 2 f__greatest_excess d__greatest_excess ["table", "greatest"] (spD K dsExc)) (g__greatest_excess : mg "_greatest_excess" = some (.ref f__greatest_excess)) (k__greatest_excess : PySem.W.keepIn K (.ref f__greatest_excess) = true) (b__greatest_excess : Binds K d__greatest_excess ["table", "greatest"] []) {f : Addr} {fd : FuncData} (F : Fun K "_error_of" "_error_of" s__error_of f fd) : FnG P w K mg base 3 f fd ["table", "greatest"] (spD K dsErr) := by
  refine FnG.of F sc__error_of (fun as post h => by obtain ⟨_, _, _, h⟩ := h; rw [h.1]; rfl) fun cdv A outer s H vs fo as post hr hgu hD => ?_
  obtain ⟨g, h, n, rfl, hn, hq⟩ := hD
  have a0 : At (coreOf P w K mg base (A.deeper (envOfC "_error_of" (defScope s__error_of) s.heap.objs.size f cdv)) ["table", "greatest"] ((envOfC "_error_of" (defScope s__error_of) s.heap.objs.size f cdv) :: outer)) (varOf s H (envOfC "_error_of" (defScope s__error_of) s.heap.objs.size f cdv) outer) "table" 0 := ⟨rfl, fun _ => by first | exact .inl rfl | exact .inr (.inl rfl), by decide, by decide⟩
  have s0 : AtS (coreOf P w K mg base (A.deeper (envOfC "_error_of" (defScope s__error_of) s.heap.objs.size f cdv)) ["table", "greatest"] ((envOfC "_error_of" (defScope s__error_of) s.heap.objs.size f cdv) :: outer)) (varOf s H (envOfC "_error_of" (defScope s__error_of) s.heap.objs.size f cdv) outer) "table" 0 := ⟨sc__error_of.nd, rfl, fun _ => by first | exact .inl rfl | exact .inr rfl, fun _ => .inl rfl⟩
  have a1 : At (coreOf P w K mg base (A.deeper (envOfC "_error_of" (defScope s__error_of) s.heap.objs.size f cdv)) ["table", "greatest"] ((envOfC "_error_of" (defScope s__error_of) s.heap.objs.size f cdv) :: outer)) (varOf s H (envOfC "_error_of" (defScope s__error_of) s.heap.objs.size f cdv) outer) "greatest" 1 := ⟨rfl, fun _ => by first | exact .inl rfl | exact .inr (.inl rfl), by decide, by decide⟩
  have s1 : AtS (coreOf P w K mg base (A.deeper (envOfC "_error_of" (defScope s__error_of) s.heap.objs.size f cdv)) ["table", "greatest"] ((envOfC "_error_of" (defScope s__error_of) s.heap.objs.size f cdv) :: outer)) (varOf s H (envOfC "_error_of" (defScope s__error_of) s.heap.objs.size f cdv) outer) "greatest" 1 := ⟨sc__error_of.nd, rfl, fun _ => by first | exact .inl rfl | exact .inr rfl, fun _ => .inl rfl⟩
  show BD _ _ _ _ _ [AV.dt (tabD g n), .dt (tabD h n)]
  refine (bd_cons (sd_ret (ed_div (ek_ed (ed_add (ek_ed (ed_call G__greatest_excess (hr.mono (by decide)) hgu (fun _ => rfl) g__greatest_excess k__greatest_excess b__greatest_excess (by decide) (fun _ => rfl) (fun _ => rfl) (ea_cons (fun _ => rfl) (ek_ed (ed_name 0 a0 rfl (ea_cons (fun _ => rfl) (ek_ed (ed_name 1 a1 rfl (ea_nil ⟨_, rfl, rfl, ⟨g, h, n, rfl, hn, fun e he _ => (ek_ed (ed_int (AddR.int rfl rfl (ek_ed (ed_int (IntR.mk rfl rfl ?_ ?_))))))⟩⟩))))))))))))))
  · exact ⟨by decide, by decide +kernel⟩
  · exact hq e he
theorem ok__chain_days {f_is_table : Addr} {d_is_table : FuncData} (G_is_table : FnG P w K mg base 4 f_is_table d_is_table ["value"] (spD K dsTable)) (g_is_table : mg "is_table" = some (.ref f_is_table)) (k_is_table : PySem.W.keepIn K (.ref f_is_table) = true) (b_is_table : Binds K d_is_table ["value"] []) {f_table_links : Addr} {d_table_links : FuncData} (G_table_links : FnG P w K mg base 1 f_table_links d_table_links ["table"] (spD K dsLinks)) (g_table_links : mg "table_links" = some (.ref f_table_links)) (k_table_links : PySem.W.keepIn K (.ref f_table_links) = true) (b_table_links : Binds K d_table_links ["table"] []) {f_chain_table : Addr} {d_chain_table : FuncData} (G_chain_table : FnG P w K mg base 1 f_chain_table d_chain_table ["many", "links"] (spD K dsChain)) (g_chain_table : mg "chain_table" = some (.ref f_chain_table)) (k_chain_table : PySem.W.keepIn K (.ref f_chain_table) = true) (b_chain_table : Binds K d_chain_table ["many", "links"] []) (m_len : mg "len" = none) {c_InvalidTable : Addr} (O_InvalidTable : OwnExc K mg "InvalidTable" c_InvalidTable) {f : Addr} {fd : FuncData} (F : Fun K "_chain_days" "_chain_days" s__chain_days f fd) : FnX P w K mg base 5 f fd ["table"] (spX K (dsCD c_InvalidTable)) := by
  refine FnX.of F sc__chain_days (fun as post out h => by obtain ⟨_, h⟩ := h; rw [h.1]; rfl) fun cdv A outer s H vs fo as post out xe hr hgu hD tk pass => ?_
  obtain ⟨d, rfl, hK, few, q0, q1⟩ := hD
  have a0 : At (coreOf P w K mg base (A.deeper (envOfC "_chain_days" (defScope s__chain_days) s.heap.objs.size f cdv)) ["table"] ((envOfC "_chain_days" (defScope s__chain_days) s.heap.objs.size f cdv) :: outer)) (varX s H (envOfC "_chain_days" (defScope s__chain_days) s.heap.objs.size f cdv) outer xe) "table" 0 := ⟨rfl, fun _ => by first | exact .inl rfl | exact .inr (.inl rfl), by decide, by decide⟩
  have s0 : AtS (coreOf P w K mg base (A.deeper (envOfC "_chain_days" (defScope s__chain_days) s.heap.objs.size f cdv)) ["table"] ((envOfC "_chain_days" (defScope s__chain_days) s.heap.objs.size f cdv) :: outer)) (varX s H (envOfC "_chain_days" (defScope s__chain_days) s.heap.objs.size f cdv) outer xe) "table" 0 := ⟨sc__chain_days.nd, rfl, fun _ => by first | exact .inl rfl | exact .inr rfl, fun _ => .inl rfl⟩
  show BD _ _ _ _ _ [AV.dt d]
  cases hT : isTbl d with
  | false => refine (bd_cons (sd_if (td_not (td_val (fun _ _ => rfl) (ed_call G_is_table (hr.mono (by decide)) hgu (fun _ => rfl) g_is_table k_is_table b_is_table (by decide) (fun _ => rfl) (fun _ => rfl) (ea_cons (fun _ => rfl) (ek_ed (ed_name 0 a0 rfl (ea_nil ⟨_, rfl, rfl, ⟨_, rfl, hK, fun _ => ⟨_, rfl, ⟨fun hif => (bd_cons (sd_raise tk O_InvalidTable (fun _ => rfl) (by decide) (by exact q0 hT))), fun hif => (absurd hif (by rw [hT]; decide))⟩⟩⟩⟩)))))))))
  | true =>
    refine (bd_cons (sd_if (td_not (td_val (fun _ _ => rfl) (ed_call G_is_table (hr.mono (by decide)) hgu (fun _ => rfl) g_is_table k_is_table b_is_table (by decide) (fun _ => rfl) (fun _ => rfl) (ea_cons (fun _ => rfl) (ek_ed (ed_name 0 a0 rfl (ea_nil ⟨_, rfl, rfl, ⟨_, rfl, hK, fun _ => ⟨_, rfl, ⟨fun hif => (absurd hif (by rw [hT]; decide)), fun hif => (bd_nil ?_)⟩⟩⟩⟩)))))))))
    have hn := few hT
    have fin := q1 hT
    obtain ⟨hd, n1⟩ := tbl_form hT
    generalize tOf d = t at hd fin
    generalize nOf d = n at hd hn n1 fin
    subst hd
    have tabLen : ((List.range n).map fun x => Dt.tup ((List.range x).map fun y => .int (t x y : Nat))).length = n := by rw [List.length_map, List.length_range]
    refine (bd_cons (sd_ret (ed_call G_chain_table (hr.mono (by decide)) hgu (fun _ => rfl) g_chain_table k_chain_table b_chain_table (by decide) (fun _ => rfl) (fun _ => rfl) (ea_cons (fun _ => rfl) (ek_ed (ed_len (fun _ => rfl) m_len (fun _ => rfl) (ek_ed (ed_name 0 a0 rfl ⟨_, rfl, (ea_cons (fun _ => rfl) (ek_ed (ed_call G_table_links (hr.mono (by decide)) hgu (fun _ => rfl) g_table_links k_table_links b_table_links (by decide) (fun _ => rfl) (fun _ => rfl) (ea_cons (fun _ => rfl) (ek_ed (ed_name 0 a0 rfl (ea_nil ⟨_, rfl, rfl, ⟨t, n, rfl, (by omega), fun _ => (ea_nil ⟨_, rfl, rfl, ⟨n, links t n, by rw [tabLen]; rfl, (by omega), (Nat.le_trans (links_fit hn) (by decide)), links_lks, fun _ => ?_⟩⟩)⟩⟩)))))))⟩))))))))
    exact fin
end
end K24

namespace K24
open N24 PySem PySem.Spec PyProof.Rows L2 DL
abbrev s_least_error : Stmt := topS 35
theorem sc_least_error : FnScope ["table"] ["table"] (defScope s_least_error) := ⟨rfl, rfl, rfl, by decide +kernel, rfl, by decide +kernel, by decide +kernel⟩
abbrev s_nearest_history : Stmt := topS 36
theorem sc_nearest_history : FnScope ["table", "greatest", "error", "row", "day"] ["table"] (defScope s_nearest_history) := ⟨rfl, rfl, rfl, by decide +kernel, rfl, by decide +kernel, by decide +kernel⟩
abbrev s_worst_pair : Stmt := topS 37
theorem sc_worst_pair : FnScope ["table", "greatest", "excess", "links", "worst", "one", "other", "day"] ["table"] (defScope s_worst_pair) := ⟨rfl, rfl, rfl, by decide +kernel, rfl, by decide +kernel, by decide +kernel⟩
def dsLE (cT : Addr) : DXp := fun as post out => ∃ d, as = [.dt d] ∧ Knd3 d ∧ (isTbl d = true → nOf d ≤ 20) ∧ (isTbl d = false → out (.ref cT) [.un]) ∧ (isTbl d = true → ∀ e, IsExc (tOf d) (chainT (tOf d) (nOf d)) (nOf d) e → post (.dt (.int ((e + 1) / 2))) [.un])
/-- a table lowered by e, cut at 0 -/
def low (h : Nat → Nat → Nat) (e : Int) : Nat → Nat → Nat := fun x y => ((h x y : Int) - e).toNat
def dsNH (cT : Addr) : DXp := fun as post out => ∃ d, as = [.dt d] ∧ Knd3 d ∧ (isTbl d = true → nOf d ≤ 20) ∧ (isTbl d = false → out (.ref cT) [.un]) ∧ (isTbl d = true → ∀ e, IsExc (tOf d) (chainT (tOf d) (nOf d)) (nOf d) e → post (.dt (tabD (low (chainT (tOf d) (nOf d)) ((e + 1) / 2)) (nOf d))) [.un])
def dsWP (cT : Addr) : DXp := fun as post out => ∃ d, as = [.dt d] ∧ Knd3 d ∧ (isTbl d = true → nOf d ≤ 20) ∧ (isTbl d = false → out (.ref cT) [.un]) ∧ (isTbl d = true → ∀ e, IsExc (tOf d) (chainT (tOf d) (nOf d)) (nOf d) e → (e = 0 → post (.dt .non) [.un]) ∧
  (e ≠ 0 → ∀ x y p, y < x → x < nOf d → (chainT (tOf d) (nOf d) x y : Int) - (tOf d x y : Int) = e → IsChain (links (tOf d) (nOf d)) (chainT (tOf d) (nOf d) x y) x y p → post (.dt (.tup [.int (x : Nat), .int (y : Nat), .tup (natD p)])) [.un]))
theorem max0 (a : Int) : (if a > 0 then a else 0) = ((a.toNat : Nat) : Int) := by split <;> omega
theorem mapR {f : Nat → Dt} {n j : Nat} {d : Dt} (h : ((List.range n).map f)[j]? = some d) : j < n ∧ d = f j := by
  have l := (List.getElem?_eq_some_iff.mp h).1
  rw [List.length_map, List.length_range] at l
  rw [List.getElem?_map, List.getElem?_range l] at h
  exact ⟨l, (Option.some.inj h).symm⟩
section
variable {P : Program} {w : World} {K : PySem.W.Frag} [Tb K] {mg : Str → Option Value} {base : Heap}
theorem ok_least_error {c_InvalidTable : Addr} {f__chain_days : Addr} {d__chain_days : FuncData} (G__chain_days : FnX P w K mg base 5 f__chain_days d__chain_days ["table"] (spX K (dsCD c_InvalidTable))) (g__chain_days : mg "_chain_days" = some (.ref f__chain_days)) (k__chain_days : PySem.W.keepIn K (.ref f__chain_days) = true) (b__chain_days : Binds K d__chain_days ["table"] []) {f__error_of : Addr} {d__error_of : FuncData} (G__error_of : FnG P w K mg base 3 f__error_of d__error_of ["table", "greatest"] (spD K dsErr)) (g__error_of : mg "_error_of" = some (.ref f__error_of)) (k__error_of : PySem.W.keepIn K (.ref f__error_of) = true) (b__error_of : Binds K d__error_of ["table", "greatest"] []) {f : Addr} {fd : FuncData} (F : Fun K "least_error" "least_error" s_least_error f fd) : FnX P w K mg base 6 f fd ["table"] (spX K (dsLE c_InvalidTable)) := by
  refine FnX.of F sc_least_error (fun as post out h => by obtain ⟨_, h⟩ := h; rw [h.1]; rfl) fun cdv A outer s H vs fo as post out xe hr hgu hD tk pass => ?_
  obtain ⟨d, rfl, hK, few, q0, q1⟩ := hD
  have a0 : At (coreOf P w K mg base (A.deeper (envOfC "least_error" (defScope s_least_error) s.heap.objs.size f cdv)) ["table"] ((envOfC "least_error" (defScope s_least_error) s.heap.objs.size f cdv) :: outer)) (varX s H (envOfC "least_error" (defScope s_least_error) s.heap.objs.size f cdv) outer xe) "table" 0 := ⟨rfl, fun _ => by first | exact .inl rfl | exact .inr (.inl rfl), by decide, by decide⟩
  have s0 : AtS (coreOf P w K mg base (A.deeper (envOfC "least_error" (defScope s_least_error) s.heap.objs.size f cdv)) ["table"] ((envOfC "least_error" (defScope s_least_error) s.heap.objs.size f cdv) :: outer)) (varX s H (envOfC "least_error" (defScope s_least_error) s.heap.objs.size f cdv) outer xe) "table" 0 := ⟨sc_least_error.nd, rfl, fun _ => by first | exact .inl rfl | exact .inr rfl, fun _ => .inl rfl⟩
  show BD _ _ _ _ _ [AV.dt d]
  cases hT : isTbl d with
  | false => refine (bd_cons (sd_ret (ed_call G__error_of (hr.mono (by decide)) hgu (fun _ => rfl) g__error_of k__error_of b__error_of (by decide) (fun _ => rfl) (fun _ => rfl) (ea_cons (fun _ => rfl) (ek_ed (ed_name 0 a0 rfl (ea_cons (fun _ => rfl) (ek_ed (ed_callX G__chain_days (hr.mono (by decide)) hgu tk (fun _ => rfl) g__chain_days k__chain_days b__chain_days (by decide) (fun _ => rfl) (fun _ => rfl) (ea_cons (fun _ => rfl) (ek_ed (ed_name 0 a0 rfl (ea_nil ⟨_, rfl, rfl, ⟨d, rfl, hK, few, fun _ _ => (by exact q0 hT), fun h => absurd h (by rw [hT]; decide)⟩⟩)))))))))))))
  | true =>
    have hn := few hT
    have fin := q1 hT
    obtain ⟨hd, n1⟩ := tbl_form hT
    have cd : ∀ {post : AV → List AV → Prop} {out : XD}, post (.dt (tabD (chainT (tOf d) (nOf d)) (nOf d))) [.un] → dsCD c_InvalidTable [.dt d] post out := fun h => ⟨d, rfl, hK, few, fun h => absurd h (by rw [hT]; decide), fun _ => h⟩
    generalize tOf d = t at hd fin cd
    generalize nOf d = n at hd hn n1 fin cd
    subst hd
    refine (bd_cons (sd_ret (ed_call G__error_of (hr.mono (by decide)) hgu (fun _ => rfl) g__error_of k__error_of b__error_of (by decide) (fun _ => rfl) (fun _ => rfl) (ea_cons (fun _ => rfl) (ek_ed (ed_name 0 a0 rfl (ea_cons (fun _ => rfl) (ek_ed (ed_callX G__chain_days (hr.mono (by decide)) hgu tk (fun _ => rfl) g__chain_days k__chain_days b__chain_days (by decide) (fun _ => rfl) (fun _ => rfl) (ea_cons (fun _ => rfl) (ek_ed (ed_name 0 a0 rfl (ea_nil ⟨_, rfl, rfl, (cd fun _ => (ea_nil ⟨_, rfl, rfl, ⟨t, chainT t n, n, rfl, hn, fun e he _ => ?_⟩⟩))⟩)))))))))))))
    exact fin e he
theorem ok_nearest_history {c_InvalidTable : Addr} {f__chain_days : Addr} {d__chain_days : FuncData} (G__chain_days : FnX P w K mg base 5 f__chain_days d__chain_days ["table"] (spX K (dsCD c_InvalidTable))) (g__chain_days : mg "_chain_days" = some (.ref f__chain_days)) (k__chain_days : PySem.W.keepIn K (.ref f__chain_days) = true) (b__chain_days : Binds K d__chain_days ["table"] []) {f__error_of : Addr} {d__error_of : FuncData} (G__error_of : FnG P w K mg base 3 f__error_of d__error_of ["table", "greatest"] (spD K dsErr)) (g__error_of : mg "_error_of" = some (.ref f__error_of)) (k__error_of : PySem.W.keepIn K (.ref f__error_of) = true) (b__error_of : Binds K d__error_of ["table", "greatest"] []) (m_tuple : mg "tuple" = none) (m_max : mg "max" = none) {f : Addr} {fd : FuncData} (F : Fun K "nearest_history" "nearest_history" s_nearest_history f fd) : FnX P w K mg base 6 f fd ["table"] (spX K (dsNH c_InvalidTable)) := by
  refine FnX.of F sc_nearest_history (fun as post out h => by obtain ⟨_, h⟩ := h; rw [h.1]; rfl) fun cdv A outer s H vs fo as post out xe hr hgu hD tk pass => ?_
  obtain ⟨d, rfl, hK, few, q0, q1⟩ := hD
  have a0 : At (coreOf P w K mg base (A.deeper (envOfC "nearest_history" (defScope s_nearest_history) s.heap.objs.size f cdv)) ["table", "greatest", "error", "row", "day"] ((envOfC "nearest_history" (defScope s_nearest_history) s.heap.objs.size f cdv) :: outer)) (varX s H (envOfC "nearest_history" (defScope s_nearest_history) s.heap.objs.size f cdv) outer xe) "table" 0 := ⟨rfl, fun _ => by first | exact .inl rfl | exact .inr (.inl rfl), by decide, by decide⟩
  have s0 : AtS (coreOf P w K mg base (A.deeper (envOfC "nearest_history" (defScope s_nearest_history) s.heap.objs.size f cdv)) ["table", "greatest", "error", "row", "day"] ((envOfC "nearest_history" (defScope s_nearest_history) s.heap.objs.size f cdv) :: outer)) (varX s H (envOfC "nearest_history" (defScope s_nearest_history) s.heap.objs.size f cdv) outer xe) "table" 0 := ⟨sc_nearest_history.nd, rfl, fun _ => by first | exact .inl rfl | exact .inr rfl, fun _ => .inl rfl⟩
  have a1 : At (coreOf P w K mg base (A.deeper (envOfC "nearest_history" (defScope s_nearest_history) s.heap.objs.size f cdv)) ["table", "greatest", "error", "row", "day"] ((envOfC "nearest_history" (defScope s_nearest_history) s.heap.objs.size f cdv) :: outer)) (varX s H (envOfC "nearest_history" (defScope s_nearest_history) s.heap.objs.size f cdv) outer xe) "greatest" 1 := ⟨rfl, fun _ => by first | exact .inl rfl | exact .inr (.inl rfl), by decide, by decide⟩
  have s1 : AtS (coreOf P w K mg base (A.deeper (envOfC "nearest_history" (defScope s_nearest_history) s.heap.objs.size f cdv)) ["table", "greatest", "error", "row", "day"] ((envOfC "nearest_history" (defScope s_nearest_history) s.heap.objs.size f cdv) :: outer)) (varX s H (envOfC "nearest_history" (defScope s_nearest_history) s.heap.objs.size f cdv) outer xe) "greatest" 1 := ⟨sc_nearest_history.nd, rfl, fun _ => by first | exact .inl rfl | exact .inr rfl, fun _ => .inl rfl⟩
  have a2 : At (coreOf P w K mg base (A.deeper (envOfC "nearest_history" (defScope s_nearest_history) s.heap.objs.size f cdv)) ["table", "greatest", "error", "row", "day"] ((envOfC "nearest_history" (defScope s_nearest_history) s.heap.objs.size f cdv) :: outer)) (varX s H (envOfC "nearest_history" (defScope s_nearest_history) s.heap.objs.size f cdv) outer xe) "error" 2 := ⟨rfl, fun _ => by first | exact .inl rfl | exact .inr (.inl rfl), by decide, by decide⟩
  have s2 : AtS (coreOf P w K mg base (A.deeper (envOfC "nearest_history" (defScope s_nearest_history) s.heap.objs.size f cdv)) ["table", "greatest", "error", "row", "day"] ((envOfC "nearest_history" (defScope s_nearest_history) s.heap.objs.size f cdv) :: outer)) (varX s H (envOfC "nearest_history" (defScope s_nearest_history) s.heap.objs.size f cdv) outer xe) "error" 2 := ⟨sc_nearest_history.nd, rfl, fun _ => by first | exact .inl rfl | exact .inr rfl, fun _ => .inl rfl⟩
  show BD _ _ _ _ _ [AV.dt d, .un, .un, .un, .un]
  cases hT : isTbl d with
  | false => refine (bd_cons (sd_set 1 s1 (fun _ => rfl) (lt1 rfl) (nl rfl) (ed_callX G__chain_days (hr.mono (by decide)) hgu tk (fun _ => rfl) g__chain_days k__chain_days b__chain_days (by decide) (fun _ => rfl) (fun _ => rfl) (ea_cons (fun _ => rfl) (ek_ed (ed_name 0 a0 rfl (ea_nil ⟨_, rfl, rfl, ⟨d, rfl, hK, few, fun _ _ => (by exact q0 hT), fun h => absurd h (by rw [hT]; decide)⟩⟩)))))))
  | true =>
    have hn := few hT
    have fin := q1 hT
    obtain ⟨hd, n1⟩ := tbl_form hT
    have cd : ∀ {post : AV → List AV → Prop} {out : XD}, post (.dt (tabD (chainT (tOf d) (nOf d)) (nOf d))) [.un] → dsCD c_InvalidTable [.dt d] post out := fun h => ⟨d, rfl, hK, few, fun h => absurd h (by rw [hT]; decide), fun _ => h⟩
    generalize tOf d = t at hd fin cd
    generalize nOf d = n at hd hn n1 fin cd
    subst hd
    refine (bd_cons (sd_set 1 s1 (fun _ => rfl) (lt1 rfl) (nl rfl) (ed_callX G__chain_days (hr.mono (by decide)) hgu tk (fun _ => rfl) g__chain_days k__chain_days b__chain_days (by decide) (fun _ => rfl) (fun _ => rfl) (ea_cons (fun _ => rfl) (ek_ed (ed_name 0 a0 rfl (ea_nil ⟨_, rfl, rfl, (cd fun _ => (bd_cons (sd_set 2 s2 (fun _ => rfl) (lt1 rfl) (nl rfl) (ed_call G__error_of (hr.mono (by decide)) hgu (fun _ => rfl) g__error_of k__error_of b__error_of (by decide) (fun _ => rfl) (fun _ => rfl) (ea_cons (fun _ => rfl) (ek_ed (ed_name 0 a0 rfl (ea_cons (fun _ => rfl) (ek_ed (ed_name 1 a1 rfl (ea_nil ⟨_, rfl, rfl, ⟨t, chainT t n, n, rfl, hn, fun e he _ => ?_⟩⟩)))))))))))⟩)))))))
    have fin := fin e he
    generalize (e + 1) / 2 = er at fin ⊢
    refine (bd_cons (sd_ret (ed_tuple (fun _ => rfl) m_tuple (fun _ => rfl) (ek_ed (ed_lc (own := [("row", 3)]) sc_nearest_history.nd (fun _ => blkOk_by rfl) (fun _ _ => rfl) (nls rfl) (src_T (ek_ed (ed_name 1 a1 rfl ⟨_, rfl, ⟨?_, (fun x acc Γ => ∃ u4, Γ = [AV.dt (tabD t n), .dt (tabD (chainT t n) n), .dt (.int er), .un, u4] ∧ acc = (List.range x).map fun a => Dt.tup ((List.range a).map fun b => .int (low (chainT t n) er a b : Nat))), ?_, ?_, ?_⟩⟩))))))))
    · rw [List.length_map, List.length_range]; omega
    · exact ⟨.un, rfl, rfl⟩
    · rintro x d acc Γ2 hd ⟨u4, rfl, rfl⟩
      obtain ⟨hx, rfl⟩ := mapR hd
      refine ⟨_, (by decide), fun g ff => (gd_name 3 (ats_of sc_nearest_history.nd rfl (fun _ => rfl) (fun _ => rfl)) (lt1 rfl) (nl rfl) (ts_nil ⟨fun _ => (ed_tuple (fun _ => rfl) m_tuple (fun _ => rfl) (ek_ed (ed_lc (own := [("day", 4)]) sc_nearest_history.nd (fun _ => blkOk_by rfl) (fun _ _ => rfl) (nls rfl) (src_T (ek_ed (ed_name 3 (at_of rfl (fun _ => rfl) rfl rfl) rfl ⟨_, rfl, ⟨?_, (fun y acc Γ => Γ = [AV.dt (tabD t n), .dt (tabD (chainT t n) n), .dt (.int er), .dt (.tup ((List.range x).map fun b => .int (chainT t n x b : Nat))), .un] ∧ acc = (List.range y).map fun b => Dt.int (low (chainT t n) er x b : Nat)), ?_, ?_, ?_⟩⟩)))))), fun hif => nomatch hif⟩))⟩
      · rw [List.length_map, List.length_range]; omega
      · exact ⟨rfl, rfl⟩
      · rintro y d acc Γ2 hd ⟨rfl, rfl⟩
        obtain ⟨hy, rfl⟩ := mapR hd
        refine ⟨_, (by decide), fun g ff => (gd_name 4 (ats_of sc_nearest_history.nd rfl (fun _ => rfl) (fun _ => rfl)) (lt1 rfl) (nl rfl) (ts_nil ⟨fun _ => (ed_max2 (fun _ => rfl) m_max (fun _ => rfl) (fun _ => rfl) (fun _ => rfl) (ek_ed (ed_int (ek_ed (ed_sub (ek_ed (ed_name 4 (at_of rfl (fun _ => rfl) rfl rfl) rfl (ek_ed (ed_name 2 (at_of rfl (fun _ => rfl) rfl rfl) rfl (IntR.mk rfl rfl trivial ⟨_, _, rfl, rfl, ⟨_, rfl, ?_⟩⟩)))))))))), fun hif => nomatch hif⟩))⟩
        refine ⟨rfl, ?_⟩
        rw [max0, List.range_succ, List.map_append]; rfl
      · rintro acc Γ2 ⟨rfl, rfl⟩
        rw [List.length_map, List.length_range]; refine ⟨_, rfl, ⟨_, rfl, ?_⟩⟩
        refine ⟨.un, rfl, ?_⟩
        rw [List.range_succ, List.map_append]; rfl
    · rintro acc Γ2 ⟨u4, rfl, rfl⟩
      rw [List.length_map, List.length_range]; exact ⟨_, rfl, fin⟩
theorem ok_worst_pair {c_InvalidTable : Addr} {f__chain_days : Addr} {d__chain_days : FuncData} (G__chain_days : FnX P w K mg base 5 f__chain_days d__chain_days ["table"] (spX K (dsCD c_InvalidTable))) (g__chain_days : mg "_chain_days" = some (.ref f__chain_days)) (k__chain_days : PySem.W.keepIn K (.ref f__chain_days) = true) (b__chain_days : Binds K d__chain_days ["table"] []) {f__greatest_excess : Addr} {d__greatest_excess : FuncData} (G__greatest_excess : FnG P w K mg base 2 f__greatest_excess d__greatest_excess ["table", "greatest"] (spD K dsExc)) (g__greatest_excess : mg "_greatest_excess" = some (.ref f__greatest_excess)) (k__greatest_excess : PySem.W.keepIn K (.ref f__greatest_excess) = true) (b__greatest_excess : Binds K d__greatest_excess ["table", "greatest"] []) {f_table_links : Addr} {d_table_links : FuncData} (G_table_links : FnG P w K mg base 1 f_table_links d_table_links ["table"] (spD K dsLinks)) (g_table_links : mg "table_links" = some (.ref f_table_links)) (k_table_links : PySem.W.keepIn K (.ref f_table_links) = true) (b_table_links : Binds K d_table_links ["table"] []) {f_find_chain : Addr} {d_find_chain : FuncData} (G_find_chain : FnG P w K mg base 1 f_find_chain d_find_chain ["links", "one", "other", "day"] (spD K dsFind)) (g_find_chain : mg "find_chain" = some (.ref f_find_chain)) (k_find_chain : PySem.W.keepIn K (.ref f_find_chain) = true) (b_find_chain : Binds K d_find_chain ["links", "one", "other", "day"] []) {f : Addr} {fd : FuncData} (F : Fun K "worst_pair" "worst_pair" s_worst_pair f fd) : FnX P w K mg base 6 f fd ["table"] (spX K (dsWP c_InvalidTable)) := by
  refine FnX.of F sc_worst_pair (fun as post out h => by obtain ⟨_, h⟩ := h; rw [h.1]; rfl) fun cdv A outer s H vs fo as post out xe hr hgu hD tk pass => ?_
  obtain ⟨d, rfl, hK, few, q0, q1⟩ := hD
  have a0 : At (coreOf P w K mg base (A.deeper (envOfC "worst_pair" (defScope s_worst_pair) s.heap.objs.size f cdv)) ["table", "greatest", "excess", "links", "worst", "one", "other", "day"] ((envOfC "worst_pair" (defScope s_worst_pair) s.heap.objs.size f cdv) :: outer)) (varX s H (envOfC "worst_pair" (defScope s_worst_pair) s.heap.objs.size f cdv) outer xe) "table" 0 := ⟨rfl, fun _ => by first | exact .inl rfl | exact .inr (.inl rfl), by decide, by decide⟩
  have s0 : AtS (coreOf P w K mg base (A.deeper (envOfC "worst_pair" (defScope s_worst_pair) s.heap.objs.size f cdv)) ["table", "greatest", "excess", "links", "worst", "one", "other", "day"] ((envOfC "worst_pair" (defScope s_worst_pair) s.heap.objs.size f cdv) :: outer)) (varX s H (envOfC "worst_pair" (defScope s_worst_pair) s.heap.objs.size f cdv) outer xe) "table" 0 := ⟨sc_worst_pair.nd, rfl, fun _ => by first | exact .inl rfl | exact .inr rfl, fun _ => .inl rfl⟩
  have a1 : At (coreOf P w K mg base (A.deeper (envOfC "worst_pair" (defScope s_worst_pair) s.heap.objs.size f cdv)) ["table", "greatest", "excess", "links", "worst", "one", "other", "day"] ((envOfC "worst_pair" (defScope s_worst_pair) s.heap.objs.size f cdv) :: outer)) (varX s H (envOfC "worst_pair" (defScope s_worst_pair) s.heap.objs.size f cdv) outer xe) "greatest" 1 := ⟨rfl, fun _ => by first | exact .inl rfl | exact .inr (.inl rfl), by decide, by decide⟩
  have s1 : AtS (coreOf P w K mg base (A.deeper (envOfC "worst_pair" (defScope s_worst_pair) s.heap.objs.size f cdv)) ["table", "greatest", "excess", "links", "worst", "one", "other", "day"] ((envOfC "worst_pair" (defScope s_worst_pair) s.heap.objs.size f cdv) :: outer)) (varX s H (envOfC "worst_pair" (defScope s_worst_pair) s.heap.objs.size f cdv) outer xe) "greatest" 1 := ⟨sc_worst_pair.nd, rfl, fun _ => by first | exact .inl rfl | exact .inr rfl, fun _ => .inl rfl⟩
  have a2 : At (coreOf P w K mg base (A.deeper (envOfC "worst_pair" (defScope s_worst_pair) s.heap.objs.size f cdv)) ["table", "greatest", "excess", "links", "worst", "one", "other", "day"] ((envOfC "worst_pair" (defScope s_worst_pair) s.heap.objs.size f cdv) :: outer)) (varX s H (envOfC "worst_pair" (defScope s_worst_pair) s.heap.objs.size f cdv) outer xe) "excess" 2 := ⟨rfl, fun _ => by first | exact .inl rfl | exact .inr (.inl rfl), by decide, by decide⟩
  have s2 : AtS (coreOf P w K mg base (A.deeper (envOfC "worst_pair" (defScope s_worst_pair) s.heap.objs.size f cdv)) ["table", "greatest", "excess", "links", "worst", "one", "other", "day"] ((envOfC "worst_pair" (defScope s_worst_pair) s.heap.objs.size f cdv) :: outer)) (varX s H (envOfC "worst_pair" (defScope s_worst_pair) s.heap.objs.size f cdv) outer xe) "excess" 2 := ⟨sc_worst_pair.nd, rfl, fun _ => by first | exact .inl rfl | exact .inr rfl, fun _ => .inl rfl⟩
  have a3 : At (coreOf P w K mg base (A.deeper (envOfC "worst_pair" (defScope s_worst_pair) s.heap.objs.size f cdv)) ["table", "greatest", "excess", "links", "worst", "one", "other", "day"] ((envOfC "worst_pair" (defScope s_worst_pair) s.heap.objs.size f cdv) :: outer)) (varX s H (envOfC "worst_pair" (defScope s_worst_pair) s.heap.objs.size f cdv) outer xe) "links" 3 := ⟨rfl, fun _ => by first | exact .inl rfl | exact .inr (.inl rfl), by decide, by decide⟩
  have s3 : AtS (coreOf P w K mg base (A.deeper (envOfC "worst_pair" (defScope s_worst_pair) s.heap.objs.size f cdv)) ["table", "greatest", "excess", "links", "worst", "one", "other", "day"] ((envOfC "worst_pair" (defScope s_worst_pair) s.heap.objs.size f cdv) :: outer)) (varX s H (envOfC "worst_pair" (defScope s_worst_pair) s.heap.objs.size f cdv) outer xe) "links" 3 := ⟨sc_worst_pair.nd, rfl, fun _ => by first | exact .inl rfl | exact .inr rfl, fun _ => .inl rfl⟩
  have a4 : At (coreOf P w K mg base (A.deeper (envOfC "worst_pair" (defScope s_worst_pair) s.heap.objs.size f cdv)) ["table", "greatest", "excess", "links", "worst", "one", "other", "day"] ((envOfC "worst_pair" (defScope s_worst_pair) s.heap.objs.size f cdv) :: outer)) (varX s H (envOfC "worst_pair" (defScope s_worst_pair) s.heap.objs.size f cdv) outer xe) "worst" 4 := ⟨rfl, fun _ => by first | exact .inl rfl | exact .inr (.inl rfl), by decide, by decide⟩
  have s4 : AtS (coreOf P w K mg base (A.deeper (envOfC "worst_pair" (defScope s_worst_pair) s.heap.objs.size f cdv)) ["table", "greatest", "excess", "links", "worst", "one", "other", "day"] ((envOfC "worst_pair" (defScope s_worst_pair) s.heap.objs.size f cdv) :: outer)) (varX s H (envOfC "worst_pair" (defScope s_worst_pair) s.heap.objs.size f cdv) outer xe) "worst" 4 := ⟨sc_worst_pair.nd, rfl, fun _ => by first | exact .inl rfl | exact .inr rfl, fun _ => .inl rfl⟩
  have a5 : At (coreOf P w K mg base (A.deeper (envOfC "worst_pair" (defScope s_worst_pair) s.heap.objs.size f cdv)) ["table", "greatest", "excess", "links", "worst", "one", "other", "day"] ((envOfC "worst_pair" (defScope s_worst_pair) s.heap.objs.size f cdv) :: outer)) (varX s H (envOfC "worst_pair" (defScope s_worst_pair) s.heap.objs.size f cdv) outer xe) "one" 5 := ⟨rfl, fun _ => by first | exact .inl rfl | exact .inr (.inl rfl), by decide, by decide⟩
  have s5 : AtS (coreOf P w K mg base (A.deeper (envOfC "worst_pair" (defScope s_worst_pair) s.heap.objs.size f cdv)) ["table", "greatest", "excess", "links", "worst", "one", "other", "day"] ((envOfC "worst_pair" (defScope s_worst_pair) s.heap.objs.size f cdv) :: outer)) (varX s H (envOfC "worst_pair" (defScope s_worst_pair) s.heap.objs.size f cdv) outer xe) "one" 5 := ⟨sc_worst_pair.nd, rfl, fun _ => by first | exact .inl rfl | exact .inr rfl, fun _ => .inl rfl⟩
  have a6 : At (coreOf P w K mg base (A.deeper (envOfC "worst_pair" (defScope s_worst_pair) s.heap.objs.size f cdv)) ["table", "greatest", "excess", "links", "worst", "one", "other", "day"] ((envOfC "worst_pair" (defScope s_worst_pair) s.heap.objs.size f cdv) :: outer)) (varX s H (envOfC "worst_pair" (defScope s_worst_pair) s.heap.objs.size f cdv) outer xe) "other" 6 := ⟨rfl, fun _ => by first | exact .inl rfl | exact .inr (.inl rfl), by decide, by decide⟩
  have s6 : AtS (coreOf P w K mg base (A.deeper (envOfC "worst_pair" (defScope s_worst_pair) s.heap.objs.size f cdv)) ["table", "greatest", "excess", "links", "worst", "one", "other", "day"] ((envOfC "worst_pair" (defScope s_worst_pair) s.heap.objs.size f cdv) :: outer)) (varX s H (envOfC "worst_pair" (defScope s_worst_pair) s.heap.objs.size f cdv) outer xe) "other" 6 := ⟨sc_worst_pair.nd, rfl, fun _ => by first | exact .inl rfl | exact .inr rfl, fun _ => .inl rfl⟩
  show BD _ _ _ _ _ [AV.dt d, .un, .un, .un, .un, .un, .un, .un]
  cases hT : isTbl d with
  | false => refine (bd_cons (sd_set 1 s1 (fun _ => rfl) (lt1 rfl) (nl rfl) (ed_callX G__chain_days (hr.mono (by decide)) hgu tk (fun _ => rfl) g__chain_days k__chain_days b__chain_days (by decide) (fun _ => rfl) (fun _ => rfl) (ea_cons (fun _ => rfl) (ek_ed (ed_name 0 a0 rfl (ea_nil ⟨_, rfl, rfl, ⟨d, rfl, hK, few, fun _ _ => (by exact q0 hT), fun h => absurd h (by rw [hT]; decide)⟩⟩)))))))
  | true =>
    have hn := few hT
    have fin := q1 hT
    obtain ⟨hd, n1⟩ := tbl_form hT
    have cd : ∀ {post : AV → List AV → Prop} {out : XD}, post (.dt (tabD (chainT (tOf d) (nOf d)) (nOf d))) [.un] → dsCD c_InvalidTable [.dt d] post out := fun h => ⟨d, rfl, hK, few, fun h => absurd h (by rw [hT]; decide), fun _ => h⟩
    generalize tOf d = t at hd fin cd
    generalize nOf d = n at hd hn n1 fin cd
    subst hd
    refine (bd_cons (sd_set 1 s1 (fun _ => rfl) (lt1 rfl) (nl rfl) (ed_callX G__chain_days (hr.mono (by decide)) hgu tk (fun _ => rfl) g__chain_days k__chain_days b__chain_days (by decide) (fun _ => rfl) (fun _ => rfl) (ea_cons (fun _ => rfl) (ek_ed (ed_name 0 a0 rfl (ea_nil ⟨_, rfl, rfl, (cd fun _ => (bd_cons (sd_set 2 s2 (fun _ => rfl) (lt1 rfl) (nl rfl) (ed_call G__greatest_excess (hr.mono (by decide)) hgu (fun _ => rfl) g__greatest_excess k__greatest_excess b__greatest_excess (by decide) (fun _ => rfl) (fun _ => rfl) (ea_cons (fun _ => rfl) (ek_ed (ed_name 0 a0 rfl (ea_cons (fun _ => rfl) (ek_ed (ed_name 1 a1 rfl (ea_nil ⟨_, rfl, rfl, ⟨t, chainT t n, n, rfl, hn, fun e he _ => (bd_cons (sd_if (td_eqI (ek_ed (ed_name 2 a2 rfl (ek_ed (ed_int (CmpT.mk rfl rfl ⟨fun hif => ?_, fun hif => ?_⟩))))))))⟩⟩)))))))))))⟩)))))))
    · have z : e = 0 := of_decide_eq_true hif
      refine (bd_cons (sd_ret (ed_non ?_)))
      exact (fin e he).1 z
    · have ne : e ≠ 0 := of_decide_eq_false hif
      have fin := (fin e he).2 ne
      refine (bd_nil (bd_cons (sd_set 3 s3 (fun _ => rfl) (lt1 rfl) (nl rfl) (ed_call G_table_links (hr.mono (by decide)) hgu (fun _ => rfl) g_table_links k_table_links b_table_links (by decide) (fun _ => rfl) (fun _ => rfl) (ea_cons (fun _ => rfl) (ek_ed (ed_name 0 a0 rfl (ea_nil ⟨_, rfl, rfl, ⟨t, n, rfl, (by omega), fun _ => ?_⟩⟩))))))))
      refine bd_freeze 3 rfl ?_
      refine (bd_cons (sd_setLc 4 (own := [("one", 5), ("other", 6), ("day", 7)])  s4 (fun _ => rfl) (fun _ => sw_true rfl rfl rfl rfl) (lt1 rfl) (nl rfl) (fun _ => blkOk_by rfl) (fun _ _ => rfl) (nls rfl) (src_L (ek_ed (ed_name 3 a3 rfl ⟨_, rfl, rfl, rfl, ⟨?_, (fun j acc Γ => ∃ u4, Γ = [AV.dt (tabD t n), .dt (tabD (chainT t n) n), .dt (.int e), .dt (.lst ((links t n).map lkD)), u4, .un, .un, .un] ∧ acc = (((links t n).take j).filter fun k => decide ((chainT t n k.1 k.2.1 : Int) - (k.2.2 : Int) = e)).map fun k => prD (k.1, k.2.1)), ?_, ?_, ?_⟩⟩)))))
      · rw [List.length_map]
        exact Nat.le_trans (links_fit hn) (by decide)
      · exact ⟨.un, rfl, rfl⟩
      · rintro j d acc Γ2 hd ⟨u4, rfl, rfl⟩
        obtain ⟨q0, hk, rfl⟩ : ∃ k, (links t n)[j]? = some k ∧ lkD k = d := by
          rw [List.getElem?_map] at hd
          cases e : (links t n)[j]? with
          | none => rw [e] at hd; cases hd
          | some k => rw [e] at hd; exact ⟨k, rfl, Option.some.inj hd⟩
        obtain ⟨r1, r2, _⟩ := mem_links.mp (List.mem_of_getElem? hk)
        refine ⟨_, (by decide), fun g ff => (gd_tup (fun _ => rfl) (fun _ => rfl) (gds_cons (fun _ => rfl) (gd_name 5 (ats_of sc_worst_pair.nd rfl (fun _ => rfl) (fun _ => rfl)) (lt1 rfl) (nl rfl) (gds_cons (fun _ => rfl) (gd_name 6 (ats_of sc_worst_pair.nd rfl (fun _ => rfl) (fun _ => rfl)) (lt1 rfl) (nl rfl) (gds_cons (fun _ => rfl) (gd_name 7 (ats_of sc_worst_pair.nd rfl (fun _ => rfl) (fun _ => rfl)) (lt1 rfl) (nl rfl) (gds_nil (ts_one (td_eqI (ek_ed (ed_sub (ek_ed (ed_ixD (fun _ _ => rfl) (ek_ed (ed_ixD (fun _ _ => rfl) (ek_ed (ed_name 1 (at_of rfl (fun _ => rfl) rfl rfl) rfl (ek_ed (ed_name 5 (at_of rfl (fun _ => rfl) rfl rfl) rfl (IxD.mk rfl rfl (tab_at r1) (ek_ed (ed_name 6 (at_of rfl (fun _ => rfl) rfl rfl) rfl (IxD.mk rfl rfl (row_at2 r2) (ek_ed (ed_name 7 (at_of rfl (fun _ => rfl) rfl rfl) rfl (IntR.mk rfl rfl trivial (ek_ed (ed_name 2 (at_of rfl (fun _ => rfl) rfl rfl) rfl (CmpT.mk rfl rfl ⟨fun hif => (ed_tup (ea_cons (fun _ => rfl) (ek_ed (ed_name 5 (at_of rfl (fun _ => rfl) rfl rfl) rfl (ea_cons (fun _ => rfl) (ek_ed (ed_name 6 (at_of rfl (fun _ => rfl) rfl rfl) rfl (ea_nil ⟨_, rfl, le1 rfl, ⟨_, rfl, ?_⟩⟩)))))))), fun hif => ?_⟩))))))))))))))))))))))))))))))⟩
        · refine ⟨u4, rfl, ?_⟩
          rw [List.take_add_one, hk, List.filter_append, List.map_append]
          congr 1
          have z : (chainT t n q0.1 q0.2.1 : Int) - (q0.2.2 : Int) = e := of_decide_eq_true hif
          simp [z, prD]
        · refine ⟨u4, rfl, ?_⟩
          rw [List.take_add_one, hk, List.filter_append, List.map_append]
          have z : ¬ (chainT t n q0.1 q0.2.1 : Int) - (q0.2.2 : Int) = e := of_decide_eq_false hif
          simp [z]
      · rintro acc Γ2 ⟨u4, rfl, rfl⟩
        rw [List.length_map, List.take_length]; refine bd_freeze 4 rfl ?_
        generalize hws : (links t n).filter (fun k => decide ((chainT t n k.1 k.2.1 : Int) - (k.2.2 : Int) = e)) = ws
        cases ws with
        | nil =>
          exfalso
          rcases he.2 with ⟨x, y, h1, h2, h3⟩ | ⟨z, _⟩
          · have : (x, y, t x y) ∈ (links t n).filter (fun k => decide ((chainT t n k.1 k.2.1 : Int) - (k.2.2 : Int) = e)) := List.mem_filter.mpr ⟨mem_links.mpr ⟨h2, h1, rfl⟩, decide_eq_true h3⟩
            rw [hws] at this
            cases this
          · exact ne z
        | cons q0 ws =>
          have mem : q0 ∈ (links t n).filter (fun k => decide ((chainT t n k.1 k.2.1 : Int) - (k.2.2 : Int) = e)) := by rw [hws]; exact List.mem_cons_self
          obtain ⟨m1, m2⟩ := List.mem_filter.mp mem
          have m2 : (chainT t n q0.1 q0.2.1 : Int) - (q0.2.2 : Int) = e := of_decide_eq_true m2
          obtain ⟨r1, r2, r3⟩ := mem_links.mp m1
          rw [r3] at m2
          have hw : atI ((q0 :: ws).map fun k => prD (k.1, k.2.1)) 0 = some (prD (q0.1, q0.2.1)) := DL.atI_get (j := 0) rfl
          refine (bd_cons (sd_unp [5, 6] (fun _ => rfl) (fun _ => rfl) (fun _ => rfl) (ed_ixD (fun _ _ => rfl) (ek_ed (ed_name 4 a4 rfl (ek_ed (ed_int (IxD.mk rfl rfl hw ⟨_, rfl, (gd_tup (fun _ => rfl) (fun _ => rfl) (gds_cons (fun _ => rfl) (gd_name 5 s5 (lt1 rfl) (nl rfl) (gds_cons (fun _ => rfl) (gd_name 6 s6 (lt1 rfl) (nl rfl) (gds_nil ?_))))))⟩))))))))
          refine (bd_cons (sd_ret (ed_tup (ea_cons (fun _ => rfl) (ek_ed (ed_name 5 a5 rfl (ea_cons (fun _ => rfl) (ek_ed (ed_name 6 a6 rfl (ea_cons (fun _ => rfl) (ek_ed (ed_call G_find_chain (hr.mono (by decide)) hgu (fun _ => rfl) g_find_chain k_find_chain b_find_chain (by decide) (fun _ => rfl) (fun _ => rfl) (ea_cons (fun _ => rfl) (ek_ed (ed_name 3 a3 rfl (ea_cons (fun _ => rfl) (ek_ed (ed_name 5 a5 rfl (ea_cons (fun _ => rfl) (ek_ed (ed_name 6 a6 rfl (ea_cons (fun _ => rfl) (ek_ed (ed_ixD (fun _ _ => rfl) (ek_ed (ed_ixD (fun _ _ => rfl) (ek_ed (ed_name 1 a1 rfl (ek_ed (ed_name 5 a5 rfl (IxD.mk rfl rfl (tab_at r1) (ek_ed (ed_name 6 a6 rfl (IxD.mk rfl rfl (row_at2 r2) (ea_nil ⟨_, rfl, rfl, ⟨n, links t n, q0.1, q0.2.1, chainT t n q0.1 q0.2.1, rfl, (by omega), (Nat.le_trans (links_fit hn) (by decide)), links_lks, r1, (by omega), chainT_conn r2 r1, fun p hp hc _ => (ea_nil ⟨_, rfl, le1 rfl, ?_⟩)⟩⟩)))))))))))))))))))))))))))))))))))
          exact fin q0.1 q0.2.1 p r2 r1 m2 hc
end
end K24

/-! isinstance(e, (C, D, ..)) -/
namespace DL
open PySem PySem.Spec
open PyProof.Rows L2
def rIsDT (K : PySem.W.Frag) (D : Addr) : List V → Hp → VK → Prop := fun xs H Q => ∃ (a tp : Addr) (Cs : List Addr) (b : Bool), xs = [.ref a, .ref tp] ∧ ((∃ o, ExcOf D o ∧ H a = some (o a)) ∨ ∃ d fs, H a = some (exo a D (some d)) ∧ H d = some (exd d fs)) ∧ H tp = some (.tup (Cs.map V.ref)) ∧ PySem.W.kitAny K (.ref D) (Cs.map Value.ref) = some b ∧ Q (.bl b) H
theorem vals_refs : ∀ {Cs : List Addr} {its : List Value}, Vals (Cs.map V.ref) its → its = Cs.map Value.ref
  | [], _, .nil => rfl
  | _ :: _, _, .cons r t => by
    rw [vals_refs t]
    exact congrArg (· :: _) r
theorem call_isDT {X : Cx} {D : Addr} (C : ExcC X.K D) : CallR X (.builtin "isinstance") (rIsDT X.K D) := fun pins s σ H xs us Q I r given => by
  obtain ⟨a, tp, Cs, b, rfl, here, at_tp, kit, q⟩ := given
  obtain ⟨u1, u2, rfl, r1, r2⟩ := (r.two)
  cases (show (u1 = Value.ref a) from r1)
  cases (show (u2 = Value.ref tp) from r2)
  have inst : ∃ ob od, PySem.W.InstAt s.heap a ob D od := by
    rcases here with ⟨o, kind, at_a⟩ | ⟨d, fs, at_a, at_d⟩
    · obtain ⟨ob, vs, e, c, d, shape⟩ := kind _ _ _ _ _ (I.hok a _ at_a)
      obtain ⟨oc, od, oda, osl⟩ := ob
      cases c
      cases d
      cases shape
      exact ⟨_, none, e, rfl, rfl, trivial⟩
    · obtain ⟨t1, there⟩ := exo_at I.hok at_a
      obtain ⟨mA, ns, _⟩ := exd_at I.hok at_d
      obtain ⟨od, ho, _⟩ := lookIn_ns ns
      exact ⟨_, some od, there, rfl, rfl, ho⟩
  obtain ⟨ob, od, inst⟩ := inst
  obtain ⟨its, vi, ⟨⟨oc, odd, oda, osl⟩, t1, t2, n, t3⟩, _⟩ := I.tuple (.inl (.inl at_tp))
  cases t2
  cases t3
  rw [vals_refs vi] at t1
  exact PySem.W.kia_tup (kitx_exc (ox := ob) (od := od) C) I.kIn inst t1 kit (fun z => nomatch z) fun tk => ⟨.bl b, H, I.tok tk, rfl, q⟩
section
variable {c : Core} [Tb c.K] {ι : Type} {v : ι → Var} {S : Ent} {Γ : List AV}
variable {Q : AV → List AV → Prop} {a b : Expr} {p pos : Pos} {D : Addr}
def pIsDT (K : PySem.W.Frag) (D : Addr) : List AK → List AV → (AV → List AV → Prop) → Prop := fun as Γ Q => ∃ k l e Cs b, as = [k, l] ∧ akD Γ k = some e ∧ ExcD D e ∧ akT Γ l = some (List.map (fun C => Dt.raw (.ref C)) Cs) ∧ PySem.W.kitAny K (.ref D) (Cs.map Value.ref) = some b ∧ Q (.dt (.bl b)) Γ
theorem raws {K : PySem.W.Frag} {H : Hp} {ex : AP} : ∀ {Cs : List Addr} {xs : List V}, RpL K H ex xs (Cs.map fun C => Dt.raw (.ref C)) → xs = Cs.map V.ref
  | [], _, .nil => rfl
  | _ :: _, _, .cons r t => by
    rw [raws t]
    cases r
    rfl
theorem cb_isDT : CB c S (rIsDT c.K D) (pIsDT c.K D) := by
  rintro as Γ Q σ H xs R ⟨k, l, d, Cs, b, rfl, e, kind, e2, kit, q⟩ r hx kk
  obtain ⟨y, z, rfl, hk, hl⟩ := hx.pair
  have ho := akD_of e hk
  obtain ⟨tp, ys, rfl, htp, hys⟩ := akT_of e2 hl
  rw [raws hys] at htp
  have fin := kk _ _ _ _ q ⟨r, .bl _⟩ .refl trivial
  rcases kind with ⟨o, rfl, kind⟩ | ⟨fs, rfl⟩
  · cases ho with
    | obj at_a _ => exact ⟨_, tp, Cs, b, rfl, .inl ⟨o, kind, at_a⟩, htp, kit, fin⟩
  · cases ho with
    | exa at_a _ at_d _ => exact ⟨_, tp, Cs, b, rfl, .inr ⟨_, fs, at_a, at_d⟩, htp, kit, fin⟩
/-- isinstance(a, (C, ..)), a an exception -/
theorem ed_isCT {de : Dt} {Cs : List Addr} (E : ExcC c.K D) (kind : ExcD D de) (hg : ∀ i, Gl (mkX c (v i)) "isinstance") (hm : c.mg "isinstance" = none) (he : NoStar v a [b]) (he2 : NoStar v b []) (hp : NoStarL v pos [b])
    (h : EK c v S a Γ fun k Γ1 => EK c v S b Γ1 fun l Γ2 => akD Γ2 k = some de ∧ akT Γ2 l = some (List.map (fun C => Dt.raw (.ref C)) Cs) ∧ ∃ b, PySem.W.kitAny c.K (.ref D) (Cs.map Value.ref) = some b ∧ Q (.dt (.bl b)) Γ2) : ED c v S (.Call (.Name "isinstance" p) [a, b] [] pos) Γ Q :=
  ed_callB (fun i => (show CallR (mkX c (v i)) (.builtin "isinstance") (rIsDT c.K D) from call_isDT (X := mkX c (v i)) E)) cb_isDT hg hm (by decide +kernel) (by decide) (by decide) he hp (ea2 he he2 fun σ H R r kk => h σ H R r fun x H' k Γ' q => kk x H' k Γ' fun σ H R r kk => q σ H R r fun y H2 l Γ2 ⟨e, e2, b, kit, q⟩ => kk y H2 l Γ2 ⟨k, l, de, Cs, b, rfl, e, kind, e2, kit, q⟩)
end
end DL

namespace K24
open N24 PySem PySem.Spec PyProof.Rows L2 DL
abbrev s__law_kind : Stmt := topS 46
theorem sc__law_kind : FnScope ["e", "some", "others", "found", "name", "is_one"] ["e"] (defScope s__law_kind) := ⟨rfl, rfl, rfl, by decide +kernel, rfl, by decide +kernel, by decide +kernel⟩
def labs : List Str := ["history", "pairs", "table", "number", "day", "large"]
def labAt (i : Nat) : Str := (labs[i]?).getD "odd"
def kitRow (i : Nat) (j : Nat) : Dt := .tup [.str (labAt j), .bl (decide (i = j))]
/-- an exception of the i-th class of the law's six, of none of the others -/
structure OwnI (K : PySem.W.Frag) (cs o1 o2 o3 : List Addr) (D : Addr) (o : Dt) (i : Nat) : Prop where
  exc : ExcC K D
  kind : ExcD D o
  kit : ∀ j c, cs[j]? = some c → PySem.W.kitOne K (.ref D) (.ref c) = some (decide (i = j))
  n1 : PySem.W.kitAny K (.ref D) (o1.map Value.ref) = some false
  n2 : PySem.W.kitAny K (.ref D) (o2.map Value.ref) = some false
  n3 : PySem.W.kitAny K (.ref D) (o3.map Value.ref) = some false
  val : PySem.W.kitOne K (.ref D) (.type "ValueError") = some true
def dsKind (K : PySem.W.Frag) (cs o1 o2 o3 : List Addr) : DSp := fun as post => ∃ o D i, as = [.dt o] ∧ i < 5 ∧ OwnI K cs o1 o2 o3 D o i ∧ post (.dt (.str (labAt i))) [.un]
theorem kit_rows (i : Nat) : [Dt.tup [Dt.str "history", Dt.bl (decide (i = 0))], Dt.tup [Dt.str "pairs", Dt.bl (decide (i = 1))], Dt.tup [Dt.str "table", Dt.bl (decide (i = 2))], Dt.tup [Dt.str "number", Dt.bl (decide (i = 3))], Dt.tup [Dt.str "day", Dt.bl (decide (i = 4))], Dt.tup [Dt.str "large", Dt.bl (decide (i = 5))]] = (List.range 6).map (kitRow i) := rfl
section
variable {P : Program} {w : World} {K : PySem.W.Frag} [Tb K] {mg : Str → Option Value} {base : Heap}
theorem ok__law_kind {c_NotAHistory c_InvalidPairs c_InvalidTable c_InvalidNumber c_InvalidDay c_TooLarge c_Contradiction c_InvalidBound c_InvalidForks c_InvalidItem c_InvalidItems c_InvalidPair c_InvalidParts c_InvalidText c_InvalidTold c_NoCommon c_NotAnObject c_NotExact c_NothingToUndo c_NotPossible c_OtherNumber c_SameItem : Addr} (g_NotAHistory : mg "NotAHistory" = some (.ref c_NotAHistory)) (g_InvalidPairs : mg "InvalidPairs" = some (.ref c_InvalidPairs)) (g_InvalidTable : mg "InvalidTable" = some (.ref c_InvalidTable)) (g_InvalidNumber : mg "InvalidNumber" = some (.ref c_InvalidNumber)) (g_InvalidDay : mg "InvalidDay" = some (.ref c_InvalidDay)) (g_TooLarge : mg "TooLarge" = some (.ref c_TooLarge)) (g_Contradiction : mg "Contradiction" = some (.ref c_Contradiction)) (g_InvalidBound : mg "InvalidBound" = some (.ref c_InvalidBound)) (g_InvalidForks : mg "InvalidForks" = some (.ref c_InvalidForks)) (g_InvalidItem : mg "InvalidItem" = some (.ref c_InvalidItem)) (g_InvalidItems : mg "InvalidItems" = some (.ref c_InvalidItems)) (g_InvalidPair : mg "InvalidPair" = some (.ref c_InvalidPair)) (g_InvalidParts : mg "InvalidParts" = some (.ref c_InvalidParts)) (g_InvalidText : mg "InvalidText" = some (.ref c_InvalidText)) (g_InvalidTold : mg "InvalidTold" = some (.ref c_InvalidTold)) (g_NoCommon : mg "NoCommon" = some (.ref c_NoCommon)) (g_NotAnObject : mg "NotAnObject" = some (.ref c_NotAnObject)) (g_NotExact : mg "NotExact" = some (.ref c_NotExact)) (g_NothingToUndo : mg "NothingToUndo" = some (.ref c_NothingToUndo)) (g_NotPossible : mg "NotPossible" = some (.ref c_NotPossible)) (g_OtherNumber : mg "OtherNumber" = some (.ref c_OtherNumber)) (g_SameItem : mg "SameItem" = some (.ref c_SameItem)) (m_isinstance : mg "isinstance" = none) (m_len : mg "len" = none) (m_ValueError : mg "ValueError" = none) (m_repr : mg "repr" = none) {f : Addr} {fd : FuncData} (F : Fun K "_law_kind" "_law_kind" s__law_kind f fd) : FnG P w K mg base 1 f fd ["e"] (spD K (dsKind K [c_NotAHistory, c_InvalidPairs, c_InvalidTable, c_InvalidNumber, c_InvalidDay, c_TooLarge] [c_Contradiction, c_InvalidBound, c_InvalidForks, c_InvalidItem, c_InvalidItems, c_InvalidPair] [c_InvalidParts, c_InvalidText, c_InvalidTold, c_NoCommon, c_NotAnObject, c_NotExact] [c_NothingToUndo, c_NotPossible, c_OtherNumber, c_SameItem])) := by
  refine FnG.of F sc__law_kind (fun as post h => by obtain ⟨_, _, _, h⟩ := h; rw [h.1]; rfl) fun cdv A outer s H vs fo as post hr hgu hD => ?_
  obtain ⟨o, D, i, rfl, hi, y, hq⟩ := hD
  have a0 : At (coreOf P w K mg base (A.deeper (envOfC "_law_kind" (defScope s__law_kind) s.heap.objs.size f cdv)) ["e", "some", "others", "found", "name", "is_one"] ((envOfC "_law_kind" (defScope s__law_kind) s.heap.objs.size f cdv) :: outer)) (varOf s H (envOfC "_law_kind" (defScope s__law_kind) s.heap.objs.size f cdv) outer) "e" 0 := ⟨rfl, fun _ => by first | exact .inl rfl | exact .inr (.inl rfl), by decide, by decide⟩
  have s0 : AtS (coreOf P w K mg base (A.deeper (envOfC "_law_kind" (defScope s__law_kind) s.heap.objs.size f cdv)) ["e", "some", "others", "found", "name", "is_one"] ((envOfC "_law_kind" (defScope s__law_kind) s.heap.objs.size f cdv) :: outer)) (varOf s H (envOfC "_law_kind" (defScope s__law_kind) s.heap.objs.size f cdv) outer) "e" 0 := ⟨sc__law_kind.nd, rfl, fun _ => by first | exact .inl rfl | exact .inr rfl, fun _ => .inl rfl⟩
  have a1 : At (coreOf P w K mg base (A.deeper (envOfC "_law_kind" (defScope s__law_kind) s.heap.objs.size f cdv)) ["e", "some", "others", "found", "name", "is_one"] ((envOfC "_law_kind" (defScope s__law_kind) s.heap.objs.size f cdv) :: outer)) (varOf s H (envOfC "_law_kind" (defScope s__law_kind) s.heap.objs.size f cdv) outer) "some" 1 := ⟨rfl, fun _ => by first | exact .inl rfl | exact .inr (.inl rfl), by decide, by decide⟩
  have s1 : AtS (coreOf P w K mg base (A.deeper (envOfC "_law_kind" (defScope s__law_kind) s.heap.objs.size f cdv)) ["e", "some", "others", "found", "name", "is_one"] ((envOfC "_law_kind" (defScope s__law_kind) s.heap.objs.size f cdv) :: outer)) (varOf s H (envOfC "_law_kind" (defScope s__law_kind) s.heap.objs.size f cdv) outer) "some" 1 := ⟨sc__law_kind.nd, rfl, fun _ => by first | exact .inl rfl | exact .inr rfl, fun _ => .inl rfl⟩
  have a2 : At (coreOf P w K mg base (A.deeper (envOfC "_law_kind" (defScope s__law_kind) s.heap.objs.size f cdv)) ["e", "some", "others", "found", "name", "is_one"] ((envOfC "_law_kind" (defScope s__law_kind) s.heap.objs.size f cdv) :: outer)) (varOf s H (envOfC "_law_kind" (defScope s__law_kind) s.heap.objs.size f cdv) outer) "others" 2 := ⟨rfl, fun _ => by first | exact .inl rfl | exact .inr (.inl rfl), by decide, by decide⟩
  have s2 : AtS (coreOf P w K mg base (A.deeper (envOfC "_law_kind" (defScope s__law_kind) s.heap.objs.size f cdv)) ["e", "some", "others", "found", "name", "is_one"] ((envOfC "_law_kind" (defScope s__law_kind) s.heap.objs.size f cdv) :: outer)) (varOf s H (envOfC "_law_kind" (defScope s__law_kind) s.heap.objs.size f cdv) outer) "others" 2 := ⟨sc__law_kind.nd, rfl, fun _ => by first | exact .inl rfl | exact .inr rfl, fun _ => .inl rfl⟩
  have a3 : At (coreOf P w K mg base (A.deeper (envOfC "_law_kind" (defScope s__law_kind) s.heap.objs.size f cdv)) ["e", "some", "others", "found", "name", "is_one"] ((envOfC "_law_kind" (defScope s__law_kind) s.heap.objs.size f cdv) :: outer)) (varOf s H (envOfC "_law_kind" (defScope s__law_kind) s.heap.objs.size f cdv) outer) "found" 3 := ⟨rfl, fun _ => by first | exact .inl rfl | exact .inr (.inl rfl), by decide, by decide⟩
  have s3 : AtS (coreOf P w K mg base (A.deeper (envOfC "_law_kind" (defScope s__law_kind) s.heap.objs.size f cdv)) ["e", "some", "others", "found", "name", "is_one"] ((envOfC "_law_kind" (defScope s__law_kind) s.heap.objs.size f cdv) :: outer)) (varOf s H (envOfC "_law_kind" (defScope s__law_kind) s.heap.objs.size f cdv) outer) "found" 3 := ⟨sc__law_kind.nd, rfl, fun _ => by first | exact .inl rfl | exact .inr rfl, fun _ => .inl rfl⟩
  show BD _ _ _ _ _ [AV.dt o, .un, .un, .un, .un, .un]
  have hu := units_of hr
  have E := y.exc
  have kind := y.kind
  refine (bd_cons (sd_set 1 s1 (fun _ => rfl) (lt1 rfl) (nl rfl) (ed_lst (ea_cons (fun _ => rfl) (ek_ed (ed_tup (ea_cons (fun _ => rfl) (ek_ed (ed_str (ea_cons (fun _ => rfl) (ek_ed (ed_isC E kind (fun _ => rfl) m_isinstance (fun _ => rfl) g_NotAHistory (by decide) (fun _ => rfl) (fun _ => rfl) (fun _ => rfl) (ek_ed (ed_name 0 a0 rfl ⟨rfl, _, (y.kit 0 _ rfl), (ea_nil ⟨_, rfl, le1 rfl, (ea_cons (fun _ => rfl) (ek_ed (ed_tup (ea_cons (fun _ => rfl) (ek_ed (ed_str (ea_cons (fun _ => rfl) (ek_ed (ed_isC E kind (fun _ => rfl) m_isinstance (fun _ => rfl) g_InvalidPairs (by decide) (fun _ => rfl) (fun _ => rfl) (fun _ => rfl) (ek_ed (ed_name 0 a0 rfl ⟨rfl, _, (y.kit 1 _ rfl), (ea_nil ⟨_, rfl, le1 rfl, (ea_nil ⟨_, rfl, le1 rfl, (bd_cons (sd_set 1 s1 (fun _ => rfl) (lt1 rfl) (nl rfl) (ed_add (ek_loan 1 a1 rfl (ek_ed (ed_lst (ea_cons (fun _ => rfl) (ek_ed (ed_tup (ea_cons (fun _ => rfl) (ek_ed (ed_str (ea_cons (fun _ => rfl) (ek_ed (ed_isC E kind (fun _ => rfl) m_isinstance (fun _ => rfl) g_InvalidTable (by decide) (fun _ => rfl) (fun _ => rfl) (fun _ => rfl) (ek_ed (ed_name 0 a0 rfl ⟨rfl, _, (y.kit 2 _ rfl), (ea_nil ⟨_, rfl, le1 rfl, (ea_cons (fun _ => rfl) (ek_ed (ed_tup (ea_cons (fun _ => rfl) (ek_ed (ed_str (ea_cons (fun _ => rfl) (ek_ed (ed_isC E kind (fun _ => rfl) m_isinstance (fun _ => rfl) g_InvalidNumber (by decide) (fun _ => rfl) (fun _ => rfl) (fun _ => rfl) (ek_ed (ed_name 0 a0 rfl ⟨rfl, _, (y.kit 3 _ rfl), (ea_nil ⟨_, rfl, le1 rfl, (ea_nil ⟨_, rfl, le1 rfl, (AddR.lst rfl rfl rfl rfl (le1 rfl) (bd_cons (sd_set 1 s1 (fun _ => rfl) (lt1 rfl) (nl rfl) (ed_add (ek_loan 1 a1 rfl (ek_ed (ed_lst (ea_cons (fun _ => rfl) (ek_ed (ed_tup (ea_cons (fun _ => rfl) (ek_ed (ed_str (ea_cons (fun _ => rfl) (ek_ed (ed_isC E kind (fun _ => rfl) m_isinstance (fun _ => rfl) g_InvalidDay (by decide) (fun _ => rfl) (fun _ => rfl) (fun _ => rfl) (ek_ed (ed_name 0 a0 rfl ⟨rfl, _, (y.kit 4 _ rfl), (ea_nil ⟨_, rfl, le1 rfl, (ea_cons (fun _ => rfl) (ek_ed (ed_tup (ea_cons (fun _ => rfl) (ek_ed (ed_str (ea_cons (fun _ => rfl) (ek_ed (ed_isC E kind (fun _ => rfl) m_isinstance (fun _ => rfl) g_TooLarge (by decide) (fun _ => rfl) (fun _ => rfl) (fun _ => rfl) (ek_ed (ed_name 0 a0 rfl ⟨rfl, _, (y.kit 5 _ rfl), (ea_nil ⟨_, rfl, le1 rfl, (ea_nil ⟨_, rfl, le1 rfl, (AddR.lst rfl rfl rfl rfl (le1 rfl) ?_)⟩)⟩)⟩)))))))))))⟩)⟩))))))))))))))))))⟩)⟩)⟩)))))))))))⟩)⟩)))))))))))))))))⟩)⟩)⟩)))))))))))⟩)⟩))))))))))))))
  show BD _ _ _ _ _ [.dt o, .ow ((List.range 6).map (kitRow i)), .un, .un, .un, .un]
  refine (bd_cons (sd_set 2 s2 (fun _ => rfl) (lt1 rfl) (nl rfl) (ed_isCT (Cs := [c_Contradiction, c_InvalidBound, c_InvalidForks, c_InvalidItem, c_InvalidItems, c_InvalidPair]) E kind (fun _ => rfl) m_isinstance (fun _ => rfl) (fun _ => rfl) (fun _ => rfl) (ek_ed (ed_name 0 a0 rfl (ek_ed (ed_tup (ea_cons (fun _ => rfl) (ek_cls (fun _ => rfl) g_Contradiction (by decide) (ea_cons (fun _ => rfl) (ek_cls (fun _ => rfl) g_InvalidBound (by decide) (ea_cons (fun _ => rfl) (ek_cls (fun _ => rfl) g_InvalidForks (by decide) (ea_cons (fun _ => rfl) (ek_cls (fun _ => rfl) g_InvalidItem (by decide) (ea_cons (fun _ => rfl) (ek_cls (fun _ => rfl) g_InvalidItems (by decide) (ea_cons (fun _ => rfl) (ek_cls (fun _ => rfl) g_InvalidPair (by decide) (ea_nil ⟨_, rfl, le1 rfl, ⟨rfl, rfl, _, y.n1, ?_⟩⟩))))))))))))))))))))
  refine (bd_cons (sd_set 2 s2 (fun _ => rfl) (lt1 rfl) (nl rfl) (ed_or (ed_name 2 a2 rfl ⟨_, rfl, fun hif => (ed_bool1 (ed_isCT (Cs := [c_InvalidParts, c_InvalidText, c_InvalidTold, c_NoCommon, c_NotAnObject, c_NotExact]) E kind (fun _ => rfl) m_isinstance (fun _ => rfl) (fun _ => rfl) (fun _ => rfl) (ek_ed (ed_name 0 a0 rfl (ek_ed (ed_tup (ea_cons (fun _ => rfl) (ek_cls (fun _ => rfl) g_InvalidParts (by decide) (ea_cons (fun _ => rfl) (ek_cls (fun _ => rfl) g_InvalidText (by decide) (ea_cons (fun _ => rfl) (ek_cls (fun _ => rfl) g_InvalidTold (by decide) (ea_cons (fun _ => rfl) (ek_cls (fun _ => rfl) g_NoCommon (by decide) (ea_cons (fun _ => rfl) (ek_cls (fun _ => rfl) g_NotAnObject (by decide) (ea_cons (fun _ => rfl) (ek_cls (fun _ => rfl) g_NotExact (by decide) (ea_nil ⟨_, rfl, le1 rfl, ⟨rfl, rfl, _, y.n2, ?_⟩⟩))))))))))))))))))), fun hif => (nomatch hif)⟩))))
  refine (bd_cons (sd_set 2 s2 (fun _ => rfl) (lt1 rfl) (nl rfl) (ed_or (ed_name 2 a2 rfl ⟨_, rfl, fun hif => (ed_bool1 (ed_isCT (Cs := [c_NothingToUndo, c_NotPossible, c_OtherNumber, c_SameItem]) E kind (fun _ => rfl) m_isinstance (fun _ => rfl) (fun _ => rfl) (fun _ => rfl) (ek_ed (ed_name 0 a0 rfl (ek_ed (ed_tup (ea_cons (fun _ => rfl) (ek_cls (fun _ => rfl) g_NothingToUndo (by decide) (ea_cons (fun _ => rfl) (ek_cls (fun _ => rfl) g_NotPossible (by decide) (ea_cons (fun _ => rfl) (ek_cls (fun _ => rfl) g_OtherNumber (by decide) (ea_cons (fun _ => rfl) (ek_cls (fun _ => rfl) g_SameItem (by decide) (ea_nil ⟨_, rfl, le1 rfl, ⟨rfl, rfl, _, y.n3, ?_⟩⟩))))))))))))))), fun hif => (nomatch hif)⟩))))
  refine (bd_cons (sd_setLc 3 (own := [("name", 4), ("is_one", 5)])  s3 (fun _ => rfl) (fun _ => sw_true rfl rfl rfl rfl) (lt1 rfl) (nl rfl) (fun _ => blkOk_by rfl) (fun _ _ => rfl) (nls rfl) (src_L (ek_ed (ed_name_freeze 1 a1 rfl ⟨_, rfl, rfl, rfl, ⟨?_, (fun j acc Γ => acc = (if i < j then [.str (labAt i)] else []) ∧ Γ = [AV.dt o, AV.dt (.lst ((List.range 6).map (kitRow i))), .dt (.bl false), .un, .un, .un]), ?_, ?_, ?_⟩⟩)))))
  · rw [List.length_map, List.length_range]; exact le1 rfl
  · exact ⟨rfl, rfl⟩
  · rintro j d acc Γ2 hj ⟨rfl, rfl⟩
    have hj22 : j < 6 := by
      have := (List.getElem?_eq_some_iff.mp hj).1
      rwa [List.length_map, List.length_range] at this
    rw [List.getElem?_map, List.getElem?_range hj22] at hj
    cases hj
    refine ⟨_, (by decide), fun g ff => (gd_tup (fun _ => rfl) (fun _ => rfl) (gds_cons (fun _ => rfl) (gd_name 4 (ats_of sc__law_kind.nd rfl (fun _ => rfl) (fun _ => rfl)) (lt1 rfl) (nl rfl) (gds_cons (fun _ => rfl) (gd_name 5 (ats_of sc__law_kind.nd rfl (fun _ => rfl) (fun _ => rfl)) (lt1 rfl) (nl rfl) (gds_nil (ts_one (td_val (fun _ _ => rfl) (ed_name 5 (at_of rfl (fun _ => rfl) rfl rfl) rfl ⟨_, rfl, ⟨fun hif => (ed_name 4 (at_of rfl (fun _ => rfl) rfl rfl) rfl ⟨_, rfl, ?_⟩), fun hif => ?_⟩⟩)))))))))⟩
    · have : i = j := of_decide_eq_true hif
      subst this
      exact ⟨by rw [if_neg (Nat.lt_irrefl i), if_pos (Nat.lt_succ_self i)]; rfl, rfl⟩
    · have : i ≠ j := of_decide_eq_false hif
      exact ⟨by by_cases z : i < j <;> simp [z, show (i < j + 1) = (i < j) from propext ⟨fun _ => by omega, fun _ => by omega⟩], rfl⟩
  · rintro acc Γ2 ⟨rfl, rfl⟩
    rw [List.length_map, List.length_range]; rw [if_pos (by omega)]
    refine bd_freeze 3 rfl ?_
    have nd : ¬ (!decide ((([Dt.str (labAt i)] : List Dt).length : Int) = 1)) = true := by
      show ¬ (!decide ((1 : Int) = 1)) = true
      decide
    refine (bd_cons (sd_if (td_wd (wd_or (td_neI (ek_ed (ed_len (fun _ => rfl) m_len (fun _ => rfl) (ek_ed (ed_name 3 a3 rfl ⟨_, rfl, (ek_ed (ed_int (CmpT.mk rfl rfl ⟨fun hif => (wd_or (td_val (fun _ _ => rfl) (ed_name 2 a2 rfl ⟨_, rfl, ⟨fun hif => (wd_or1 (td_not (td_val (fun _ _ => rfl) (ed_isB E kind (fun _ => rfl) m_isinstance (fun _ => rfl) m_ValueError rfl (by decide) (by decide) (fun _ => rfl) (fun _ => rfl) (fun _ => rfl) (ek_ed (ed_name 0 a0 rfl ⟨rfl, _, y.val, ⟨_, rfl, ⟨fun hif => (absurd hif nd), fun hif => ?_⟩⟩⟩)))))), fun hif => ⟨fun hit => (absurd hif nd), fun hit => (nomatch hit)⟩⟩⟩))), fun hif => ⟨fun hit => (absurd hif nd), fun hit => (nomatch hit)⟩⟩)))⟩)))))))))
    have ne5 : ¬ (id (PyData.eqv (.list [.str (labAt i)]) (.list [.str "large"])) = true) := by
      rcases (by omega : i = 0 ∨ i = 1 ∨ i = 2 ∨ i = 3 ∨ i = 4) with rfl | rfl | rfl | rfl | rfl <;> decide +kernel
    refine (bd_nil (bd_cons (sd_ret (ed_ifExp (td_eq hu (ek_ed (ed_name 3 a3 rfl (ek_ed (ed_lst (ea_cons (fun _ => rfl) (ek_ed (ed_str (ea_nil ⟨_, rfl, le1 rfl, (EqT.mk rfl rfl rfl rfl ?_ ⟨fun hif => (absurd hif ne5), fun hif => (ed_ixD (fun _ _ => rfl) (ek_ed (ed_name 3 a3 rfl (ek_ed (ed_int (IxD.mk rfl rfl (show atI [Dt.str (labAt i)] 0 = some (Dt.str (labAt i)) from rfl) ?_))))))⟩)⟩)))))))))))))
    · have sh : ∀ j, j < 6 → SeqAt.shaped (.list [.str (labAt j)]) = true := fun j hj => by
        rcases (by omega : j = 0 ∨ j = 1 ∨ j = 2 ∨ j = 3 ∨ j = 4 ∨ j = 5) with rfl | rfl | rfl | rfl | rfl | rfl <;> decide +kernel
      exact ⟨sh i (by omega), sh 5 (by omega)⟩
    · exact hq
end
end K24

namespace K24
open N24 PySem PySem.Spec PyProof.Rows L2 DL
abbrev s__law_cell : Stmt := topS 42
theorem sc__law_cell : FnScope ["script", "k"] ["script", "k"] (defScope s__law_cell) := ⟨rfl, rfl, rfl, by decide +kernel, rfl, by decide +kernel, by decide +kernel⟩
abbrev s__law_source : Stmt := topS 43
theorem sc__law_source : FnScope ["cell"] ["cell"] (defScope s__law_source) := ⟨rfl, rfl, rfl, by decide +kernel, rfl, by decide +kernel, by decide +kernel⟩
abbrev s__law_draw : Stmt := topS 44
theorem sc__law_draw : FnScope ["source", "many", "found", "mixed"] ["source", "many"] (defScope s__law_draw) := ⟨rfl, rfl, rfl, by decide +kernel, rfl, by decide +kernel, by decide +kernel⟩

def dsCell : DSp := fun as post => ∃ (ns : List Int) (k : Nat), as = [.dt (.scr ns), .dt (.int (k : Nat))] ∧ ∀ x : Int, post (.dt (.int x)) [.un, .un]
def dsSource : DSp := fun as post => ∃ x : Int, as = [.dt (.int x)] ∧ ∀ ds', Pail 0 ds' → post (.ow ds') [.un]
theorem scr_at {ns : List Int} {j : Nat} (h : decide (((j : Nat) : Int) < (((ns.map Dt.int).length : Nat) : Int)) = true) : atI (ns.map Dt.int) (.ofNat j) = some (.int (ns.getD j 0)) := by
  have h : ((j : Nat) : Int) < (((ns.map Dt.int).length : Nat) : Int) := of_decide_eq_true h
  have hl : j < ns.length := by
    rw [List.length_map] at h
    omega
  refine DL.atI_get ?_
  rw [List.getElem?_map, List.getElem?_eq_getElem hl, List.getD, List.getElem?_eq_getElem hl]
  rfl
theorem pail_ok {x : Int} : Pail 0 [.int (if (if x < 0 then -x else x) - 10 ^ (18 : Int).toNat > 0 then (if x < 0 then -x else x) - 10 ^ (18 : Int).toNat else 0), .int (x.fmod (10 ^ (39 : Int).toNat + 3)), .int 0] := by
  have hm := DL.fmod_in x (m := 10 ^ (39 : Int).toNat + 3) (by decide)
  have e : (10 : Int) ^ (39 : Int).toNat + 3 = 1000000000000000000000000000000000000003 := by decide
  rw [e] at hm ⊢
  refine ⟨_, _, _, rfl, ?_, ?_, by decide, by decide⟩
  · split <;> omega
  · have : (2 : Nat) ^ 200 = 1606938044258990275541962092341162602522202993782792835301376 := by decide
    omega
section
variable {P : Program} {w : World} {K : PySem.W.Frag} [Tb K] {mg : Str → Option Value} {base : Heap}
theorem ok__law_cell (m_len : mg "len" = none) {f : Addr} {fd : FuncData} (F : Fun K "_law_cell" "_law_cell" s__law_cell f fd) : FnG P w K mg base 1 f fd ["script", "k"] (spD K dsCell) := by
  refine FnG.of F sc__law_cell (fun as post h => by obtain ⟨_, _, h⟩ := h; rw [h.1]; rfl) fun cdv A outer s H vs fo as post hr hgu hD => ?_
  obtain ⟨ns, k, rfl, hq⟩ := hD
  have a0 : At (coreOf P w K mg base (A.deeper (envOfC "_law_cell" (defScope s__law_cell) s.heap.objs.size f cdv)) ["script", "k"] ((envOfC "_law_cell" (defScope s__law_cell) s.heap.objs.size f cdv) :: outer)) (varOf s H (envOfC "_law_cell" (defScope s__law_cell) s.heap.objs.size f cdv) outer) "script" 0 := ⟨rfl, fun _ => by first | exact .inl rfl | exact .inr (.inl rfl), by decide, by decide⟩
  have s0 : AtS (coreOf P w K mg base (A.deeper (envOfC "_law_cell" (defScope s__law_cell) s.heap.objs.size f cdv)) ["script", "k"] ((envOfC "_law_cell" (defScope s__law_cell) s.heap.objs.size f cdv) :: outer)) (varOf s H (envOfC "_law_cell" (defScope s__law_cell) s.heap.objs.size f cdv) outer) "script" 0 := ⟨sc__law_cell.nd, rfl, fun _ => by first | exact .inl rfl | exact .inr rfl, fun _ => .inl rfl⟩
  have a1 : At (coreOf P w K mg base (A.deeper (envOfC "_law_cell" (defScope s__law_cell) s.heap.objs.size f cdv)) ["script", "k"] ((envOfC "_law_cell" (defScope s__law_cell) s.heap.objs.size f cdv) :: outer)) (varOf s H (envOfC "_law_cell" (defScope s__law_cell) s.heap.objs.size f cdv) outer) "k" 1 := ⟨rfl, fun _ => by first | exact .inl rfl | exact .inr (.inl rfl), by decide, by decide⟩
  have s1 : AtS (coreOf P w K mg base (A.deeper (envOfC "_law_cell" (defScope s__law_cell) s.heap.objs.size f cdv)) ["script", "k"] ((envOfC "_law_cell" (defScope s__law_cell) s.heap.objs.size f cdv) :: outer)) (varOf s H (envOfC "_law_cell" (defScope s__law_cell) s.heap.objs.size f cdv) outer) "k" 1 := ⟨sc__law_cell.nd, rfl, fun _ => by first | exact .inl rfl | exact .inr rfl, fun _ => .inl rfl⟩
  show BD _ _ _ _ _ [AV.dt (.scr ns), .dt (.int (k : Nat))]
  refine (bd_cons (sd_ret (ed_ifExp (td_lt (ek_ed (ed_name 1 a1 rfl (ek_ed (ed_len (fun _ => rfl) m_len (fun _ => rfl) (ek_ed (ed_name 0 a0 rfl ⟨_, rfl, (CmpT.mk rfl rfl ⟨fun hif => (ed_ixD (fun _ _ => rfl) (ek_ed (ed_name 0 a0 rfl (ek_ed (ed_name 1 a1 rfl (IxD.mk rfl rfl (scr_at hif) ?_)))))), fun hif => (ed_int ?_)⟩)⟩))))))))))
  all_goals exact hq _
theorem ok__law_source (m_abs : mg "abs" = none) (m_max : mg "max" = none) {f : Addr} {fd : FuncData} (F : Fun K "_law_source" "_law_source" s__law_source f fd) : FnG P w K mg base 1 f fd ["cell"] (spD K dsSource) := by
  refine FnG.of F sc__law_source (fun as post h => by obtain ⟨_, h⟩ := h; rw [h.1]; rfl) fun cdv A outer s H vs fo as post hr hgu hD => ?_
  obtain ⟨x, rfl, hq⟩ := hD
  have a0 : At (coreOf P w K mg base (A.deeper (envOfC "_law_source" (defScope s__law_source) s.heap.objs.size f cdv)) ["cell"] ((envOfC "_law_source" (defScope s__law_source) s.heap.objs.size f cdv) :: outer)) (varOf s H (envOfC "_law_source" (defScope s__law_source) s.heap.objs.size f cdv) outer) "cell" 0 := ⟨rfl, fun _ => by first | exact .inl rfl | exact .inr (.inl rfl), by decide, by decide⟩
  have s0 : AtS (coreOf P w K mg base (A.deeper (envOfC "_law_source" (defScope s__law_source) s.heap.objs.size f cdv)) ["cell"] ((envOfC "_law_source" (defScope s__law_source) s.heap.objs.size f cdv) :: outer)) (varOf s H (envOfC "_law_source" (defScope s__law_source) s.heap.objs.size f cdv) outer) "cell" 0 := ⟨sc__law_source.nd, rfl, fun _ => by first | exact .inl rfl | exact .inr rfl, fun _ => .inl rfl⟩
  show BD _ _ _ _ _ [AV.dt (.int x)]
  refine (bd_cons (sd_ret (ed_lst (ea_cons (fun _ => rfl) (ek_ed (ed_max2 (fun _ => rfl) m_max (fun _ => rfl) (fun _ => rfl) (fun _ => rfl) (ek_ed (ed_int (ek_ed (ed_sub (ek_ed (ed_abs (fun _ => rfl) m_abs (fun _ => rfl) (ek_ed (ed_name 0 a0 rfl ⟨_, rfl, (ek_ed (ed_pow (ek_ed (ed_int (ek_ed (ed_int (IntR.mk rfl rfl ?_ (IntR.mk rfl rfl trivial ⟨_, _, rfl, rfl, (ea_cons (fun _ => rfl) (ek_ed (ed_mod (ek_ed (ed_name 0 a0 rfl (ek_ed (ed_add (ek_ed (ed_pow (ek_ed (ed_int (ek_ed (ed_int (IntR.mk rfl rfl ?_ (ek_ed (ed_int (AddR.int rfl rfl (IntR.mk rfl rfl ?_ (ea_cons (fun _ => rfl) (ek_ed (ed_int (ea_nil ⟨_, rfl, le1 rfl, ?_⟩))))))))))))))))))))))⟩))))))))⟩))))))))))))))
  all_goals first
    | exact powW_ok (n := 10) (by decide) (by decide) (by decide)
    | decide
    | exact hq _ pail_ok
theorem ok__law_draw {f : Addr} {fd : FuncData} (F : Fun K "_law_draw" "_law_draw" s__law_draw f fd) : FnG P w K mg base 1 f fd ["source", "many"] (spD K dsDip) := by
  refine FnG.of F sc__law_draw (fun as post h => by obtain ⟨_, _, _, h⟩ := h; rw [h.1]; rfl) fun cdv A outer s H vs fo as post hr hgu hD => ?_
  obtain ⟨n, m, ds, rfl, ⟨a, b, c, rfl, ha, hb, hc, hcn⟩, hn, hm, hm2, q⟩ := hD
  have a0 : At (coreOf P w K mg base (A.deeper (envOfC "_law_draw" (defScope s__law_draw) s.heap.objs.size f cdv)) ["source", "many", "found", "mixed"] ((envOfC "_law_draw" (defScope s__law_draw) s.heap.objs.size f cdv) :: outer)) (varOf s H (envOfC "_law_draw" (defScope s__law_draw) s.heap.objs.size f cdv) outer) "source" 0 := ⟨rfl, fun _ => by first | exact .inl rfl | exact .inr (.inl rfl), by decide, by decide⟩
  have s0 : AtS (coreOf P w K mg base (A.deeper (envOfC "_law_draw" (defScope s__law_draw) s.heap.objs.size f cdv)) ["source", "many", "found", "mixed"] ((envOfC "_law_draw" (defScope s__law_draw) s.heap.objs.size f cdv) :: outer)) (varOf s H (envOfC "_law_draw" (defScope s__law_draw) s.heap.objs.size f cdv) outer) "source" 0 := ⟨sc__law_draw.nd, rfl, fun _ => by first | exact .inl rfl | exact .inr rfl, fun _ => .inl rfl⟩
  have a1 : At (coreOf P w K mg base (A.deeper (envOfC "_law_draw" (defScope s__law_draw) s.heap.objs.size f cdv)) ["source", "many", "found", "mixed"] ((envOfC "_law_draw" (defScope s__law_draw) s.heap.objs.size f cdv) :: outer)) (varOf s H (envOfC "_law_draw" (defScope s__law_draw) s.heap.objs.size f cdv) outer) "many" 1 := ⟨rfl, fun _ => by first | exact .inl rfl | exact .inr (.inl rfl), by decide, by decide⟩
  have s1 : AtS (coreOf P w K mg base (A.deeper (envOfC "_law_draw" (defScope s__law_draw) s.heap.objs.size f cdv)) ["source", "many", "found", "mixed"] ((envOfC "_law_draw" (defScope s__law_draw) s.heap.objs.size f cdv) :: outer)) (varOf s H (envOfC "_law_draw" (defScope s__law_draw) s.heap.objs.size f cdv) outer) "many" 1 := ⟨sc__law_draw.nd, rfl, fun _ => by first | exact .inl rfl | exact .inr rfl, fun _ => .inl rfl⟩
  have a2 : At (coreOf P w K mg base (A.deeper (envOfC "_law_draw" (defScope s__law_draw) s.heap.objs.size f cdv)) ["source", "many", "found", "mixed"] ((envOfC "_law_draw" (defScope s__law_draw) s.heap.objs.size f cdv) :: outer)) (varOf s H (envOfC "_law_draw" (defScope s__law_draw) s.heap.objs.size f cdv) outer) "found" 2 := ⟨rfl, fun _ => by first | exact .inl rfl | exact .inr (.inl rfl), by decide, by decide⟩
  have s2 : AtS (coreOf P w K mg base (A.deeper (envOfC "_law_draw" (defScope s__law_draw) s.heap.objs.size f cdv)) ["source", "many", "found", "mixed"] ((envOfC "_law_draw" (defScope s__law_draw) s.heap.objs.size f cdv) :: outer)) (varOf s H (envOfC "_law_draw" (defScope s__law_draw) s.heap.objs.size f cdv) outer) "found" 2 := ⟨sc__law_draw.nd, rfl, fun _ => by first | exact .inl rfl | exact .inr rfl, fun _ => .inl rfl⟩
  have a3 : At (coreOf P w K mg base (A.deeper (envOfC "_law_draw" (defScope s__law_draw) s.heap.objs.size f cdv)) ["source", "many", "found", "mixed"] ((envOfC "_law_draw" (defScope s__law_draw) s.heap.objs.size f cdv) :: outer)) (varOf s H (envOfC "_law_draw" (defScope s__law_draw) s.heap.objs.size f cdv) outer) "mixed" 3 := ⟨rfl, fun _ => by first | exact .inl rfl | exact .inr (.inl rfl), by decide, by decide⟩
  have s3 : AtS (coreOf P w K mg base (A.deeper (envOfC "_law_draw" (defScope s__law_draw) s.heap.objs.size f cdv)) ["source", "many", "found", "mixed"] ((envOfC "_law_draw" (defScope s__law_draw) s.heap.objs.size f cdv) :: outer)) (varOf s H (envOfC "_law_draw" (defScope s__law_draw) s.heap.objs.size f cdv) outer) "mixed" 3 := ⟨sc__law_draw.nd, rfl, fun _ => by first | exact .inl rfl | exact .inr rfl, fun _ => .inl rfl⟩
  show BD _ _ _ _ _ [AV.ow [.int a, .int b, .int c], .dt (.int m), .un, .un]
  refine (bd_cons (sd_if (td_gt (ek_ed (ed_ixD (fun _ _ => rfl) (ek_loan 0 a0 rfl (ek_ed (ed_int (IxD.mk rfl rfl rfl (ek_ed (ed_int (CmpT.mk rfl rfl ⟨fun hif => (bd_cons (sd_set 2 s2 (fun _ => rfl) (lt1 rfl) (nl rfl) (ed_mod (ek_ed (ed_ixD (fun _ _ => rfl) (ek_loan 0 a0 rfl (ek_ed (ed_int (IxD.mk rfl rfl rfl (ek_ed (ed_name 1 a1 rfl (IntR.mk rfl rfl ?_ (bd_cons (sd_setItem 0 a0 (fun _ => rfl) (fun _ => rfl) (fun _ => rfl) (fun _ _ => rfl) (ek_ed (ed_div (ek_ed (ed_ixD (fun _ _ => rfl) (ek_loan 0 a0 rfl (ek_ed (ed_int (IxD.mk rfl rfl rfl (ek_ed (ed_name 1 a1 rfl (IntR.mk rfl rfl ?_ ⟨⟨_, rfl⟩, (ek_ed (ed_int ⟨_, _, _, _, rfl, rfl, rfl, rfl, (bd_cons (sd_ret (ed_name 2 a2 rfl ?_)))⟩))⟩))))))))))))))))))))))))), fun hif => (bd_nil (bd_cons (sd_setItem 0 a0 (fun _ => rfl) (fun _ => rfl) (fun _ => rfl) (fun _ _ => rfl) (ek_ed (ed_add (ek_ed (ed_ixD (fun _ _ => rfl) (ek_loan 0 a0 rfl (ek_ed (ed_int (IxD.mk rfl rfl rfl (ek_ed (ed_int (AddR.int rfl rfl ⟨⟨_, rfl⟩, (ek_ed (ed_int ⟨_, _, _, _, rfl, rfl, rfl, rfl, (bd_cons (sd_set 3 s3 (fun _ => rfl) (lt1 rfl) (nl rfl) (ed_mod (ek_ed (ed_pow (ek_ed (ed_add (ek_ed (ed_ixD (fun _ _ => rfl) (ek_loan 0 a0 rfl (ek_ed (ed_int (IxD.mk rfl rfl rfl (ek_ed (ed_mul (ek_ed (ed_int (ek_ed (ed_ixD (fun _ _ => rfl) (ek_loan 0 a0 rfl (ek_ed (ed_int (IxD.mk rfl rfl rfl (MulR.int rfl rfl ?_ (AddR.int rfl rfl (ek_ed (ed_int (IntR.mk rfl rfl ?_ (ek_ed (ed_add (ek_ed (ed_pow (ek_ed (ed_int (ek_ed (ed_int (IntR.mk rfl rfl ?_ (ek_ed (ed_int (AddR.int rfl rfl (IntR.mk rfl rfl ?_ (bd_cons (sd_set 3 s3 (fun _ => rfl) (lt1 rfl) (nl rfl) (ed_mod (ek_ed (ed_pow (ek_ed (ed_add (ek_ed (ed_name 3 a3 rfl (ek_ed (ed_mul (ek_ed (ed_int (ek_ed (ed_ixD (fun _ _ => rfl) (ek_loan 0 a0 rfl (ek_ed (ed_int (IxD.mk rfl rfl rfl (MulR.int rfl rfl ?_ (AddR.int rfl rfl (ek_ed (ed_int (IntR.mk rfl rfl ?_ (ek_ed (ed_add (ek_ed (ed_pow (ek_ed (ed_int (ek_ed (ed_int (IntR.mk rfl rfl ?_ (ek_ed (ed_int (AddR.int rfl rfl (IntR.mk rfl rfl ?_ (bd_cons (sd_ret (ed_mod (ek_ed (ed_div (ek_ed (ed_name 3 a3 rfl (ek_ed (ed_int (IntR.mk rfl rfl ?_ (ek_ed (ed_name 1 a1 rfl (IntR.mk rfl rfl ?_ ?_)))))))))))))))))))))))))))))))))))))))))))))))))))))))))))))))))))))))))))))))))))))))))))⟩))⟩))))))))))))))⟩))))))))))))
  · omega
  · exact wide_div (b := 200) hm (by omega) (by decide) (by decide)
  · have hb' : 0 < a := of_decide_eq_true ‹decide (0 < a) = true›
    have hf := DL.fmod_in a hm
    obtain ⟨r, hr⟩ : ∃ r : Nat, a.fmod m = (r : Nat) := ⟨(a.fmod m).toNat, by omega⟩
    rw [hr]
    exact q r [.int (a / m), .int b, .int c] (by omega) ⟨_, _, _, rfl, Int.ediv_nonneg ha (by omega), hb, hc, by omega⟩
  · exact wide_mul (a := 40) (b := 40) (by decide) (by omega) (by decide) (by decide) (by decide)
  · exact powW_ok (n := 210) (by omega) (by decide) (by decide)
  · exact powW_ok (n := 10) (by decide) (by decide) (by decide)
  · decide
  · exact wide_mul (a := 40) (b := 40) (by decide) (by omega) (by decide) (by decide) (by decide)
  · have := DL.fmod_in ((b + 15487469 * (c + 1)) ^ Int.toNat 3) (m := 10 ^ Int.toNat 41 + 37) (by decide)
    have e : (10 : Int) ^ Int.toNat 41 + 37 = 100000000000000000000000000000000000000037 := by decide
    rw [e] at this ⊢
    exact powW_ok (n := 210) (by omega) (by decide) (by decide)
  · exact powW_ok (n := 10) (by decide) (by decide) (by decide)
  · decide
  · exact wide_div (b := 40) (by decide) (by decide) (by decide) (by decide)
  · omega
  · generalize hx : (((b + 15487469 * (c + 1)) ^ Int.toNat 3).fmod (10 ^ Int.toNat 41 + 37) + 32452867 * (c + 1)) ^ Int.toNat 3 = x
    generalize hy : x.fmod (10 ^ Int.toNat 40 + 121) / 2750159 = y
    have hf := DL.fmod_in y hm
    obtain ⟨r, hr⟩ : ∃ r : Nat, y.fmod m = (r : Nat) := ⟨(y.fmod m).toNat, by omega⟩
    rw [hr]
    exact q r [.int a, .int b, .int (c + 1)] (by omega) ⟨_, _, _, rfl, ha, hb, by omega, by omega⟩
end
end K24

/-! x, y, z = a, b, c, the first two plain data -/
namespace DL
open PySem PySem.Spec
open PyProof.Rows L2
theorem own_dt {Γ : List AV} {σ : Sg} {i : Nat} {d : Dt} {x : V} {b : Addr} (h : Own (Γ.set i (.dt d)) (σ.set i (some x)) b) : Own Γ σ b := by
  obtain ⟨k, fs, z1, z2⟩ := h
  rcases getSet z1 with ⟨rfl, z, hlt⟩ | ⟨n, z1⟩
  · cases z
  · rw [List.getElem?_set_ne n] at z2
    exact ⟨k, fs, z1, z2⟩
theorem exc_dt {S : Ent} {ex : AP} {Γ : List AV} {σ : Sg} {i : Nat} {d : Dt} {x : V} : ∀ b, Exc S (Γ.set i (.dt d)) (σ.set i (some x)) ex b → Exc S Γ σ ex b := fun b z => z.elim (fun z => .inl (own_dt z)) .inr
section
variable {c : Core} [Tb c.K] {ι : Type} {v : ι → Var} {S : Ent} {Γ : List AV} {D : DE} {a b e : Expr} {pos : Pos} {x y z : Str}
theorem sd_par3 (i j l : Nat) {px py pz pt : Pos} {kt k2 : Nat} {pt2 : Pos} (hx : AtS c v x i) (hy : AtS c v y j) (hz : AtS c v z l) (hij : i ≠ j) (hil : i ≠ l) (hjl : j ≠ l)
    (lx : ∀ k, (v k).env.scope.names.lookup x = some .local) (ly : ∀ k, (v k).env.scope.names.lookup y = some .local) (lz : ∀ k, (v k).env.scope.names.lookup z = some .local)
    (hs1 : NoStar v a [b, e]) (hs2 : NoStar v b [e]) (hs3 : NoStar v e []) (hw : ∀ k, swappedStores [.Tuple [.Name x px, .Name y py, .Name z pz] kt pt] (.Tuple [a, b, e] k2 pt2) (v k).env = pure (some [x, y, z]))
    (hss : ∀ k, swapsWithSole [.Tuple [.Name x px, .Name y py, .Name z pz] kt pt] (.Tuple [a, b, e] k2 pt2) pos.line (v k).env = pure false) (hi : i < S.n) (hj : j < S.n) (hl : l < S.n) (hli : ∀ p, (i, p) ∉ S.lent) (hlj : ∀ p, (j, p) ∉ S.lent) (hll : ∀ p, (l, p) ∉ S.lent)
    (q : ED c v S a Γ fun u Γ1 => ∃ d1, u = .dt d1 ∧ ED c v S b Γ1 fun u2 Γ2 => ∃ d2, u2 = .dt d2 ∧ ED c v S e Γ2 fun w Γ3 => D.nx (((Γ3.set i (.dt d1)).set j (.dt d2)).set l w)) (still : c.calm = true := by rfl) :
    SD c v S (.Assign [.Tuple [.Name x px, .Name y py, .Name z pz] kt pt] (.Tuple [a, b, e] k2 pt2) pos) D Γ := fun E σ H L r => by
  refine ⟨_, fun k => ps_par3 still hx.nd hx.ix hy.ix hz.ix hij hil hjl (lx k) (ly k) (lz k) (pa_cons (wE.pe k) (pa_cons (wE.pe k) (pa_cons (wE.pe k) pa_nil (hs3 k)) (hs2 k)) (hs1 k)) (hw k) (hss k), ?_⟩
  refine q σ H _ r fun x1 H1 u Γ1 ⟨d1, eu, q1⟩ hr1 s1 _ => ?_
  subst eu
  obtain ⟨r1, p1⟩ := hr1
  refine q1 σ H1 _ r1 fun x2 H2 u2 Γ2 ⟨d2, eu2, q2⟩ hr2 s2 _ => ?_
  subst eu2
  obtain ⟨r2, p2⟩ := hr2
  refine q2 σ H2 _ r2 fun x3 H3 w Γ3 q3 hr3 s3 n3 => ?_
  refine ⟨x1, x2, x3, rfl, L.nx _ _ _ q3 (RS.store ?_ hl hll)⟩
  have p12 := p1.mono s2.keeps
  have g1 := p12.mono s3.keeps
  have g2 := p2.mono s3.keeps
  have plain : ∀ (r3 : RS c.K S no Γ3 σ H3), RS c.K S no ((Γ3.set i (.dt d1)).set j (.dt d2)) ((σ.set i (some x1)).set j (some x2)) H3 := fun r3 =>
    RS.storeX (a := .dt d2) ⟨RS.storeX (a := .dt d1) ⟨r3, g1⟩ hi hli, g2.sub exc_dt⟩ hj hlj
  cases w with
  | un => exact plain hr3
  | dt d => exact ⟨plain hr3.1, hr3.2.sub fun b z => exc_dt b (exc_dt b z)⟩
  | own ct =>
    obtain ⟨p, o, rfl, r3, e3, ct3, nf, nS⟩ := hr3
    obtain ⟨p', ep, new⟩ := n3
    cases ep
    have away : ∀ {d : Dt} {x : V}, Rp c.K H2 (Exc S Γ2 σ no) x d → Rp c.K H3 (Exc S Γ3 σ (· = p)) x d := fun h => h.mono fun b o e t n => by
      have k := s3.keeps b o e t n
      refine ⟨k.1, fun z => z.elim (fun z => k.2 (.inl z)) fun z => z.elim (fun z => k.2 (.inr (.inl z))) fun z => ?_⟩
      subst z
      exact new.elim (fun f => f o e t) fun f => n (.inl f)
    have a1 := RS.storeX (a := .dt d1) (ex := (· = p)) ⟨r3, away p12⟩ hi hli
    have a2 := RS.storeX (a := .dt d2) (ex := (· = p)) ⟨a1, (away p2).sub exc_dt⟩ hj hlj
    exact ⟨p, o, rfl, a2, e3, ct3.sub fun b z => exc_dt b (exc_dt b z), nf, nS⟩
end
end DL

namespace K24
open N24 PySem PySem.Spec PyProof.Rows L2 DL
abbrev s__law_history : Stmt := topS 45
theorem sc__law_history : FnScope ["source", "most", "many", "way", "bound", "rows_here", "one", "two", "day", "later", "third", "shared_day"] ["source", "most"] (defScope s__law_history) := ⟨rfl, rfl, rfl, by decide +kernel, rfl, by decide +kernel, by decide +kernel⟩
theorem pick (xs : List Int) {r : Nat} (h : (r : Int) < (xs.length : Nat)) : atI (xs.map Dt.int) (r : Int) = some (.int (xs.getD r 0)) := by
  refine DL.atI_get ?_
  rw [List.getElem?_map, List.getElem?_eq_getElem (by omega), List.getD_eq_getElem?_getD, List.getElem?_eq_getElem (by omega)]; rfl
theorem pick_mem {xs : List Int} {r : Nat} (h : (r : Int) < (xs.length : Nat)) : xs.getD r 0 ∈ xs := by
  rw [List.getD_eq_getElem?_getD, List.getElem?_eq_getElem (by omega)]
  exact List.getElem_mem _
def rows (t : Nat → Nat → Nat) (n : Nat) : List Dt := (List.range n).map fun x => .tup ((List.range x).map fun y => .int (t x y : Nat))
def far (t : Nat → Nat → Nat) (a dy x : Nat) : Nat := min dy (if x = a then dy else t (max a x) (min a x))
def grow (t : Nat → Nat → Nat) (m : Nat) (f : Nat → Nat) : Nat → Nat → Nat := fun x y => if x = m then f y else t x y
theorem rows_grow {t : Nat → Nat → Nat} {m : Nat} {f : Nat → Nat} : rows t m ++ [.tup ((List.range m).map fun y => .int (f y : Nat))] = rows (grow t m f) (m + 1) := by
  unfold rows
  rw [List.range_succ, List.map_append]
  congr 1
  · refine List.map_congr_left fun x hx => ?_
    have := List.mem_range.mp hx
    congr 1
    refine List.map_congr_left fun y _ => ?_
    unfold grow
    rw [if_neg (by omega)]
  · show [_] = [_]
    congr 2
    refine List.map_congr_left fun y _ => ?_
    unfold grow
    rw [if_pos rfl]
theorem rows_max {t : Nat → Nat → Nat} {m a x : Nat} (ha : a < m) (hx : x < m) : atI (rows t m) (if (x : Int) > (a : Int) then (x : Int) else (a : Int)) = some (.tup ((List.range (max a x)).map fun y => .int (t (max a x) y : Nat))) := by
  rw [max_int]
  exact tab_at (by omega)
theorem row_min {f : Nat → Nat} {a x : Nat} (h : x ≠ a) : atI ((List.range (max a x)).map fun y => Dt.int (f y : Nat)) (if (x : Int) < (a : Int) then (x : Int) else (a : Int)) = some (.int (f (min a x) : Nat)) := by
  rw [min_int]
  refine DL.atI_get ?_
  rw [List.getElem?_map, List.getElem?_range (by omega)]; rfl
def dsHistory : DSp := fun as post => ∃ (n : Int) (mo : Nat) (ds : List Dt), as = [.ow ds, .dt (.int (mo : Nat))] ∧ Pail n ds ∧ 0 ≤ n ∧ n ≤ 1000000 ∧ 1 ≤ mo ∧ mo ≤ 20 ∧
  ∀ (t : Nat → Nat → Nat) (N : Nat) ds', 1 ≤ N → N ≤ mo → (∀ x y, t x y < 10 ^ 39) → Pail (n + 100) ds' → post (.dt (tabD t N)) [.ow ds', .un]
section
variable {P : Program} {w : World} {K : PySem.W.Frag} [Tb K] {mg : Str → Option Value} {base : Heap}
theorem ok__law_history {f__law_draw : Addr} {d__law_draw : FuncData} (G__law_draw : FnG P w K mg base 1 f__law_draw d__law_draw ["source", "many"] (spD K dsDip)) (g__law_draw : mg "_law_draw" = some (.ref f__law_draw)) (k__law_draw : PySem.W.keepIn K (.ref f__law_draw) = true) (b__law_draw : Binds K d__law_draw ["source", "many"] []) (m_range : mg "range" = none) (m_max : mg "max" = none) (m_min : mg "min" = none) (m_tuple : mg "tuple" = none) {f : Addr} {fd : FuncData} (F : Fun K "_law_history" "_law_history" s__law_history f fd) : FnG P w K mg base 2 f fd ["source", "most"] (spD K dsHistory) := by
  refine FnG.of F sc__law_history (fun as post h => by obtain ⟨_, _, _, h⟩ := h; rw [h.1]; rfl) fun cdv A outer s H vs fo as post hr hgu hD => ?_
  obtain ⟨n, mo, ds, rfl, hp, hn0, hn, hm1, hm2, hq⟩ := hD
  have a0 : At (coreOf P w K mg base (A.deeper (envOfC "_law_history" (defScope s__law_history) s.heap.objs.size f cdv)) ["source", "most", "many", "way", "bound", "rows_here", "one", "two", "day", "later", "third", "shared_day"] ((envOfC "_law_history" (defScope s__law_history) s.heap.objs.size f cdv) :: outer)) (varOf s H (envOfC "_law_history" (defScope s__law_history) s.heap.objs.size f cdv) outer) "source" 0 := ⟨rfl, fun _ => by first | exact .inl rfl | exact .inr (.inl rfl), by decide, by decide⟩
  have s0 : AtS (coreOf P w K mg base (A.deeper (envOfC "_law_history" (defScope s__law_history) s.heap.objs.size f cdv)) ["source", "most", "many", "way", "bound", "rows_here", "one", "two", "day", "later", "third", "shared_day"] ((envOfC "_law_history" (defScope s__law_history) s.heap.objs.size f cdv) :: outer)) (varOf s H (envOfC "_law_history" (defScope s__law_history) s.heap.objs.size f cdv) outer) "source" 0 := ⟨sc__law_history.nd, rfl, fun _ => by first | exact .inl rfl | exact .inr rfl, fun _ => .inl rfl⟩
  have a1 : At (coreOf P w K mg base (A.deeper (envOfC "_law_history" (defScope s__law_history) s.heap.objs.size f cdv)) ["source", "most", "many", "way", "bound", "rows_here", "one", "two", "day", "later", "third", "shared_day"] ((envOfC "_law_history" (defScope s__law_history) s.heap.objs.size f cdv) :: outer)) (varOf s H (envOfC "_law_history" (defScope s__law_history) s.heap.objs.size f cdv) outer) "most" 1 := ⟨rfl, fun _ => by first | exact .inl rfl | exact .inr (.inl rfl), by decide, by decide⟩
  have s1 : AtS (coreOf P w K mg base (A.deeper (envOfC "_law_history" (defScope s__law_history) s.heap.objs.size f cdv)) ["source", "most", "many", "way", "bound", "rows_here", "one", "two", "day", "later", "third", "shared_day"] ((envOfC "_law_history" (defScope s__law_history) s.heap.objs.size f cdv) :: outer)) (varOf s H (envOfC "_law_history" (defScope s__law_history) s.heap.objs.size f cdv) outer) "most" 1 := ⟨sc__law_history.nd, rfl, fun _ => by first | exact .inl rfl | exact .inr rfl, fun _ => .inl rfl⟩
  have a2 : At (coreOf P w K mg base (A.deeper (envOfC "_law_history" (defScope s__law_history) s.heap.objs.size f cdv)) ["source", "most", "many", "way", "bound", "rows_here", "one", "two", "day", "later", "third", "shared_day"] ((envOfC "_law_history" (defScope s__law_history) s.heap.objs.size f cdv) :: outer)) (varOf s H (envOfC "_law_history" (defScope s__law_history) s.heap.objs.size f cdv) outer) "many" 2 := ⟨rfl, fun _ => by first | exact .inl rfl | exact .inr (.inl rfl), by decide, by decide⟩
  have s2 : AtS (coreOf P w K mg base (A.deeper (envOfC "_law_history" (defScope s__law_history) s.heap.objs.size f cdv)) ["source", "most", "many", "way", "bound", "rows_here", "one", "two", "day", "later", "third", "shared_day"] ((envOfC "_law_history" (defScope s__law_history) s.heap.objs.size f cdv) :: outer)) (varOf s H (envOfC "_law_history" (defScope s__law_history) s.heap.objs.size f cdv) outer) "many" 2 := ⟨sc__law_history.nd, rfl, fun _ => by first | exact .inl rfl | exact .inr rfl, fun _ => .inl rfl⟩
  have a3 : At (coreOf P w K mg base (A.deeper (envOfC "_law_history" (defScope s__law_history) s.heap.objs.size f cdv)) ["source", "most", "many", "way", "bound", "rows_here", "one", "two", "day", "later", "third", "shared_day"] ((envOfC "_law_history" (defScope s__law_history) s.heap.objs.size f cdv) :: outer)) (varOf s H (envOfC "_law_history" (defScope s__law_history) s.heap.objs.size f cdv) outer) "way" 3 := ⟨rfl, fun _ => by first | exact .inl rfl | exact .inr (.inl rfl), by decide, by decide⟩
  have s3 : AtS (coreOf P w K mg base (A.deeper (envOfC "_law_history" (defScope s__law_history) s.heap.objs.size f cdv)) ["source", "most", "many", "way", "bound", "rows_here", "one", "two", "day", "later", "third", "shared_day"] ((envOfC "_law_history" (defScope s__law_history) s.heap.objs.size f cdv) :: outer)) (varOf s H (envOfC "_law_history" (defScope s__law_history) s.heap.objs.size f cdv) outer) "way" 3 := ⟨sc__law_history.nd, rfl, fun _ => by first | exact .inl rfl | exact .inr rfl, fun _ => .inl rfl⟩
  have a4 : At (coreOf P w K mg base (A.deeper (envOfC "_law_history" (defScope s__law_history) s.heap.objs.size f cdv)) ["source", "most", "many", "way", "bound", "rows_here", "one", "two", "day", "later", "third", "shared_day"] ((envOfC "_law_history" (defScope s__law_history) s.heap.objs.size f cdv) :: outer)) (varOf s H (envOfC "_law_history" (defScope s__law_history) s.heap.objs.size f cdv) outer) "bound" 4 := ⟨rfl, fun _ => by first | exact .inl rfl | exact .inr (.inl rfl), by decide, by decide⟩
  have s4 : AtS (coreOf P w K mg base (A.deeper (envOfC "_law_history" (defScope s__law_history) s.heap.objs.size f cdv)) ["source", "most", "many", "way", "bound", "rows_here", "one", "two", "day", "later", "third", "shared_day"] ((envOfC "_law_history" (defScope s__law_history) s.heap.objs.size f cdv) :: outer)) (varOf s H (envOfC "_law_history" (defScope s__law_history) s.heap.objs.size f cdv) outer) "bound" 4 := ⟨sc__law_history.nd, rfl, fun _ => by first | exact .inl rfl | exact .inr rfl, fun _ => .inl rfl⟩
  have a5 : At (coreOf P w K mg base (A.deeper (envOfC "_law_history" (defScope s__law_history) s.heap.objs.size f cdv)) ["source", "most", "many", "way", "bound", "rows_here", "one", "two", "day", "later", "third", "shared_day"] ((envOfC "_law_history" (defScope s__law_history) s.heap.objs.size f cdv) :: outer)) (varOf s H (envOfC "_law_history" (defScope s__law_history) s.heap.objs.size f cdv) outer) "rows_here" 5 := ⟨rfl, fun _ => by first | exact .inl rfl | exact .inr (.inl rfl), by decide, by decide⟩
  have s5 : AtS (coreOf P w K mg base (A.deeper (envOfC "_law_history" (defScope s__law_history) s.heap.objs.size f cdv)) ["source", "most", "many", "way", "bound", "rows_here", "one", "two", "day", "later", "third", "shared_day"] ((envOfC "_law_history" (defScope s__law_history) s.heap.objs.size f cdv) :: outer)) (varOf s H (envOfC "_law_history" (defScope s__law_history) s.heap.objs.size f cdv) outer) "rows_here" 5 := ⟨sc__law_history.nd, rfl, fun _ => by first | exact .inl rfl | exact .inr rfl, fun _ => .inl rfl⟩
  have a6 : At (coreOf P w K mg base (A.deeper (envOfC "_law_history" (defScope s__law_history) s.heap.objs.size f cdv)) ["source", "most", "many", "way", "bound", "rows_here", "one", "two", "day", "later", "third", "shared_day"] ((envOfC "_law_history" (defScope s__law_history) s.heap.objs.size f cdv) :: outer)) (varOf s H (envOfC "_law_history" (defScope s__law_history) s.heap.objs.size f cdv) outer) "one" 6 := ⟨rfl, fun _ => by first | exact .inl rfl | exact .inr (.inl rfl), by decide, by decide⟩
  have s6 : AtS (coreOf P w K mg base (A.deeper (envOfC "_law_history" (defScope s__law_history) s.heap.objs.size f cdv)) ["source", "most", "many", "way", "bound", "rows_here", "one", "two", "day", "later", "third", "shared_day"] ((envOfC "_law_history" (defScope s__law_history) s.heap.objs.size f cdv) :: outer)) (varOf s H (envOfC "_law_history" (defScope s__law_history) s.heap.objs.size f cdv) outer) "one" 6 := ⟨sc__law_history.nd, rfl, fun _ => by first | exact .inl rfl | exact .inr rfl, fun _ => .inl rfl⟩
  have a7 : At (coreOf P w K mg base (A.deeper (envOfC "_law_history" (defScope s__law_history) s.heap.objs.size f cdv)) ["source", "most", "many", "way", "bound", "rows_here", "one", "two", "day", "later", "third", "shared_day"] ((envOfC "_law_history" (defScope s__law_history) s.heap.objs.size f cdv) :: outer)) (varOf s H (envOfC "_law_history" (defScope s__law_history) s.heap.objs.size f cdv) outer) "two" 7 := ⟨rfl, fun _ => by first | exact .inl rfl | exact .inr (.inl rfl), by decide, by decide⟩
  have s7 : AtS (coreOf P w K mg base (A.deeper (envOfC "_law_history" (defScope s__law_history) s.heap.objs.size f cdv)) ["source", "most", "many", "way", "bound", "rows_here", "one", "two", "day", "later", "third", "shared_day"] ((envOfC "_law_history" (defScope s__law_history) s.heap.objs.size f cdv) :: outer)) (varOf s H (envOfC "_law_history" (defScope s__law_history) s.heap.objs.size f cdv) outer) "two" 7 := ⟨sc__law_history.nd, rfl, fun _ => by first | exact .inl rfl | exact .inr rfl, fun _ => .inl rfl⟩
  have a8 : At (coreOf P w K mg base (A.deeper (envOfC "_law_history" (defScope s__law_history) s.heap.objs.size f cdv)) ["source", "most", "many", "way", "bound", "rows_here", "one", "two", "day", "later", "third", "shared_day"] ((envOfC "_law_history" (defScope s__law_history) s.heap.objs.size f cdv) :: outer)) (varOf s H (envOfC "_law_history" (defScope s__law_history) s.heap.objs.size f cdv) outer) "day" 8 := ⟨rfl, fun _ => by first | exact .inl rfl | exact .inr (.inl rfl), by decide, by decide⟩
  have s8 : AtS (coreOf P w K mg base (A.deeper (envOfC "_law_history" (defScope s__law_history) s.heap.objs.size f cdv)) ["source", "most", "many", "way", "bound", "rows_here", "one", "two", "day", "later", "third", "shared_day"] ((envOfC "_law_history" (defScope s__law_history) s.heap.objs.size f cdv) :: outer)) (varOf s H (envOfC "_law_history" (defScope s__law_history) s.heap.objs.size f cdv) outer) "day" 8 := ⟨sc__law_history.nd, rfl, fun _ => by first | exact .inl rfl | exact .inr rfl, fun _ => .inl rfl⟩
  have a9 : At (coreOf P w K mg base (A.deeper (envOfC "_law_history" (defScope s__law_history) s.heap.objs.size f cdv)) ["source", "most", "many", "way", "bound", "rows_here", "one", "two", "day", "later", "third", "shared_day"] ((envOfC "_law_history" (defScope s__law_history) s.heap.objs.size f cdv) :: outer)) (varOf s H (envOfC "_law_history" (defScope s__law_history) s.heap.objs.size f cdv) outer) "later" 9 := ⟨rfl, fun _ => by first | exact .inl rfl | exact .inr (.inl rfl), by decide, by decide⟩
  have s9 : AtS (coreOf P w K mg base (A.deeper (envOfC "_law_history" (defScope s__law_history) s.heap.objs.size f cdv)) ["source", "most", "many", "way", "bound", "rows_here", "one", "two", "day", "later", "third", "shared_day"] ((envOfC "_law_history" (defScope s__law_history) s.heap.objs.size f cdv) :: outer)) (varOf s H (envOfC "_law_history" (defScope s__law_history) s.heap.objs.size f cdv) outer) "later" 9 := ⟨sc__law_history.nd, rfl, fun _ => by first | exact .inl rfl | exact .inr rfl, fun _ => .inl rfl⟩
  have a10 : At (coreOf P w K mg base (A.deeper (envOfC "_law_history" (defScope s__law_history) s.heap.objs.size f cdv)) ["source", "most", "many", "way", "bound", "rows_here", "one", "two", "day", "later", "third", "shared_day"] ((envOfC "_law_history" (defScope s__law_history) s.heap.objs.size f cdv) :: outer)) (varOf s H (envOfC "_law_history" (defScope s__law_history) s.heap.objs.size f cdv) outer) "third" 10 := ⟨rfl, fun _ => by first | exact .inl rfl | exact .inr (.inl rfl), by decide, by decide⟩
  have s10 : AtS (coreOf P w K mg base (A.deeper (envOfC "_law_history" (defScope s__law_history) s.heap.objs.size f cdv)) ["source", "most", "many", "way", "bound", "rows_here", "one", "two", "day", "later", "third", "shared_day"] ((envOfC "_law_history" (defScope s__law_history) s.heap.objs.size f cdv) :: outer)) (varOf s H (envOfC "_law_history" (defScope s__law_history) s.heap.objs.size f cdv) outer) "third" 10 := ⟨sc__law_history.nd, rfl, fun _ => by first | exact .inl rfl | exact .inr rfl, fun _ => .inl rfl⟩
  have a11 : At (coreOf P w K mg base (A.deeper (envOfC "_law_history" (defScope s__law_history) s.heap.objs.size f cdv)) ["source", "most", "many", "way", "bound", "rows_here", "one", "two", "day", "later", "third", "shared_day"] ((envOfC "_law_history" (defScope s__law_history) s.heap.objs.size f cdv) :: outer)) (varOf s H (envOfC "_law_history" (defScope s__law_history) s.heap.objs.size f cdv) outer) "shared_day" 11 := ⟨rfl, fun _ => by first | exact .inl rfl | exact .inr (.inl rfl), by decide, by decide⟩
  have s11 : AtS (coreOf P w K mg base (A.deeper (envOfC "_law_history" (defScope s__law_history) s.heap.objs.size f cdv)) ["source", "most", "many", "way", "bound", "rows_here", "one", "two", "day", "later", "third", "shared_day"] ((envOfC "_law_history" (defScope s__law_history) s.heap.objs.size f cdv) :: outer)) (varOf s H (envOfC "_law_history" (defScope s__law_history) s.heap.objs.size f cdv) outer) "shared_day" 11 := ⟨sc__law_history.nd, rfl, fun _ => by first | exact .inl rfl | exact .inr rfl, fun _ => .inl rfl⟩
  show BD _ _ _ _ _ [.ow ds, .dt (.int (mo : Nat)), .un, .un, .un, .un, .un, .un, .un, .un, .un, .un]
  refine (bd_cons (sd_set 2 s2 (fun _ => rfl) (lt1 rfl) (nl rfl) (ed_ixD (fun _ _ => rfl) (ek_ed (ed_lst (ea_cons (fun _ => rfl) (ek_ed (ed_add (ek_ed (ed_int (ek_ed (ed_call G__law_draw (hr.mono (by decide)) hgu (fun _ => rfl) g__law_draw k__law_draw b__law_draw (by decide) (fun _ => rfl) (fun _ => rfl) (ea_cons (fun _ => rfl) (ek_loan 0 a0 rfl (ea_cons (fun _ => rfl) (ek_ed (ed_name 1 a1 rfl (ea_nil ⟨_, rfl, rfl, ⟨_, _, _, rfl, hp, (by omega), (by first | decide | omega), (by first | decide | omega), fun r1 ds hr1 hp => fun _ => (AddR.int rfl rfl (ea_cons (fun _ => rfl) (ek_ed (ed_name 1 a1 rfl (ea_nil ⟨_, rfl, le1 rfl, (ek_ed (ed_call G__law_draw (hr.mono (by decide)) hgu (fun _ => rfl) g__law_draw k__law_draw b__law_draw (by decide) (fun _ => rfl) (fun _ => rfl) (ea_cons (fun _ => rfl) (ek_loan 0 a0 rfl (ea_cons (fun _ => rfl) (ek_ed (ed_int (ea_nil ⟨_, rfl, rfl, ⟨_, _, _, rfl, hp, (by omega), (by first | decide | omega), (by first | decide | omega), fun r2 ds hr2 hp => fun _ => (IxD.mk rfl rfl (pick [_, _] hr2) ?_)⟩⟩))))))))⟩)))))⟩⟩))))))))))))))))))
  obtain ⟨N, hN, N1, N2⟩ : ∃ N : Nat, [1 + (r1 : Int), (mo : Int)].getD r2 0 = (N : Nat) ∧ 1 ≤ N ∧ N ≤ mo := by
    have := pick_mem (xs := [1 + (r1 : Int), (mo : Int)]) hr2
    rcases List.mem_cons.mp this with e | e
    · exact ⟨1 + r1, by rw [e]; omega, by omega, by omega⟩
    · rw [List.mem_singleton] at e
      exact ⟨mo, by rw [e], by omega, by omega⟩
  rw [hN]
  refine (bd_cons (sd_par3 3 4 5 s3 s4 s5 (by decide) (by decide) (by decide) (fun _ => rfl) (fun _ => rfl) (fun _ => rfl) (fun _ => rfl) (fun _ => rfl) (fun _ => rfl) (fun _ => rfl) (fun _ => rfl) (lt1 rfl) (lt1 rfl) (lt1 rfl) (nl rfl) (nl rfl) (nl rfl) (ed_call G__law_draw (hr.mono (by decide)) hgu (fun _ => rfl) g__law_draw k__law_draw b__law_draw (by decide) (fun _ => rfl) (fun _ => rfl) (ea_cons (fun _ => rfl) (ek_loan 0 a0 rfl (ea_cons (fun _ => rfl) (ek_ed (ed_int (ea_nil ⟨_, rfl, rfl, ⟨_, _, _, rfl, hp, (by omega), (by first | decide | omega), (by first | decide | omega), fun wy ds hwy hp => fun _ => ⟨_, rfl, (ed_ixD (fun _ _ => rfl) (ek_ed (ed_lst (ea_cons (fun _ => rfl) (ek_ed (ed_int (ea_cons (fun _ => rfl) (ek_ed (ed_int (ea_cons (fun _ => rfl) (ek_ed (ed_int (ea_cons (fun _ => rfl) (ek_ed (ed_pow (ek_ed (ed_int (ek_ed (ed_int (IntR.mk rfl rfl ?_ (ea_nil ⟨_, rfl, le1 rfl, (ek_ed (ed_call G__law_draw (hr.mono (by decide)) hgu (fun _ => rfl) g__law_draw k__law_draw b__law_draw (by decide) (fun _ => rfl) (fun _ => rfl) (ea_cons (fun _ => rfl) (ek_loan 0 a0 rfl (ea_cons (fun _ => rfl) (ek_ed (ed_int (ea_nil ⟨_, rfl, rfl, ⟨_, _, _, rfl, hp, (by omega), (by first | decide | omega), (by first | decide | omega), fun r4 ds hr4 hp => fun _ => (IxD.mk rfl rfl (pick [_, _, _, _] hr4) ⟨_, rfl, (ed_lst (ea_cons (fun _ => rfl) (ek_ed (ed_tup (ea_nil ⟨_, rfl, le1 rfl, (ea_nil ⟨_, rfl, le1 rfl, ?_⟩)⟩)))))⟩)⟩⟩))))))))⟩)))))))))))))))))))))⟩⟩⟩)))))))))
  · exact powW_ok (n := 10) (by decide) (by decide) (by decide)
  have e39 : (10 : Int) ^ Int.toNat 39 = 1000000000000000000000000000000000000000 := by decide
  have n39 : (10 : Nat) ^ 39 = 1000000000000000000000000000000000000000 := by decide
  have hb : ∃ bo : Int, [2, 4, 30, (10 : Int) ^ Int.toNat 39].getD r4 0 = bo ∧ 2 ≤ bo ∧ bo ≤ 1000000000000000000000000000000000000000 := by
    have := pick_mem (xs := [2, 4, 30, (10 : Int) ^ Int.toNat 39]) hr4
    rw [e39] at this ⊢
    simp only [List.mem_cons, List.not_mem_nil, or_false] at this
    refine ⟨_, rfl, ?_⟩
    rcases this with e | e | e | e <;> rw [e] <;> omega
  obtain ⟨bo, hbo, bo1, bo2⟩ := hb
  rw [hbo]
  refine (bd_cons (sd_for (fun _ => PassesOwn.never) (fun _ _ => rfl) (src_R2 (fun _ => rfl) m_range (fun _ => rfl) (fun _ => rfl) (ea_cons (fun _ => rfl) (ek_ed (ed_int (ea_cons (fun _ => rfl) (ek_ed (ed_name 2 a2 rfl (ea_nil ⟨_, _, _, _, rfl, rfl, rfl, ?_, ⟨(fun x Γ => ∃ t ds u6 u7 u8 u9 u10 u11, (∀ a b, t a b < 10 ^ 39) ∧ Pail (n + 4 + 3 * (x : Nat)) ds ∧ Γ = [AV.ow ds, .dt (.int (mo : Nat)), .dt (.int (N : Nat)), .dt (.int (wy : Nat)), .dt (.int bo), .ow (rows t (1 + x)), u6, u7, u8, u9, u10, u11]), ?_, ?_, ?_⟩⟩))))))))))
  · exact ⟨by omega, by omega, by omega, by omega⟩
  · exact ⟨fun _ _ => 0, ds, .un, .un, .un, .un, .un, .un, fun _ _ => Nat.pos_of_ne_zero (by rw [n39]; decide), hp.mono (by omega), rfl⟩
  · rintro x d Γ2 hd ⟨t, ds, u6, u7, u8, u9, u10, u11, ht, hp, rfl⟩
    have hx : 1 + x < N := by
      have := (List.getElem?_eq_some_iff.mp hd).1
      rw [rngD_len] at this
      omega
    obtain ⟨m, hm⟩ : ∃ m, m = 1 + x := ⟨_, rfl⟩
    rw [rngD_get (by omega), show ((1 : Int) + (x : Nat)) = (m : Nat) by omega] at hd
    cases hd
    rw [← hm]
    refine ⟨_, fun ff => (gd_name 6 s6 (lt1 rfl) (nl rfl) (bd_cons (sd_set 7 s7 (fun _ => rfl) (lt1 rfl) (nl rfl) (ed_ixD (fun _ _ => rfl) (ek_ed (ed_lst (ea_cons (fun _ => rfl) (ek_ed (ed_call G__law_draw (hr.mono (by decide)) hgu (fun _ => rfl) g__law_draw k__law_draw b__law_draw (by decide) (fun _ => rfl) (fun _ => rfl) (ea_cons (fun _ => rfl) (ek_loan 0 a0 rfl (ea_cons (fun _ => rfl) (ek_ed (ed_name 6 a6 rfl (ea_nil ⟨_, rfl, rfl, ⟨_, _, _, rfl, hp, (by omega), (by first | decide | omega), (by first | decide | omega), fun r5 ds hr5 hp => fun _ => (ea_cons (fun _ => rfl) (ek_ed (ed_int (ea_cons (fun _ => rfl) (ek_ed (ed_sub (ek_ed (ed_name 6 a6 rfl (ek_ed (ed_int (IntR.mk rfl rfl trivial (ea_cons (fun _ => rfl) (ek_ed (ed_max2 (fun _ => rfl) m_max (fun _ => rfl) (fun _ => rfl) (fun _ => rfl) (ek_ed (ed_int (ek_ed (ed_sub (ek_ed (ed_sub (ek_ed (ed_name 6 a6 rfl (ek_ed (ed_int (IntR.mk rfl rfl trivial (ek_ed (ed_call G__law_draw (hr.mono (by decide)) hgu (fun _ => rfl) g__law_draw k__law_draw b__law_draw (by decide) (fun _ => rfl) (fun _ => rfl) (ea_cons (fun _ => rfl) (ek_loan 0 a0 rfl (ea_cons (fun _ => rfl) (ek_ed (ed_int (ea_nil ⟨_, rfl, rfl, ⟨_, _, _, rfl, hp, (by omega), (by first | decide | omega), (by first | decide | omega), fun r6 ds hr6 hp => fun _ => (IntR.mk rfl rfl trivial ⟨_, _, rfl, rfl, (ea_nil ⟨_, rfl, le1 rfl, (ek_ed (ed_name 3 a3 rfl (IxD.mk rfl rfl (pick [_, _, _, _] hwy) ?_)))⟩)⟩)⟩⟩)))))))))))))))))))))))))))))))))⟩⟩)))))))))))))))⟩
    have ha : ∃ a : Nat, [(r5 : Int), 0, (m : Int) - 1, if (m : Int) - 1 - (r6 : Int) > 0 then (m : Int) - 1 - (r6 : Int) else 0].getD wy 0 = (a : Nat) ∧ a < m := by
      have := pick_mem (xs := [(r5 : Int), 0, (m : Int) - 1, if (m : Int) - 1 - (r6 : Int) > 0 then (m : Int) - 1 - (r6 : Int) else 0]) hwy
      simp only [List.mem_cons, List.not_mem_nil, or_false] at this
      rcases this with e | e | e | e <;> rw [e]
      · exact ⟨r5, rfl, by omega⟩
      · exact ⟨0, rfl, by omega⟩
      · exact ⟨m - 1, by omega, by omega⟩
      · split
        · exact ⟨m - 1 - r6, by omega, by omega⟩
        · exact ⟨0, rfl, by omega⟩
    obtain ⟨a, ea, ha⟩ := ha
    rw [ea]
    refine (bd_cons (sd_par 8 9 s8 s9 (by decide) (fun _ => rfl) (fun _ => rfl) (fun _ => rfl) (fun _ => rfl) (fun _ => rfl) (fun _ => rfl) (lt1 rfl) (lt1 rfl) (nl rfl) (nl rfl) (ed_call G__law_draw (hr.mono (by decide)) hgu (fun _ => rfl) g__law_draw k__law_draw b__law_draw (by decide) (fun _ => rfl) (fun _ => rfl) (ea_cons (fun _ => rfl) (ek_loan 0 a0 rfl (ea_cons (fun _ => rfl) (ek_ed (ed_name 4 a4 rfl (ea_nil ⟨_, rfl, rfl, ⟨_, _, _, rfl, hp, (by omega), (by first | decide | omega), (by first | decide | omega), fun dy ds hdy hp => fun _ => fun fo => (ed_lst (ea_nil ⟨_, rfl, le1 rfl, (bd_cons (sd_for (fun _ => PassesOwn.never) (fun _ _ => rfl) (src_R1 (fun _ => rfl) m_range (fun _ => rfl) (ea_cons (fun _ => rfl) (ek_ed (ed_name 6 a6 rfl (ea_nil ⟨_, _, rfl, rfl, ?_, ⟨(fun x Γ => ∃ u10 u11, Γ = [AV.ow ds, .dt (.int (mo : Nat)), .dt (.int (N : Nat)), .dt (.int (wy : Nat)), .dt (.int bo), .ow (rows t m), .dt (.int (m : Nat)), .dt (.int (a : Nat)), .dt (.int (dy : Nat)), .ow ((List.range x).map fun i => .int (far t a dy i : Nat)), u10, u11]), ?_, ?_, ?_⟩⟩)))))))⟩))⟩⟩)))))))))
    · exact ⟨by omega, by omega⟩
    · exact ⟨_, _, rfl⟩
    · rintro x' d Γ2 hd ⟨u10, u11, rfl⟩
      have hx : x' < m := by
        have := (List.getElem?_eq_some_iff.mp hd).1
        rw [rngD_len] at this
        omega
      rw [rngD_get (by omega), Int.zero_add] at hd
      cases hd
      refine ⟨_, fun ff => (gd_name 10 s10 (lt1 rfl) (nl rfl) (bd_cons (sd_set 11 s11 (fun _ => rfl) (lt1 rfl) (nl rfl) (ed_ifExp (td_eqI (ek_ed (ed_name 10 a10 rfl (ek_ed (ed_name 7 a7 rfl (CmpT.mk rfl rfl ⟨fun hif => (ed_name 8 a8 rfl (bd_cons (sd_expr (fun _ => rfl) (ed_append 9 a9 rfl (fun _ => rfl) (fun _ => rfl) rfl (fun _ => rfl) (ek_ed (ed_min2 (fun _ => rfl) m_min (fun _ => rfl) (fun _ => rfl) (fun _ => rfl) (ek_ed (ed_name 8 a8 rfl (ek_ed (ed_name 11 a11 rfl ⟨_, _, rfl, rfl, ⟨_, _, rfl, rfl, ?_, (bd_nil ?_)⟩⟩)))))))))), fun hif => (ed_ixD (fun _ _ => rfl) (ek_ed (ed_ixD (fun _ _ => rfl) (ek_loan 5 a5 rfl (ek_ed (ed_max2 (fun _ => rfl) m_max (fun _ => rfl) (fun _ => rfl) (fun _ => rfl) (ek_ed (ed_name 7 a7 rfl (ek_ed (ed_name 10 a10 rfl ⟨_, _, rfl, rfl, (IxD.mk rfl rfl (rows_max ha hx) (ek_ed (ed_min2 (fun _ => rfl) m_min (fun _ => rfl) (fun _ => rfl) (fun _ => rfl) (ek_ed (ed_name 7 a7 rfl (ek_ed (ed_name 10 a10 rfl ⟨_, _, rfl, rfl, (IxD.mk rfl rfl (row_min (fun e => (of_decide_eq_false hif) (congrArg Int.ofNat e))) (bd_cons (sd_expr (fun _ => rfl) (ed_append 9 a9 rfl (fun _ => rfl) (fun _ => rfl) rfl (fun _ => rfl) (ek_ed (ed_min2 (fun _ => rfl) m_min (fun _ => rfl) (fun _ => rfl) (fun _ => rfl) (ek_ed (ed_name 8 a8 rfl (ek_ed (ed_name 11 a11 rfl ⟨_, _, rfl, rfl, ⟨_, _, rfl, rfl, ?_, (bd_nil ?_)⟩⟩))))))))))⟩)))))))⟩))))))))))⟩))))))))))⟩
      · rw [List.length_map, List.length_range]; omega
      · have e : x' = a := Int.ofNat.inj (of_decide_eq_true hif)
        refine ⟨.dt (.int (x' : Nat)), .dt (.int (dy : Nat)), ?_⟩
        have f : (if (dy : Int) < (dy : Int) then (dy : Int) else (dy : Int)) = ((far t a dy x' : Nat) : Int) := by
          unfold far
          rw [if_pos e]
          split <;> omega
        rw [List.range_succ, List.map_append]
        exact congrArg (fun z => [AV.ow ds, AV.dt (.int (mo : Nat)), .dt (.int (N : Nat)), .dt (.int (wy : Nat)), .dt (.int bo), .ow (rows t m), .dt (.int (m : Nat)), .dt (.int (a : Nat)), .dt (.int (dy : Nat)), .ow ((List.range x').map (fun i => Dt.int (far t a dy i : Nat)) ++ [.int z]), .dt (.int (x' : Nat)), .dt (.int (dy : Nat))]) f
      · rw [List.length_map, List.length_range]; omega
      · have e : x' ≠ a := fun e => (of_decide_eq_false hif) (congrArg Int.ofNat e)
        refine ⟨.dt (.int (x' : Nat)), .dt (.int (t (max a x') (min a x') : Nat)), ?_⟩
        have f : (if ((t (max a x') (min a x') : Nat) : Int) < (dy : Int) then ((t (max a x') (min a x') : Nat) : Int) else (dy : Int)) = ((far t a dy x' : Nat) : Int) := by
          unfold far
          rw [if_neg e]
          split <;> omega
        rw [List.range_succ, List.map_append]
        exact congrArg (fun z => [AV.ow ds, AV.dt (.int (mo : Nat)), .dt (.int (N : Nat)), .dt (.int (wy : Nat)), .dt (.int bo), .ow (rows t m), .dt (.int (m : Nat)), .dt (.int (a : Nat)), .dt (.int (dy : Nat)), .ow ((List.range x').map (fun i => Dt.int (far t a dy i : Nat)) ++ [.int z]), .dt (.int (x' : Nat)), .dt (.int (t (max a x') (min a x') : Nat))]) f
    · rintro Γ2 ⟨u10, u11, rfl⟩
      rw [rngD_len, Int.toNat_natCast]
      refine (bd_cons (sd_expr (fun _ => rfl) (ed_append 5 a5 rfl (fun _ => rfl) (fun _ => rfl) rfl (fun _ => rfl) (ek_ed (ed_tuple (fun _ => rfl) m_tuple (fun _ => rfl) (ek_loan 9 a9 rfl ⟨_, rfl, ⟨_, _, rfl, rfl, ?_, (bd_nil ?_)⟩⟩))))))
      · unfold rows
        rw [List.length_map, List.length_range]; omega
      · refine ⟨grow t m (far t a dy), ds, .dt (.int (m : Nat)), .dt (.int (a : Nat)), .dt (.int (dy : Nat)), .ow ((List.range m).map fun i => .int (far t a dy i : Nat)), u10, u11, fun p q => ?_, hp.mono (by omega), ?_⟩
        · unfold grow
          split
          · unfold far
            rw [n39]
            omega
          · exact ht p q
        · rw [show 1 + (x + 1) = m + 1 by omega, ← rows_grow]
          rfl
  · rintro Γ2 ⟨t, ds, u6, u7, u8, u9, u10, u11, ht, hp, rfl⟩
    rw [rngD_len] at hp ⊢
    have e : 1 + ((N : Int) - 1).toNat = N := by omega
    rw [e]
    refine (bd_cons (sd_ret (ed_tuple (fun _ => rfl) m_tuple (fun _ => rfl) (ek_loan 5 a5 rfl ⟨_, rfl, ?_⟩))))
    exact hq t N ds N1 N2 ht (hp.mono (by omega))
end
end K24

namespace K24
open N24 PySem PySem.Spec PyProof.Rows L2 DL
abbrev s__law_rough : Stmt := topS 48
theorem sc__law_rough : FnScope ["source", "most", "past", "way", "bound", "found", "row_here", "some", "day", "moved", "spot"] ["source", "most"] (defScope s__law_rough) := ⟨rfl, rfl, rfl, by decide +kernel, rfl, by decide +kernel, by decide +kernel⟩
def dsRough : DSp := fun as post => ∃ (n : Int) (mo : Nat) (ds : List Dt), as = [.ow ds, .dt (.int (mo : Nat))] ∧ Pail n ds ∧ 0 ≤ n ∧ n ≤ 1000000 ∧ 1 ≤ mo ∧ mo ≤ 20 ∧
  ∀ (t : Nat → Nat → Nat) (N : Nat) ds', 1 ≤ N → N ≤ mo → (∀ x y, t x y < 10 ^ 40) → Pail (n + 3000) ds' → post (.dt (tabD t N)) [.ow ds', .un]
theorem row_at3 {t : Nat → Nat → Nat} {N x : Nat} {d : Dt} (h : (rows t N)[x]? = some d) : x < N ∧ d = .tup ((List.range x).map fun y => .int (t x y : Nat)) := mapR h
theorem snocR {f : Nat → Nat} {y v : Nat} : ∃ g : Nat → Nat, (List.range y).map (fun b => Dt.int (f b : Nat)) ++ [.int (v : Nat)] = (List.range (y + 1)).map (fun b => Dt.int (g b : Nat)) ∧ ∀ b, g b = f b ∨ g b = v := by
  refine ⟨fun b => if b = y then v else f b, ?_, fun b => ?_⟩
  · rw [List.range_succ, List.map_append]
    congr 1
    · exact List.map_congr_left fun b hb => by
        have := List.mem_range.mp hb
        show _ = Dt.int ((if b = y then v else f b : Nat) : Int)
        rw [if_neg (by omega)]
    · show _ = [Dt.int ((if y = y then v else f y : Nat) : Int)]
      rw [if_pos rfl]
  · by_cases h : b = y
    · exact .inr (if_pos h)
    · exact .inl (if_neg h)
section
variable {P : Program} {w : World} {K : PySem.W.Frag} [Tb K] {mg : Str → Option Value} {base : Heap}
theorem ok__law_rough {f__law_draw : Addr} {d__law_draw : FuncData} (G__law_draw : FnG P w K mg base 1 f__law_draw d__law_draw ["source", "many"] (spD K dsDip)) (g__law_draw : mg "_law_draw" = some (.ref f__law_draw)) (k__law_draw : PySem.W.keepIn K (.ref f__law_draw) = true) (b__law_draw : Binds K d__law_draw ["source", "many"] []) {f__law_history : Addr} {d__law_history : FuncData} (G__law_history : FnG P w K mg base 2 f__law_history d__law_history ["source", "most"] (spD K dsHistory)) (g__law_history : mg "_law_history" = some (.ref f__law_history)) (k__law_history : PySem.W.keepIn K (.ref f__law_history) = true) (b__law_history : Binds K d__law_history ["source", "most"] []) (m_max : mg "max" = none) (m_tuple : mg "tuple" = none) {f : Addr} {fd : FuncData} (F : Fun K "_law_rough" "_law_rough" s__law_rough f fd) : FnG P w K mg base 3 f fd ["source", "most"] (spD K dsRough) := by
  refine FnG.of F sc__law_rough (fun as post h => by obtain ⟨_, _, _, h⟩ := h; rw [h.1]; rfl) fun cdv A outer s H vs fo as post hr hgu hD => ?_
  obtain ⟨n, mo, ds, rfl, hp, hn0, hn, hm1, hm2, hq⟩ := hD
  have a0 : At (coreOf P w K mg base (A.deeper (envOfC "_law_rough" (defScope s__law_rough) s.heap.objs.size f cdv)) ["source", "most", "past", "way", "bound", "found", "row_here", "some", "day", "moved", "spot"] ((envOfC "_law_rough" (defScope s__law_rough) s.heap.objs.size f cdv) :: outer)) (varOf s H (envOfC "_law_rough" (defScope s__law_rough) s.heap.objs.size f cdv) outer) "source" 0 := ⟨rfl, fun _ => by first | exact .inl rfl | exact .inr (.inl rfl), by decide, by decide⟩
  have s0 : AtS (coreOf P w K mg base (A.deeper (envOfC "_law_rough" (defScope s__law_rough) s.heap.objs.size f cdv)) ["source", "most", "past", "way", "bound", "found", "row_here", "some", "day", "moved", "spot"] ((envOfC "_law_rough" (defScope s__law_rough) s.heap.objs.size f cdv) :: outer)) (varOf s H (envOfC "_law_rough" (defScope s__law_rough) s.heap.objs.size f cdv) outer) "source" 0 := ⟨sc__law_rough.nd, rfl, fun _ => by first | exact .inl rfl | exact .inr rfl, fun _ => .inl rfl⟩
  have a1 : At (coreOf P w K mg base (A.deeper (envOfC "_law_rough" (defScope s__law_rough) s.heap.objs.size f cdv)) ["source", "most", "past", "way", "bound", "found", "row_here", "some", "day", "moved", "spot"] ((envOfC "_law_rough" (defScope s__law_rough) s.heap.objs.size f cdv) :: outer)) (varOf s H (envOfC "_law_rough" (defScope s__law_rough) s.heap.objs.size f cdv) outer) "most" 1 := ⟨rfl, fun _ => by first | exact .inl rfl | exact .inr (.inl rfl), by decide, by decide⟩
  have s1 : AtS (coreOf P w K mg base (A.deeper (envOfC "_law_rough" (defScope s__law_rough) s.heap.objs.size f cdv)) ["source", "most", "past", "way", "bound", "found", "row_here", "some", "day", "moved", "spot"] ((envOfC "_law_rough" (defScope s__law_rough) s.heap.objs.size f cdv) :: outer)) (varOf s H (envOfC "_law_rough" (defScope s__law_rough) s.heap.objs.size f cdv) outer) "most" 1 := ⟨sc__law_rough.nd, rfl, fun _ => by first | exact .inl rfl | exact .inr rfl, fun _ => .inl rfl⟩
  have a2 : At (coreOf P w K mg base (A.deeper (envOfC "_law_rough" (defScope s__law_rough) s.heap.objs.size f cdv)) ["source", "most", "past", "way", "bound", "found", "row_here", "some", "day", "moved", "spot"] ((envOfC "_law_rough" (defScope s__law_rough) s.heap.objs.size f cdv) :: outer)) (varOf s H (envOfC "_law_rough" (defScope s__law_rough) s.heap.objs.size f cdv) outer) "past" 2 := ⟨rfl, fun _ => by first | exact .inl rfl | exact .inr (.inl rfl), by decide, by decide⟩
  have s2 : AtS (coreOf P w K mg base (A.deeper (envOfC "_law_rough" (defScope s__law_rough) s.heap.objs.size f cdv)) ["source", "most", "past", "way", "bound", "found", "row_here", "some", "day", "moved", "spot"] ((envOfC "_law_rough" (defScope s__law_rough) s.heap.objs.size f cdv) :: outer)) (varOf s H (envOfC "_law_rough" (defScope s__law_rough) s.heap.objs.size f cdv) outer) "past" 2 := ⟨sc__law_rough.nd, rfl, fun _ => by first | exact .inl rfl | exact .inr rfl, fun _ => .inl rfl⟩
  have a3 : At (coreOf P w K mg base (A.deeper (envOfC "_law_rough" (defScope s__law_rough) s.heap.objs.size f cdv)) ["source", "most", "past", "way", "bound", "found", "row_here", "some", "day", "moved", "spot"] ((envOfC "_law_rough" (defScope s__law_rough) s.heap.objs.size f cdv) :: outer)) (varOf s H (envOfC "_law_rough" (defScope s__law_rough) s.heap.objs.size f cdv) outer) "way" 3 := ⟨rfl, fun _ => by first | exact .inl rfl | exact .inr (.inl rfl), by decide, by decide⟩
  have s3 : AtS (coreOf P w K mg base (A.deeper (envOfC "_law_rough" (defScope s__law_rough) s.heap.objs.size f cdv)) ["source", "most", "past", "way", "bound", "found", "row_here", "some", "day", "moved", "spot"] ((envOfC "_law_rough" (defScope s__law_rough) s.heap.objs.size f cdv) :: outer)) (varOf s H (envOfC "_law_rough" (defScope s__law_rough) s.heap.objs.size f cdv) outer) "way" 3 := ⟨sc__law_rough.nd, rfl, fun _ => by first | exact .inl rfl | exact .inr rfl, fun _ => .inl rfl⟩
  have a4 : At (coreOf P w K mg base (A.deeper (envOfC "_law_rough" (defScope s__law_rough) s.heap.objs.size f cdv)) ["source", "most", "past", "way", "bound", "found", "row_here", "some", "day", "moved", "spot"] ((envOfC "_law_rough" (defScope s__law_rough) s.heap.objs.size f cdv) :: outer)) (varOf s H (envOfC "_law_rough" (defScope s__law_rough) s.heap.objs.size f cdv) outer) "bound" 4 := ⟨rfl, fun _ => by first | exact .inl rfl | exact .inr (.inl rfl), by decide, by decide⟩
  have s4 : AtS (coreOf P w K mg base (A.deeper (envOfC "_law_rough" (defScope s__law_rough) s.heap.objs.size f cdv)) ["source", "most", "past", "way", "bound", "found", "row_here", "some", "day", "moved", "spot"] ((envOfC "_law_rough" (defScope s__law_rough) s.heap.objs.size f cdv) :: outer)) (varOf s H (envOfC "_law_rough" (defScope s__law_rough) s.heap.objs.size f cdv) outer) "bound" 4 := ⟨sc__law_rough.nd, rfl, fun _ => by first | exact .inl rfl | exact .inr rfl, fun _ => .inl rfl⟩
  have a5 : At (coreOf P w K mg base (A.deeper (envOfC "_law_rough" (defScope s__law_rough) s.heap.objs.size f cdv)) ["source", "most", "past", "way", "bound", "found", "row_here", "some", "day", "moved", "spot"] ((envOfC "_law_rough" (defScope s__law_rough) s.heap.objs.size f cdv) :: outer)) (varOf s H (envOfC "_law_rough" (defScope s__law_rough) s.heap.objs.size f cdv) outer) "found" 5 := ⟨rfl, fun _ => by first | exact .inl rfl | exact .inr (.inl rfl), by decide, by decide⟩
  have s5 : AtS (coreOf P w K mg base (A.deeper (envOfC "_law_rough" (defScope s__law_rough) s.heap.objs.size f cdv)) ["source", "most", "past", "way", "bound", "found", "row_here", "some", "day", "moved", "spot"] ((envOfC "_law_rough" (defScope s__law_rough) s.heap.objs.size f cdv) :: outer)) (varOf s H (envOfC "_law_rough" (defScope s__law_rough) s.heap.objs.size f cdv) outer) "found" 5 := ⟨sc__law_rough.nd, rfl, fun _ => by first | exact .inl rfl | exact .inr rfl, fun _ => .inl rfl⟩
  have a6 : At (coreOf P w K mg base (A.deeper (envOfC "_law_rough" (defScope s__law_rough) s.heap.objs.size f cdv)) ["source", "most", "past", "way", "bound", "found", "row_here", "some", "day", "moved", "spot"] ((envOfC "_law_rough" (defScope s__law_rough) s.heap.objs.size f cdv) :: outer)) (varOf s H (envOfC "_law_rough" (defScope s__law_rough) s.heap.objs.size f cdv) outer) "row_here" 6 := ⟨rfl, fun _ => by first | exact .inl rfl | exact .inr (.inl rfl), by decide, by decide⟩
  have s6 : AtS (coreOf P w K mg base (A.deeper (envOfC "_law_rough" (defScope s__law_rough) s.heap.objs.size f cdv)) ["source", "most", "past", "way", "bound", "found", "row_here", "some", "day", "moved", "spot"] ((envOfC "_law_rough" (defScope s__law_rough) s.heap.objs.size f cdv) :: outer)) (varOf s H (envOfC "_law_rough" (defScope s__law_rough) s.heap.objs.size f cdv) outer) "row_here" 6 := ⟨sc__law_rough.nd, rfl, fun _ => by first | exact .inl rfl | exact .inr rfl, fun _ => .inl rfl⟩
  have a7 : At (coreOf P w K mg base (A.deeper (envOfC "_law_rough" (defScope s__law_rough) s.heap.objs.size f cdv)) ["source", "most", "past", "way", "bound", "found", "row_here", "some", "day", "moved", "spot"] ((envOfC "_law_rough" (defScope s__law_rough) s.heap.objs.size f cdv) :: outer)) (varOf s H (envOfC "_law_rough" (defScope s__law_rough) s.heap.objs.size f cdv) outer) "some" 7 := ⟨rfl, fun _ => by first | exact .inl rfl | exact .inr (.inl rfl), by decide, by decide⟩
  have s7 : AtS (coreOf P w K mg base (A.deeper (envOfC "_law_rough" (defScope s__law_rough) s.heap.objs.size f cdv)) ["source", "most", "past", "way", "bound", "found", "row_here", "some", "day", "moved", "spot"] ((envOfC "_law_rough" (defScope s__law_rough) s.heap.objs.size f cdv) :: outer)) (varOf s H (envOfC "_law_rough" (defScope s__law_rough) s.heap.objs.size f cdv) outer) "some" 7 := ⟨sc__law_rough.nd, rfl, fun _ => by first | exact .inl rfl | exact .inr rfl, fun _ => .inl rfl⟩
  have a8 : At (coreOf P w K mg base (A.deeper (envOfC "_law_rough" (defScope s__law_rough) s.heap.objs.size f cdv)) ["source", "most", "past", "way", "bound", "found", "row_here", "some", "day", "moved", "spot"] ((envOfC "_law_rough" (defScope s__law_rough) s.heap.objs.size f cdv) :: outer)) (varOf s H (envOfC "_law_rough" (defScope s__law_rough) s.heap.objs.size f cdv) outer) "day" 8 := ⟨rfl, fun _ => by first | exact .inl rfl | exact .inr (.inl rfl), by decide, by decide⟩
  have s8 : AtS (coreOf P w K mg base (A.deeper (envOfC "_law_rough" (defScope s__law_rough) s.heap.objs.size f cdv)) ["source", "most", "past", "way", "bound", "found", "row_here", "some", "day", "moved", "spot"] ((envOfC "_law_rough" (defScope s__law_rough) s.heap.objs.size f cdv) :: outer)) (varOf s H (envOfC "_law_rough" (defScope s__law_rough) s.heap.objs.size f cdv) outer) "day" 8 := ⟨sc__law_rough.nd, rfl, fun _ => by first | exact .inl rfl | exact .inr rfl, fun _ => .inl rfl⟩
  have a9 : At (coreOf P w K mg base (A.deeper (envOfC "_law_rough" (defScope s__law_rough) s.heap.objs.size f cdv)) ["source", "most", "past", "way", "bound", "found", "row_here", "some", "day", "moved", "spot"] ((envOfC "_law_rough" (defScope s__law_rough) s.heap.objs.size f cdv) :: outer)) (varOf s H (envOfC "_law_rough" (defScope s__law_rough) s.heap.objs.size f cdv) outer) "moved" 9 := ⟨rfl, fun _ => by first | exact .inl rfl | exact .inr (.inl rfl), by decide, by decide⟩
  have s9 : AtS (coreOf P w K mg base (A.deeper (envOfC "_law_rough" (defScope s__law_rough) s.heap.objs.size f cdv)) ["source", "most", "past", "way", "bound", "found", "row_here", "some", "day", "moved", "spot"] ((envOfC "_law_rough" (defScope s__law_rough) s.heap.objs.size f cdv) :: outer)) (varOf s H (envOfC "_law_rough" (defScope s__law_rough) s.heap.objs.size f cdv) outer) "moved" 9 := ⟨sc__law_rough.nd, rfl, fun _ => by first | exact .inl rfl | exact .inr rfl, fun _ => .inl rfl⟩
  have a10 : At (coreOf P w K mg base (A.deeper (envOfC "_law_rough" (defScope s__law_rough) s.heap.objs.size f cdv)) ["source", "most", "past", "way", "bound", "found", "row_here", "some", "day", "moved", "spot"] ((envOfC "_law_rough" (defScope s__law_rough) s.heap.objs.size f cdv) :: outer)) (varOf s H (envOfC "_law_rough" (defScope s__law_rough) s.heap.objs.size f cdv) outer) "spot" 10 := ⟨rfl, fun _ => by first | exact .inl rfl | exact .inr (.inl rfl), by decide, by decide⟩
  have s10 : AtS (coreOf P w K mg base (A.deeper (envOfC "_law_rough" (defScope s__law_rough) s.heap.objs.size f cdv)) ["source", "most", "past", "way", "bound", "found", "row_here", "some", "day", "moved", "spot"] ((envOfC "_law_rough" (defScope s__law_rough) s.heap.objs.size f cdv) :: outer)) (varOf s H (envOfC "_law_rough" (defScope s__law_rough) s.heap.objs.size f cdv) outer) "spot" 10 := ⟨sc__law_rough.nd, rfl, fun _ => by first | exact .inl rfl | exact .inr rfl, fun _ => .inl rfl⟩
  show BD _ _ _ _ _ [.ow ds, .dt (.int (mo : Nat)), .un, .un, .un, .un, .un, .un, .un, .un, .un]
  refine (bd_cons (sd_set 2 s2 (fun _ => rfl) (lt1 rfl) (nl rfl) (ed_call G__law_history (hr.mono (by decide)) hgu (fun _ => rfl) g__law_history k__law_history b__law_history (by decide) (fun _ => rfl) (fun _ => rfl) (ea_cons (fun _ => rfl) (ek_loan 0 a0 rfl (ea_cons (fun _ => rfl) (ek_ed (ed_name 1 a1 rfl (ea_nil ⟨_, rfl, rfl, ⟨n, mo, ds, rfl, hp, hn0, hn, hm1, hm2, fun t N ds N1 N2 ht hp => fun _ => ?_⟩⟩)))))))))
  refine (bd_cons (sd_par3 3 4 5 s3 s4 s5 (by decide) (by decide) (by decide) (fun _ => rfl) (fun _ => rfl) (fun _ => rfl) (fun _ => rfl) (fun _ => rfl) (fun _ => rfl) (fun _ => rfl) (fun _ => rfl) (lt1 rfl) (lt1 rfl) (lt1 rfl) (nl rfl) (nl rfl) (nl rfl) (ed_call G__law_draw (hr.mono (by decide)) hgu (fun _ => rfl) g__law_draw k__law_draw b__law_draw (by decide) (fun _ => rfl) (fun _ => rfl) (ea_cons (fun _ => rfl) (ek_loan 0 a0 rfl (ea_cons (fun _ => rfl) (ek_ed (ed_int (ea_nil ⟨_, rfl, rfl, ⟨_, _, _, rfl, hp, (by omega), (by first | decide | omega), (by first | decide | omega), fun wy ds hwy hp => fun _ => ⟨_, rfl, (ed_ixD (fun _ _ => rfl) (ek_ed (ed_lst (ea_cons (fun _ => rfl) (ek_ed (ed_int (ea_cons (fun _ => rfl) (ek_ed (ed_int (ea_cons (fun _ => rfl) (ek_ed (ed_int (ea_cons (fun _ => rfl) (ek_ed (ed_pow (ek_ed (ed_int (ek_ed (ed_int (IntR.mk rfl rfl ?_ (ea_nil ⟨_, rfl, le1 rfl, (ek_ed (ed_call G__law_draw (hr.mono (by decide)) hgu (fun _ => rfl) g__law_draw k__law_draw b__law_draw (by decide) (fun _ => rfl) (fun _ => rfl) (ea_cons (fun _ => rfl) (ek_loan 0 a0 rfl (ea_cons (fun _ => rfl) (ek_ed (ed_int (ea_nil ⟨_, rfl, rfl, ⟨_, _, _, rfl, hp, (by omega), (by first | decide | omega), (by first | decide | omega), fun r4 ds hr4 hp => fun _ => (IxD.mk rfl rfl (pick [_, _, _, _] hr4) ⟨_, rfl, (ed_lst (ea_nil ⟨_, rfl, le1 rfl, ?_⟩))⟩)⟩⟩))))))))⟩)))))))))))))))))))))⟩⟩⟩)))))))))
  · exact powW_ok (n := 10) (by decide) (by decide) (by decide)
  have e39 : (10 : Int) ^ Int.toNat 39 = 1000000000000000000000000000000000000000 := by decide
  have n39 : (10 : Nat) ^ 39 = 1000000000000000000000000000000000000000 := by decide
  have n40 : (10 : Nat) ^ 40 = 10000000000000000000000000000000000000000 := by decide
  have hb : ∃ bo : Int, [1, 3, 9, (10 : Int) ^ Int.toNat 39].getD r4 0 = bo ∧ 1 ≤ bo ∧ bo ≤ 1000000000000000000000000000000000000000 := by
    have := pick_mem (xs := [1, 3, 9, (10 : Int) ^ Int.toNat 39]) hr4
    rw [e39] at this ⊢
    simp only [List.mem_cons, List.not_mem_nil, or_false] at this
    refine ⟨_, rfl, ?_⟩
    rcases this with e | e | e | e <;> rw [e] <;> omega
  obtain ⟨bo, hbo, bo1, bo2⟩ := hb
  rw [hbo]
  refine (bd_cons (sd_for (fun _ => PassesOwn.never) (fun _ _ => rfl) (src_T (ek_ed (ed_name 2 a2 rfl ⟨_, rfl, ⟨(fun x Γ => ∃ (q : Nat → Nat → Nat) (ds : List Dt) (u6 u7 u8 u9 u10 : AV), (∀ a b, q a b < 10 ^ 40) ∧ Pail (n + 102 + 100 * (x : Nat)) ds ∧ Γ = [AV.ow ds, .dt (.int (mo : Nat)), .dt (tabD t N), .dt (.int (wy : Nat)), .dt (.int bo), .ow (rows q x), u6, u7, u8, u9, u10]), ?_, ?_, ?_⟩⟩)))))
  · exact ⟨fun _ _ => 0, ds, .un, .un, .un, .un, .un, fun _ _ => by show 0 < 10 ^ 40; rw [n40]; decide, hp.mono (by omega), rfl⟩
  · rintro x d Γ2 hd ⟨q, ds, u6, u7, u8, u9, u10, hq2, hp, rfl⟩
    obtain ⟨hx, rfl⟩ := mapR hd
    refine ⟨_, fun ff => (gd_name 6 s6 (lt1 rfl) (nl rfl) (bd_cons (sd_set 7 s7 (fun _ => rfl) (lt1 rfl) (nl rfl) (ed_lst (ea_nil ⟨_, rfl, le1 rfl, (bd_cons (sd_for (fun _ => PassesOwn.never) (fun _ _ => rfl) (src_T (ek_ed (ed_name 6 a6 rfl ⟨_, rfl, ⟨(fun y Γ => ∃ (f : Nat → Nat) (ds : List Dt) (u8 u9 u10 : AV), (∀ b, f b < 10 ^ 40) ∧ Pail (n + 102 + 100 * (x : Nat) + 5 * (y : Nat)) ds ∧ Γ = [AV.ow ds, .dt (.int (mo : Nat)), .dt (tabD t N), .dt (.int (wy : Nat)), .dt (.int bo), .ow (rows q x), .dt (.tup ((List.range x).map fun y => .int (t x y : Nat))), .ow ((List.range y).map fun b => .int (f b : Nat)), u8, u9, u10]), ?_, ?_, ?_⟩⟩)))))⟩)))))⟩
    · exact ⟨fun _ => 0, ds, u8, u9, u10, fun _ => by show 0 < 10 ^ 40; rw [n40]; decide, hp.mono (by omega), rfl⟩
    · rintro y d Γ2 hd ⟨f, ds, u8, u9, u10, hf, hp, rfl⟩
      obtain ⟨hy, rfl⟩ := mapR hd
      have hday := ht x y
      refine ⟨_, fun ff => (gd_name 8 s8 (lt1 rfl) (nl rfl) (bd_cons (sd_set 9 s9 (fun _ => rfl) (lt1 rfl) (nl rfl) (ed_lst (ea_cons (fun _ => rfl) (ek_ed (ed_name 8 a8 rfl (ea_cons (fun _ => rfl) (ek_ed (ed_add (ek_ed (ed_name 8 a8 rfl (ek_ed (ed_call G__law_draw (hr.mono (by decide)) hgu (fun _ => rfl) g__law_draw k__law_draw b__law_draw (by decide) (fun _ => rfl) (fun _ => rfl) (ea_cons (fun _ => rfl) (ek_loan 0 a0 rfl (ea_cons (fun _ => rfl) (ek_ed (ed_add (ek_ed (ed_name 4 a4 rfl (ek_ed (ed_int (AddR.int rfl rfl (ea_nil ⟨_, rfl, rfl, ⟨_, _, _, rfl, hp, (by omega), (by first | decide | omega), (by first | decide | omega), fun p1 ds hp1 hp => fun _ => (AddR.int rfl rfl (ea_cons (fun _ => rfl) (ek_ed (ed_max2 (fun _ => rfl) m_max (fun _ => rfl) (fun _ => rfl) (fun _ => rfl) (ek_ed (ed_int (ek_ed (ed_sub (ek_ed (ed_name 8 a8 rfl (ek_ed (ed_call G__law_draw (hr.mono (by decide)) hgu (fun _ => rfl) g__law_draw k__law_draw b__law_draw (by decide) (fun _ => rfl) (fun _ => rfl) (ea_cons (fun _ => rfl) (ek_loan 0 a0 rfl (ea_cons (fun _ => rfl) (ek_ed (ed_add (ek_ed (ed_name 4 a4 rfl (ek_ed (ed_int (AddR.int rfl rfl (ea_nil ⟨_, rfl, rfl, ⟨_, _, _, rfl, hp, (by omega), (by first | decide | omega), (by first | decide | omega), fun p2 ds hp2 hp => fun _ => (IntR.mk rfl rfl trivial ⟨_, _, rfl, rfl, (ea_nil ⟨_, rfl, le1 rfl, ?_⟩)⟩)⟩⟩)))))))))))))))))))))))⟩⟩)))))))))))))))))))))))))⟩
      refine (bd_cons (sd_set 9 s9 (fun _ => rfl) (lt1 rfl) (nl rfl) (ed_add (ek_loan 9 a9 rfl (ek_ed (ed_lst (ea_cons (fun _ => rfl) (ek_ed (ed_call G__law_draw (hr.mono (by decide)) hgu (fun _ => rfl) g__law_draw k__law_draw b__law_draw (by decide) (fun _ => rfl) (fun _ => rfl) (ea_cons (fun _ => rfl) (ek_loan 0 a0 rfl (ea_cons (fun _ => rfl) (ek_ed (ed_add (ek_ed (ed_name 4 a4 rfl (ek_ed (ed_int (AddR.int rfl rfl (ea_nil ⟨_, rfl, rfl, ⟨_, _, _, rfl, hp, (by omega), (by first | decide | omega), (by first | decide | omega), fun p3 ds hp3 hp => fun _ => (ea_nil ⟨_, rfl, le1 rfl, (AddR.lst rfl rfl rfl rfl ?_ ?_)⟩)⟩⟩))))))))))))))))))))
      · exact le1 rfl
      refine (bd_cons (sd_set 10 s10 (fun _ => rfl) (lt1 rfl) (nl rfl) (ed_ixD (fun _ _ => rfl) (ek_ed (ed_lst (ea_cons (fun _ => rfl) (ek_ed (ed_int (ea_cons (fun _ => rfl) (ek_ed (ed_ixD (fun _ _ => rfl) (ek_ed (ed_lst (ea_cons (fun _ => rfl) (ek_ed (ed_int (ea_cons (fun _ => rfl) (ek_ed (ed_int (ea_cons (fun _ => rfl) (ek_ed (ed_int (ea_cons (fun _ => rfl) (ek_ed (ed_int (ea_nil ⟨_, rfl, le1 rfl, (ek_ed (ed_call G__law_draw (hr.mono (by decide)) hgu (fun _ => rfl) g__law_draw k__law_draw b__law_draw (by decide) (fun _ => rfl) (fun _ => rfl) (ea_cons (fun _ => rfl) (ek_loan 0 a0 rfl (ea_cons (fun _ => rfl) (ek_ed (ed_int (ea_nil ⟨_, rfl, rfl, ⟨_, _, _, rfl, hp, (by omega), (by first | decide | omega), (by first | decide | omega), fun r5 ds hr5 hp => fun _ => (IxD.mk rfl rfl (pick [_, _, _, _] hr5) (ea_cons (fun _ => rfl) (ek_ed (ed_call G__law_draw (hr.mono (by decide)) hgu (fun _ => rfl) g__law_draw k__law_draw b__law_draw (by decide) (fun _ => rfl) (fun _ => rfl) (ea_cons (fun _ => rfl) (ek_loan 0 a0 rfl (ea_cons (fun _ => rfl) (ek_ed (ed_int (ea_nil ⟨_, rfl, rfl, ⟨_, _, _, rfl, hp, (by omega), (by first | decide | omega), (by first | decide | omega), fun r6 ds hr6 hp => fun _ => (ea_nil ⟨_, rfl, le1 rfl, (ek_ed (ed_name 3 a3 rfl (IxD.mk rfl rfl (pick [_, _, _] hwy) ?_)))⟩)⟩⟩))))))))))⟩⟩))))))))⟩))))))))))))))))))))))))))
      have hs : ∃ sp : Nat, ([3, ([0, 0, 1, 2] : List Int).getD r5 0, (r6 : Int)] : List Int).getD wy 0 = (sp : Nat) ∧ (sp : Int) < 4 := by
        have h5 := pick_mem (xs := [0, 0, 1, 2]) hr5
        have h6 := pick_mem (xs := [3, ([0, 0, 1, 2] : List Int).getD r5 0, (r6 : Int)]) hwy
        simp only [List.mem_cons, List.not_mem_nil, or_false] at h5 h6
        refine ⟨(([3, ([0, 0, 1, 2] : List Int).getD r5 0, (r6 : Int)] : List Int).getD wy 0).toNat, ?_, ?_⟩ <;> rcases h6 with e | e | e <;> rw [e] <;> rcases h5 with e | e | e | e <;> omega
      obtain ⟨sp, es, hsp⟩ := hs
      rw [es]
      refine (bd_cons (sd_expr (fun _ => rfl) (ed_append 7 a7 rfl (fun _ => rfl) (fun _ => rfl) rfl (fun _ => rfl) (ek_ed (ed_ixD (fun _ _ => rfl) (ek_loan 9 a9 rfl (ek_ed (ed_name 10 a10 rfl (IxD.mk rfl rfl (pick [_, _, _, _] hsp) ⟨_, _, rfl, rfl, ?_, (bd_nil ?_)⟩)))))))))
      · rw [List.length_map, List.length_range]; omega
      · have hv : ∃ v : Nat, ([((t x y : Nat) : Int), ((t x y : Nat) : Int) + (p1 : Nat), if ((t x y : Nat) : Int) - (p2 : Nat) > 0 then ((t x y : Nat) : Int) - (p2 : Nat) else 0, ((p3 : Nat) : Int)] : List Int).getD sp 0 = (v : Nat) ∧ v < 10 ^ 40 := by
          have h := pick_mem (xs := [((t x y : Nat) : Int), ((t x y : Nat) : Int) + (p1 : Nat), if ((t x y : Nat) : Int) - (p2 : Nat) > 0 then ((t x y : Nat) : Int) - (p2 : Nat) else 0, ((p3 : Nat) : Int)]) hsp
          simp only [List.mem_cons, List.not_mem_nil, or_false] at h
          rw [n39] at hday
          rw [n40]
          rcases h with e | e | e | e <;> rw [e]
          · exact ⟨t x y, rfl, by omega⟩
          · exact ⟨t x y + p1, by omega, by omega⟩
          · split
            · exact ⟨t x y - p2, by omega, by omega⟩
            · exact ⟨0, rfl, by omega⟩
          · exact ⟨p3, rfl, by omega⟩
        obtain ⟨v, ev, hv⟩ := hv
        obtain ⟨g, eg, hg⟩ := snocR (f := f) (y := y) (v := v)
        refine ⟨g, ds, .dt (.int (t x y : Nat)), .ow [.int (t x y : Nat), .int ((t x y : Nat) + (p1 : Nat)), .int (if ((t x y : Nat) : Int) - (p2 : Nat) > 0 then ((t x y : Nat) : Int) - (p2 : Nat) else 0), .int (p3 : Nat)], .dt (.int (sp : Nat)), fun b => ?_, hp.mono (by omega), ?_⟩
        · rcases hg b with e | e <;> rw [e]
          · exact hf b
          · exact hv
        · rw [← eg, ← ev]
          rfl
    · rintro Γ2 ⟨f, ds, u8, u9, u10, hf, hp, rfl⟩
      rw [List.length_map, List.length_range] at hp ⊢
      refine (bd_cons (sd_expr (fun _ => rfl) (ed_append 5 a5 rfl (fun _ => rfl) (fun _ => rfl) rfl (fun _ => rfl) (ek_ed (ed_tuple (fun _ => rfl) m_tuple (fun _ => rfl) (ek_loan 7 a7 rfl ⟨_, rfl, ⟨_, _, rfl, rfl, ?_, (bd_nil ?_)⟩⟩))))))
      · unfold rows
        rw [List.length_map, List.length_range]; omega
      · refine ⟨grow q x f, ds, .dt (.tup ((List.range x).map fun y => .int (t x y : Nat))), .ow ((List.range x).map fun b => .int (f b : Nat)), u8, u9, u10, fun a b => ?_, hp.mono (by omega), ?_⟩
        · unfold grow
          split
          · exact hf b
          · exact hq2 a b
        · rw [← rows_grow]
          rfl
  · rintro Γ2 ⟨q, ds, u6, u7, u8, u9, u10, hq2, hp, rfl⟩
    rw [List.length_map, List.length_range] at hp ⊢
    refine (bd_cons (sd_ret (ed_tuple (fun _ => rfl) m_tuple (fun _ => rfl) (ek_loan 5 a5 rfl ⟨_, rfl, ?_⟩))))
    exact hq q N ds N1 N2 hq2 (hp.mono (by omega))
end
end K24

/-! what laws bend: tables that are none -/
namespace DL
open PySem PySem.Spec
open PyProof.Rows L2

/-! ### values that the law bends -/
def Ints (xs : List Dt) : Prop := ∀ x ∈ xs, ∃ v : Int, x = .int v ∧ v.natAbs < 10 ^ 43
def RowOk (e : Dt) : Prop := ∃ xs, e = .tup xs ∧ xs.length ≤ 60 ∧ Ints xs
def TabOk (ks : List Dt) : Prop := ks.length ≤ 60 ∧ ∀ e ∈ ks, RowOk e
def Odd (d : Dt) : Prop := (Knds d ∧ Knd3 d) ∧ (Sh 1 3 false d ∨ (Sh 1 3 true d ∧ d.noL = true))
def Good (e : Dt) : Prop := Knd3 e ∧ ∃ pd, Shows e pd
theorem cut_len (ds : List Dt) (l u : Option Int) : (DL.cutD ds l u).length ≤ ds.length := by
  unfold DL.cutD
  rw [List.length_take, List.length_drop]; omega
theorem cut_mem {ds : List Dt} {l u : Option Int} {x : Dt} (h : x ∈ DL.cutD ds l u) : x ∈ ds := by
  unfold DL.cutD at h
  exact List.mem_of_mem_drop (List.mem_of_mem_take h)
theorem Ints.cut {ds : List Dt} {l u : Option Int} (h : Ints ds) : Ints (DL.cutD ds l u) := fun x hx => h x (cut_mem hx)
theorem Ints.app {a b : List Dt} (h : Ints a) (h2 : Ints b) : Ints (a ++ b) := fun x hx => (List.mem_append.mp hx).elim (h x) (h2 x)
theorem Ints.one {v : Int} (h : v.natAbs < 10 ^ 43) : Ints [.int v] := fun x hx => ⟨v, List.mem_singleton.mp hx, h⟩
theorem odd_row {e : Dt} (h : RowOk e) : Knds e ∧ Sh 60 1 false e ∧ e.noL = true := by
  obtain ⟨xs, rfl, hl, hi⟩ := h
  refine ⟨⟨⟨_, rfl⟩, fun ds z => ?_⟩, ?_, noL_tup fun x hx => ?_⟩
  · cases z
    exact ⟨by omega, fun x hx => by obtain ⟨v, rfl, _⟩ := hi x hx; exact knd_int v⟩
  · refine (sh_tup (b := 0) (q := 0) (D := false) fun x hx => ?_).mono (by omega) (Nat.le_refl _) id
    obtain ⟨v, rfl, hv⟩ := hi x hx
    exact sh_int (by omega)
  · obtain ⟨v, rfl, _⟩ := hi x hx
    rfl
theorem good_of {ks : List Dt} (hl : ks.length ≤ 50) (h : (∀ e ∈ ks, Knds e ∧ Sh 90 5 false e) ∨ (∀ e ∈ ks, Knds e ∧ Sh 90 5 true e ∧ e.noL = true)) : Good (.tup ks) := by
  have hK : Knd3 (.tup ks) := ⟨⟨_, rfl⟩, fun ds z => by
    cases z
    exact ⟨by omega, fun e he => h.elim (fun h => (h e he).1) fun h => (h e he).1⟩⟩
  have hm : ks.length * (90 + 1) ≤ 5000 := by omega
  rcases h with h | h
  · exact ⟨hK, (sh_tup fun e he => (h e he).2).shows hm (by decide) fun z => by cases z⟩
  · exact ⟨hK, (sh_tup fun e he => (h e he).2.1).shows hm (by decide) fun _ => noL_tup fun e he => (h e he).2.2⟩
theorem good3 {ks : List Dt} (hk : ks.length ≤ 20) (hr : ∀ e ∈ ks, RowOk e) {e : Dt} (h : (Knds e ∧ Sh 90 5 false e) ∨ (Knds e ∧ Sh 90 5 true e ∧ e.noL = true)) (l u l' u' : Option Int) : Good (.tup (DL.cutD ks l u ++ [e].reverse ++ DL.cutD ks l' u')) := by
  have c1 := cut_len ks l u
  have c2 := cut_len ks l' u'
  refine good_of (by simp only [List.length_append, List.length_reverse, List.length_cons, List.length_nil]; omega) ?_
  have mem : ∀ y ∈ DL.cutD ks l u ++ [e].reverse ++ DL.cutD ks l' u', RowOk y ∨ y = e := fun y hy => by
    rcases (List.mem_append.mp hy) with hy | hy
    · rcases (List.mem_append.mp hy) with hy | hy
      · exact .inl (hr y (cut_mem hy))
      · exact .inr (by simpa using hy)
    · exact .inl (hr y (cut_mem hy))
  rcases h with h | h
  · refine .inl fun y hy => ?_
    rcases mem y hy with z | rfl
    · exact ⟨(odd_row z).1, (odd_row z).2.1.mono (by decide) (by decide) id⟩
    · exact h
  · refine .inr fun y hy => ?_
    rcases mem y hy with z | rfl
    · exact ⟨(odd_row z).1, (odd_row z).2.1.mono (by decide) (by decide) (fun w => nomatch w), (odd_row z).2.2⟩
    · exact h
theorem odd_int {v : Int} (h : v.natAbs < 10 ^ 45) : Odd (.int v) := ⟨⟨⟨⟨_, rfl⟩, fun ds z => by cases z⟩, ⟨⟨_, rfl⟩, fun ds z => by cases z⟩⟩, .inl ((sh_int h).mono (by decide) (by decide) id)⟩
theorem odd_bl (b : Bool) : Odd (.bl b) := ⟨⟨⟨⟨_, rfl⟩, fun ds z => by cases z⟩, ⟨⟨_, rfl⟩, fun ds z => by cases z⟩⟩, .inl ((sh_bl b).mono (by decide) (by decide) id)⟩
theorem odd_non : Odd .non := ⟨⟨⟨⟨_, rfl⟩, fun ds z => by cases z⟩, ⟨⟨_, rfl⟩, fun ds z => by cases z⟩⟩, .inl (sh_non.mono (by decide) (by decide) id)⟩
theorem odd_str : Odd (.str "1") := ⟨⟨⟨⟨_, rfl⟩, fun ds z => by cases z⟩, ⟨⟨_, rfl⟩, fun ds z => by cases z⟩⟩, .inl ((sh_str (x := "1") (by decide +kernel)).mono (by decide +kernel) (by decide) id)⟩
theorem knds_int (v : Int) : Knds (.int v) := ⟨⟨_, rfl⟩, fun ds z => by cases z⟩
theorem odd_t0 : Odd (.tup []) := by
  refine ⟨⟨⟨⟨_, rfl⟩, fun ds z => ?_⟩, ⟨⟨_, rfl⟩, fun ds z => ?_⟩⟩, .inl ((sh_tup (b := 0) (q := 0) (D := false) fun e he => ?_).mono (by decide) (by decide) id)⟩
  · cases z
    exact ⟨by decide, fun e he => by cases he⟩
  · cases z
    exact ⟨by decide, fun e he => by cases he⟩
  · cases he
theorem odd_t1 : Odd (.tup [.int 1]) := by
  refine ⟨⟨⟨⟨_, rfl⟩, fun ds z => ?_⟩, ⟨⟨_, rfl⟩, fun ds z => ?_⟩⟩, .inl ((sh_tup (b := 0) (q := 0) (D := false) fun e he => ?_).mono (by decide) (by decide) id)⟩
  · cases z
    exact ⟨by decide, fun e he => by rw [List.mem_singleton.mp he]; exact knd_int 1⟩
  · cases z
    exact ⟨by decide, fun e he => by rw [List.mem_singleton.mp he]; exact knds_int 1⟩
  · rw [List.mem_singleton.mp he]
    exact sh_int (by decide)
theorem odd_l1 : Odd (.lst [.int 1]) := ⟨⟨⟨⟨_, rfl⟩, fun ds z => by cases z⟩, ⟨⟨_, rfl⟩, fun ds z => by cases z⟩⟩, .inl ((sh_lst (b := 0) (q := 0) (D := false) fun e he => by rw [List.mem_singleton.mp he]; exact sh_int (by decide)).mono (by decide) (by decide) id)⟩
theorem odd_d : Odd (.dct [] []) := ⟨⟨⟨⟨_, rfl⟩, fun ds z => by cases z⟩, ⟨⟨_, rfl⟩, fun ds z => by cases z⟩⟩, .inr ⟨sh_dct.mono (by decide) (by decide) id, rfl⟩⟩
theorem odd_part {o : Dt} (h : Odd o) : (Knds o ∧ Sh 90 5 false o) ∨ (Knds o ∧ Sh 90 5 true o ∧ o.noL = true) := h.2.elim (fun z => .inl ⟨h.1.1, z.mono (by decide) (by decide) id⟩) fun z => .inr ⟨h.1.1, z.1.mono (by decide) (by decide) id, z.2⟩
theorem good_odd {o : Dt} (h : Odd o) : Good o := ⟨h.1.2, h.2.elim (fun z => z.shows (by decide) (by decide) fun w => nomatch w) fun z => z.1.shows (by decide) (by decide) fun _ => z.2⟩
theorem good_rows {l : List Dt} (hl : l.length ≤ 50) (h : ∀ e ∈ l, RowOk e) : Good (.tup l) := good_of hl (.inl fun e he => ⟨(odd_row (h e he)).1, (odd_row (h e he)).2.1.mono (by decide) (by decide) id⟩)
theorem good_snoc {l : List Dt} {o : Dt} (hl : l.length ≤ 20) (h : ∀ e ∈ l, RowOk e) (ho : Odd o) : Good (.tup (l ++ [o].reverse)) := by
  refine good_of (by simp only [List.length_append, List.length_reverse, List.length_cons, List.length_nil]; omega) ?_
  have mem : ∀ y ∈ l ++ [o].reverse, RowOk y ∨ y = o := fun y hy => (List.mem_append.mp hy).elim (fun z => .inl (h y z)) fun z => .inr (by simpa using z)
  rcases odd_part ho with z | z
  · refine .inl fun y hy => ?_
    rcases mem y hy with w | rfl
    · exact ⟨(odd_row w).1, (odd_row w).2.1.mono (by decide) (by decide) id⟩
    · exact z
  · refine .inr fun y hy => ?_
    rcases mem y hy with w | rfl
    · exact ⟨(odd_row w).1, (odd_row w).2.1.mono (by decide) (by decide) (fun w => nomatch w), (odd_row w).2.2⟩
    · exact z
theorem good_one {o : Dt} (ho : Odd o) : Good (.tup [o].reverse) := good_snoc (l := []) (by decide) (fun e he => by cases he) ho
theorem good_lst {l : List Dt} (hl : l.length ≤ 60) (h : ∀ e ∈ l, RowOk e) : Good (.lst l) := by
  refine ⟨⟨⟨_, rfl⟩, fun ds z => by cases z⟩, (sh_lst (b := 60) (q := 1) (D := false) fun e he => (odd_row (h e he)).2.1).shows (by omega) (by decide) fun w => nomatch w⟩
theorem good_row {xs : List Dt} (h : RowOk (.tup xs)) : Good (.tup xs) := by
  obtain ⟨ys, e, hl, hi⟩ := h
  cases e
  refine ⟨⟨⟨_, rfl⟩, fun ds z => ?_⟩, ?_⟩
  · cases z
    exact ⟨by omega, fun x hx => by obtain ⟨v, rfl, _⟩ := hi x hx; exact knds_int v⟩
  · exact (odd_row ⟨_, rfl, hl, hi⟩).2.1.shows (by decide) (by decide) fun w => nomatch w
theorem good_in {l : List Dt} (hl : l.length ≤ 60) (h : ∀ e ∈ l, RowOk e) : Good (.tup [.tup l].reverse) := by
  refine ⟨⟨⟨_, rfl⟩, fun ds z => ?_⟩, ?_⟩
  · cases z
    refine ⟨le1 rfl, fun x hx => ?_⟩
    rw [List.mem_singleton.mp hx]
    refine ⟨⟨_, rfl⟩, fun ds z => ?_⟩
    cases z
    exact ⟨by omega, fun e he => (odd_row (h e he)).1.1⟩
  · have s1 := sh_tup (b := 60) (q := 1) (D := false) (ds := l) fun e he => (odd_row (h e he)).2.1
    have s2 : Sh 3700 2 false (.tup l) := s1.mono (by omega) (by decide) id
    exact (sh_tup (b := 3700) (q := 2) (D := false) (ds := [.tup l]) fun e he => by rw [List.mem_singleton.mp he]; exact s2).shows (le1 rfl) (by decide) fun w => nomatch w
theorem odd_line {xs : List Dt} (hl : xs.length ≤ 20) (hi : Ints xs) {o : Dt} (ho : Odd o) (l u l' u' : Option Int) : (Knds (.tup (DL.cutD xs l u ++ [o].reverse ++ DL.cutD xs l' u')) ∧ Sh 90 5 false (.tup (DL.cutD xs l u ++ [o].reverse ++ DL.cutD xs l' u'))) ∨
    (Knds (.tup (DL.cutD xs l u ++ [o].reverse ++ DL.cutD xs l' u')) ∧ Sh 90 5 true (.tup (DL.cutD xs l u ++ [o].reverse ++ DL.cutD xs l' u')) ∧ (Dt.tup (DL.cutD xs l u ++ [o].reverse ++ DL.cutD xs l' u')).noL = true) := by
  have c1 := cut_len xs l u
  have c2 := cut_len xs l' u'
  have hz : (DL.cutD xs l u ++ [o].reverse ++ DL.cutD xs l' u').length ≤ 41 := by
    simp only [List.length_append, List.length_reverse, List.length_cons, List.length_nil]
    omega
  have mem : ∀ y ∈ DL.cutD xs l u ++ [o].reverse ++ DL.cutD xs l' u', (∃ v : Int, y = .int v ∧ v.natAbs < 10 ^ 43) ∨ y = o := fun y hy => by
    rcases (List.mem_append.mp hy) with hy | hy
    · rcases (List.mem_append.mp hy) with hy | hy
      · exact .inl (hi y (cut_mem hy))
      · exact .inr (by simpa using hy)
    · exact .inl (hi y (cut_mem hy))
  generalize DL.cutD xs l u ++ [o].reverse ++ DL.cutD xs l' u' = row at hz mem
  have hK : Knds (.tup row) := ⟨⟨_, rfl⟩, fun ds z => by
    cases z
    refine ⟨by omega, fun y hy => ?_⟩
    rcases mem y hy with ⟨v, rfl, _⟩ | rfl
    · exact knd_int v
    · exact ho.1.1.1⟩
  rcases ho.2 with z | z
  · refine .inl ⟨hK, (sh_tup (b := 1) (q := 3) (D := false) fun y hy => ?_).mono (by omega) (by decide) id⟩
    rcases mem y hy with ⟨v, rfl, hv⟩ | rfl
    · exact (sh_int (by omega)).mono (by decide) (by decide) id
    · exact z
  · refine .inr ⟨hK, (sh_tup (b := 1) (q := 3) (D := true) fun y hy => ?_).mono (by omega) (by decide) id, noL_tup fun y hy => ?_⟩
    · rcases mem y hy with ⟨v, rfl, hv⟩ | rfl
      · exact (sh_int (by omega)).mono (by decide) (by decide) fun w => nomatch w
      · exact z.1
    · rcases mem y hy with ⟨v, rfl, _⟩ | rfl
      · rfl
      · exact z.2
theorem row_nil : RowOk (.tup [].reverse) := ⟨[], rfl, by decide, fun x hx => by cases hx⟩
theorem lst_row {xs : List Dt} (hl : xs.length ≤ 20) (hi : Ints xs) : Knds (.lst xs) ∧ Sh 90 5 false (.lst xs) := ⟨⟨⟨_, rfl⟩, fun ds z => by cases z⟩, (sh_lst (b := 0) (q := 0) (D := false) fun x hx => by
  obtain ⟨v, rfl, hv⟩ := hi x hx
  exact sh_int (by omega)).mono (by omega) (by decide) id⟩
theorem good_str {x : Str} (h : (x.cps.toList.all fun c => decide (c < 16 ^ 8)) = true) (hz : x.cps.size ≤ 5000) : Good (.str x) := ⟨⟨⟨_, rfl⟩, fun ds z => by cases z⟩, (sh_str h).shows hz (by decide) fun w => nomatch w⟩
theorem cut_at {ks : List Dt} {a : Nat} (h : a ≤ ks.length) : (DL.cutD ks none (some (a : Nat))).length = a := by
  unfold DL.cutD
  have e1 : HT.sIx ks.length 0 none = 0 := rfl
  have e2 : HT.sIx ks.length ks.length (some (a : Int)) = min a ks.length := HT.sIx_nat _ _ _
  rw [e1, e2, List.length_take, List.length_drop]
  omega
theorem isTbl_bad {ds : List Dt} {j : Nat} {e : Dt} (h : ds[j]? = some e) (b : isRow j e = false) : isTbl (.tup ds) = false := by
  show (!ds.isEmpty && ds.zipIdx.all fun p => isRow p.2 p.1) = false
  have : (ds.zipIdx.all fun p => isRow p.2 p.1) = false := by
    rw [List.all_eq_false]
    refine ⟨(e, j), ?_, by rw [b]; decide⟩
    rw [List.mem_zipIdx_iff_getElem?]
    exact h
  rw [this, Bool.and_false]
theorem put_bad {ks : List Dt} {a : Nat} (h : a < ks.length) {e : Dt} (b : isRow a e = false) (l u : Option Int) : isTbl (.tup (DL.cutD ks none (some (a : Nat)) ++ [e].reverse ++ DL.cutD ks l u)) = false := by
  refine isTbl_bad (j := a) (e := e) ?_ b
  have c := cut_at (ks := ks) (a := a) (by omega)
  rw [List.append_assoc, List.getElem?_append_right (by omega), c, Nat.sub_self]
  rfl
theorem row_bad {n : Nat} {ds : List Dt} {o : Dt} (h : o ∈ ds) (b : isGe 0 o = false) : isRow n (.tup ds) = false := by
  show (decide (ds.length = n) && ds.all (isGe 0)) = false
  have : ds.all (isGe 0) = false := by
    rw [List.all_eq_false]
    exact ⟨o, h, by rw [b]; decide⟩
  rw [this, Bool.and_false]
theorem row_len {n : Nat} {ds : List Dt} (h : ds.length ≠ n) : isRow n (.tup ds) = false := by
  show (decide (ds.length = n) && ds.all (isGe 0)) = false
  rw [decide_eq_false h, Bool.false_and]
theorem getD_all {l : List Dt} {p : Dt → Prop} {r : Nat} (h : ∀ e ∈ l, p e) (h1 : (r : Int) < (l.length : Nat)) : p (l.getD r .non) := by
  have hj : r < l.length := by omega
  rw [List.getD_eq_getElem?_getD, List.getElem?_eq_getElem hj]
  exact h _ (List.getElem_mem hj)
theorem pickD (l : List Dt) {r : Nat} (h : (r : Int) < (l.length : Nat)) : atI l (r : Int) = some (l.getD r .non) := by
  have hj : r < l.length := by omega
  refine DL.atI_get ?_
  rw [List.getD_eq_getElem?_getD, List.getElem?_eq_getElem hj]; rfl
end DL
namespace DL
open PySem PySem.Spec
open PyProof.Rows L2
theorem odd_gen {row : List Dt} {o : Dt} (ho : Odd o) (hz : row.length ≤ 41) (mem : ∀ y ∈ row, (∃ v : Int, y = .int v ∧ v.natAbs < 10 ^ 43) ∨ y = o) : (Knds (.tup row) ∧ Sh 90 5 false (.tup row)) ∨ (Knds (.tup row) ∧ Sh 90 5 true (.tup row) ∧ (Dt.tup row).noL = true) := by
  have hK : Knds (.tup row) := ⟨⟨_, rfl⟩, fun ds z => by
    cases z
    refine ⟨by omega, fun y hy => ?_⟩
    rcases mem y hy with ⟨v, rfl, _⟩ | rfl
    · exact knd_int v
    · exact ho.1.1.1⟩
  rcases ho.2 with z | z
  · refine .inl ⟨hK, (sh_tup (b := 1) (q := 3) (D := false) fun y hy => ?_).mono (by omega) (by decide) id⟩
    rcases mem y hy with ⟨v, rfl, hv⟩ | rfl
    · exact (sh_int (by omega)).mono (by decide) (by decide) id
    · exact z
  · refine .inr ⟨hK, (sh_tup (b := 1) (q := 3) (D := true) fun y hy => ?_).mono (by omega) (by decide) id, noL_tup fun y hy => ?_⟩
    · rcases mem y hy with ⟨v, rfl, hv⟩ | rfl
      · exact (sh_int (by omega)).mono (by decide) (by decide) fun w => nomatch w
      · exact z.1
    · rcases mem y hy with ⟨v, rfl, _⟩ | rfl
      · rfl
      · exact z.2
theorem odd_s0 : Odd (.str "") := ⟨⟨⟨⟨_, rfl⟩, fun ds z => by cases z⟩, ⟨⟨_, rfl⟩, fun ds z => by cases z⟩⟩, .inl ((sh_str (x := "") (by decide +kernel)).mono (by decide +kernel) (by decide) id)⟩
theorem odd_l0 : Odd (.lst []) := ⟨⟨⟨⟨_, rfl⟩, fun ds z => by cases z⟩, ⟨⟨_, rfl⟩, fun ds z => by cases z⟩⟩, .inl ((sh_lst (b := 0) (q := 0) (D := false) fun e he => by cases he).mono (by decide) (by decide) id)⟩
theorem cut_from {ks : List Dt} {a : Nat} (h : a ≤ ks.length) : DL.cutD ks (some (a : Nat)) none = ks.drop a := by
  unfold DL.cutD
  have e1 : HT.sIx ks.length 0 (some (a : Int)) = min a ks.length := HT.sIx_nat _ _ _
  have e2 : HT.sIx ks.length ks.length none = ks.length := rfl
  rw [e1, e2, Nat.min_eq_left h, List.take_of_length_le (by rw [List.length_drop]; omega)]
end DL

namespace K24
open N24 PySem PySem.Spec PyProof.Rows L2 DL
abbrev s__law_no_table : Stmt := topS 47
theorem sc__law_no_table : FnScope ["source", "days_here", "many", "odd", "one", "two", "row_here", "rows_here", "bad", "bent", "some"] ["source", "days_here"] (defScope s__law_no_table) := ⟨rfl, rfl, rfl, by decide +kernel, rfl, by decide +kernel, by decide +kernel⟩
def dsNoTab : DSp := fun as post => ∃ (n : Int) (t : Nat → Nat → Nat) (N : Nat) (ds : List Dt), as = [.ow ds, .dt (tabD t N)] ∧ Pail n ds ∧ 0 ≤ n ∧ n ≤ 1000000 ∧ 1 ≤ N ∧ N ≤ 20 ∧ (∀ x y, t x y < 10 ^ 40) ∧
  ∀ d ds', Good d → isTbl d = false → Pail (n + 10) ds' → post (.dt d) [.ow ds', .un]
theorem rows_len {t : Nat → Nat → Nat} {n : Nat} : (rows t n).length = n := by unfold rows; rw [List.length_map, List.length_range]
def rowD (t : Nat → Nat → Nat) (a : Nat) : List Dt := (List.range a).map fun y => .int (t a y : Nat)
theorem rowD_len {t : Nat → Nat → Nat} {a : Nat} : (rowD t a).length = a := by unfold rowD; rw [List.length_map, List.length_range]
theorem rowD_ints {t : Nat → Nat → Nat} {a : Nat} (ht : ∀ x y, t x y < 10 ^ 40) : Ints (rowD t a) := fun x hx => by
  obtain ⟨y, _, rfl⟩ := List.mem_map.mp hx
  refine ⟨_, rfl, ?_⟩
  have := ht a y
  have e1 : (10 : Nat) ^ 40 = 10000000000000000000000000000000000000000 := by decide
  have e2 : (10 : Nat) ^ 43 = 10000000000000000000000000000000000000000000 := by decide
  rw [e1] at this
  rw [e2]
  omega
theorem rows_ok {t : Nat → Nat → Nat} {n : Nat} (hn : n ≤ 20) (ht : ∀ x y, t x y < 10 ^ 40) : ∀ e ∈ rows t n, RowOk e := fun e he => by
  obtain ⟨a, ha, rfl⟩ := List.mem_map.mp he
  have := List.mem_range.mp ha
  exact ⟨rowD t a, rfl, by rw [rowD_len]; omega, rowD_ints ht⟩
theorem rows_get {t : Nat → Nat → Nat} {n a : Nat} (h : a < n) : (rows t n)[a]? = some (.tup (rowD t a)) := by
  unfold rows
  rw [List.getElem?_map, List.getElem?_range h]; rfl
theorem no_first {t : Nat → Nat → Nat} {n : Nat} : isTbl (.tup (DL.cutD (rows t n) (some 1) none)) = false := by
  by_cases h : 1 ≤ n
  · rw [show ((1 : Int)) = ((1 : Nat) : Int) from rfl, cut_from (by rw [rows_len]; exact h)]
    by_cases h2 : 2 ≤ n
    · refine isTbl_bad (j := 0) (e := .tup (rowD t 1)) ?_ (row_len (by rw [rowD_len]; decide))
      rw [List.getElem?_drop]
      exact rows_get (by omega)
    · rw [List.drop_eq_nil_of_le (by rw [rows_len]; omega)]; rfl
  · obtain rfl : n = 0 := by omega
    rfl
theorem no_twice {t : Nat → Nat → Nat} {n : Nat} (h : 1 ≤ n) : isTbl (.tup (rows t n ++ DL.cutD (rows t n) (some (-1)) none)) = false := by
  refine isTbl_bad (j := n) (e := .tup (rowD t (n - 1))) ?_ (row_len (n := n) (ds := rowD t (n - 1)) fun z => by rw [rowD_len] at z; omega)
  have e : DL.cutD (rows t n) (some (-1)) none = (rows t n).drop (n - 1) := by
    unfold DL.cutD
    have e1 : HT.sIx (rows t n).length 0 (some (-1)) = n - 1 := by
      show (if (-1 : Int) < 0 then ((-1 : Int) + ((rows t n).length : Nat)).toNat else min (-1 : Int).toNat (rows t n).length) = _
      rw [if_pos (by decide), rows_len]
      omega
    have e2 : HT.sIx (rows t n).length (rows t n).length none = n := rows_len
    rw [e1, e2, List.take_of_length_le (by rw [List.length_drop, rows_len]; exact Nat.le_refl _)]
  rw [e, List.getElem?_append_right (by rw [rows_len]; exact Nat.le_refl _), rows_len, Nat.sub_self, List.getElem?_drop]
  exact rows_get (by omega)
section
variable {P : Program} {w : World} {K : PySem.W.Frag} [Tb K] {mg : Str → Option Value} {base : Heap}
theorem ok__law_no_table {f__law_draw : Addr} {d__law_draw : FuncData} (G__law_draw : FnG P w K mg base 1 f__law_draw d__law_draw ["source", "many"] (spD K dsDip)) (g__law_draw : mg "_law_draw" = some (.ref f__law_draw)) (k__law_draw : PySem.W.keepIn K (.ref f__law_draw) = true) (b__law_draw : Binds K d__law_draw ["source", "many"] []) (m_len : mg "len" = none) (m_list : mg "list" = none) {f : Addr} {fd : FuncData} (F : Fun K "_law_no_table" "_law_no_table" s__law_no_table f fd) : FnG P w K mg base 2 f fd ["source", "days_here"] (spD K dsNoTab) := by
  refine FnG.of F sc__law_no_table (fun as post h => by obtain ⟨_, _, _, _, h⟩ := h; rw [h.1]; rfl) fun cdv A outer s H vs fo as post hr hgu hD => ?_
  obtain ⟨n, t, N, ds, rfl, hp, hn0, hn, hN1, hN2, ht, hq⟩ := hD
  have a0 : At (coreOf P w K mg base (A.deeper (envOfC "_law_no_table" (defScope s__law_no_table) s.heap.objs.size f cdv)) ["source", "days_here", "many", "odd", "one", "two", "row_here", "rows_here", "bad", "bent", "some"] ((envOfC "_law_no_table" (defScope s__law_no_table) s.heap.objs.size f cdv) :: outer)) (varOf s H (envOfC "_law_no_table" (defScope s__law_no_table) s.heap.objs.size f cdv) outer) "source" 0 := ⟨rfl, fun _ => by first | exact .inl rfl | exact .inr (.inl rfl), by decide, by decide⟩
  have s0 : AtS (coreOf P w K mg base (A.deeper (envOfC "_law_no_table" (defScope s__law_no_table) s.heap.objs.size f cdv)) ["source", "days_here", "many", "odd", "one", "two", "row_here", "rows_here", "bad", "bent", "some"] ((envOfC "_law_no_table" (defScope s__law_no_table) s.heap.objs.size f cdv) :: outer)) (varOf s H (envOfC "_law_no_table" (defScope s__law_no_table) s.heap.objs.size f cdv) outer) "source" 0 := ⟨sc__law_no_table.nd, rfl, fun _ => by first | exact .inl rfl | exact .inr rfl, fun _ => .inl rfl⟩
  have a1 : At (coreOf P w K mg base (A.deeper (envOfC "_law_no_table" (defScope s__law_no_table) s.heap.objs.size f cdv)) ["source", "days_here", "many", "odd", "one", "two", "row_here", "rows_here", "bad", "bent", "some"] ((envOfC "_law_no_table" (defScope s__law_no_table) s.heap.objs.size f cdv) :: outer)) (varOf s H (envOfC "_law_no_table" (defScope s__law_no_table) s.heap.objs.size f cdv) outer) "days_here" 1 := ⟨rfl, fun _ => by first | exact .inl rfl | exact .inr (.inl rfl), by decide, by decide⟩
  have s1 : AtS (coreOf P w K mg base (A.deeper (envOfC "_law_no_table" (defScope s__law_no_table) s.heap.objs.size f cdv)) ["source", "days_here", "many", "odd", "one", "two", "row_here", "rows_here", "bad", "bent", "some"] ((envOfC "_law_no_table" (defScope s__law_no_table) s.heap.objs.size f cdv) :: outer)) (varOf s H (envOfC "_law_no_table" (defScope s__law_no_table) s.heap.objs.size f cdv) outer) "days_here" 1 := ⟨sc__law_no_table.nd, rfl, fun _ => by first | exact .inl rfl | exact .inr rfl, fun _ => .inl rfl⟩
  have a2 : At (coreOf P w K mg base (A.deeper (envOfC "_law_no_table" (defScope s__law_no_table) s.heap.objs.size f cdv)) ["source", "days_here", "many", "odd", "one", "two", "row_here", "rows_here", "bad", "bent", "some"] ((envOfC "_law_no_table" (defScope s__law_no_table) s.heap.objs.size f cdv) :: outer)) (varOf s H (envOfC "_law_no_table" (defScope s__law_no_table) s.heap.objs.size f cdv) outer) "many" 2 := ⟨rfl, fun _ => by first | exact .inl rfl | exact .inr (.inl rfl), by decide, by decide⟩
  have s2 : AtS (coreOf P w K mg base (A.deeper (envOfC "_law_no_table" (defScope s__law_no_table) s.heap.objs.size f cdv)) ["source", "days_here", "many", "odd", "one", "two", "row_here", "rows_here", "bad", "bent", "some"] ((envOfC "_law_no_table" (defScope s__law_no_table) s.heap.objs.size f cdv) :: outer)) (varOf s H (envOfC "_law_no_table" (defScope s__law_no_table) s.heap.objs.size f cdv) outer) "many" 2 := ⟨sc__law_no_table.nd, rfl, fun _ => by first | exact .inl rfl | exact .inr rfl, fun _ => .inl rfl⟩
  have a3 : At (coreOf P w K mg base (A.deeper (envOfC "_law_no_table" (defScope s__law_no_table) s.heap.objs.size f cdv)) ["source", "days_here", "many", "odd", "one", "two", "row_here", "rows_here", "bad", "bent", "some"] ((envOfC "_law_no_table" (defScope s__law_no_table) s.heap.objs.size f cdv) :: outer)) (varOf s H (envOfC "_law_no_table" (defScope s__law_no_table) s.heap.objs.size f cdv) outer) "odd" 3 := ⟨rfl, fun _ => by first | exact .inl rfl | exact .inr (.inl rfl), by decide, by decide⟩
  have s3 : AtS (coreOf P w K mg base (A.deeper (envOfC "_law_no_table" (defScope s__law_no_table) s.heap.objs.size f cdv)) ["source", "days_here", "many", "odd", "one", "two", "row_here", "rows_here", "bad", "bent", "some"] ((envOfC "_law_no_table" (defScope s__law_no_table) s.heap.objs.size f cdv) :: outer)) (varOf s H (envOfC "_law_no_table" (defScope s__law_no_table) s.heap.objs.size f cdv) outer) "odd" 3 := ⟨sc__law_no_table.nd, rfl, fun _ => by first | exact .inl rfl | exact .inr rfl, fun _ => .inl rfl⟩
  have a4 : At (coreOf P w K mg base (A.deeper (envOfC "_law_no_table" (defScope s__law_no_table) s.heap.objs.size f cdv)) ["source", "days_here", "many", "odd", "one", "two", "row_here", "rows_here", "bad", "bent", "some"] ((envOfC "_law_no_table" (defScope s__law_no_table) s.heap.objs.size f cdv) :: outer)) (varOf s H (envOfC "_law_no_table" (defScope s__law_no_table) s.heap.objs.size f cdv) outer) "one" 4 := ⟨rfl, fun _ => by first | exact .inl rfl | exact .inr (.inl rfl), by decide, by decide⟩
  have s4 : AtS (coreOf P w K mg base (A.deeper (envOfC "_law_no_table" (defScope s__law_no_table) s.heap.objs.size f cdv)) ["source", "days_here", "many", "odd", "one", "two", "row_here", "rows_here", "bad", "bent", "some"] ((envOfC "_law_no_table" (defScope s__law_no_table) s.heap.objs.size f cdv) :: outer)) (varOf s H (envOfC "_law_no_table" (defScope s__law_no_table) s.heap.objs.size f cdv) outer) "one" 4 := ⟨sc__law_no_table.nd, rfl, fun _ => by first | exact .inl rfl | exact .inr rfl, fun _ => .inl rfl⟩
  have a5 : At (coreOf P w K mg base (A.deeper (envOfC "_law_no_table" (defScope s__law_no_table) s.heap.objs.size f cdv)) ["source", "days_here", "many", "odd", "one", "two", "row_here", "rows_here", "bad", "bent", "some"] ((envOfC "_law_no_table" (defScope s__law_no_table) s.heap.objs.size f cdv) :: outer)) (varOf s H (envOfC "_law_no_table" (defScope s__law_no_table) s.heap.objs.size f cdv) outer) "two" 5 := ⟨rfl, fun _ => by first | exact .inl rfl | exact .inr (.inl rfl), by decide, by decide⟩
  have s5 : AtS (coreOf P w K mg base (A.deeper (envOfC "_law_no_table" (defScope s__law_no_table) s.heap.objs.size f cdv)) ["source", "days_here", "many", "odd", "one", "two", "row_here", "rows_here", "bad", "bent", "some"] ((envOfC "_law_no_table" (defScope s__law_no_table) s.heap.objs.size f cdv) :: outer)) (varOf s H (envOfC "_law_no_table" (defScope s__law_no_table) s.heap.objs.size f cdv) outer) "two" 5 := ⟨sc__law_no_table.nd, rfl, fun _ => by first | exact .inl rfl | exact .inr rfl, fun _ => .inl rfl⟩
  have a6 : At (coreOf P w K mg base (A.deeper (envOfC "_law_no_table" (defScope s__law_no_table) s.heap.objs.size f cdv)) ["source", "days_here", "many", "odd", "one", "two", "row_here", "rows_here", "bad", "bent", "some"] ((envOfC "_law_no_table" (defScope s__law_no_table) s.heap.objs.size f cdv) :: outer)) (varOf s H (envOfC "_law_no_table" (defScope s__law_no_table) s.heap.objs.size f cdv) outer) "row_here" 6 := ⟨rfl, fun _ => by first | exact .inl rfl | exact .inr (.inl rfl), by decide, by decide⟩
  have s6 : AtS (coreOf P w K mg base (A.deeper (envOfC "_law_no_table" (defScope s__law_no_table) s.heap.objs.size f cdv)) ["source", "days_here", "many", "odd", "one", "two", "row_here", "rows_here", "bad", "bent", "some"] ((envOfC "_law_no_table" (defScope s__law_no_table) s.heap.objs.size f cdv) :: outer)) (varOf s H (envOfC "_law_no_table" (defScope s__law_no_table) s.heap.objs.size f cdv) outer) "row_here" 6 := ⟨sc__law_no_table.nd, rfl, fun _ => by first | exact .inl rfl | exact .inr rfl, fun _ => .inl rfl⟩
  have a7 : At (coreOf P w K mg base (A.deeper (envOfC "_law_no_table" (defScope s__law_no_table) s.heap.objs.size f cdv)) ["source", "days_here", "many", "odd", "one", "two", "row_here", "rows_here", "bad", "bent", "some"] ((envOfC "_law_no_table" (defScope s__law_no_table) s.heap.objs.size f cdv) :: outer)) (varOf s H (envOfC "_law_no_table" (defScope s__law_no_table) s.heap.objs.size f cdv) outer) "rows_here" 7 := ⟨rfl, fun _ => by first | exact .inl rfl | exact .inr (.inl rfl), by decide, by decide⟩
  have s7 : AtS (coreOf P w K mg base (A.deeper (envOfC "_law_no_table" (defScope s__law_no_table) s.heap.objs.size f cdv)) ["source", "days_here", "many", "odd", "one", "two", "row_here", "rows_here", "bad", "bent", "some"] ((envOfC "_law_no_table" (defScope s__law_no_table) s.heap.objs.size f cdv) :: outer)) (varOf s H (envOfC "_law_no_table" (defScope s__law_no_table) s.heap.objs.size f cdv) outer) "rows_here" 7 := ⟨sc__law_no_table.nd, rfl, fun _ => by first | exact .inl rfl | exact .inr rfl, fun _ => .inl rfl⟩
  have a8 : At (coreOf P w K mg base (A.deeper (envOfC "_law_no_table" (defScope s__law_no_table) s.heap.objs.size f cdv)) ["source", "days_here", "many", "odd", "one", "two", "row_here", "rows_here", "bad", "bent", "some"] ((envOfC "_law_no_table" (defScope s__law_no_table) s.heap.objs.size f cdv) :: outer)) (varOf s H (envOfC "_law_no_table" (defScope s__law_no_table) s.heap.objs.size f cdv) outer) "bad" 8 := ⟨rfl, fun _ => by first | exact .inl rfl | exact .inr (.inl rfl), by decide, by decide⟩
  have s8 : AtS (coreOf P w K mg base (A.deeper (envOfC "_law_no_table" (defScope s__law_no_table) s.heap.objs.size f cdv)) ["source", "days_here", "many", "odd", "one", "two", "row_here", "rows_here", "bad", "bent", "some"] ((envOfC "_law_no_table" (defScope s__law_no_table) s.heap.objs.size f cdv) :: outer)) (varOf s H (envOfC "_law_no_table" (defScope s__law_no_table) s.heap.objs.size f cdv) outer) "bad" 8 := ⟨sc__law_no_table.nd, rfl, fun _ => by first | exact .inl rfl | exact .inr rfl, fun _ => .inl rfl⟩
  have a9 : At (coreOf P w K mg base (A.deeper (envOfC "_law_no_table" (defScope s__law_no_table) s.heap.objs.size f cdv)) ["source", "days_here", "many", "odd", "one", "two", "row_here", "rows_here", "bad", "bent", "some"] ((envOfC "_law_no_table" (defScope s__law_no_table) s.heap.objs.size f cdv) :: outer)) (varOf s H (envOfC "_law_no_table" (defScope s__law_no_table) s.heap.objs.size f cdv) outer) "bent" 9 := ⟨rfl, fun _ => by first | exact .inl rfl | exact .inr (.inl rfl), by decide, by decide⟩
  have s9 : AtS (coreOf P w K mg base (A.deeper (envOfC "_law_no_table" (defScope s__law_no_table) s.heap.objs.size f cdv)) ["source", "days_here", "many", "odd", "one", "two", "row_here", "rows_here", "bad", "bent", "some"] ((envOfC "_law_no_table" (defScope s__law_no_table) s.heap.objs.size f cdv) :: outer)) (varOf s H (envOfC "_law_no_table" (defScope s__law_no_table) s.heap.objs.size f cdv) outer) "bent" 9 := ⟨sc__law_no_table.nd, rfl, fun _ => by first | exact .inl rfl | exact .inr rfl, fun _ => .inl rfl⟩
  have a10 : At (coreOf P w K mg base (A.deeper (envOfC "_law_no_table" (defScope s__law_no_table) s.heap.objs.size f cdv)) ["source", "days_here", "many", "odd", "one", "two", "row_here", "rows_here", "bad", "bent", "some"] ((envOfC "_law_no_table" (defScope s__law_no_table) s.heap.objs.size f cdv) :: outer)) (varOf s H (envOfC "_law_no_table" (defScope s__law_no_table) s.heap.objs.size f cdv) outer) "some" 10 := ⟨rfl, fun _ => by first | exact .inl rfl | exact .inr (.inl rfl), by decide, by decide⟩
  have s10 : AtS (coreOf P w K mg base (A.deeper (envOfC "_law_no_table" (defScope s__law_no_table) s.heap.objs.size f cdv)) ["source", "days_here", "many", "odd", "one", "two", "row_here", "rows_here", "bad", "bent", "some"] ((envOfC "_law_no_table" (defScope s__law_no_table) s.heap.objs.size f cdv) :: outer)) (varOf s H (envOfC "_law_no_table" (defScope s__law_no_table) s.heap.objs.size f cdv) outer) "some" 10 := ⟨sc__law_no_table.nd, rfl, fun _ => by first | exact .inl rfl | exact .inr rfl, fun _ => .inl rfl⟩
  show BD _ _ _ _ _ [AV.ow ds, .dt (tabD t N), .un, .un, .un, .un, .un, .un, .un, .un, .un]
  have tabLen : ((List.range N).map fun x => Dt.tup ((List.range x).map fun y => .int (t x y : Nat))).length = N := by rw [List.length_map, List.length_range]
  refine (bd_cons (sd_par 2 3 s2 s3 (by decide) (fun _ => rfl) (fun _ => rfl) (fun _ => rfl) (fun _ => rfl) (fun _ => rfl) (fun _ => rfl) (lt1 rfl) (lt1 rfl) (nl rfl) (nl rfl) (ed_len (fun _ => rfl) m_len (fun _ => rfl) (ek_ed (ed_name 1 a1 rfl ⟨_, rfl, fun fo => (ed_ixD (fun _ _ => rfl) (ek_ed (ed_lst (ea_cons (fun _ => rfl) (ek_ed (ed_neg (ed_int ⟨_, rfl, (ea_cons (fun _ => rfl) (ek_ed (ed_non (ea_cons (fun _ => rfl) (ek_ed (ed_bl (ea_cons (fun _ => rfl) (ek_ed (ed_str (ea_cons (fun _ => rfl) (ek_ed (ed_tup (ea_cons (fun _ => rfl) (ek_ed (ed_int (ea_nil ⟨_, rfl, le1 rfl, (ea_cons (fun _ => rfl) (ek_ed (ed_lst (ea_cons (fun _ => rfl) (ek_ed (ed_int (ea_nil ⟨_, rfl, le1 rfl, (ea_cons (fun _ => rfl) (ek_ed (ed_dict0 (ea_cons (fun _ => rfl) (ek_ed (ed_sub (ek_ed (ed_int (ek_ed (ed_pow (ek_ed (ed_int (ek_ed (ed_int (IntR.mk rfl rfl ?_ (IntR.mk rfl rfl trivial (ea_nil ⟨_, rfl, le1 rfl, (ek_ed (ed_call G__law_draw (hr.mono (by decide)) hgu (fun _ => rfl) g__law_draw k__law_draw b__law_draw (by decide) (fun _ => rfl) (fun _ => rfl) (ea_cons (fun _ => rfl) (ek_loan 0 a0 rfl (ea_cons (fun _ => rfl) (ek_ed (ed_int (ea_nil ⟨_, rfl, rfl, ⟨_, _, _, rfl, hp, (by omega), (by first | decide | omega), (by first | decide | omega), fun r1 ds hr1 hp => fun _ => (IxD.mk rfl rfl (pickD _ hr1) ?_)⟩⟩))))))))⟩)))))))))))))))))⟩)))))))⟩))))))))))))))))⟩)))))))⟩)))))
  · exact powW_ok (n := 10) (by decide) (by decide) (by decide)
  rw [tabLen]
  generalize hgo : List.getD _ r1 Dt.non = o
  have hodd : Odd o ∧ isGe 0 o = false := by
    have hm : r1 = 0 ∨ r1 = 1 ∨ r1 = 2 ∨ r1 = 3 ∨ r1 = 4 ∨ r1 = 5 ∨ r1 = 6 ∨ r1 = 7 := by omega
    rcases hm with rfl | rfl | rfl | rfl | rfl | rfl | rfl | rfl
    · rw [← hgo]; exact ⟨odd_int (v := -1) (by decide), rfl⟩
    · rw [← hgo]; exact ⟨odd_non, rfl⟩
    · rw [← hgo]; exact ⟨odd_bl true, rfl⟩
    · rw [← hgo]; exact ⟨odd_str, rfl⟩
    · rw [← hgo]; exact ⟨odd_t1, rfl⟩
    · rw [← hgo]; exact ⟨odd_l1, rfl⟩
    · rw [← hgo]; exact ⟨odd_d, rfl⟩
    · rw [← hgo]; exact ⟨odd_int (v := 0 - 10 ^ Int.toNat 39) (by decide), by decide⟩
  clear hgo
  obtain ⟨hodd, hnd⟩ := hodd
  refine (bd_cons (sd_set 4 s4 (fun _ => rfl) (lt1 rfl) (nl rfl) (ed_call G__law_draw (hr.mono (by decide)) hgu (fun _ => rfl) g__law_draw k__law_draw b__law_draw (by decide) (fun _ => rfl) (fun _ => rfl) (ea_cons (fun _ => rfl) (ek_loan 0 a0 rfl (ea_cons (fun _ => rfl) (ek_ed (ed_name 2 a2 rfl (ea_nil ⟨_, rfl, rfl, ⟨_, _, _, rfl, hp, (by omega), (by first | decide | omega), (by first | decide | omega), fun a ds ha hp => fun _ => ?_⟩⟩)))))))))
  have ha : a < N := by omega
  refine (bd_cons (sd_set 5 s5 (fun _ => rfl) (lt1 rfl) (nl rfl) (ed_call G__law_draw (hr.mono (by decide)) hgu (fun _ => rfl) g__law_draw k__law_draw b__law_draw (by decide) (fun _ => rfl) (fun _ => rfl) (ea_cons (fun _ => rfl) (ek_loan 0 a0 rfl (ea_cons (fun _ => rfl) (ek_ed (ed_add (ek_ed (ed_name 4 a4 rfl (ek_ed (ed_int (AddR.int rfl rfl (ea_nil ⟨_, rfl, rfl, ⟨_, _, _, rfl, hp, (by omega), (by first | decide | omega), (by first | decide | omega), fun w2 ds hw2 hp => fun _ => ?_⟩⟩))))))))))))))
  refine (bd_cons (sd_set 6 s6 (fun _ => rfl) (lt1 rfl) (nl rfl) (ed_ixD (fun _ _ => rfl) (ek_ed (ed_name 1 a1 rfl (ek_ed (ed_name 4 a4 rfl (IxD.mk rfl rfl (tab_at ha) (bd_cons (sd_set 7 s7 (fun _ => rfl) (lt1 rfl) (nl rfl) (ed_lst (ea_cons (fun _ => rfl) (ek_ed (ed_add (ek_ed (ed_add (ek_ed (ed_slT (ek_ed (ed_name 6 a6 rfl (ed_name 5 a5 rfl ⟨_, rfl, ⟨_, rfl, (ek_ed (ed_tup (ea_cons (fun _ => rfl) (ek_ed (ed_name 3 a3 rfl (ea_nil ⟨_, rfl, le1 rfl, (AddR.tup rfl rfl ?_ (ek_ed (ed_slT (ek_ed (ed_name 6 a6 rfl (ed_add (ek_ed (ed_name 5 a5 rfl (ek_ed (ed_int (AddR.int rfl rfl ⟨_, rfl, ⟨_, rfl, (AddR.tup rfl rfl ?_ (ea_cons (fun _ => rfl) (ek_ed (ed_add (ek_ed (ed_name 6 a6 rfl (ek_ed (ed_tup (ea_cons (fun _ => rfl) (ek_ed (ed_int (ea_nil ⟨_, rfl, le1 rfl, (AddR.tup rfl rfl ?_ (ea_cons (fun _ => rfl) (ek_ed (ed_list (fun _ => rfl) m_list (fun _ => rfl) (ek_ed (ed_name 6 a6 rfl ⟨_, rfl, (ea_cons (fun _ => rfl) (ek_ed (ed_add (ek_ed (ed_slT (ek_ed (ed_name 6 a6 rfl (ed_neg (ed_int ⟨_, rfl, ⟨_, rfl, ⟨_, rfl, (ek_ed (ed_tup (ea_cons (fun _ => rfl) (ek_ed (ed_name 3 a3 rfl (ea_nil ⟨_, rfl, le1 rfl, (AddR.tup rfl rfl ?_ (ea_nil ⟨_, rfl, le1 rfl, ?_⟩))⟩))))))⟩⟩⟩)))))))))⟩))))))⟩))))))))))))⟩⟩)))))))))))⟩))))))⟩⟩)))))))))))))))))))))
  all_goals
    have d1 := cut_len (rowD t a) none (some (w2 : Nat))
    have d2 := cut_len (rowD t a) (some ((w2 : Nat) + 1)) none
    have d3 := cut_len (rowD t a) none (some (-1))
    have d4 := cut_len (rows t N) none (some (a : Nat))
    have d5 := cut_len (rows t N) (some ((a : Nat) + 1)) none
    have d6 := cut_len (rows t N) (some (-1)) none
    rw [rowD_len] at d1 d2 d3
    rw [rows_len] at d4 d5 d6
    have dl : (rowD t a).length = a := rowD_len
    have dk : (rows t N).length = N := rows_len
    unfold rowD at d1 d2 d3 dl
    unfold rows at d4 d5 d6 dk
  · simp only [List.length_append, List.length_reverse, List.length_cons, List.length_nil]; omega
  · simp only [List.length_append, List.length_reverse, List.length_cons, List.length_nil]; omega
  · simp only [List.length_append, List.length_reverse, List.length_cons, List.length_nil]; omega
  · simp only [List.length_append, List.length_reverse, List.length_cons, List.length_nil]; omega
  refine (bd_cons (sd_set 8 s8 (fun _ => rfl) (lt1 rfl) (nl rfl) (ed_ixD (fun _ _ => rfl) (ek_ed (ed_lst (ea_cons (fun _ => rfl) (ek_ed (ed_ixD (fun _ _ => rfl) (ek_loan 7 a7 rfl (ek_ed (ed_int (IxD.mk rfl rfl rfl (ea_cons (fun _ => rfl) (ek_ed (ed_ixD (fun _ _ => rfl) (ek_loan 7 a7 rfl (ek_ed (ed_int (IxD.mk rfl rfl rfl (ea_cons (fun _ => rfl) (ek_ed (ed_ixD (fun _ _ => rfl) (ek_loan 7 a7 rfl (ek_ed (ed_int (IxD.mk rfl rfl rfl (ea_cons (fun _ => rfl) (ek_ed (ed_ixD (fun _ _ => rfl) (ek_loan 7 a7 rfl (ek_ed (ed_int (IxD.mk rfl rfl rfl (ea_cons (fun _ => rfl) (ek_ed (ed_ixD (fun _ _ => rfl) (ek_loan 7 a7 rfl (ek_ed (ed_int (IxD.mk rfl rfl rfl (ea_cons (fun _ => rfl) (ek_ed (ed_non (ea_cons (fun _ => rfl) (ek_ed (ed_int (ea_cons (fun _ => rfl) (ek_ed (ed_str (ea_cons (fun _ => rfl) (ek_ed (ed_dict0 (ea_nil ⟨_, rfl, le1 rfl, (ek_ed (ed_call G__law_draw (hr.mono (by decide)) hgu (fun _ => rfl) g__law_draw k__law_draw b__law_draw (by decide) (fun _ => rfl) (fun _ => rfl) (ea_cons (fun _ => rfl) (ek_loan 0 a0 rfl (ea_cons (fun _ => rfl) (ek_ed (ed_int (ea_nil ⟨_, rfl, rfl, ⟨_, _, _, rfl, hp, (by omega), (by first | decide | omega), (by first | decide | omega), fun r4 ds hr4 hp => fun _ => (IxD.mk rfl rfl (pickD _ hr4) ?_)⟩⟩))))))))⟩)))))))))))))))))))))))))))))))))))))))))))))))))))))
  generalize hgb : List.getD _ r4 Dt.non = b
  have hbad : ((Knds b ∧ Sh 90 5 false b) ∨ (Knds b ∧ Sh 90 5 true b ∧ b.noL = true)) ∧ isRow a b = false := by
    rw [← hgb]
    refine getD_all (p := fun b => ((Knds b ∧ Sh 90 5 false b) ∨ (Knds b ∧ Sh 90 5 true b ∧ b.noL = true)) ∧ isRow a b = false) (fun e he => ?_) hr4
    simp only [List.mem_reverse, List.mem_cons, List.not_mem_nil, or_false] at he
    have rin := rowD_ints (a := a) ht
    have al : (rowD t a).length ≤ 20 := by rw [rowD_len]; omega
    rcases he with rfl | rfl | rfl | rfl | rfl | rfl | rfl | rfl | rfl
    · exact ⟨odd_part odd_d, rfl⟩
    · exact ⟨odd_part odd_s0, rfl⟩
    · exact ⟨odd_part (odd_int (by decide)), rfl⟩
    · exact ⟨odd_part odd_non, rfl⟩
    · refine ⟨odd_gen hodd ?_ fun y hy => (List.mem_append.mp hy).elim (fun z => .inl (rin y (cut_mem z))) fun z => .inr (by simpa using z), row_bad (o := o) (List.mem_append_right _ (by simp)) hnd⟩
      simp only [List.length_append, List.length_reverse, List.length_cons, List.length_nil]; omega
    · exact ⟨.inl (lst_row al rin), rfl⟩
    · have z : RowOk (.tup (rowD t a ++ [Dt.int 0].reverse)) := ⟨_, rfl, by rw [List.length_append, rowD_len]; show a + 1 ≤ 60; omega, rin.app (Ints.one (by decide))⟩
      refine ⟨.inl ⟨(odd_row z).1, (odd_row z).2.1.mono (by decide) (by decide) id⟩, row_len (n := a) (ds := rowD t a ++ [Dt.int 0].reverse) fun w => ?_⟩
      rw [List.length_append, rowD_len] at w
      have w : a + 1 = a := w
      omega
    · exact ⟨odd_line al rin hodd _ _ _ _, row_bad (o := o) (List.mem_append_left _ (List.mem_append_right _ (by simp))) hnd⟩
    · exact ⟨odd_line al rin hodd _ _ _ _, row_bad (o := o) (List.mem_append_left _ (List.mem_append_right _ (by simp))) hnd⟩
  obtain ⟨hb1, hb2⟩ := hbad
  refine (bd_cons (sd_set 9 s9 (fun _ => rfl) (lt1 rfl) (nl rfl) (ed_add (ek_ed (ed_add (ek_ed (ed_slT (ek_ed (ed_name 1 a1 rfl (ed_name 4 a4 rfl ⟨_, rfl, ⟨_, rfl, (ek_ed (ed_tup (ea_cons (fun _ => rfl) (ek_ed (ed_name 8 a8 rfl (ea_nil ⟨_, rfl, le1 rfl, (AddR.tup rfl rfl ?_ (ek_ed (ed_slT (ek_ed (ed_name 1 a1 rfl (ed_add (ek_ed (ed_name 4 a4 rfl (ek_ed (ed_int (AddR.int rfl rfl ⟨_, rfl, ⟨_, rfl, (AddR.tup rfl rfl ?_ ?_)⟩⟩)))))))))))⟩))))))⟩⟩))))))))))
  · simp only [List.length_append, List.length_reverse, List.length_cons, List.length_nil]; omega
  · simp only [List.length_append, List.length_reverse, List.length_cons, List.length_nil]; omega
  have hrow := rows_ok hN2 ht
  have gb : Good (.tup (DL.cutD (rows t N) none (some (a : Nat)) ++ [b].reverse ++ DL.cutD (rows t N) (some ((a : Nat) + 1)) none)) := good3 (by rw [rows_len]; exact hN2) hrow hb1 _ _ _ _
  have tb : isTbl (.tup (DL.cutD (rows t N) none (some (a : Nat)) ++ [b].reverse ++ DL.cutD (rows t N) (some ((a : Nat) + 1)) none)) = false := put_bad (by rw [rows_len]; exact ha) hb2 _ _
  refine (bd_cons (sd_set 10 s10 (fun _ => rfl) (lt1 rfl) (nl rfl) (ed_lst (ea_cons (fun _ => rfl) (ek_ed (ed_name 9 a9 rfl (ea_cons (fun _ => rfl) (ek_ed (ed_name 9 a9 rfl (ea_cons (fun _ => rfl) (ek_ed (ed_name 9 a9 rfl (ea_cons (fun _ => rfl) (ek_ed (ed_slT (ek_ed (ed_name 1 a1 rfl (ed_int ⟨_, rfl, ⟨_, rfl, (ea_cons (fun _ => rfl) (ek_ed (ed_add (ek_ed (ed_name 1 a1 rfl (ek_ed (ed_slT (ek_ed (ed_name 1 a1 rfl (ed_neg (ed_int ⟨_, rfl, ⟨_, rfl, ⟨_, rfl, (AddR.tup rfl rfl ?_ (ea_cons (fun _ => rfl) (ek_ed (ed_list (fun _ => rfl) m_list (fun _ => rfl) (ek_ed (ed_name 1 a1 rfl ⟨_, rfl, (ea_cons (fun _ => rfl) (ek_ed (ed_tup (ea_nil ⟨_, rfl, le1 rfl, (ea_cons (fun _ => rfl) (ek_ed (ed_non (ea_cons (fun _ => rfl) (ek_ed (ed_int (ea_cons (fun _ => rfl) (ek_ed (ed_str (ea_cons (fun _ => rfl) (ek_ed (ed_dict0 (ea_cons (fun _ => rfl) (ek_ed (ed_bl (ea_cons (fun _ => rfl) (ek_ed (ed_lst (ea_nil ⟨_, rfl, le1 rfl, (ea_nil ⟨_, rfl, le1 rfl, ?_⟩)⟩)))))))))))))))))))⟩))))⟩))))))⟩⟩⟩)))))))))))⟩⟩))))))))))))))))))
  · omega
  refine (bd_cons (sd_ret (ed_ixD (fun _ _ => rfl) (ek_loan 10 a10 rfl (ek_ed (ed_call G__law_draw (hr.mono (by decide)) hgu (fun _ => rfl) g__law_draw k__law_draw b__law_draw (by decide) (fun _ => rfl) (fun _ => rfl) (ea_cons (fun _ => rfl) (ek_loan 0 a0 rfl (ea_cons (fun _ => rfl) (ek_ed (ed_int (ea_nil ⟨_, rfl, rfl, ⟨_, _, _, rfl, hp, (by omega), (by first | decide | omega), (by first | decide | omega), fun r5 ds hr5 hp => fun _ => (IxD.mk rfl rfl (pickD _ hr5) ?_)⟩⟩))))))))))))
  refine (fun z => hq _ _ z.1 z.2 (hp.mono (by omega))) (getD_all (p := fun e => Good e ∧ isTbl e = false) (fun e he => ?_) hr5)
  simp only [List.mem_reverse, List.mem_cons, List.not_mem_nil, or_false] at he
  rcases he with rfl | rfl | rfl | rfl | rfl | rfl | rfl | rfl | rfl | rfl | rfl | rfl | rfl
  · exact ⟨good_odd odd_l0, rfl⟩
  · exact ⟨good_odd (odd_bl true), rfl⟩
  · exact ⟨good_odd odd_d, rfl⟩
  · exact ⟨good_odd odd_s0, rfl⟩
  · exact ⟨good_odd (odd_int (by decide)), rfl⟩
  · exact ⟨good_odd odd_non, rfl⟩
  · exact ⟨good_odd odd_t0, rfl⟩
  · exact ⟨good_lst (by rw [List.length_map, List.length_range]; omega) hrow, rfl⟩
  · exact ⟨good_rows (l := rows t N ++ DL.cutD (rows t N) (some (-1)) none) (by
      have := cut_len (rows t N) (some (-1)) none
      rw [rows_len] at this
      rw [List.length_append, rows_len]
      omega) fun e he => (List.mem_append.mp he).elim (hrow e) fun z => hrow e (cut_mem z), no_twice hN1⟩
  · exact ⟨good_rows (l := DL.cutD (rows t N) (some 1) none) (by
      have := cut_len (rows t N) (some 1) none
      rw [rows_len] at this
      omega) fun e he => hrow e (cut_mem he), no_first⟩
  · exact ⟨gb, tb⟩
  · exact ⟨gb, tb⟩
  · exact ⟨gb, tb⟩
end
end K24

namespace K24
open N24 PySem PySem.Spec PyProof.Rows L2 DL
abbrev s__law_asked : Stmt := topS 49
theorem sc__law_asked : FnScope ["door", "days_here", "caught", "unchanged", "e"] ["door", "days_here"] (defScope s__law_asked) := ⟨rfl, rfl, rfl, by decide +kernel, rfl, by decide +kernel, by decide +kernel⟩
def dsAsked : DSp := fun as post => ∃ (dr : Nat) (d : Dt), as = [.dt (.int (dr : Nat)), .dt d] ∧ dr < 6 ∧ DL.Good d ∧ (isTbl d = true → nOf d ≤ 20) ∧ post (.dt (.str (if isTbl d then "none" else "table"))) [.un, .un]
section
variable {P : Program} {w : World} {K : PySem.W.Frag} [Tb K] {mg : Str → Option Value} {base : Heap}
theorem ok__law_asked {c_NotAHistory c_InvalidPairs c_InvalidTable c_InvalidNumber c_InvalidDay c_TooLarge c_Contradiction c_InvalidBound c_InvalidForks c_InvalidItem c_InvalidItems c_InvalidPair c_InvalidParts c_InvalidText c_InvalidTold c_NoCommon c_NotAnObject c_NotExact c_NothingToUndo c_NotPossible c_OtherNumber c_SameItem c_DaysError : Addr} (kT : ∀ o, ExcD c_InvalidTable o → OwnI K [c_NotAHistory, c_InvalidPairs, c_InvalidTable, c_InvalidNumber, c_InvalidDay, c_TooLarge] [c_Contradiction, c_InvalidBound, c_InvalidForks, c_InvalidItem, c_InvalidItems, c_InvalidPair] [c_InvalidParts, c_InvalidText, c_InvalidTold, c_NoCommon, c_NotAnObject, c_NotExact] [c_NothingToUndo, c_NotPossible, c_OtherNumber, c_SameItem] c_InvalidTable o 2) (caughtT : PySem.W.exmOne K (.ref c_InvalidTable) (.ref c_DaysError) = some true) (g_DaysError : mg "DaysError" = some (.ref c_DaysError)) {f_least_error : Addr} {d_least_error : FuncData} (G_least_error : FnX P w K mg base 6 f_least_error d_least_error ["table"] (spX K (dsLE c_InvalidTable))) (g_least_error : mg "least_error" = some (.ref f_least_error)) (k_least_error : PySem.W.keepIn K (.ref f_least_error) = true) (b_least_error : Binds K d_least_error ["table"] []) (kp_least_error : KwP K d_least_error ["table"] ["table"] [0]) {f_nearest_history : Addr} {d_nearest_history : FuncData} (G_nearest_history : FnX P w K mg base 6 f_nearest_history d_nearest_history ["table"] (spX K (dsNH c_InvalidTable))) (g_nearest_history : mg "nearest_history" = some (.ref f_nearest_history)) (k_nearest_history : PySem.W.keepIn K (.ref f_nearest_history) = true) (b_nearest_history : Binds K d_nearest_history ["table"] []) (kp_nearest_history : KwP K d_nearest_history ["table"] ["table"] [0]) {f_worst_pair : Addr} {d_worst_pair : FuncData} (G_worst_pair : FnX P w K mg base 6 f_worst_pair d_worst_pair ["table"] (spX K (dsWP c_InvalidTable))) (g_worst_pair : mg "worst_pair" = some (.ref f_worst_pair)) (k_worst_pair : PySem.W.keepIn K (.ref f_worst_pair) = true) (b_worst_pair : Binds K d_worst_pair ["table"] []) (kp_worst_pair : KwP K d_worst_pair ["table"] ["table"] [0]) {f__law_kind : Addr} {d__law_kind : FuncData} (G__law_kind : FnG P w K mg base 1 f__law_kind d__law_kind ["e"] (spD K (dsKind K [c_NotAHistory, c_InvalidPairs, c_InvalidTable, c_InvalidNumber, c_InvalidDay, c_TooLarge] [c_Contradiction, c_InvalidBound, c_InvalidForks, c_InvalidItem, c_InvalidItems, c_InvalidPair] [c_InvalidParts, c_InvalidText, c_InvalidTold, c_NoCommon, c_NotAnObject, c_NotExact] [c_NothingToUndo, c_NotPossible, c_OtherNumber, c_SameItem]))) (g__law_kind : mg "_law_kind" = some (.ref f__law_kind)) (k__law_kind : PySem.W.keepIn K (.ref f__law_kind) = true) (b__law_kind : Binds K d__law_kind ["e"] []) (m_repr : mg "repr" = none) {f : Addr} {fd : FuncData} (F : Fun K "_law_asked" "_law_asked" s__law_asked f fd) : FnG P w K mg base 7 f fd ["door", "days_here"] (spD K dsAsked) := by
  refine FnG.of F sc__law_asked (fun as post h => by obtain ⟨_, _, h⟩ := h; rw [h.1]; rfl) fun cdv A outer s H vs fo as post hr hgu hD => ?_
  obtain ⟨dr, d, rfl, hw, hg, few, hq⟩ := hD
  have a0 : At (coreOf P w K mg base (A.deeper (envOfC "_law_asked" (defScope s__law_asked) s.heap.objs.size f cdv)) ["door", "days_here", "caught", "unchanged", "e"] ((envOfC "_law_asked" (defScope s__law_asked) s.heap.objs.size f cdv) :: outer)) (varOf s H (envOfC "_law_asked" (defScope s__law_asked) s.heap.objs.size f cdv) outer) "door" 0 := ⟨rfl, fun _ => by first | exact .inl rfl | exact .inr (.inl rfl), by decide, by decide⟩
  have s0 : AtS (coreOf P w K mg base (A.deeper (envOfC "_law_asked" (defScope s__law_asked) s.heap.objs.size f cdv)) ["door", "days_here", "caught", "unchanged", "e"] ((envOfC "_law_asked" (defScope s__law_asked) s.heap.objs.size f cdv) :: outer)) (varOf s H (envOfC "_law_asked" (defScope s__law_asked) s.heap.objs.size f cdv) outer) "door" 0 := ⟨sc__law_asked.nd, rfl, fun _ => by first | exact .inl rfl | exact .inr rfl, fun _ => .inl rfl⟩
  have a1 : At (coreOf P w K mg base (A.deeper (envOfC "_law_asked" (defScope s__law_asked) s.heap.objs.size f cdv)) ["door", "days_here", "caught", "unchanged", "e"] ((envOfC "_law_asked" (defScope s__law_asked) s.heap.objs.size f cdv) :: outer)) (varOf s H (envOfC "_law_asked" (defScope s__law_asked) s.heap.objs.size f cdv) outer) "days_here" 1 := ⟨rfl, fun _ => by first | exact .inl rfl | exact .inr (.inl rfl), by decide, by decide⟩
  have s1 : AtS (coreOf P w K mg base (A.deeper (envOfC "_law_asked" (defScope s__law_asked) s.heap.objs.size f cdv)) ["door", "days_here", "caught", "unchanged", "e"] ((envOfC "_law_asked" (defScope s__law_asked) s.heap.objs.size f cdv) :: outer)) (varOf s H (envOfC "_law_asked" (defScope s__law_asked) s.heap.objs.size f cdv) outer) "days_here" 1 := ⟨sc__law_asked.nd, rfl, fun _ => by first | exact .inl rfl | exact .inr rfl, fun _ => .inl rfl⟩
  have a2 : At (coreOf P w K mg base (A.deeper (envOfC "_law_asked" (defScope s__law_asked) s.heap.objs.size f cdv)) ["door", "days_here", "caught", "unchanged", "e"] ((envOfC "_law_asked" (defScope s__law_asked) s.heap.objs.size f cdv) :: outer)) (varOf s H (envOfC "_law_asked" (defScope s__law_asked) s.heap.objs.size f cdv) outer) "caught" 2 := ⟨rfl, fun _ => by first | exact .inl rfl | exact .inr (.inl rfl), by decide, by decide⟩
  have s2 : AtS (coreOf P w K mg base (A.deeper (envOfC "_law_asked" (defScope s__law_asked) s.heap.objs.size f cdv)) ["door", "days_here", "caught", "unchanged", "e"] ((envOfC "_law_asked" (defScope s__law_asked) s.heap.objs.size f cdv) :: outer)) (varOf s H (envOfC "_law_asked" (defScope s__law_asked) s.heap.objs.size f cdv) outer) "caught" 2 := ⟨sc__law_asked.nd, rfl, fun _ => by first | exact .inl rfl | exact .inr rfl, fun _ => .inl rfl⟩
  have a3 : At (coreOf P w K mg base (A.deeper (envOfC "_law_asked" (defScope s__law_asked) s.heap.objs.size f cdv)) ["door", "days_here", "caught", "unchanged", "e"] ((envOfC "_law_asked" (defScope s__law_asked) s.heap.objs.size f cdv) :: outer)) (varOf s H (envOfC "_law_asked" (defScope s__law_asked) s.heap.objs.size f cdv) outer) "unchanged" 3 := ⟨rfl, fun _ => by first | exact .inl rfl | exact .inr (.inl rfl), by decide, by decide⟩
  have s3 : AtS (coreOf P w K mg base (A.deeper (envOfC "_law_asked" (defScope s__law_asked) s.heap.objs.size f cdv)) ["door", "days_here", "caught", "unchanged", "e"] ((envOfC "_law_asked" (defScope s__law_asked) s.heap.objs.size f cdv) :: outer)) (varOf s H (envOfC "_law_asked" (defScope s__law_asked) s.heap.objs.size f cdv) outer) "unchanged" 3 := ⟨sc__law_asked.nd, rfl, fun _ => by first | exact .inl rfl | exact .inr rfl, fun _ => .inl rfl⟩
  have a4 : At (coreOf P w K mg base (A.deeper (envOfC "_law_asked" (defScope s__law_asked) s.heap.objs.size f cdv)) ["door", "days_here", "caught", "unchanged", "e"] ((envOfC "_law_asked" (defScope s__law_asked) s.heap.objs.size f cdv) :: outer)) (varOf s H (envOfC "_law_asked" (defScope s__law_asked) s.heap.objs.size f cdv) outer) "e" 4 := ⟨rfl, fun _ => by first | exact .inl rfl | exact .inr (.inl rfl), by decide, by decide⟩
  have s4 : AtS (coreOf P w K mg base (A.deeper (envOfC "_law_asked" (defScope s__law_asked) s.heap.objs.size f cdv)) ["door", "days_here", "caught", "unchanged", "e"] ((envOfC "_law_asked" (defScope s__law_asked) s.heap.objs.size f cdv) :: outer)) (varOf s H (envOfC "_law_asked" (defScope s__law_asked) s.heap.objs.size f cdv) outer) "e" 4 := ⟨sc__law_asked.nd, rfl, fun _ => by first | exact .inl rfl | exact .inr rfl, fun _ => .inl rfl⟩
  show BD _ _ _ _ _ [AV.dt (.int (dr : Nat)), .dt d, .un, .un, .un]
  have hu := units_of hr
  obtain ⟨hK, pd, hsh⟩ := hg
  refine (bd_cons (sd_par 2 3 s2 s3 (by decide) (fun _ => rfl) (fun _ => rfl) (fun _ => rfl) (fun _ => rfl) (fun _ => rfl) (fun _ => rfl) (lt1 rfl) (lt1 rfl) (nl rfl) (nl rfl) (ed_non fun fo => (ed_repr hgu hu (fun _ => rfl) m_repr (fun _ => rfl) (ek_ed (ed_name 1 a1 rfl ⟨_, _, rfl, hsh, ?_⟩))))))
  cases hT : isTbl d with
  | false =>
    rw [hT] at hq
    rcases (by omega : dr = 0 ∨ dr = 1 ∨ dr = 2 ∨ dr = 3 ∨ dr = 4 ∨ dr = 5) with rfl | rfl | rfl | rfl | rfl | rfl
    · refine (bd_cons (sd_try 4 (fun _ => rfl) (fun _ => rfl) (fun _ => rfl) sc__law_asked.nd rfl (fun _ => rfl) (lt1 rfl) (nl rfl) (fun _ => ⟨rfl, rfl, .inl g_DaysError⟩) (TX.never _ _ _) fun W tkW passW => (bd_cons (sd_if (td_eqI (ek_ed (ed_name 0 a0.tr rfl (ek_ed (ed_int (CmpT.mk rfl rfl ⟨fun hif => (bd_cons (sd_expr (fun _ => rfl) (ed_callX G_least_error (hr.mono (by decide)) hgu tkW (fun _ => rfl) g_least_error k_least_error b_least_error (by decide) (fun _ => rfl) (fun _ => rfl) (ea_cons (fun _ => rfl) (ek_ed (ed_name 1 a1.tr rfl (ea_nil ⟨_, rfl, rfl, ⟨d, rfl, hK, few, fun _ _ => ⟨true, caughtT, fun _ a => (bd_cons (sd_set 2 s2.held (fun _ => rfl) (lt1 rfl) (nl rfl) (ed_name 4 a4.held rfl (bd_nil ?_)))), fun z => nomatch z⟩, fun h => absurd h (by rw [hT]; decide)⟩⟩))))))), fun hif => (absurd hif (by decide))⟩))))))))))
      refine (bd_cons (sd_if (td_neS (ek_ed (ed_repr hgu hu (fun _ => rfl) m_repr (fun _ => rfl) (ek_ed (ed_name 1 a1 rfl ⟨_, _, rfl, hsh, (ek_ed (ed_name 3 a3 rfl ⟨_, _, rfl, rfl, ⟨fun hif => ?_, fun hif => ?_⟩⟩))⟩)))))))
      · exact absurd hif (by simp)
      · refine (bd_nil (bd_cons (sd_ret (ed_ifExp (td_isN (ed_name 2 a2 rfl ⟨_, _, rfl, rfl, ⟨fun hif => (nomatch hif), fun hif => (ed_call G__law_kind (hr.mono (by decide)) hgu (fun _ => rfl) g__law_kind k__law_kind b__law_kind (by decide) (fun _ => rfl) (fun _ => rfl) (ea_cons (fun _ => rfl) (ek_ed (ed_name 2 a2 rfl (ea_nil ⟨_, rfl, rfl, ⟨_, _, 2, rfl, (by decide), kT _ (.inl ⟨_, rfl, excOf_K _⟩), fun _ => ?_⟩⟩)))))⟩⟩))))))
        exact hq
    · refine (bd_cons (sd_try 4 (fun _ => rfl) (fun _ => rfl) (fun _ => rfl) sc__law_asked.nd rfl (fun _ => rfl) (lt1 rfl) (nl rfl) (fun _ => ⟨rfl, rfl, .inl g_DaysError⟩) (TX.never _ _ _) fun W tkW passW => (bd_cons (sd_if (td_eqI (ek_ed (ed_name 0 a0.tr rfl (ek_ed (ed_int (CmpT.mk rfl rfl ⟨fun hif => (absurd hif (by decide)), fun hif => (bd_cons (sd_if (td_eqI (ek_ed (ed_name 0 a0.tr rfl (ek_ed (ed_int (CmpT.mk rfl rfl ⟨fun hif => (bd_cons (sd_expr (fun _ => rfl) (ed_callKX (ord := [0]) G_least_error (hr.mono (by decide)) hgu tkW (fun _ => rfl) g_least_error k_least_error kp_least_error (by decide) (fun _ => rfl) (fun _ => rfl) rfl (fun _ => rfl) (ekw_cons (ek_ed (ed_name 1 a1.tr rfl (ekw_nil ⟨_, rfl, rfl, ⟨d, rfl, hK, few, fun _ _ => ⟨true, caughtT, fun _ a => (bd_cons (sd_set 2 s2.held (fun _ => rfl) (lt1 rfl) (nl rfl) (ed_name 4 a4.held rfl (bd_nil ?_)))), fun z => nomatch z⟩, fun h => absurd h (by rw [hT]; decide)⟩⟩))))))), fun hif => (absurd hif (by decide))⟩))))))))⟩))))))))))
      refine (bd_cons (sd_if (td_neS (ek_ed (ed_repr hgu hu (fun _ => rfl) m_repr (fun _ => rfl) (ek_ed (ed_name 1 a1 rfl ⟨_, _, rfl, hsh, (ek_ed (ed_name 3 a3 rfl ⟨_, _, rfl, rfl, ⟨fun hif => ?_, fun hif => ?_⟩⟩))⟩)))))))
      · exact absurd hif (by simp)
      · refine (bd_nil (bd_cons (sd_ret (ed_ifExp (td_isN (ed_name 2 a2 rfl ⟨_, _, rfl, rfl, ⟨fun hif => (nomatch hif), fun hif => (ed_call G__law_kind (hr.mono (by decide)) hgu (fun _ => rfl) g__law_kind k__law_kind b__law_kind (by decide) (fun _ => rfl) (fun _ => rfl) (ea_cons (fun _ => rfl) (ek_ed (ed_name 2 a2 rfl (ea_nil ⟨_, rfl, rfl, ⟨_, _, 2, rfl, (by decide), kT _ (.inl ⟨_, rfl, excOf_K _⟩), fun _ => ?_⟩⟩)))))⟩⟩))))))
        exact hq
    · refine (bd_cons (sd_try 4 (fun _ => rfl) (fun _ => rfl) (fun _ => rfl) sc__law_asked.nd rfl (fun _ => rfl) (lt1 rfl) (nl rfl) (fun _ => ⟨rfl, rfl, .inl g_DaysError⟩) (TX.never _ _ _) fun W tkW passW => (bd_cons (sd_if (td_eqI (ek_ed (ed_name 0 a0.tr rfl (ek_ed (ed_int (CmpT.mk rfl rfl ⟨fun hif => (absurd hif (by decide)), fun hif => (bd_cons (sd_if (td_eqI (ek_ed (ed_name 0 a0.tr rfl (ek_ed (ed_int (CmpT.mk rfl rfl ⟨fun hif => (absurd hif (by decide)), fun hif => (bd_cons (sd_if (td_eqI (ek_ed (ed_name 0 a0.tr rfl (ek_ed (ed_int (CmpT.mk rfl rfl ⟨fun hif => (bd_cons (sd_expr (fun _ => rfl) (ed_callX G_nearest_history (hr.mono (by decide)) hgu tkW (fun _ => rfl) g_nearest_history k_nearest_history b_nearest_history (by decide) (fun _ => rfl) (fun _ => rfl) (ea_cons (fun _ => rfl) (ek_ed (ed_name 1 a1.tr rfl (ea_nil ⟨_, rfl, rfl, ⟨d, rfl, hK, few, fun _ _ => ⟨true, caughtT, fun _ a => (bd_cons (sd_set 2 s2.held (fun _ => rfl) (lt1 rfl) (nl rfl) (ed_name 4 a4.held rfl (bd_nil ?_)))), fun z => nomatch z⟩, fun h => absurd h (by rw [hT]; decide)⟩⟩))))))), fun hif => (absurd hif (by decide))⟩))))))))⟩))))))))⟩))))))))))
      refine (bd_cons (sd_if (td_neS (ek_ed (ed_repr hgu hu (fun _ => rfl) m_repr (fun _ => rfl) (ek_ed (ed_name 1 a1 rfl ⟨_, _, rfl, hsh, (ek_ed (ed_name 3 a3 rfl ⟨_, _, rfl, rfl, ⟨fun hif => ?_, fun hif => ?_⟩⟩))⟩)))))))
      · exact absurd hif (by simp)
      · refine (bd_nil (bd_cons (sd_ret (ed_ifExp (td_isN (ed_name 2 a2 rfl ⟨_, _, rfl, rfl, ⟨fun hif => (nomatch hif), fun hif => (ed_call G__law_kind (hr.mono (by decide)) hgu (fun _ => rfl) g__law_kind k__law_kind b__law_kind (by decide) (fun _ => rfl) (fun _ => rfl) (ea_cons (fun _ => rfl) (ek_ed (ed_name 2 a2 rfl (ea_nil ⟨_, rfl, rfl, ⟨_, _, 2, rfl, (by decide), kT _ (.inl ⟨_, rfl, excOf_K _⟩), fun _ => ?_⟩⟩)))))⟩⟩))))))
        exact hq
    · refine (bd_cons (sd_try 4 (fun _ => rfl) (fun _ => rfl) (fun _ => rfl) sc__law_asked.nd rfl (fun _ => rfl) (lt1 rfl) (nl rfl) (fun _ => ⟨rfl, rfl, .inl g_DaysError⟩) (TX.never _ _ _) fun W tkW passW => (bd_cons (sd_if (td_eqI (ek_ed (ed_name 0 a0.tr rfl (ek_ed (ed_int (CmpT.mk rfl rfl ⟨fun hif => (absurd hif (by decide)), fun hif => (bd_cons (sd_if (td_eqI (ek_ed (ed_name 0 a0.tr rfl (ek_ed (ed_int (CmpT.mk rfl rfl ⟨fun hif => (absurd hif (by decide)), fun hif => (bd_cons (sd_if (td_eqI (ek_ed (ed_name 0 a0.tr rfl (ek_ed (ed_int (CmpT.mk rfl rfl ⟨fun hif => (absurd hif (by decide)), fun hif => (bd_cons (sd_if (td_eqI (ek_ed (ed_name 0 a0.tr rfl (ek_ed (ed_int (CmpT.mk rfl rfl ⟨fun hif => (bd_cons (sd_expr (fun _ => rfl) (ed_callKX (ord := [0]) G_nearest_history (hr.mono (by decide)) hgu tkW (fun _ => rfl) g_nearest_history k_nearest_history kp_nearest_history (by decide) (fun _ => rfl) (fun _ => rfl) rfl (fun _ => rfl) (ekw_cons (ek_ed (ed_name 1 a1.tr rfl (ekw_nil ⟨_, rfl, rfl, ⟨d, rfl, hK, few, fun _ _ => ⟨true, caughtT, fun _ a => (bd_cons (sd_set 2 s2.held (fun _ => rfl) (lt1 rfl) (nl rfl) (ed_name 4 a4.held rfl (bd_nil ?_)))), fun z => nomatch z⟩, fun h => absurd h (by rw [hT]; decide)⟩⟩))))))), fun hif => (absurd hif (by decide))⟩))))))))⟩))))))))⟩))))))))⟩))))))))))
      refine (bd_cons (sd_if (td_neS (ek_ed (ed_repr hgu hu (fun _ => rfl) m_repr (fun _ => rfl) (ek_ed (ed_name 1 a1 rfl ⟨_, _, rfl, hsh, (ek_ed (ed_name 3 a3 rfl ⟨_, _, rfl, rfl, ⟨fun hif => ?_, fun hif => ?_⟩⟩))⟩)))))))
      · exact absurd hif (by simp)
      · refine (bd_nil (bd_cons (sd_ret (ed_ifExp (td_isN (ed_name 2 a2 rfl ⟨_, _, rfl, rfl, ⟨fun hif => (nomatch hif), fun hif => (ed_call G__law_kind (hr.mono (by decide)) hgu (fun _ => rfl) g__law_kind k__law_kind b__law_kind (by decide) (fun _ => rfl) (fun _ => rfl) (ea_cons (fun _ => rfl) (ek_ed (ed_name 2 a2 rfl (ea_nil ⟨_, rfl, rfl, ⟨_, _, 2, rfl, (by decide), kT _ (.inl ⟨_, rfl, excOf_K _⟩), fun _ => ?_⟩⟩)))))⟩⟩))))))
        exact hq
    · refine (bd_cons (sd_try 4 (fun _ => rfl) (fun _ => rfl) (fun _ => rfl) sc__law_asked.nd rfl (fun _ => rfl) (lt1 rfl) (nl rfl) (fun _ => ⟨rfl, rfl, .inl g_DaysError⟩) (TX.never _ _ _) fun W tkW passW => (bd_cons (sd_if (td_eqI (ek_ed (ed_name 0 a0.tr rfl (ek_ed (ed_int (CmpT.mk rfl rfl ⟨fun hif => (absurd hif (by decide)), fun hif => (bd_cons (sd_if (td_eqI (ek_ed (ed_name 0 a0.tr rfl (ek_ed (ed_int (CmpT.mk rfl rfl ⟨fun hif => (absurd hif (by decide)), fun hif => (bd_cons (sd_if (td_eqI (ek_ed (ed_name 0 a0.tr rfl (ek_ed (ed_int (CmpT.mk rfl rfl ⟨fun hif => (absurd hif (by decide)), fun hif => (bd_cons (sd_if (td_eqI (ek_ed (ed_name 0 a0.tr rfl (ek_ed (ed_int (CmpT.mk rfl rfl ⟨fun hif => (absurd hif (by decide)), fun hif => (bd_cons (sd_if (td_eqI (ek_ed (ed_name 0 a0.tr rfl (ek_ed (ed_int (CmpT.mk rfl rfl ⟨fun hif => (bd_cons (sd_expr (fun _ => rfl) (ed_callX G_worst_pair (hr.mono (by decide)) hgu tkW (fun _ => rfl) g_worst_pair k_worst_pair b_worst_pair (by decide) (fun _ => rfl) (fun _ => rfl) (ea_cons (fun _ => rfl) (ek_ed (ed_name 1 a1.tr rfl (ea_nil ⟨_, rfl, rfl, ⟨d, rfl, hK, few, fun _ _ => ⟨true, caughtT, fun _ a => (bd_cons (sd_set 2 s2.held (fun _ => rfl) (lt1 rfl) (nl rfl) (ed_name 4 a4.held rfl (bd_nil ?_)))), fun z => nomatch z⟩, fun h => absurd h (by rw [hT]; decide)⟩⟩))))))), fun hif => (absurd hif (by decide))⟩))))))))⟩))))))))⟩))))))))⟩))))))))⟩))))))))))
      refine (bd_cons (sd_if (td_neS (ek_ed (ed_repr hgu hu (fun _ => rfl) m_repr (fun _ => rfl) (ek_ed (ed_name 1 a1 rfl ⟨_, _, rfl, hsh, (ek_ed (ed_name 3 a3 rfl ⟨_, _, rfl, rfl, ⟨fun hif => ?_, fun hif => ?_⟩⟩))⟩)))))))
      · exact absurd hif (by simp)
      · refine (bd_nil (bd_cons (sd_ret (ed_ifExp (td_isN (ed_name 2 a2 rfl ⟨_, _, rfl, rfl, ⟨fun hif => (nomatch hif), fun hif => (ed_call G__law_kind (hr.mono (by decide)) hgu (fun _ => rfl) g__law_kind k__law_kind b__law_kind (by decide) (fun _ => rfl) (fun _ => rfl) (ea_cons (fun _ => rfl) (ek_ed (ed_name 2 a2 rfl (ea_nil ⟨_, rfl, rfl, ⟨_, _, 2, rfl, (by decide), kT _ (.inl ⟨_, rfl, excOf_K _⟩), fun _ => ?_⟩⟩)))))⟩⟩))))))
        exact hq
    · refine (bd_cons (sd_try 4 (fun _ => rfl) (fun _ => rfl) (fun _ => rfl) sc__law_asked.nd rfl (fun _ => rfl) (lt1 rfl) (nl rfl) (fun _ => ⟨rfl, rfl, .inl g_DaysError⟩) (TX.never _ _ _) fun W tkW passW => (bd_cons (sd_if (td_eqI (ek_ed (ed_name 0 a0.tr rfl (ek_ed (ed_int (CmpT.mk rfl rfl ⟨fun hif => (absurd hif (by decide)), fun hif => (bd_cons (sd_if (td_eqI (ek_ed (ed_name 0 a0.tr rfl (ek_ed (ed_int (CmpT.mk rfl rfl ⟨fun hif => (absurd hif (by decide)), fun hif => (bd_cons (sd_if (td_eqI (ek_ed (ed_name 0 a0.tr rfl (ek_ed (ed_int (CmpT.mk rfl rfl ⟨fun hif => (absurd hif (by decide)), fun hif => (bd_cons (sd_if (td_eqI (ek_ed (ed_name 0 a0.tr rfl (ek_ed (ed_int (CmpT.mk rfl rfl ⟨fun hif => (absurd hif (by decide)), fun hif => (bd_cons (sd_if (td_eqI (ek_ed (ed_name 0 a0.tr rfl (ek_ed (ed_int (CmpT.mk rfl rfl ⟨fun hif => (absurd hif (by decide)), fun hif => (bd_cons (sd_expr (fun _ => rfl) (ed_callKX (ord := [0]) G_worst_pair (hr.mono (by decide)) hgu tkW (fun _ => rfl) g_worst_pair k_worst_pair kp_worst_pair (by decide) (fun _ => rfl) (fun _ => rfl) rfl (fun _ => rfl) (ekw_cons (ek_ed (ed_name 1 a1.tr rfl (ekw_nil ⟨_, rfl, rfl, ⟨d, rfl, hK, few, fun _ _ => ⟨true, caughtT, fun _ a => (bd_cons (sd_set 2 s2.held (fun _ => rfl) (lt1 rfl) (nl rfl) (ed_name 4 a4.held rfl (bd_nil ?_)))), fun z => nomatch z⟩, fun h => absurd h (by rw [hT]; decide)⟩⟩)))))))⟩))))))))⟩))))))))⟩))))))))⟩))))))))⟩))))))))))
      refine (bd_cons (sd_if (td_neS (ek_ed (ed_repr hgu hu (fun _ => rfl) m_repr (fun _ => rfl) (ek_ed (ed_name 1 a1 rfl ⟨_, _, rfl, hsh, (ek_ed (ed_name 3 a3 rfl ⟨_, _, rfl, rfl, ⟨fun hif => ?_, fun hif => ?_⟩⟩))⟩)))))))
      · exact absurd hif (by simp)
      · refine (bd_nil (bd_cons (sd_ret (ed_ifExp (td_isN (ed_name 2 a2 rfl ⟨_, _, rfl, rfl, ⟨fun hif => (nomatch hif), fun hif => (ed_call G__law_kind (hr.mono (by decide)) hgu (fun _ => rfl) g__law_kind k__law_kind b__law_kind (by decide) (fun _ => rfl) (fun _ => rfl) (ea_cons (fun _ => rfl) (ek_ed (ed_name 2 a2 rfl (ea_nil ⟨_, rfl, rfl, ⟨_, _, 2, rfl, (by decide), kT _ (.inl ⟨_, rfl, excOf_K _⟩), fun _ => ?_⟩⟩)))))⟩⟩))))))
        exact hq
  | true =>
    rw [hT] at hq
    rcases (by omega : dr = 0 ∨ dr = 1 ∨ dr = 2 ∨ dr = 3 ∨ dr = 4 ∨ dr = 5) with rfl | rfl | rfl | rfl | rfl | rfl
    · refine (bd_cons (sd_try 4 (fun _ => rfl) (fun _ => rfl) (fun _ => rfl) sc__law_asked.nd rfl (fun _ => rfl) (lt1 rfl) (nl rfl) (fun _ => ⟨rfl, rfl, .inl g_DaysError⟩) (TX.never _ _ _) fun W tkW passW => (bd_cons (sd_if (td_eqI (ek_ed (ed_name 0 a0.tr rfl (ek_ed (ed_int (CmpT.mk rfl rfl ⟨fun hif => (bd_cons (sd_expr (fun _ => rfl) (ed_callX G_least_error (hr.mono (by decide)) hgu tkW (fun _ => rfl) g_least_error k_least_error b_least_error (by decide) (fun _ => rfl) (fun _ => rfl) (ea_cons (fun _ => rfl) (ek_ed (ed_name 1 a1.tr rfl (ea_nil ⟨_, rfl, rfl, ⟨d, rfl, hK, few, fun h => absurd h (by rw [hT]; decide), fun _ e he _ => (bd_nil (bd_nil ?_))⟩⟩))))))), fun hif => (absurd hif (by decide))⟩))))))))))
      · refine (bd_cons (sd_if (td_neS (ek_ed (ed_repr hgu hu (fun _ => rfl) m_repr (fun _ => rfl) (ek_ed (ed_name 1 a1 rfl ⟨_, _, rfl, hsh, (ek_ed (ed_name 3 a3 rfl ⟨_, _, rfl, rfl, ⟨fun hif => ?_, fun hif => ?_⟩⟩))⟩)))))))
        · exact absurd hif (by simp)
        · refine (bd_nil (bd_cons (sd_ret (ed_ifExp (td_isN (ed_name 2 a2 rfl ⟨_, _, rfl, rfl, ⟨fun hif => (ed_str ?_), fun hif => (nomatch hif)⟩⟩))))))
          exact hq
    · refine (bd_cons (sd_try 4 (fun _ => rfl) (fun _ => rfl) (fun _ => rfl) sc__law_asked.nd rfl (fun _ => rfl) (lt1 rfl) (nl rfl) (fun _ => ⟨rfl, rfl, .inl g_DaysError⟩) (TX.never _ _ _) fun W tkW passW => (bd_cons (sd_if (td_eqI (ek_ed (ed_name 0 a0.tr rfl (ek_ed (ed_int (CmpT.mk rfl rfl ⟨fun hif => (absurd hif (by decide)), fun hif => (bd_cons (sd_if (td_eqI (ek_ed (ed_name 0 a0.tr rfl (ek_ed (ed_int (CmpT.mk rfl rfl ⟨fun hif => (bd_cons (sd_expr (fun _ => rfl) (ed_callKX (ord := [0]) G_least_error (hr.mono (by decide)) hgu tkW (fun _ => rfl) g_least_error k_least_error kp_least_error (by decide) (fun _ => rfl) (fun _ => rfl) rfl (fun _ => rfl) (ekw_cons (ek_ed (ed_name 1 a1.tr rfl (ekw_nil ⟨_, rfl, rfl, ⟨d, rfl, hK, few, fun h => absurd h (by rw [hT]; decide), fun _ e he _ => (bd_nil (bd_nil (bd_nil ?_)))⟩⟩))))))), fun hif => (absurd hif (by decide))⟩))))))))⟩))))))))))
      · refine (bd_cons (sd_if (td_neS (ek_ed (ed_repr hgu hu (fun _ => rfl) m_repr (fun _ => rfl) (ek_ed (ed_name 1 a1 rfl ⟨_, _, rfl, hsh, (ek_ed (ed_name 3 a3 rfl ⟨_, _, rfl, rfl, ⟨fun hif => ?_, fun hif => ?_⟩⟩))⟩)))))))
        · exact absurd hif (by simp)
        · refine (bd_nil (bd_cons (sd_ret (ed_ifExp (td_isN (ed_name 2 a2 rfl ⟨_, _, rfl, rfl, ⟨fun hif => (ed_str ?_), fun hif => (nomatch hif)⟩⟩))))))
          exact hq
    · refine (bd_cons (sd_try 4 (fun _ => rfl) (fun _ => rfl) (fun _ => rfl) sc__law_asked.nd rfl (fun _ => rfl) (lt1 rfl) (nl rfl) (fun _ => ⟨rfl, rfl, .inl g_DaysError⟩) (TX.never _ _ _) fun W tkW passW => (bd_cons (sd_if (td_eqI (ek_ed (ed_name 0 a0.tr rfl (ek_ed (ed_int (CmpT.mk rfl rfl ⟨fun hif => (absurd hif (by decide)), fun hif => (bd_cons (sd_if (td_eqI (ek_ed (ed_name 0 a0.tr rfl (ek_ed (ed_int (CmpT.mk rfl rfl ⟨fun hif => (absurd hif (by decide)), fun hif => (bd_cons (sd_if (td_eqI (ek_ed (ed_name 0 a0.tr rfl (ek_ed (ed_int (CmpT.mk rfl rfl ⟨fun hif => (bd_cons (sd_expr (fun _ => rfl) (ed_callX G_nearest_history (hr.mono (by decide)) hgu tkW (fun _ => rfl) g_nearest_history k_nearest_history b_nearest_history (by decide) (fun _ => rfl) (fun _ => rfl) (ea_cons (fun _ => rfl) (ek_ed (ed_name 1 a1.tr rfl (ea_nil ⟨_, rfl, rfl, ⟨d, rfl, hK, few, fun h => absurd h (by rw [hT]; decide), fun _ e he _ => (bd_nil (bd_nil (bd_nil (bd_nil ?_))))⟩⟩))))))), fun hif => (absurd hif (by decide))⟩))))))))⟩))))))))⟩))))))))))
      · refine (bd_cons (sd_if (td_neS (ek_ed (ed_repr hgu hu (fun _ => rfl) m_repr (fun _ => rfl) (ek_ed (ed_name 1 a1 rfl ⟨_, _, rfl, hsh, (ek_ed (ed_name 3 a3 rfl ⟨_, _, rfl, rfl, ⟨fun hif => ?_, fun hif => ?_⟩⟩))⟩)))))))
        · exact absurd hif (by simp)
        · refine (bd_nil (bd_cons (sd_ret (ed_ifExp (td_isN (ed_name 2 a2 rfl ⟨_, _, rfl, rfl, ⟨fun hif => (ed_str ?_), fun hif => (nomatch hif)⟩⟩))))))
          exact hq
    · refine (bd_cons (sd_try 4 (fun _ => rfl) (fun _ => rfl) (fun _ => rfl) sc__law_asked.nd rfl (fun _ => rfl) (lt1 rfl) (nl rfl) (fun _ => ⟨rfl, rfl, .inl g_DaysError⟩) (TX.never _ _ _) fun W tkW passW => (bd_cons (sd_if (td_eqI (ek_ed (ed_name 0 a0.tr rfl (ek_ed (ed_int (CmpT.mk rfl rfl ⟨fun hif => (absurd hif (by decide)), fun hif => (bd_cons (sd_if (td_eqI (ek_ed (ed_name 0 a0.tr rfl (ek_ed (ed_int (CmpT.mk rfl rfl ⟨fun hif => (absurd hif (by decide)), fun hif => (bd_cons (sd_if (td_eqI (ek_ed (ed_name 0 a0.tr rfl (ek_ed (ed_int (CmpT.mk rfl rfl ⟨fun hif => (absurd hif (by decide)), fun hif => (bd_cons (sd_if (td_eqI (ek_ed (ed_name 0 a0.tr rfl (ek_ed (ed_int (CmpT.mk rfl rfl ⟨fun hif => (bd_cons (sd_expr (fun _ => rfl) (ed_callKX (ord := [0]) G_nearest_history (hr.mono (by decide)) hgu tkW (fun _ => rfl) g_nearest_history k_nearest_history kp_nearest_history (by decide) (fun _ => rfl) (fun _ => rfl) rfl (fun _ => rfl) (ekw_cons (ek_ed (ed_name 1 a1.tr rfl (ekw_nil ⟨_, rfl, rfl, ⟨d, rfl, hK, few, fun h => absurd h (by rw [hT]; decide), fun _ e he _ => (bd_nil (bd_nil (bd_nil (bd_nil (bd_nil ?_)))))⟩⟩))))))), fun hif => (absurd hif (by decide))⟩))))))))⟩))))))))⟩))))))))⟩))))))))))
      · refine (bd_cons (sd_if (td_neS (ek_ed (ed_repr hgu hu (fun _ => rfl) m_repr (fun _ => rfl) (ek_ed (ed_name 1 a1 rfl ⟨_, _, rfl, hsh, (ek_ed (ed_name 3 a3 rfl ⟨_, _, rfl, rfl, ⟨fun hif => ?_, fun hif => ?_⟩⟩))⟩)))))))
        · exact absurd hif (by simp)
        · refine (bd_nil (bd_cons (sd_ret (ed_ifExp (td_isN (ed_name 2 a2 rfl ⟨_, _, rfl, rfl, ⟨fun hif => (ed_str ?_), fun hif => (nomatch hif)⟩⟩))))))
          exact hq
    · refine (bd_cons (sd_try 4 (fun _ => rfl) (fun _ => rfl) (fun _ => rfl) sc__law_asked.nd rfl (fun _ => rfl) (lt1 rfl) (nl rfl) (fun _ => ⟨rfl, rfl, .inl g_DaysError⟩) (TX.never _ _ _) fun W tkW passW => (bd_cons (sd_if (td_eqI (ek_ed (ed_name 0 a0.tr rfl (ek_ed (ed_int (CmpT.mk rfl rfl ⟨fun hif => (absurd hif (by decide)), fun hif => (bd_cons (sd_if (td_eqI (ek_ed (ed_name 0 a0.tr rfl (ek_ed (ed_int (CmpT.mk rfl rfl ⟨fun hif => (absurd hif (by decide)), fun hif => (bd_cons (sd_if (td_eqI (ek_ed (ed_name 0 a0.tr rfl (ek_ed (ed_int (CmpT.mk rfl rfl ⟨fun hif => (absurd hif (by decide)), fun hif => (bd_cons (sd_if (td_eqI (ek_ed (ed_name 0 a0.tr rfl (ek_ed (ed_int (CmpT.mk rfl rfl ⟨fun hif => (absurd hif (by decide)), fun hif => (bd_cons (sd_if (td_eqI (ek_ed (ed_name 0 a0.tr rfl (ek_ed (ed_int (CmpT.mk rfl rfl ⟨fun hif => (bd_cons (sd_expr (fun _ => rfl) (ed_callX G_worst_pair (hr.mono (by decide)) hgu tkW (fun _ => rfl) g_worst_pair k_worst_pair b_worst_pair (by decide) (fun _ => rfl) (fun _ => rfl) (ea_cons (fun _ => rfl) (ek_ed (ed_name 1 a1.tr rfl (ea_nil ⟨_, rfl, rfl, ⟨d, rfl, hK, few, fun h => absurd h (by rw [hT]; decide), fun _ e he => ⟨fun _ _ => (bd_nil (bd_nil (bd_nil (bd_nil (bd_nil (bd_nil ?_)))))), fun _ x y p _ _ _ _ _ => (bd_nil (bd_nil (bd_nil (bd_nil (bd_nil (bd_nil ?_))))))⟩⟩⟩))))))), fun hif => (absurd hif (by decide))⟩))))))))⟩))))))))⟩))))))))⟩))))))))⟩))))))))))
      · refine (bd_cons (sd_if (td_neS (ek_ed (ed_repr hgu hu (fun _ => rfl) m_repr (fun _ => rfl) (ek_ed (ed_name 1 a1 rfl ⟨_, _, rfl, hsh, (ek_ed (ed_name 3 a3 rfl ⟨_, _, rfl, rfl, ⟨fun hif => ?_, fun hif => ?_⟩⟩))⟩)))))))
        · exact absurd hif (by simp)
        · refine (bd_nil (bd_cons (sd_ret (ed_ifExp (td_isN (ed_name 2 a2 rfl ⟨_, _, rfl, rfl, ⟨fun hif => (ed_str ?_), fun hif => (nomatch hif)⟩⟩))))))
          exact hq
      · refine (bd_cons (sd_if (td_neS (ek_ed (ed_repr hgu hu (fun _ => rfl) m_repr (fun _ => rfl) (ek_ed (ed_name 1 a1 rfl ⟨_, _, rfl, hsh, (ek_ed (ed_name 3 a3 rfl ⟨_, _, rfl, rfl, ⟨fun hif => ?_, fun hif => ?_⟩⟩))⟩)))))))
        · exact absurd hif (by simp)
        · refine (bd_nil (bd_cons (sd_ret (ed_ifExp (td_isN (ed_name 2 a2 rfl ⟨_, _, rfl, rfl, ⟨fun hif => (ed_str ?_), fun hif => (nomatch hif)⟩⟩))))))
          exact hq
    · refine (bd_cons (sd_try 4 (fun _ => rfl) (fun _ => rfl) (fun _ => rfl) sc__law_asked.nd rfl (fun _ => rfl) (lt1 rfl) (nl rfl) (fun _ => ⟨rfl, rfl, .inl g_DaysError⟩) (TX.never _ _ _) fun W tkW passW => (bd_cons (sd_if (td_eqI (ek_ed (ed_name 0 a0.tr rfl (ek_ed (ed_int (CmpT.mk rfl rfl ⟨fun hif => (absurd hif (by decide)), fun hif => (bd_cons (sd_if (td_eqI (ek_ed (ed_name 0 a0.tr rfl (ek_ed (ed_int (CmpT.mk rfl rfl ⟨fun hif => (absurd hif (by decide)), fun hif => (bd_cons (sd_if (td_eqI (ek_ed (ed_name 0 a0.tr rfl (ek_ed (ed_int (CmpT.mk rfl rfl ⟨fun hif => (absurd hif (by decide)), fun hif => (bd_cons (sd_if (td_eqI (ek_ed (ed_name 0 a0.tr rfl (ek_ed (ed_int (CmpT.mk rfl rfl ⟨fun hif => (absurd hif (by decide)), fun hif => (bd_cons (sd_if (td_eqI (ek_ed (ed_name 0 a0.tr rfl (ek_ed (ed_int (CmpT.mk rfl rfl ⟨fun hif => (absurd hif (by decide)), fun hif => (bd_cons (sd_expr (fun _ => rfl) (ed_callKX (ord := [0]) G_worst_pair (hr.mono (by decide)) hgu tkW (fun _ => rfl) g_worst_pair k_worst_pair kp_worst_pair (by decide) (fun _ => rfl) (fun _ => rfl) rfl (fun _ => rfl) (ekw_cons (ek_ed (ed_name 1 a1.tr rfl (ekw_nil ⟨_, rfl, rfl, ⟨d, rfl, hK, few, fun h => absurd h (by rw [hT]; decide), fun _ e he => ⟨fun _ _ => (bd_nil (bd_nil (bd_nil (bd_nil (bd_nil (bd_nil ?_)))))), fun _ x y p _ _ _ _ _ => (bd_nil (bd_nil (bd_nil (bd_nil (bd_nil (bd_nil ?_))))))⟩⟩⟩)))))))⟩))))))))⟩))))))))⟩))))))))⟩))))))))⟩))))))))))
      · refine (bd_cons (sd_if (td_neS (ek_ed (ed_repr hgu hu (fun _ => rfl) m_repr (fun _ => rfl) (ek_ed (ed_name 1 a1 rfl ⟨_, _, rfl, hsh, (ek_ed (ed_name 3 a3 rfl ⟨_, _, rfl, rfl, ⟨fun hif => ?_, fun hif => ?_⟩⟩))⟩)))))))
        · exact absurd hif (by simp)
        · refine (bd_nil (bd_cons (sd_ret (ed_ifExp (td_isN (ed_name 2 a2 rfl ⟨_, _, rfl, rfl, ⟨fun hif => (ed_str ?_), fun hif => (nomatch hif)⟩⟩))))))
          exact hq
      · refine (bd_cons (sd_if (td_neS (ek_ed (ed_repr hgu hu (fun _ => rfl) m_repr (fun _ => rfl) (ek_ed (ed_name 1 a1 rfl ⟨_, _, rfl, hsh, (ek_ed (ed_name 3 a3 rfl ⟨_, _, rfl, rfl, ⟨fun hif => ?_, fun hif => ?_⟩⟩))⟩)))))))
        · exact absurd hif (by simp)
        · refine (bd_nil (bd_cons (sd_ret (ed_ifExp (td_isN (ed_name 2 a2 rfl ⟨_, _, rfl, rfl, ⟨fun hif => (ed_str ?_), fun hif => (nomatch hif)⟩⟩))))))
          exact hq
end
end K24

namespace K24
open N24 PySem PySem.Spec PyProof.Rows L2 DL
abbrev s_law : Stmt := topS 50
theorem sc_law : FnScope ["script", "k", "source", "turn", "days_here", "bad", "some", "told", "door"] ["script"] (defScope s_law) := ⟨rfl, rfl, rfl, by decide +kernel, rfl, by decide +kernel, by decide +kernel⟩
def dsLaw : DSp := fun as post => ∃ ns : List Int, as = [.dt (.scr ns)] ∧ ns.length ≤ 63 ∧ post (.dt (.bl true)) [.un]
theorem ne_same {x : Str} (h : (!(x == x)) = true) : False := by
  rw [beq_self_eq_true] at h
  cases h
theorem fm6 (t : Nat) : Int.fmod (t : Nat) 6 = ((t % 6 : Nat) : Int) := by
  rw [Int.fmod_eq_emod_of_nonneg _ (by decide)]; rfl
theorem tab_good {t : Nat → Nat → Nat} {N : Nat} (h2 : N ≤ 20) (ht : ∀ x y, t x y < 10 ^ 40) : DL.Good (tabD t N) := good_rows (l := rows t N) (by rw [rows_len]; omega) (rows_ok h2 ht)
theorem tab_few {t : Nat → Nat → Nat} {N : Nat} (h2 : N ≤ 20) : nOf (tabD t N) ≤ 20 := by
  show ((List.range N).map _).length ≤ 20
  rw [List.length_map, List.length_range]; exact h2
section
variable {P : Program} {w : World} {K : PySem.W.Frag} [Tb K] {mg : Str → Option Value} {base : Heap}
theorem ok_law {f__law_cell : Addr} {d__law_cell : FuncData} (G__law_cell : FnG P w K mg base 1 f__law_cell d__law_cell ["script", "k"] (spD K dsCell)) (g__law_cell : mg "_law_cell" = some (.ref f__law_cell)) (k__law_cell : PySem.W.keepIn K (.ref f__law_cell) = true) (b__law_cell : Binds K d__law_cell ["script", "k"] []) {f__law_source : Addr} {d__law_source : FuncData} (G__law_source : FnG P w K mg base 1 f__law_source d__law_source ["cell"] (spD K dsSource)) (g__law_source : mg "_law_source" = some (.ref f__law_source)) (k__law_source : PySem.W.keepIn K (.ref f__law_source) = true) (b__law_source : Binds K d__law_source ["cell"] []) {f__law_draw : Addr} {d__law_draw : FuncData} (G__law_draw : FnG P w K mg base 1 f__law_draw d__law_draw ["source", "many"] (spD K dsDip)) (g__law_draw : mg "_law_draw" = some (.ref f__law_draw)) (k__law_draw : PySem.W.keepIn K (.ref f__law_draw) = true) (b__law_draw : Binds K d__law_draw ["source", "many"] []) {f__law_rough : Addr} {d__law_rough : FuncData} (G__law_rough : FnG P w K mg base 3 f__law_rough d__law_rough ["source", "most"] (spD K dsRough)) (g__law_rough : mg "_law_rough" = some (.ref f__law_rough)) (k__law_rough : PySem.W.keepIn K (.ref f__law_rough) = true) (b__law_rough : Binds K d__law_rough ["source", "most"] []) {f__law_no_table : Addr} {d__law_no_table : FuncData} (G__law_no_table : FnG P w K mg base 2 f__law_no_table d__law_no_table ["source", "days_here"] (spD K dsNoTab)) (g__law_no_table : mg "_law_no_table" = some (.ref f__law_no_table)) (k__law_no_table : PySem.W.keepIn K (.ref f__law_no_table) = true) (b__law_no_table : Binds K d__law_no_table ["source", "days_here"] []) {f__law_asked : Addr} {d__law_asked : FuncData} (G__law_asked : FnG P w K mg base 7 f__law_asked d__law_asked ["door", "days_here"] (spD K dsAsked)) (g__law_asked : mg "_law_asked" = some (.ref f__law_asked)) (k__law_asked : PySem.W.keepIn K (.ref f__law_asked) = true) (b__law_asked : Binds K d__law_asked ["door", "days_here"] []) (m_range : mg "range" = none) (m_max : mg "max" = none) (m_min : mg "min" = none) (m_len : mg "len" = none) (m_int : mg "int" = none) {f : Addr} {fd : FuncData} (F : Fun K "law" "law" s_law f fd) : FnG P w K mg base 8 f fd ["script"] (spD K dsLaw) := by
  refine FnG.of F sc_law (fun as post h => by obtain ⟨_, h⟩ := h; rw [h.1]; rfl) fun cdv A outer s H vs fo as post hr hgu hD => ?_
  obtain ⟨ns, rfl, hns, hq⟩ := hD
  have a0 : At (coreOf P w K mg base (A.deeper (envOfC "law" (defScope s_law) s.heap.objs.size f cdv)) ["script", "k", "source", "turn", "days_here", "bad", "some", "told", "door"] ((envOfC "law" (defScope s_law) s.heap.objs.size f cdv) :: outer)) (varOf s H (envOfC "law" (defScope s_law) s.heap.objs.size f cdv) outer) "script" 0 := ⟨rfl, fun _ => by first | exact .inl rfl | exact .inr (.inl rfl), by decide, by decide⟩
  have s0 : AtS (coreOf P w K mg base (A.deeper (envOfC "law" (defScope s_law) s.heap.objs.size f cdv)) ["script", "k", "source", "turn", "days_here", "bad", "some", "told", "door"] ((envOfC "law" (defScope s_law) s.heap.objs.size f cdv) :: outer)) (varOf s H (envOfC "law" (defScope s_law) s.heap.objs.size f cdv) outer) "script" 0 := ⟨sc_law.nd, rfl, fun _ => by first | exact .inl rfl | exact .inr rfl, fun _ => .inl rfl⟩
  have a1 : At (coreOf P w K mg base (A.deeper (envOfC "law" (defScope s_law) s.heap.objs.size f cdv)) ["script", "k", "source", "turn", "days_here", "bad", "some", "told", "door"] ((envOfC "law" (defScope s_law) s.heap.objs.size f cdv) :: outer)) (varOf s H (envOfC "law" (defScope s_law) s.heap.objs.size f cdv) outer) "k" 1 := ⟨rfl, fun _ => by first | exact .inl rfl | exact .inr (.inl rfl), by decide, by decide⟩
  have s1 : AtS (coreOf P w K mg base (A.deeper (envOfC "law" (defScope s_law) s.heap.objs.size f cdv)) ["script", "k", "source", "turn", "days_here", "bad", "some", "told", "door"] ((envOfC "law" (defScope s_law) s.heap.objs.size f cdv) :: outer)) (varOf s H (envOfC "law" (defScope s_law) s.heap.objs.size f cdv) outer) "k" 1 := ⟨sc_law.nd, rfl, fun _ => by first | exact .inl rfl | exact .inr rfl, fun _ => .inl rfl⟩
  have a2 : At (coreOf P w K mg base (A.deeper (envOfC "law" (defScope s_law) s.heap.objs.size f cdv)) ["script", "k", "source", "turn", "days_here", "bad", "some", "told", "door"] ((envOfC "law" (defScope s_law) s.heap.objs.size f cdv) :: outer)) (varOf s H (envOfC "law" (defScope s_law) s.heap.objs.size f cdv) outer) "source" 2 := ⟨rfl, fun _ => by first | exact .inl rfl | exact .inr (.inl rfl), by decide, by decide⟩
  have s2 : AtS (coreOf P w K mg base (A.deeper (envOfC "law" (defScope s_law) s.heap.objs.size f cdv)) ["script", "k", "source", "turn", "days_here", "bad", "some", "told", "door"] ((envOfC "law" (defScope s_law) s.heap.objs.size f cdv) :: outer)) (varOf s H (envOfC "law" (defScope s_law) s.heap.objs.size f cdv) outer) "source" 2 := ⟨sc_law.nd, rfl, fun _ => by first | exact .inl rfl | exact .inr rfl, fun _ => .inl rfl⟩
  have a3 : At (coreOf P w K mg base (A.deeper (envOfC "law" (defScope s_law) s.heap.objs.size f cdv)) ["script", "k", "source", "turn", "days_here", "bad", "some", "told", "door"] ((envOfC "law" (defScope s_law) s.heap.objs.size f cdv) :: outer)) (varOf s H (envOfC "law" (defScope s_law) s.heap.objs.size f cdv) outer) "turn" 3 := ⟨rfl, fun _ => by first | exact .inl rfl | exact .inr (.inl rfl), by decide, by decide⟩
  have s3 : AtS (coreOf P w K mg base (A.deeper (envOfC "law" (defScope s_law) s.heap.objs.size f cdv)) ["script", "k", "source", "turn", "days_here", "bad", "some", "told", "door"] ((envOfC "law" (defScope s_law) s.heap.objs.size f cdv) :: outer)) (varOf s H (envOfC "law" (defScope s_law) s.heap.objs.size f cdv) outer) "turn" 3 := ⟨sc_law.nd, rfl, fun _ => by first | exact .inl rfl | exact .inr rfl, fun _ => .inl rfl⟩
  have a4 : At (coreOf P w K mg base (A.deeper (envOfC "law" (defScope s_law) s.heap.objs.size f cdv)) ["script", "k", "source", "turn", "days_here", "bad", "some", "told", "door"] ((envOfC "law" (defScope s_law) s.heap.objs.size f cdv) :: outer)) (varOf s H (envOfC "law" (defScope s_law) s.heap.objs.size f cdv) outer) "days_here" 4 := ⟨rfl, fun _ => by first | exact .inl rfl | exact .inr (.inl rfl), by decide, by decide⟩
  have s4 : AtS (coreOf P w K mg base (A.deeper (envOfC "law" (defScope s_law) s.heap.objs.size f cdv)) ["script", "k", "source", "turn", "days_here", "bad", "some", "told", "door"] ((envOfC "law" (defScope s_law) s.heap.objs.size f cdv) :: outer)) (varOf s H (envOfC "law" (defScope s_law) s.heap.objs.size f cdv) outer) "days_here" 4 := ⟨sc_law.nd, rfl, fun _ => by first | exact .inl rfl | exact .inr rfl, fun _ => .inl rfl⟩
  have a5 : At (coreOf P w K mg base (A.deeper (envOfC "law" (defScope s_law) s.heap.objs.size f cdv)) ["script", "k", "source", "turn", "days_here", "bad", "some", "told", "door"] ((envOfC "law" (defScope s_law) s.heap.objs.size f cdv) :: outer)) (varOf s H (envOfC "law" (defScope s_law) s.heap.objs.size f cdv) outer) "bad" 5 := ⟨rfl, fun _ => by first | exact .inl rfl | exact .inr (.inl rfl), by decide, by decide⟩
  have s5 : AtS (coreOf P w K mg base (A.deeper (envOfC "law" (defScope s_law) s.heap.objs.size f cdv)) ["script", "k", "source", "turn", "days_here", "bad", "some", "told", "door"] ((envOfC "law" (defScope s_law) s.heap.objs.size f cdv) :: outer)) (varOf s H (envOfC "law" (defScope s_law) s.heap.objs.size f cdv) outer) "bad" 5 := ⟨sc_law.nd, rfl, fun _ => by first | exact .inl rfl | exact .inr rfl, fun _ => .inl rfl⟩
  have a6 : At (coreOf P w K mg base (A.deeper (envOfC "law" (defScope s_law) s.heap.objs.size f cdv)) ["script", "k", "source", "turn", "days_here", "bad", "some", "told", "door"] ((envOfC "law" (defScope s_law) s.heap.objs.size f cdv) :: outer)) (varOf s H (envOfC "law" (defScope s_law) s.heap.objs.size f cdv) outer) "some" 6 := ⟨rfl, fun _ => by first | exact .inl rfl | exact .inr (.inl rfl), by decide, by decide⟩
  have s6 : AtS (coreOf P w K mg base (A.deeper (envOfC "law" (defScope s_law) s.heap.objs.size f cdv)) ["script", "k", "source", "turn", "days_here", "bad", "some", "told", "door"] ((envOfC "law" (defScope s_law) s.heap.objs.size f cdv) :: outer)) (varOf s H (envOfC "law" (defScope s_law) s.heap.objs.size f cdv) outer) "some" 6 := ⟨sc_law.nd, rfl, fun _ => by first | exact .inl rfl | exact .inr rfl, fun _ => .inl rfl⟩
  have a7 : At (coreOf P w K mg base (A.deeper (envOfC "law" (defScope s_law) s.heap.objs.size f cdv)) ["script", "k", "source", "turn", "days_here", "bad", "some", "told", "door"] ((envOfC "law" (defScope s_law) s.heap.objs.size f cdv) :: outer)) (varOf s H (envOfC "law" (defScope s_law) s.heap.objs.size f cdv) outer) "told" 7 := ⟨rfl, fun _ => by first | exact .inl rfl | exact .inr (.inl rfl), by decide, by decide⟩
  have s7 : AtS (coreOf P w K mg base (A.deeper (envOfC "law" (defScope s_law) s.heap.objs.size f cdv)) ["script", "k", "source", "turn", "days_here", "bad", "some", "told", "door"] ((envOfC "law" (defScope s_law) s.heap.objs.size f cdv) :: outer)) (varOf s H (envOfC "law" (defScope s_law) s.heap.objs.size f cdv) outer) "told" 7 := ⟨sc_law.nd, rfl, fun _ => by first | exact .inl rfl | exact .inr rfl, fun _ => .inl rfl⟩
  show BD _ _ _ _ _ [AV.dt (.scr ns), .un, .un, .un, .un, .un, .un, .un, .un]
  have hu := units_of hr
  refine (bd_cons (sd_for (fun _ => PassesOwn.never) (fun _ _ => rfl) (src_R1 (fun _ => rfl) m_range (fun _ => rfl) (ea_cons (fun _ => rfl) (ek_ed (ed_max2 (fun _ => rfl) m_max (fun _ => rfl) (fun _ => rfl) (fun _ => rfl) (ek_ed (ed_int (ek_ed (ed_min2 (fun _ => rfl) m_min (fun _ => rfl) (fun _ => rfl) (fun _ => rfl) (ek_ed (ed_int (ek_ed (ed_len (fun _ => rfl) m_len (fun _ => rfl) (ek_ed (ed_name 0 a0 rfl ⟨_, rfl, ⟨_, _, rfl, rfl, ⟨_, _, rfl, rfl, (ea_nil ⟨_, _, rfl, rfl, ?_, ⟨(fun x Γ => ∃ u1 u2 u3 u4 u5 u6 u7 u8, Γ = [AV.dt (.scr ns), u1, u2, u3, u4, u5, u6, u7, u8]), ?_, ?_, ?_⟩⟩)⟩⟩⟩))))))))))))))))
  · split <;> split <;> omega
  · exact ⟨_, _, _, _, _, _, _, _, rfl⟩
  · rintro a d Γ2 hd ⟨u1, u2, u3, u4, u5, u6, u7, u8, rfl⟩
    rw [rngD_get (by have := (List.getElem?_eq_some_iff.mp hd).1; rw [rngD_len] at this; exact this), Int.zero_add] at hd
    cases hd
    refine ⟨_, fun ff => (gd_name 1 s1 (lt1 rfl) (nl rfl) (bd_cons (sd_set 2 s2 (fun _ => rfl) (lt1 rfl) (nl rfl) (ed_call G__law_source (hr.mono (by decide)) hgu (fun _ => rfl) g__law_source k__law_source b__law_source (by decide) (fun _ => rfl) (fun _ => rfl) (ea_cons (fun _ => rfl) (ek_ed (ed_add (ek_ed (ed_mulO (ek_ed (ed_call G__law_cell (hr.mono (by decide)) hgu (fun _ => rfl) g__law_cell k__law_cell b__law_cell (by decide) (fun _ => rfl) (fun _ => rfl) (ea_cons (fun _ => rfl) (ek_ed (ed_name 0 a0 rfl (ea_cons (fun _ => rfl) (ek_ed (ed_name 1 a1 rfl (ea_nil ⟨_, rfl, rfl, ⟨ns, a, rfl, fun x => fun _ => (ek_ed (ed_int (IntR.mk rfl rfl (IntMulOk.of_right (by decide)) (ek_ed (ed_int (AddR.int rfl rfl (ea_nil ⟨_, rfl, rfl, ⟨_, rfl, fun ds hp => fun _ => ?_⟩⟩)))))))⟩⟩))))))))))))))))))⟩
    refine (bd_cons (sd_for (fun _ => PassesOwn.never) (fun _ _ => rfl) (src_R1 (fun _ => rfl) m_range (fun _ => rfl) (ea_cons (fun _ => rfl) (ek_ed (ed_int (ea_nil ⟨_, _, rfl, rfl, ?_, ⟨(fun x Γ => ∃ ds u3 u4 u5 u6 u7 u8, Pail (3100 * (x : Nat)) ds ∧ Γ = [AV.dt (.scr ns), .dt (.int (a : Nat)), .ow ds, u3, u4, u5, u6, u7, u8]), ?_, ?_, ?_⟩⟩)))))))
    · exact ⟨by decide, by decide⟩
    · exact ⟨_, _, _, _, _, _, _, hp, rfl⟩
    · rintro tn d Γ2 hd ⟨ds, u3, u4, u5, u6, u7, u8, hp, rfl⟩
      have htn : tn < 18 := by
        have := (List.getElem?_eq_some_iff.mp hd).1
        rw [rngD_len] at this
        exact this
      rw [rngD_get (show tn < Int.toNat 18 from htn), Int.zero_add] at hd
      cases hd
      refine ⟨_, fun ff => (gd_name 3 s3 (lt1 rfl) (nl rfl) (bd_cons (sd_set 4 s4 (fun _ => rfl) (lt1 rfl) (nl rfl) (ed_call G__law_rough (hr.mono (by decide)) hgu (fun _ => rfl) g__law_rough k__law_rough b__law_rough (by decide) (fun _ => rfl) (fun _ => rfl) (ea_cons (fun _ => rfl) (ek_loan 2 a2 rfl (ea_cons (fun _ => rfl) (ek_ed (ed_int (ea_nil ⟨_, rfl, rfl, ⟨_, 9, _, rfl, hp, (by omega), (by omega), (by decide), (by decide), fun t N ds h1 h9 ht hp => fun _ => (bd_cons (sd_set 5 s5 (fun _ => rfl) (lt1 rfl) (nl rfl) (ed_eqI (ek_ed (ed_call G__law_draw (hr.mono (by decide)) hgu (fun _ => rfl) g__law_draw k__law_draw b__law_draw (by decide) (fun _ => rfl) (fun _ => rfl) (ea_cons (fun _ => rfl) (ek_loan 2 a2 rfl (ea_cons (fun _ => rfl) (ek_ed (ed_int (ea_nil ⟨_, rfl, rfl, ⟨_, _, _, rfl, hp, (by omega), (by first | decide | omega), (by first | decide | omega), fun r ds hr1 hp => fun _ => (ek_ed (ed_int (CmpR.mk rfl rfl ?_)))⟩⟩)))))))))))⟩⟩))))))))))⟩
      rcases (by omega : r = 0 ∨ r = 1) with rfl | rfl
      · refine (bd_cons (sd_set 6 s6 (fun _ => rfl) (lt1 rfl) (nl rfl) (ed_ifExp (td_val (fun _ _ => rfl) (ed_name 5 a5 rfl ⟨_, rfl, ⟨fun hif => (ed_call G__law_no_table (hr.mono (by decide)) hgu (fun _ => rfl) g__law_no_table k__law_no_table b__law_no_table (by decide) (fun _ => rfl) (fun _ => rfl) (ea_cons (fun _ => rfl) (ek_loan 2 a2 rfl (ea_cons (fun _ => rfl) (ek_ed (ed_name 4 a4 rfl (ea_nil ⟨_, rfl, rfl, ⟨_, t, N, _, rfl, hp, (by omega), (by omega), h1, (by omega), ht, fun d ds hgd htb hp => fun _ => ?_⟩⟩))))))), fun hif => (absurd hif (by decide))⟩⟩)))))
        refine (bd_cons (sd_if (td_neS (ek_ed (ed_call G__law_asked (hr.mono (by decide)) hgu (fun _ => rfl) g__law_asked k__law_asked b__law_asked (by decide) (fun _ => rfl) (fun _ => rfl) (ea_cons (fun _ => rfl) (ek_ed (ed_mod (ek_ed (ed_name 3 a3 rfl (ek_ed (ed_int (IntR.mk rfl rfl ?_ (ea_cons (fun _ => rfl) (ek_ed (ed_name 6 a6 rfl (ea_nil ⟨_, rfl, rfl, ⟨tn % 6, _, (by rw [fm6]; rfl), (by omega), hgd, (fun z => absurd z (by rw [htb]; decide)), fun _ => (ek_ed (ed_ixD (fun _ _ => rfl) (ek_ed (ed_lst (ea_cons (fun _ => rfl) (ek_ed (ed_str (ea_cons (fun _ => rfl) (ek_ed (ed_str (ea_nil ⟨_, rfl, le1 rfl, (ek_ed (ed_intB (fun _ => rfl) m_int (fun _ => rfl) (ek_ed (ed_name 5 a5 rfl ⟨_, rfl, (IxD.mk rfl rfl rfl ⟨_, _, rfl, rfl, ⟨fun hif => (bd_cons (sd_ret (ed_bl ?_))), fun hif => (bd_nil (bd_nil ?_))⟩⟩)⟩))))⟩)))))))))))⟩⟩)))))))))))))))))
        · decide
        · rw [htb] at hif
          exact (ne_same hif).elim
        · exact ⟨_, _, _, _, _, _, _, hp.mono (by omega), rfl⟩
      · refine (bd_cons (sd_set 6 s6 (fun _ => rfl) (lt1 rfl) (nl rfl) (ed_ifExp (td_val (fun _ _ => rfl) (ed_name 5 a5 rfl ⟨_, rfl, ⟨fun hif => (absurd hif (by decide)), fun hif => (ed_name 4 a4 rfl ?_)⟩⟩)))))
        refine (bd_cons (sd_if (td_neS (ek_ed (ed_call G__law_asked (hr.mono (by decide)) hgu (fun _ => rfl) g__law_asked k__law_asked b__law_asked (by decide) (fun _ => rfl) (fun _ => rfl) (ea_cons (fun _ => rfl) (ek_ed (ed_mod (ek_ed (ed_name 3 a3 rfl (ek_ed (ed_int (IntR.mk rfl rfl ?_ (ea_cons (fun _ => rfl) (ek_ed (ed_name 6 a6 rfl (ea_nil ⟨_, rfl, rfl, ⟨tn % 6, _, (by rw [fm6]; rfl), (by omega), (tab_good (Nat.le_trans h9 (by decide)) ht), (fun _ => tab_few (by omega)), fun _ => (ek_ed (ed_ixD (fun _ _ => rfl) (ek_ed (ed_lst (ea_cons (fun _ => rfl) (ek_ed (ed_str (ea_cons (fun _ => rfl) (ek_ed (ed_str (ea_nil ⟨_, rfl, le1 rfl, (ek_ed (ed_intB (fun _ => rfl) m_int (fun _ => rfl) (ek_ed (ed_name 5 a5 rfl ⟨_, rfl, (IxD.mk rfl rfl rfl ⟨_, _, rfl, rfl, ⟨fun hif => (bd_cons (sd_ret (ed_bl ?_))), fun hif => (bd_nil (bd_nil ?_))⟩⟩)⟩))))⟩)))))))))))⟩⟩)))))))))))))))))
        · decide
        · rw [tab_is h1] at hif
          exact (ne_same hif).elim
        · exact ⟨_, _, _, _, _, _, _, hp.mono (by omega), rfl⟩
    · rintro Γ2 ⟨ds, u3, u4, u5, u6, u7, u8, hp, rfl⟩
      exact bd_nil ⟨_, _, _, _, _, _, _, _, rfl⟩
  · rintro Γ2 ⟨u1, u2, u3, u4, u5, u6, u7, u8, rfl⟩
    refine (bd_cons (sd_set 7 s7 (fun _ => rfl) (lt1 rfl) (nl rfl) (ed_add (ek_ed (ed_lc (own := [("door", 8)]) sc_law.nd (fun _ => blkOk_by rfl) (fun _ _ => rfl) (nls rfl) (src_R1 (fun _ => rfl) m_range (fun _ => rfl) (ea_cons (fun _ => rfl) (ek_ed (ed_int (ea_nil ⟨_, _, rfl, rfl, ?_, ⟨?_, (fun j acc Γ => acc = List.replicate j (.str "table") ∧ ∃ u1 u2 u3 u4 u5 u6 u7, Γ = [AV.dt (.scr ns), u1, u2, u3, u4, u5, u6, u7, .un]), ?_, ?_, ?_⟩⟩))))))))))
    · exact ⟨by decide, by decide⟩
    · rw [rngD_len]; decide
    · exact ⟨rfl, u1, u2, u3, u4, u5, u6, u7,  rfl⟩
    · rintro j d acc Γ2 hd ⟨rfl, u1, u2, u3, u4, u5, u6, u7, rfl⟩
      have hj : j < 6 := by
        have := (List.getElem?_eq_some_iff.mp hd).1
        rw [rngD_len] at this
        exact this
      rw [rngD_get (show j < Int.toNat 6 from hj), Int.zero_add] at hd
      cases hd
      refine ⟨_, (by decide), fun g ff => (gd_name 8 (ats_of sc_law.nd rfl (fun _ => rfl) (fun _ => rfl)) (lt1 rfl) (nl rfl) (ts_nil ⟨fun _ => (ed_call G__law_asked (hr.mono (by decide)) hgu (fun _ => rfl) g__law_asked k__law_asked b__law_asked (by decide) (fun _ => rfl) (fun _ => rfl) (ea_cons (fun _ => rfl) (ek_ed (ed_name 8 (at_of rfl (fun _ => rfl) rfl rfl) rfl (ea_cons (fun _ => rfl) (ek_ed (ed_tup (ea_nil ⟨_, rfl, le1 rfl, (ea_nil ⟨_, rfl, rfl, ⟨_, _, rfl, ?_, ?_, ?_, fun _ => ⟨_, rfl, ?_⟩⟩⟩)⟩)))))))), fun hif => nomatch hif⟩))⟩
      · exact hj
      · exact good_rows (by decide) (fun e he => by cases he)
      · exact fun _ => by decide
      · exact ⟨(List.replicate_succ' ..).symm, u1, u2, u3, u4, u5, u6, u7,  rfl⟩
    · rintro acc Γ2 ⟨rfl, u1, u2, u3, u4, u5, u6, u7, rfl⟩
      refine (ek_ed (ed_lc (own := [("door", 8)]) sc_law.nd (fun _ => blkOk_by rfl) (fun _ _ => rfl) (nls rfl) (src_R1 (fun _ => rfl) m_range (fun _ => rfl) (ea_cons (fun _ => rfl) (ek_ed (ed_int (ea_nil ⟨_, _, rfl, rfl, ?_, ⟨?_, (fun j acc Γ => acc = List.replicate j (.str "none") ∧ ∃ u1 u2 u3 u4 u5 u6 u7, Γ = [AV.dt (.scr ns), u1, u2, u3, u4, u5, u6, u7, .un]), ?_, ?_, ?_⟩⟩)))))))
      · exact ⟨by decide, by decide⟩
      · rw [rngD_len]; decide
      · exact ⟨rfl, u1, u2, u3, u4, u5, u6, u7,  rfl⟩
      · rintro j d acc Γ2 hd ⟨rfl, u1, u2, u3, u4, u5, u6, u7, rfl⟩
        have hj : j < 6 := by
          have := (List.getElem?_eq_some_iff.mp hd).1
          rw [rngD_len] at this
          exact this
        rw [rngD_get (show j < Int.toNat 6 from hj), Int.zero_add] at hd
        cases hd
        refine ⟨_, (by decide), fun g ff => (gd_name 8 (ats_of sc_law.nd rfl (fun _ => rfl) (fun _ => rfl)) (lt1 rfl) (nl rfl) (ts_nil ⟨fun _ => (ed_call G__law_asked (hr.mono (by decide)) hgu (fun _ => rfl) g__law_asked k__law_asked b__law_asked (by decide) (fun _ => rfl) (fun _ => rfl) (ea_cons (fun _ => rfl) (ek_ed (ed_name 8 (at_of rfl (fun _ => rfl) rfl rfl) rfl (ea_cons (fun _ => rfl) (ek_ed (ed_tup (ea_cons (fun _ => rfl) (ek_ed (ed_tup (ea_nil ⟨_, rfl, le1 rfl, (ea_nil ⟨_, rfl, le1 rfl, (ea_nil ⟨_, rfl, rfl, ⟨_, _, rfl, ?_, ?_, ?_, fun _ => ⟨_, rfl, ?_⟩⟩⟩)⟩)⟩))))))))))), fun hif => nomatch hif⟩))⟩
        · exact hj
        · exact tab_good (t := fun _ _ => 0) (N := 1) (by decide) (fun _ _ => by decide)
        · exact fun _ => by decide
        · exact ⟨(List.replicate_succ' ..).symm, u1, u2, u3, u4, u5, u6, u7,  rfl⟩
      · rintro acc Γ2 ⟨rfl, u1, u2, u3, u4, u5, u6, u7, rfl⟩
        refine (AddR.lst rfl rfl rfl rfl ?_ ?_)
        · rw [List.length_replicate, List.length_replicate, rngD_len]; decide
        · refine (bd_cons (sd_ret (ed_eq hu (ek_loan 7 a7 rfl (ek_ed (ed_add (ek_ed (ed_mul (ek_ed (ed_lst (ea_cons (fun _ => rfl) (ek_ed (ed_str (ea_nil ⟨_, rfl, le1 rfl, (ek_ed (ed_int (MulR.rep rfl rfl rfl ?_ (ek_ed (ed_mul (ek_ed (ed_lst (ea_cons (fun _ => rfl) (ek_ed (ed_str (ea_nil ⟨_, rfl, le1 rfl, (ek_ed (ed_int (MulR.rep rfl rfl rfl ?_ (AddR.lst rfl rfl rfl rfl ?_ (EqR.mk rfl rfl rfl rfl ⟨?_, ?_⟩ ?_)))))⟩)))))))))))⟩))))))))))))))
          · decide
          · decide
          · decide
          · decide +kernel
          · decide +kernel
          · have e := SeqAt.eqv_refl_plain (PyData.list [.str "table", .str "table", .str "table", .str "table", .str "table", .str "table", .str "none", .str "none", .str "none", .str "none", .str "none", .str "none"]) (by decide +kernel)
            show post (.dt (.bl (PyData.eqv (PyData.list [.str "table", .str "table", .str "table", .str "table", .str "table", .str "table", .str "none", .str "none", .str "none", .str "none", .str "none", .str "none"]) (PyData.list [.str "table", .str "table", .str "table", .str "table", .str "table", .str "table", .str "none", .str "none", .str "none", .str "none", .str "none", .str "none"])))) [.un]
            rw [e]
            exact hq
end
end K24

namespace K24
open PySem PySem.Spec PyProof.Rows L2 DL
def excB (K : PySem.W.Frag) (D : Addr) : Bool :=
  decide (PySem.W.findIn K (.ref D) "__getattribute__" = some (some (.builtin "BaseException.__getattribute__"))) && (decide (PySem.W.findIn K (.ref D) "__getattr__" = some none) && (decide (PySem.W.subIn K (.ref D) (.type "BaseException") = some true) && (PySem.W.hasDictIn K D && (decide (PySem.W.findIn K (.ref D) "__class__" = some (some (.builtin "object.__class__"))) &&
    (decide (PySem.W.specialIn K (.builtin "object.__class__") "__get__" = some (some (.builtin "getset_descriptor.__get__"))) && (decide (PySem.W.takesIn K (.builtin "object.__class__") = some true) && decide (PySem.W.mroIn K D (.type "object") = some true)))))))
theorem excB_ok {K : PySem.W.Frag} {D : Addr} (h : excB K D = true) : ExcC K D := by
  unfold excB at h
  simp only [Bool.and_eq_true, decide_eq_true_eq] at h; obtain ⟨h1, h2, h3, h4, h5, h6, h7, h8⟩ := h
  exact ⟨h1, h2, h3, h4, h5, h6, h7, h8⟩
def ownB (K : PySem.W.Frag) (cs o1 o2 o3 : List Addr) (D : Addr) (i : Nat) : Bool :=
  excB K D && (cs.zipIdx.all (fun q => decide (PySem.W.kitOne K (.ref D) (.ref q.1) = some (decide (i = q.2)))) && (decide (PySem.W.kitAny K (.ref D) (o1.map Value.ref) = some false) && (decide (PySem.W.kitAny K (.ref D) (o2.map Value.ref) = some false) && (decide (PySem.W.kitAny K (.ref D) (o3.map Value.ref) = some false) && decide (PySem.W.kitOne K (.ref D) (.type "ValueError") = some true)))))
theorem ownB_ok {K : PySem.W.Frag} {cs o1 o2 o3 : List Addr} {D : Addr} {i : Nat} {o : Dt} (h : ownB K cs o1 o2 o3 D i = true) (kind : ExcD D o) : OwnI K cs o1 o2 o3 D o i := by
  unfold ownB at h
  simp only [Bool.and_eq_true, decide_eq_true_eq, List.all_eq_true] at h
  obtain ⟨h1, h2, h3, h4, h5, h6⟩ := h
  exact ⟨excB_ok h1, kind, fun j c e => h2 (c, j) (by rw [List.mem_zipIdx_iff_getElem?]; exact e), h3, h4, h5, h6⟩
/-- every def of the text, one after another -/
theorem all_defs {l : PySem.W.OpenLaw} {w : World} {K : PySem.W.Frag} {h : Heap} {mg : Str → Option Value} {C Pt fa f0 f1 f2 f3 f4 f5 f6 f7 f8 f9 f10 f11 f12 f13 f14 f15 f16 f17 f18 f19 f20 f21 c_NotAHistory c_InvalidPairs c_InvalidTable c_InvalidNumber c_InvalidDay c_TooLarge c_Contradiction c_InvalidBound c_InvalidForks c_InvalidItem c_InvalidItems c_InvalidPair c_InvalidParts c_InvalidText c_InvalidTold c_NoCommon c_NotAnObject c_NotExact c_NothingToUndo c_NotPossible c_OtherNumber c_SameItem c_DaysError : Addr} (X : K.In h) (G : h.Ns mainGlobals mg) (hfa : mg "law" = some (.ref fa))
    {od0 an0 od1 an1 od2 an2 od3 an3 od4 an4 od5 an5 od6 an6 od7 an7 od8 an8 od9 an9 od10 an10 od11 an11 od12 an12 od13 an13 od14 an14 od15 an15 od16 an16 od17 an17 od18 an18 od19 an19 od20 an20 od21 an21 : Option Addr} {sl0 sl1 sl2 sl3 sl4 sl5 sl6 sl7 sl8 sl9 sl10 sl11 sl12 sl13 sl14 sl15 sl16 sl17 sl18 sl19 sl20 sl21 : Array (Option Value)} {oc0 kV0 dc0 pm0 cd0 ct0 oc1 kV1 dc1 pm1 ct1 oc2 kV2 dc2 pm2 cd2 ct2 oc3 kV3 dc3 pm3 cd3 ct3 oc4 kV4 dc4 pm4 cd4 ct4 oc5 kV5 dc5 pm5 cd5 ct5 oc6 kV6 dc6 pm6 cd6 ct6 oc7 kV7 dc7 pm7 cd7 ct7 oc8 kV8 dc8 pm8 cd8 ct8 oc9 kV9 dc9 pm9 cd9 ct9 oc10 kV10 dc10 pm10 cd10 ct10 oc11 kV11 dc11 pm11 cd11 ct11 oc12 kV12 dc12 pm12 cd12 ct12 oc13 kV13 dc13 pm13 cd13 ct13 oc14 kV14 dc14 pm14 cd14 ct14 oc15 kV15 dc15 pm15 cd15 ct15 oc16 kV16 dc16 pm16 cd16 ct16 oc17 kV17 dc17 pm17 cd17 ct17 oc18 kV18 dc18 pm18 cd18 ct18 oc19 kV19 dc19 pm19 cd19 ct19 oc20 kV20 dc20 pm20 cd20 ct20 oc21 kV21 dc21 pm21 cd21 ct21 : Value}
    (at0 : PySem.W.nsIn K mainGlobals "table_links" = some (some (.ref f0))) (lk0 : K.lookup f0 = some ⟨oc0, od0, .func (PySem.W.fnOf "table_links" "table_links" (defArgs s_table_links) (defBody s_table_links) (defScope s_table_links) .none kV0 dc0 pm0 an0 cd0 ct0), sl0⟩) (co0 : PySem.W.codeIn K cd0 "table_links" = true) (ke0 : PySem.W.keepIn K (.ref f0) = true)
    (at1 : PySem.W.nsIn K mainGlobals "chain_table" = some (some (.ref f1))) (lk1 : K.lookup f1 = some ⟨oc1, od1, .func (PySem.W.fnOf "chain_table" "chain_table" (defArgs s_chain_table) (defBody s_chain_table) (defScope s_chain_table) .none kV1 dc1 pm1 an1 (.ref C) ct1), sl1⟩) (co1 : PySem.W.codeIn K (.ref C) "chain_table" = true) (ke1 : PySem.W.keepIn K (.ref f1) = true)
    (at2 : PySem.W.nsIn K mainGlobals "find_chain" = some (some (.ref f2))) (lk2 : K.lookup f2 = some ⟨oc2, od2, .func (PySem.W.fnOf "find_chain" "find_chain" (defArgs s_find_chain) (defBody s_find_chain) (defScope s_find_chain) .none kV2 dc2 pm2 an2 cd2 ct2), sl2⟩) (co2 : PySem.W.codeIn K cd2 "find_chain" = true) (ke2 : PySem.W.keepIn K (.ref f2) = true)
    (at3 : PySem.W.nsIn K mainGlobals "is_whole" = some (some (.ref f3))) (lk3 : K.lookup f3 = some ⟨oc3, od3, .func (PySem.W.fnOf "is_whole" "is_whole" (defArgs s_is_whole) (defBody s_is_whole) (defScope s_is_whole) .none kV3 dc3 pm3 an3 cd3 ct3), sl3⟩) (co3 : PySem.W.codeIn K cd3 "is_whole" = true) (ke3 : PySem.W.keepIn K (.ref f3) = true)
    (at4 : PySem.W.nsIn K mainGlobals "is_day" = some (some (.ref f4))) (lk4 : K.lookup f4 = some ⟨oc4, od4, .func (PySem.W.fnOf "is_day" "is_day" (defArgs s_is_day) (defBody s_is_day) (defScope s_is_day) .none kV4 dc4 pm4 an4 cd4 ct4), sl4⟩) (co4 : PySem.W.codeIn K cd4 "is_day" = true) (ke4 : PySem.W.keepIn K (.ref f4) = true)
    (at5 : PySem.W.nsIn K mainGlobals "_is_row" = some (some (.ref f5))) (lk5 : K.lookup f5 = some ⟨oc5, od5, .func (PySem.W.fnOf "_is_row" "_is_row" (defArgs s__is_row) (defBody s__is_row) (defScope s__is_row) .none kV5 dc5 pm5 an5 cd5 ct5), sl5⟩) (co5 : PySem.W.codeIn K cd5 "_is_row" = true) (ke5 : PySem.W.keepIn K (.ref f5) = true)
    (at6 : PySem.W.nsIn K mainGlobals "is_table" = some (some (.ref f6))) (lk6 : K.lookup f6 = some ⟨oc6, od6, .func (PySem.W.fnOf "is_table" "is_table" (defArgs s_is_table) (defBody s_is_table) (defScope s_is_table) .none kV6 dc6 pm6 an6 cd6 ct6), sl6⟩) (co6 : PySem.W.codeIn K cd6 "is_table" = true) (ke6 : PySem.W.keepIn K (.ref f6) = true)
    (at7 : PySem.W.nsIn K mainGlobals "_greatest_excess" = some (some (.ref f7))) (lk7 : K.lookup f7 = some ⟨oc7, od7, .func (PySem.W.fnOf "_greatest_excess" "_greatest_excess" (defArgs s__greatest_excess) (defBody s__greatest_excess) (defScope s__greatest_excess) .none kV7 dc7 pm7 an7 cd7 ct7), sl7⟩) (co7 : PySem.W.codeIn K cd7 "_greatest_excess" = true) (ke7 : PySem.W.keepIn K (.ref f7) = true)
    (at8 : PySem.W.nsIn K mainGlobals "_error_of" = some (some (.ref f8))) (lk8 : K.lookup f8 = some ⟨oc8, od8, .func (PySem.W.fnOf "_error_of" "_error_of" (defArgs s__error_of) (defBody s__error_of) (defScope s__error_of) .none kV8 dc8 pm8 an8 cd8 ct8), sl8⟩) (co8 : PySem.W.codeIn K cd8 "_error_of" = true) (ke8 : PySem.W.keepIn K (.ref f8) = true)
    (at9 : PySem.W.nsIn K mainGlobals "_chain_days" = some (some (.ref f9))) (lk9 : K.lookup f9 = some ⟨oc9, od9, .func (PySem.W.fnOf "_chain_days" "_chain_days" (defArgs s__chain_days) (defBody s__chain_days) (defScope s__chain_days) .none kV9 dc9 pm9 an9 cd9 ct9), sl9⟩) (co9 : PySem.W.codeIn K cd9 "_chain_days" = true) (ke9 : PySem.W.keepIn K (.ref f9) = true)
    (at10 : PySem.W.nsIn K mainGlobals "least_error" = some (some (.ref f10))) (lk10 : K.lookup f10 = some ⟨oc10, od10, .func (PySem.W.fnOf "least_error" "least_error" (defArgs s_least_error) (defBody s_least_error) (defScope s_least_error) .none kV10 dc10 pm10 an10 cd10 ct10), sl10⟩) (co10 : PySem.W.codeIn K cd10 "least_error" = true) (ke10 : PySem.W.keepIn K (.ref f10) = true)
    (at11 : PySem.W.nsIn K mainGlobals "nearest_history" = some (some (.ref f11))) (lk11 : K.lookup f11 = some ⟨oc11, od11, .func (PySem.W.fnOf "nearest_history" "nearest_history" (defArgs s_nearest_history) (defBody s_nearest_history) (defScope s_nearest_history) .none kV11 dc11 pm11 an11 cd11 ct11), sl11⟩) (co11 : PySem.W.codeIn K cd11 "nearest_history" = true) (ke11 : PySem.W.keepIn K (.ref f11) = true)
    (at12 : PySem.W.nsIn K mainGlobals "worst_pair" = some (some (.ref f12))) (lk12 : K.lookup f12 = some ⟨oc12, od12, .func (PySem.W.fnOf "worst_pair" "worst_pair" (defArgs s_worst_pair) (defBody s_worst_pair) (defScope s_worst_pair) .none kV12 dc12 pm12 an12 cd12 ct12), sl12⟩) (co12 : PySem.W.codeIn K cd12 "worst_pair" = true) (ke12 : PySem.W.keepIn K (.ref f12) = true)
    (at13 : PySem.W.nsIn K mainGlobals "_law_kind" = some (some (.ref f13))) (lk13 : K.lookup f13 = some ⟨oc13, od13, .func (PySem.W.fnOf "_law_kind" "_law_kind" (defArgs s__law_kind) (defBody s__law_kind) (defScope s__law_kind) .none kV13 dc13 pm13 an13 cd13 ct13), sl13⟩) (co13 : PySem.W.codeIn K cd13 "_law_kind" = true) (ke13 : PySem.W.keepIn K (.ref f13) = true)
    (at14 : PySem.W.nsIn K mainGlobals "_law_cell" = some (some (.ref f14))) (lk14 : K.lookup f14 = some ⟨oc14, od14, .func (PySem.W.fnOf "_law_cell" "_law_cell" (defArgs s__law_cell) (defBody s__law_cell) (defScope s__law_cell) .none kV14 dc14 pm14 an14 cd14 ct14), sl14⟩) (co14 : PySem.W.codeIn K cd14 "_law_cell" = true) (ke14 : PySem.W.keepIn K (.ref f14) = true)
    (at15 : PySem.W.nsIn K mainGlobals "_law_source" = some (some (.ref f15))) (lk15 : K.lookup f15 = some ⟨oc15, od15, .func (PySem.W.fnOf "_law_source" "_law_source" (defArgs s__law_source) (defBody s__law_source) (defScope s__law_source) .none kV15 dc15 pm15 an15 cd15 ct15), sl15⟩) (co15 : PySem.W.codeIn K cd15 "_law_source" = true) (ke15 : PySem.W.keepIn K (.ref f15) = true)
    (at16 : PySem.W.nsIn K mainGlobals "_law_draw" = some (some (.ref f16))) (lk16 : K.lookup f16 = some ⟨oc16, od16, .func (PySem.W.fnOf "_law_draw" "_law_draw" (defArgs s__law_draw) (defBody s__law_draw) (defScope s__law_draw) .none kV16 dc16 pm16 an16 cd16 ct16), sl16⟩) (co16 : PySem.W.codeIn K cd16 "_law_draw" = true) (ke16 : PySem.W.keepIn K (.ref f16) = true)
    (at17 : PySem.W.nsIn K mainGlobals "_law_history" = some (some (.ref f17))) (lk17 : K.lookup f17 = some ⟨oc17, od17, .func (PySem.W.fnOf "_law_history" "_law_history" (defArgs s__law_history) (defBody s__law_history) (defScope s__law_history) .none kV17 dc17 pm17 an17 cd17 ct17), sl17⟩) (co17 : PySem.W.codeIn K cd17 "_law_history" = true) (ke17 : PySem.W.keepIn K (.ref f17) = true)
    (at18 : PySem.W.nsIn K mainGlobals "_law_rough" = some (some (.ref f18))) (lk18 : K.lookup f18 = some ⟨oc18, od18, .func (PySem.W.fnOf "_law_rough" "_law_rough" (defArgs s__law_rough) (defBody s__law_rough) (defScope s__law_rough) .none kV18 dc18 pm18 an18 cd18 ct18), sl18⟩) (co18 : PySem.W.codeIn K cd18 "_law_rough" = true) (ke18 : PySem.W.keepIn K (.ref f18) = true)
    (at19 : PySem.W.nsIn K mainGlobals "_law_no_table" = some (some (.ref f19))) (lk19 : K.lookup f19 = some ⟨oc19, od19, .func (PySem.W.fnOf "_law_no_table" "_law_no_table" (defArgs s__law_no_table) (defBody s__law_no_table) (defScope s__law_no_table) .none kV19 dc19 pm19 an19 cd19 ct19), sl19⟩) (co19 : PySem.W.codeIn K cd19 "_law_no_table" = true) (ke19 : PySem.W.keepIn K (.ref f19) = true)
    (at20 : PySem.W.nsIn K mainGlobals "_law_asked" = some (some (.ref f20))) (lk20 : K.lookup f20 = some ⟨oc20, od20, .func (PySem.W.fnOf "_law_asked" "_law_asked" (defArgs s__law_asked) (defBody s__law_asked) (defScope s__law_asked) .none kV20 dc20 pm20 an20 cd20 ct20), sl20⟩) (co20 : PySem.W.codeIn K cd20 "_law_asked" = true) (ke20 : PySem.W.keepIn K (.ref f20) = true)
    (at21 : PySem.W.nsIn K mainGlobals "law" = some (some (.ref f21))) (lk21 : K.lookup f21 = some ⟨oc21, od21, .func (PySem.W.fnOf "law" "law" (defArgs s_law) (defBody s_law) (defScope s_law) .none kV21 dc21 pm21 an21 cd21 ct21), sl21⟩) (co21 : PySem.W.codeIn K cd21 "law" = true) (ke21 : PySem.W.keepIn K (.ref f21) = true)
    (at_NotAHistory : PySem.W.nsIn K mainGlobals "NotAHistory" = some (some (.ref c_NotAHistory)))
    (at_InvalidPairs : PySem.W.nsIn K mainGlobals "InvalidPairs" = some (some (.ref c_InvalidPairs)))
    (at_InvalidTable : PySem.W.nsIn K mainGlobals "InvalidTable" = some (some (.ref c_InvalidTable)))
    (at_InvalidNumber : PySem.W.nsIn K mainGlobals "InvalidNumber" = some (some (.ref c_InvalidNumber)))
    (at_InvalidDay : PySem.W.nsIn K mainGlobals "InvalidDay" = some (some (.ref c_InvalidDay)))
    (at_TooLarge : PySem.W.nsIn K mainGlobals "TooLarge" = some (some (.ref c_TooLarge)))
    (at_Contradiction : PySem.W.nsIn K mainGlobals "Contradiction" = some (some (.ref c_Contradiction)))
    (at_InvalidBound : PySem.W.nsIn K mainGlobals "InvalidBound" = some (some (.ref c_InvalidBound)))
    (at_InvalidForks : PySem.W.nsIn K mainGlobals "InvalidForks" = some (some (.ref c_InvalidForks)))
    (at_InvalidItem : PySem.W.nsIn K mainGlobals "InvalidItem" = some (some (.ref c_InvalidItem)))
    (at_InvalidItems : PySem.W.nsIn K mainGlobals "InvalidItems" = some (some (.ref c_InvalidItems)))
    (at_InvalidPair : PySem.W.nsIn K mainGlobals "InvalidPair" = some (some (.ref c_InvalidPair)))
    (at_InvalidParts : PySem.W.nsIn K mainGlobals "InvalidParts" = some (some (.ref c_InvalidParts)))
    (at_InvalidText : PySem.W.nsIn K mainGlobals "InvalidText" = some (some (.ref c_InvalidText)))
    (at_InvalidTold : PySem.W.nsIn K mainGlobals "InvalidTold" = some (some (.ref c_InvalidTold)))
    (at_NoCommon : PySem.W.nsIn K mainGlobals "NoCommon" = some (some (.ref c_NoCommon)))
    (at_NotAnObject : PySem.W.nsIn K mainGlobals "NotAnObject" = some (some (.ref c_NotAnObject)))
    (at_NotExact : PySem.W.nsIn K mainGlobals "NotExact" = some (some (.ref c_NotExact)))
    (at_NothingToUndo : PySem.W.nsIn K mainGlobals "NothingToUndo" = some (some (.ref c_NothingToUndo)))
    (at_NotPossible : PySem.W.nsIn K mainGlobals "NotPossible" = some (some (.ref c_NotPossible)))
    (at_OtherNumber : PySem.W.nsIn K mainGlobals "OtherNumber" = some (some (.ref c_OtherNumber)))
    (at_SameItem : PySem.W.nsIn K mainGlobals "SameItem" = some (some (.ref c_SameItem)))
    (at_DaysError : PySem.W.nsIn K mainGlobals "DaysError" = some (some (.ref c_DaysError)))
    (ke_InvalidTable : PySem.W.keepIn K (.ref c_InvalidTable) = true) (mk_InvalidTable : PySem.W.excIn K c_InvalidTable veRow "ValueError.__new__" = true) (su_InvalidTable : PySem.W.subIn K (.ref c_InvalidTable) (.type "BaseException") = some true) (ty_InvalidTable : PySem.W.typeIn K (.ref c_InvalidTable) = some (.type "type"))
    (kb : ownB K [c_NotAHistory, c_InvalidPairs, c_InvalidTable, c_InvalidNumber, c_InvalidDay, c_TooLarge] [c_Contradiction, c_InvalidBound, c_InvalidForks, c_InvalidItem, c_InvalidItems, c_InvalidPair] [c_InvalidParts, c_InvalidText, c_InvalidTold, c_NoCommon, c_NotAnObject, c_NotExact] [c_NothingToUndo, c_NotPossible, c_OtherNumber, c_SameItem] c_InvalidTable 2 = true) (caughtT : PySem.W.exmOne K (.ref c_InvalidTable) (.ref c_DaysError) = some true)
    (z_ValueError : PySem.W.nsIn K mainGlobals "ValueError" = some none) (z_abs : PySem.W.nsIn K mainGlobals "abs" = some none) (z_all : PySem.W.nsIn K mainGlobals "all" = some none) (z_bool : PySem.W.nsIn K mainGlobals "bool" = some none) (z_enumerate : PySem.W.nsIn K mainGlobals "enumerate" = some none) (z_int : PySem.W.nsIn K mainGlobals "int" = some none) (z_isinstance : PySem.W.nsIn K mainGlobals "isinstance" = some none) (z_len : PySem.W.nsIn K mainGlobals "len" = some none) (z_list : PySem.W.nsIn K mainGlobals "list" = some none) (z_max : PySem.W.nsIn K mainGlobals "max" = some none) (z_min : PySem.W.nsIn K mainGlobals "min" = some none) (z_range : PySem.W.nsIn K mainGlobals "range" = some none) (z_repr : PySem.W.nsIn K mainGlobals "repr" = some none) (z_sorted : PySem.W.nsIn K mainGlobals "sorted" = some none) (z_tuple : PySem.W.nsIn K mainGlobals "tuple" = some none) :
    ∃ fd : FuncData, (∀ (s : Shared) (u : Value), BindsTo s fd ⟨[u], []⟩ [("script", u)]) ∧ ∀ base : Heap, K.In base → base.Ns mainGlobals mg → (∀ p ∈ [(C, Pt)], LamX.TabB base mg p.1 p.2) → FnG l.prog w K mg base 8 fa fd ["script"] (@spD K ⟨[(Pt, nmChain)]⟩ dsLaw) := by
  letI : Tb K := ⟨[(Pt, nmChain)]⟩
  have same := hfa.symm.trans (PySem.W.mg_of X G at21)
  cases same
  have m_ValueError := PySem.W.mg_none_of X G z_ValueError
  have m_abs := PySem.W.mg_none_of X G z_abs
  have m_all := PySem.W.mg_none_of X G z_all
  have m_bool := PySem.W.mg_none_of X G z_bool
  have m_enumerate := PySem.W.mg_none_of X G z_enumerate
  have m_int := PySem.W.mg_none_of X G z_int
  have m_isinstance := PySem.W.mg_none_of X G z_isinstance
  have m_len := PySem.W.mg_none_of X G z_len
  have m_list := PySem.W.mg_none_of X G z_list
  have m_max := PySem.W.mg_none_of X G z_max
  have m_min := PySem.W.mg_none_of X G z_min
  have m_range := PySem.W.mg_none_of X G z_range
  have m_repr := PySem.W.mg_none_of X G z_repr
  have m_sorted := PySem.W.mg_none_of X G z_sorted
  have m_tuple := PySem.W.mg_none_of X G z_tuple
  have g_NotAHistory := PySem.W.mg_of X G at_NotAHistory
  have g_InvalidPairs := PySem.W.mg_of X G at_InvalidPairs
  have g_InvalidTable := PySem.W.mg_of X G at_InvalidTable
  have g_InvalidNumber := PySem.W.mg_of X G at_InvalidNumber
  have g_InvalidDay := PySem.W.mg_of X G at_InvalidDay
  have g_TooLarge := PySem.W.mg_of X G at_TooLarge
  have g_Contradiction := PySem.W.mg_of X G at_Contradiction
  have g_InvalidBound := PySem.W.mg_of X G at_InvalidBound
  have g_InvalidForks := PySem.W.mg_of X G at_InvalidForks
  have g_InvalidItem := PySem.W.mg_of X G at_InvalidItem
  have g_InvalidItems := PySem.W.mg_of X G at_InvalidItems
  have g_InvalidPair := PySem.W.mg_of X G at_InvalidPair
  have g_InvalidParts := PySem.W.mg_of X G at_InvalidParts
  have g_InvalidText := PySem.W.mg_of X G at_InvalidText
  have g_InvalidTold := PySem.W.mg_of X G at_InvalidTold
  have g_NoCommon := PySem.W.mg_of X G at_NoCommon
  have g_NotAnObject := PySem.W.mg_of X G at_NotAnObject
  have g_NotExact := PySem.W.mg_of X G at_NotExact
  have g_NothingToUndo := PySem.W.mg_of X G at_NothingToUndo
  have g_NotPossible := PySem.W.mg_of X G at_NotPossible
  have g_OtherNumber := PySem.W.mg_of X G at_OtherNumber
  have g_SameItem := PySem.W.mg_of X G at_SameItem
  have g_DaysError := PySem.W.mg_of X G at_DaysError
  have O_InvalidTable : OwnExc K mg "InvalidTable" c_InvalidTable := ⟨g_InvalidTable, ke_InvalidTable, mk_InvalidTable, su_InvalidTable, ty_InvalidTable⟩
  have kT : ∀ o, ExcD c_InvalidTable o → OwnI K [c_NotAHistory, c_InvalidPairs, c_InvalidTable, c_InvalidNumber, c_InvalidDay, c_TooLarge] [c_Contradiction, c_InvalidBound, c_InvalidForks, c_InvalidItem, c_InvalidItems, c_InvalidPair] [c_InvalidParts, c_InvalidText, c_InvalidTold, c_NoCommon, c_NotAnObject, c_NotExact] [c_NothingToUndo, c_NotPossible, c_OtherNumber, c_SameItem] c_InvalidTable o 2 := fun o kd => ownB_ok kb kd
  have F_table_links := fun_mk (st := s_table_links) lk0 co0 ke0
  have b_table_links := F_table_links.binds (ps := ["table"]) fun _ _ _ _ _ _ us many => match us, many with | [_], _ => rfl
  have g_table_links := PySem.W.mg_of X G at0
  have F_chain_table := fun_mk (st := s_chain_table) lk1 co1 ke1
  have b_chain_table := F_chain_table.binds (ps := ["many", "links"]) fun _ _ _ _ _ _ us many => match us, many with | [_, _], _ => rfl
  have g_chain_table := PySem.W.mg_of X G at1
  have F_find_chain := fun_mk (st := s_find_chain) lk2 co2 ke2
  have b_find_chain := F_find_chain.binds (ps := ["links", "one", "other", "day"]) fun _ _ _ _ _ _ us many => match us, many with | [_, _, _, _], _ => rfl
  have g_find_chain := PySem.W.mg_of X G at2
  have F_is_whole := fun_mk (st := s_is_whole) lk3 co3 ke3
  have b_is_whole := F_is_whole.binds (ps := ["value"]) fun _ _ _ _ _ _ us many => match us, many with | [_], _ => rfl
  have g_is_whole := PySem.W.mg_of X G at3
  have F_is_day := fun_mk (st := s_is_day) lk4 co4 ke4
  have b_is_day := F_is_day.binds (ps := ["value"]) fun _ _ _ _ _ _ us many => match us, many with | [_], _ => rfl
  have g_is_day := PySem.W.mg_of X G at4
  have F__is_row := fun_mk (st := s__is_row) lk5 co5 ke5
  have b__is_row := F__is_row.binds (ps := ["value", "length"]) fun _ _ _ _ _ _ us many => match us, many with | [_, _], _ => rfl
  have g__is_row := PySem.W.mg_of X G at5
  have F_is_table := fun_mk (st := s_is_table) lk6 co6 ke6
  have b_is_table := F_is_table.binds (ps := ["value"]) fun _ _ _ _ _ _ us many => match us, many with | [_], _ => rfl
  have g_is_table := PySem.W.mg_of X G at6
  have F__greatest_excess := fun_mk (st := s__greatest_excess) lk7 co7 ke7
  have b__greatest_excess := F__greatest_excess.binds (ps := ["table", "greatest"]) fun _ _ _ _ _ _ us many => match us, many with | [_, _], _ => rfl
  have g__greatest_excess := PySem.W.mg_of X G at7
  have F__error_of := fun_mk (st := s__error_of) lk8 co8 ke8
  have b__error_of := F__error_of.binds (ps := ["table", "greatest"]) fun _ _ _ _ _ _ us many => match us, many with | [_, _], _ => rfl
  have g__error_of := PySem.W.mg_of X G at8
  have F__chain_days := fun_mk (st := s__chain_days) lk9 co9 ke9
  have b__chain_days := F__chain_days.binds (ps := ["table"]) fun _ _ _ _ _ _ us many => match us, many with | [_], _ => rfl
  have g__chain_days := PySem.W.mg_of X G at9
  have F_least_error := fun_mk (st := s_least_error) lk10 co10 ke10
  have b_least_error := F_least_error.binds (ps := ["table"]) fun _ _ _ _ _ _ us many => match us, many with | [_], _ => rfl
  have g_least_error := PySem.W.mg_of X G at10
  have kp_least_error := KwP.mk F_least_error (ps := ["table"]) (ks := ["table"]) (ord := [0]) fun _ _ _ _ _ _ us many => match us, many with | [_], _ => rfl
  have F_nearest_history := fun_mk (st := s_nearest_history) lk11 co11 ke11
  have b_nearest_history := F_nearest_history.binds (ps := ["table"]) fun _ _ _ _ _ _ us many => match us, many with | [_], _ => rfl
  have g_nearest_history := PySem.W.mg_of X G at11
  have kp_nearest_history := KwP.mk F_nearest_history (ps := ["table"]) (ks := ["table"]) (ord := [0]) fun _ _ _ _ _ _ us many => match us, many with | [_], _ => rfl
  have F_worst_pair := fun_mk (st := s_worst_pair) lk12 co12 ke12
  have b_worst_pair := F_worst_pair.binds (ps := ["table"]) fun _ _ _ _ _ _ us many => match us, many with | [_], _ => rfl
  have g_worst_pair := PySem.W.mg_of X G at12
  have kp_worst_pair := KwP.mk F_worst_pair (ps := ["table"]) (ks := ["table"]) (ord := [0]) fun _ _ _ _ _ _ us many => match us, many with | [_], _ => rfl
  have F__law_kind := fun_mk (st := s__law_kind) lk13 co13 ke13
  have b__law_kind := F__law_kind.binds (ps := ["e"]) fun _ _ _ _ _ _ us many => match us, many with | [_], _ => rfl
  have g__law_kind := PySem.W.mg_of X G at13
  have F__law_cell := fun_mk (st := s__law_cell) lk14 co14 ke14
  have b__law_cell := F__law_cell.binds (ps := ["script", "k"]) fun _ _ _ _ _ _ us many => match us, many with | [_, _], _ => rfl
  have g__law_cell := PySem.W.mg_of X G at14
  have F__law_source := fun_mk (st := s__law_source) lk15 co15 ke15
  have b__law_source := F__law_source.binds (ps := ["cell"]) fun _ _ _ _ _ _ us many => match us, many with | [_], _ => rfl
  have g__law_source := PySem.W.mg_of X G at15
  have F__law_draw := fun_mk (st := s__law_draw) lk16 co16 ke16
  have b__law_draw := F__law_draw.binds (ps := ["source", "many"]) fun _ _ _ _ _ _ us many => match us, many with | [_, _], _ => rfl
  have g__law_draw := PySem.W.mg_of X G at16
  have F__law_history := fun_mk (st := s__law_history) lk17 co17 ke17
  have b__law_history := F__law_history.binds (ps := ["source", "most"]) fun _ _ _ _ _ _ us many => match us, many with | [_, _], _ => rfl
  have g__law_history := PySem.W.mg_of X G at17
  have F__law_rough := fun_mk (st := s__law_rough) lk18 co18 ke18
  have b__law_rough := F__law_rough.binds (ps := ["source", "most"]) fun _ _ _ _ _ _ us many => match us, many with | [_, _], _ => rfl
  have g__law_rough := PySem.W.mg_of X G at18
  have F__law_no_table := fun_mk (st := s__law_no_table) lk19 co19 ke19
  have b__law_no_table := F__law_no_table.binds (ps := ["source", "days_here"]) fun _ _ _ _ _ _ us many => match us, many with | [_, _], _ => rfl
  have g__law_no_table := PySem.W.mg_of X G at19
  have F__law_asked := fun_mk (st := s__law_asked) lk20 co20 ke20
  have b__law_asked := F__law_asked.binds (ps := ["door", "days_here"]) fun _ _ _ _ _ _ us many => match us, many with | [_, _], _ => rfl
  have g__law_asked := PySem.W.mg_of X G at20
  have F_law := fun_mk (st := s_law) lk21 co21 ke21
  have b_law := F_law.binds (ps := ["script"]) fun _ _ _ _ _ _ us many => match us, many with | [_], _ => rfl
  have g_law := PySem.W.mg_of X G at21
  refine ⟨PySem.W.fnOf "law" "law" (defArgs s_law) (defBody s_law) (defScope s_law) .none kV21 dc21 pm21 an21 cd21 ct21, fun _ _ => BindsTo.of_eq rfl, fun base _ _ tb => ?_⟩
  have TBc : LamX.TabB base mg C Pt := tb (C, Pt) (List.mem_singleton.mpr rfl)
  have hT : (Pt, nmChain) ∈ Tb.tb K := List.mem_singleton.mpr rfl
  have only : ∀ p ∈ Tb.tb K, p.1 = Pt → p.2 = nmChain := fun p hp _ => by rw [List.mem_singleton.mp hp]
  have G_table_links := ok_table_links (P := l.prog) (w := w) (K := K) (mg := mg) (base := base) m_enumerate F_table_links
  have G_chain_table := ok_chain_table (P := l.prog) (w := w) (K := K) (mg := mg) (base := base) m_list m_range m_sorted m_max m_min m_tuple TBc hT only F_chain_table rfl
  have G_find_chain := ok_find_chain (P := l.prog) (w := w) (K := K) (mg := mg) (base := base)  F_find_chain
  have G_is_whole := ok_is_whole (P := l.prog) (w := w) (K := K) (mg := mg) (base := base) m_isinstance m_int m_bool F_is_whole
  have G_is_day := ok_is_day (P := l.prog) (w := w) (K := K) (mg := mg) (base := base) G_is_whole g_is_whole ke3 b_is_whole F_is_day
  have G__is_row := ok__is_row (P := l.prog) (w := w) (K := K) (mg := mg) (base := base) G_is_day g_is_day ke4 b_is_day m_isinstance m_tuple m_len m_all F__is_row
  have G_is_table := ok_is_table (P := l.prog) (w := w) (K := K) (mg := mg) (base := base) G__is_row g__is_row ke5 b__is_row m_isinstance m_tuple m_len m_all m_enumerate F_is_table
  have G__greatest_excess := ok__greatest_excess (P := l.prog) (w := w) (K := K) (mg := mg) (base := base) G_table_links g_table_links ke0 b_table_links m_max F__greatest_excess
  have G__error_of := ok__error_of (P := l.prog) (w := w) (K := K) (mg := mg) (base := base) G__greatest_excess g__greatest_excess ke7 b__greatest_excess F__error_of
  have G__chain_days := ok__chain_days (P := l.prog) (w := w) (K := K) (mg := mg) (base := base) G_is_table g_is_table ke6 b_is_table G_table_links g_table_links ke0 b_table_links G_chain_table g_chain_table ke1 b_chain_table m_len O_InvalidTable F__chain_days
  have G_least_error := ok_least_error (P := l.prog) (w := w) (K := K) (mg := mg) (base := base) G__chain_days g__chain_days ke9 b__chain_days G__error_of g__error_of ke8 b__error_of F_least_error
  have G_nearest_history := ok_nearest_history (P := l.prog) (w := w) (K := K) (mg := mg) (base := base) G__chain_days g__chain_days ke9 b__chain_days G__error_of g__error_of ke8 b__error_of m_tuple m_max F_nearest_history
  have G_worst_pair := ok_worst_pair (P := l.prog) (w := w) (K := K) (mg := mg) (base := base) G__chain_days g__chain_days ke9 b__chain_days G__greatest_excess g__greatest_excess ke7 b__greatest_excess G_table_links g_table_links ke0 b_table_links G_find_chain g_find_chain ke2 b_find_chain F_worst_pair
  have G__law_kind := ok__law_kind (P := l.prog) (w := w) (K := K) (mg := mg) (base := base) g_NotAHistory g_InvalidPairs g_InvalidTable g_InvalidNumber g_InvalidDay g_TooLarge g_Contradiction g_InvalidBound g_InvalidForks g_InvalidItem g_InvalidItems g_InvalidPair g_InvalidParts g_InvalidText g_InvalidTold g_NoCommon g_NotAnObject g_NotExact g_NothingToUndo g_NotPossible g_OtherNumber g_SameItem m_isinstance m_len m_ValueError m_repr F__law_kind
  have G__law_cell := ok__law_cell (P := l.prog) (w := w) (K := K) (mg := mg) (base := base) m_len F__law_cell
  have G__law_source := ok__law_source (P := l.prog) (w := w) (K := K) (mg := mg) (base := base) m_abs m_max F__law_source
  have G__law_draw := ok__law_draw (P := l.prog) (w := w) (K := K) (mg := mg) (base := base)  F__law_draw
  have G__law_history := ok__law_history (P := l.prog) (w := w) (K := K) (mg := mg) (base := base) G__law_draw g__law_draw ke16 b__law_draw m_range m_max m_min m_tuple F__law_history
  have G__law_rough := ok__law_rough (P := l.prog) (w := w) (K := K) (mg := mg) (base := base) G__law_draw g__law_draw ke16 b__law_draw G__law_history g__law_history ke17 b__law_history m_max m_tuple F__law_rough
  have G__law_no_table := ok__law_no_table (P := l.prog) (w := w) (K := K) (mg := mg) (base := base) G__law_draw g__law_draw ke16 b__law_draw m_len m_list F__law_no_table
  have G__law_asked := ok__law_asked (P := l.prog) (w := w) (K := K) (mg := mg) (base := base) kT caughtT g_DaysError G_least_error g_least_error ke10 b_least_error kp_least_error G_nearest_history g_nearest_history ke11 b_nearest_history kp_nearest_history G_worst_pair g_worst_pair ke12 b_worst_pair kp_worst_pair G__law_kind g__law_kind ke13 b__law_kind m_repr F__law_asked
  exact ok_law (P := l.prog) (w := w) (K := K) (mg := mg) (base := base) G__law_cell g__law_cell ke14 b__law_cell G__law_source g__law_source ke15 b__law_source G__law_draw g__law_draw ke16 b__law_draw G__law_rough g__law_rough ke18 b__law_rough G__law_no_table g__law_no_table ke19 b__law_no_table G__law_asked g__law_asked ke20 b__law_asked m_range m_max m_min m_len m_int F_law
end K24

open PySem PySem.W PyProof.Rows DL in
set_option maxRecDepth 200000 in
set_option maxHeartbeats 0 in
theorem PySem.Challenge.cw_commondays_k24_errors_of_the_nearest_his_holds : PySem.Challenge.rw_commondays_k24_errors_of_the_nearest_his.Holds := by
  w_on; o_law; k_head
  case hw => w_witness2
  k_fill
  first
  | (refine walkGT (l := PySem.Challenge.rw_commondays_k24_errors_of_the_nearest_his) (n := 63) (k := 8) (x := "script") (T := [(21, K24.nmChain)]) (cs := [(23, 21)]) (DS := K24.dsLaw) rfl (by rw [sizeLine_eq]; omega) rfl ⟨by decide, by decide, by decide⟩ (fun w h Y => PySem.W.km_in_of Y) ?HT (fun w h Y p hp => ?TABS) ?F (fun ns many => ⟨ns, rfl, many, rfl⟩)
     (case HT => exact fun p hp => by rw [List.mem_singleton.mp hp]; exact List.mem_singleton.mpr rfl)
     (case TABS =>
       rw [List.mem_singleton.mp hp]
       refine ⟨PySem.W.km_tabs_of Y 21 (List.mem_singleton.mpr rfl), ?lkn, PySem.W.codeHd_of_K (PySem.W.km_in_of Y) ?chd⟩
       (case chd => kernel_rfl)
       (case lkn => first | kernel_rfl | rfl)))
  case F =>
    intro w mg fa h KX G hmg
    refine' K24.all_defs KX G hmg ?at0 ?lk0 ?co0 ?ke0 ?at1 ?lk1 ?co1 ?ke1 ?at2 ?lk2 ?co2 ?ke2 ?at3 ?lk3 ?co3 ?ke3 ?at4 ?lk4 ?co4 ?ke4 ?at5 ?lk5 ?co5 ?ke5 ?at6 ?lk6 ?co6 ?ke6 ?at7 ?lk7 ?co7 ?ke7 ?at8 ?lk8 ?co8 ?ke8 ?at9 ?lk9 ?co9 ?ke9 ?at10 ?lk10 ?co10 ?ke10 ?at11 ?lk11 ?co11 ?ke11 ?at12 ?lk12 ?co12 ?ke12 ?at13 ?lk13 ?co13 ?ke13 ?at14 ?lk14 ?co14 ?ke14 ?at15 ?lk15 ?co15 ?ke15 ?at16 ?lk16 ?co16 ?ke16 ?at17 ?lk17 ?co17 ?ke17 ?at18 ?lk18 ?co18 ?ke18 ?at19 ?lk19 ?co19 ?ke19 ?at20 ?lk20 ?co20 ?ke20 ?at21 ?lk21 ?co21 ?ke21 ?at_NotAHistory ?at_InvalidPairs ?at_InvalidTable ?at_InvalidNumber ?at_InvalidDay ?at_TooLarge ?at_Contradiction ?at_InvalidBound ?at_InvalidForks ?at_InvalidItem ?at_InvalidItems ?at_InvalidPair ?at_InvalidParts ?at_InvalidText ?at_InvalidTold ?at_NoCommon ?at_NotAnObject ?at_NotExact ?at_NothingToUndo ?at_NotPossible ?at_OtherNumber ?at_SameItem ?at_DaysError ?ke_InvalidTable ?mk_InvalidTable ?su_InvalidTable ?ty_InvalidTable ?kb ?caughtT ?z_ValueError ?z_abs ?z_all ?z_bool ?z_enumerate ?z_int ?z_isinstance ?z_len ?z_list ?z_max ?z_min ?z_range ?z_repr ?z_sorted ?z_tuple
    (case at0 => k_is); (case lk0 => k_is); (case co0 => k_is); (case ke0 => k_is)
    (case at1 => k_is); (case lk1 => k_is); (case co1 => k_is); (case ke1 => k_is)
    (case at2 => k_is); (case lk2 => k_is); (case co2 => k_is); (case ke2 => k_is)
    (case at3 => k_is); (case lk3 => k_is); (case co3 => k_is); (case ke3 => k_is)
    (case at4 => k_is); (case lk4 => k_is); (case co4 => k_is); (case ke4 => k_is)
    (case at5 => k_is); (case lk5 => k_is); (case co5 => k_is); (case ke5 => k_is)
    (case at6 => k_is); (case lk6 => k_is); (case co6 => k_is); (case ke6 => k_is)
    (case at7 => k_is); (case lk7 => k_is); (case co7 => k_is); (case ke7 => k_is)
    (case at8 => k_is); (case lk8 => k_is); (case co8 => k_is); (case ke8 => k_is)
    (case at9 => k_is); (case lk9 => k_is); (case co9 => k_is); (case ke9 => k_is)
    (case at10 => k_is); (case lk10 => k_is); (case co10 => k_is); (case ke10 => k_is)
    (case at11 => k_is); (case lk11 => k_is); (case co11 => k_is); (case ke11 => k_is)
    (case at12 => k_is); (case lk12 => k_is); (case co12 => k_is); (case ke12 => k_is)
    (case at13 => k_is); (case lk13 => k_is); (case co13 => k_is); (case ke13 => k_is)
    (case at14 => k_is); (case lk14 => k_is); (case co14 => k_is); (case ke14 => k_is)
    (case at15 => k_is); (case lk15 => k_is); (case co15 => k_is); (case ke15 => k_is)
    (case at16 => k_is); (case lk16 => k_is); (case co16 => k_is); (case ke16 => k_is)
    (case at17 => k_is); (case lk17 => k_is); (case co17 => k_is); (case ke17 => k_is)
    (case at18 => k_is); (case lk18 => k_is); (case co18 => k_is); (case ke18 => k_is)
    (case at19 => k_is); (case lk19 => k_is); (case co19 => k_is); (case ke19 => k_is)
    (case at20 => k_is); (case lk20 => k_is); (case co20 => k_is); (case ke20 => k_is)
    (case at21 => k_is); (case lk21 => k_is); (case co21 => k_is); (case ke21 => k_is)
    (case at_NotAHistory => k_is)
    (case at_InvalidPairs => k_is)
    (case at_InvalidTable => k_is)
    (case at_InvalidNumber => k_is)
    (case at_InvalidDay => k_is)
    (case at_TooLarge => k_is)
    (case at_Contradiction => k_is)
    (case at_InvalidBound => k_is)
    (case at_InvalidForks => k_is)
    (case at_InvalidItem => k_is)
    (case at_InvalidItems => k_is)
    (case at_InvalidPair => k_is)
    (case at_InvalidParts => k_is)
    (case at_InvalidText => k_is)
    (case at_InvalidTold => k_is)
    (case at_NoCommon => k_is)
    (case at_NotAnObject => k_is)
    (case at_NotExact => k_is)
    (case at_NothingToUndo => k_is)
    (case at_NotPossible => k_is)
    (case at_OtherNumber => k_is)
    (case at_SameItem => k_is)
    (case at_DaysError => k_is)
    (case ke_InvalidTable => k_is); (case mk_InvalidTable => kernel_rfl); (case su_InvalidTable => k_is); (case ty_InvalidTable => k_is)
    (case kb => kernel_rfl)
    (case caughtT => kernel_rfl)
    (case z_ValueError => k_is); (case z_abs => k_is); (case z_all => k_is); (case z_bool => k_is); (case z_enumerate => k_is); (case z_int => k_is); (case z_isinstance => k_is); (case z_len => k_is); (case z_list => k_is); (case z_max => k_is); (case z_min => k_is); (case z_range => k_is); (case z_repr => k_is); (case z_sorted => k_is); (case z_tuple => k_is)
#print axioms PySem.Challenge.cw_commondays_k24_errors_of_the_nearest_his_holds

