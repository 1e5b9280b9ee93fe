import PyProof.Rows.All
import Wide.All
import OpenK.AllK
import Wide.FinOn
import HandS.Base
import HandS.Call
import HandS.List
import HandS.Comp
import HandS.ExcInit
import HandS.IsInst
import HandS.Words
import HandS.WordsList
import HandS.SortInts
import HandS.Wide
import HandS.TupAny
import PyProof.ReprRoads
import PyProof.ReprBulk
import HandS.WordsExc
import HandS.Iter
import HandS.Zip0
import PyProof.EnumMake
import PyProof.Draws
import KE.GoesMore
import HandS.Conv
import HandS.RepeatKit
import PyProof.NeKinds
import PyProof.EqKinds
import HandS.SetFor
import HandS.Style
import HandS.Ends
import HandS.Exc
import HandS.ExcOwn
import HandS.ExcIs
import HandS.ExcCtx
import HandS.New
import PyProof.ExcBaseAll.ValueError
import HandS.HotCalls
import PyProof.Rows.TupIter
import HandS.ExcValue
import HandS.Star
import HandS.ExcField
import PySem.Challenge.RW_commondays_k03_errors_of_tables
set_option Elab.async false
set_option linter.all false
set_option maxRecDepth 100000
set_option maxHeartbeats 6000000
/-! A layer of plain data over the abstract heap. -/
namespace DL
open PySem PySem.Spec
open PyProof.Rows L2

/-- plain data, of any depth; raw: a value as it is; obj: an object of any kind at an address of its own -/
inductive Dt where
  | non
  | bl (b : Bool)
  | int (i : Int)
  | str (s : Str)
  | tup (xs : List Dt)
  | lst (xs : List Dt)
  | dct (ks vs : List Dt)
  | raw (x : V)
  | scr (ns : List Int)
  | obj (o : Addr → HO)
  | exa (C : Addr) (fs : List (Str × V))

abbrev AP := Addr → Prop
abbrev Sg := List (Option V)

mutual
/-- x stands for d in the heap, and no object of it stands at a place of ex -/
inductive Rp (K : PySem.W.Frag) (H : Hp) (ex : AP) : V → Dt → Prop
  | non : Rp K H ex .non .non
  | bl (b : Bool) : Rp K H ex (.bl b) (.bl b)
  | int (i : Int) : Rp K H ex (.int i) (.int i)
  | str (s : Str) : Rp K H ex (.str s) (.str s)
  | raw (x : V) : Rp K H ex x (.raw x)
  | tup {a : Addr} {xs : List V} {ds : List Dt} : H a = some (.tup xs) → ¬ ex a → RpL K H ex xs ds → Rp K H ex (.ref a) (.tup ds)
  | lst {a : Addr} {xs : List V} {ds : List Dt} : H a = some (.lst xs) → ¬ ex a → RpL K H ex xs ds → Rp K H ex (.ref a) (.lst ds)
  | dct0 {a : Addr} : H a = some (.dK []) → ¬ ex a → Rp K H ex (.ref a) (.dct [] [])
  | obj {a : Addr} {o : Addr → HO} : H a = some (o a) → ¬ ex a → Rp K H ex (.ref a) (.obj o)
  | exa {a d C : Addr} {fs : List (Str × V)} : H a = some (exo a C (some d)) → ¬ ex a → H d = some (exd d fs) → ¬ ex d → Rp K H ex (.ref a) (.exa C fs)
  | scrF {a : Addr} {ns : List Int} {o : Obj} : H a = some (.frz o (.lst (ns.map V.int))) → ¬ ex a → Rp K H ex (.ref a) (.scr ns)
  | scrK {a : Addr} {ns : List Int} : (∃ (o : Obj) (its : Array Value) (n : Nat), K.lookup a = some o ∧ o.cls = .type "list" ∧ o.dict = none ∧ o.data = .seq its n ∧ its.size ≤ sizeLine ∧ Vals (ns.map V.int) its.toList) → Rp K H ex (.ref a) (.scr ns)
inductive RpL (K : PySem.W.Frag) (H : Hp) (ex : AP) : List V → List Dt → Prop
  | nil : RpL K H ex [] []
  | cons {x : V} {xs : List V} {d : Dt} {ds : List Dt} : Rp K H ex x d → RpL K H ex xs ds → RpL K H ex (x :: xs) (d :: ds)
end

section
variable {K : PySem.W.Frag} {H H' : Hp} {ex ex' : AP}
mutual
theorem Rp.mono (h : ∀ b o, H b = some o → ¬ ex b → H' b = some o ∧ ¬ ex' b) : ∀ {d : Dt} {x : V}, Rp K H ex x d → Rp K H' ex' x d
  | .non, _, .non => .non
  | .bl _, _, .bl b => .bl b
  | .int _, _, .int i => .int i
  | .str _, _, .str s => .str s
  | .raw _, _, .raw x => .raw x
  | .tup ds, _, .tup q n r => .tup (h _ _ q n).1 (h _ _ q n).2 (RpL.mono h r)
  | .lst ds, _, .lst q n r => .lst (h _ _ q n).1 (h _ _ q n).2 (RpL.mono h r)
  | .dct _ _, _, .dct0 q n => .dct0 (h _ _ q n).1 (h _ _ q n).2
  | .scr ns, _, .scrF q n => .scrF (h _ _ q n).1 (h _ _ q n).2
  | .scr ns, _, .scrK q => .scrK q
  | .obj _, _, .obj q n => .obj (h _ _ q n).1 (h _ _ q n).2
  | .exa _ _, _, .exa q n q2 n2 => .exa (h _ _ q n).1 (h _ _ q n).2 (h _ _ q2 n2).1 (h _ _ q2 n2).2
theorem RpL.mono (h : ∀ b o, H b = some o → ¬ ex b → H' b = some o ∧ ¬ ex' b) : ∀ {ds : List Dt} {xs : List V}, RpL K H ex xs ds → RpL K H' ex' xs ds
  | [], _, .nil => .nil
  | d :: ds, _, .cons r t => .cons (Rp.mono h r) (RpL.mono h t)
end
/-- exclude another place that is free in the heap -/
theorem RpL.len : ∀ {ds : List Dt} {xs : List V}, RpL K H ex xs ds → xs.length = ds.length
  | [], _, .nil => rfl
  | _ :: _, _, .cons _ t => congrArg (· + 1) (RpL.len t)
theorem RpL.get : ∀ {ds : List Dt} {xs : List V} {i : Nat} {d : Dt}, RpL K H ex xs ds → ds[i]? = some d → ∃ x, xs[i]? = some x ∧ Rp K H ex x d
  | [], _, _, _, .nil, e => by simp at e
  | _ :: _, _, 0, _, .cons r _, e => by
    simp at e
    subst e
    exact ⟨_, rfl, r⟩
  | _ :: _, _, i + 1, d, .cons _ t, e => by
    obtain ⟨x, h1, h2⟩ := RpL.get (i := i) (d := d) t (by simpa using e)
    exact (⟨x, by simpa using h1, h2⟩)
theorem RpL.get' : ∀ {ds : List Dt} {xs : List V} {i : Nat} {x : V}, RpL K H ex xs ds → xs[i]? = some x → ∃ d, ds[i]? = some d ∧ Rp K H ex x d
  | [], _, _, _, .nil, e => by simp at e
  | _ :: _, _, 0, _, .cons r _, e => by
    simp at e
    subst e
    exact ⟨_, rfl, r⟩
  | _ :: _, _, i + 1, d, .cons _ t, e => by
    obtain ⟨x, h1, h2⟩ := RpL.get' (i := i) (x := d) t (by simpa using e)
    exact (⟨x, by simpa using h1, h2⟩)
theorem RpL.append : ∀ {ds es : List Dt} {xs ys : List V}, RpL K H ex xs ds → RpL K H ex ys es → RpL K H ex (xs ++ ys) (ds ++ es)
  | [], _, _, _, .nil, s => s
  | _ :: _, _, _, _, .cons r t, s => .cons r (RpL.append t s)
theorem RpL.take : ∀ {ds : List Dt} {xs : List V} (n : Nat), RpL K H ex xs ds → RpL K H ex (xs.take n) (ds.take n)
  | _, _, 0, _ => .nil
  | [], _, _ + 1, .nil => .nil
  | _ :: _, _, n + 1, .cons r t => .cons r (RpL.take n t)
theorem RpL.drop : ∀ {ds : List Dt} {xs : List V} (n : Nat), RpL K H ex xs ds → RpL K H ex (xs.drop n) (ds.drop n)
  | _, _, 0, r => r
  | [], _, _ + 1, .nil => .nil
  | _ :: _, _, n + 1, .cons _ t => RpL.drop n t
theorem RpL.set {x : V} {d : Dt} (r : Rp K H ex x d) : ∀ {ds : List Dt} {xs : List V} (i : Nat), RpL K H ex xs ds → RpL K H ex (xs.set i x) (ds.set i d)
  | [], _, _, .nil => .nil
  | _ :: _, _, 0, .cons _ t => .cons r t
  | _ :: _, _, i + 1, .cons q t => .cons q (RpL.set r i t)
theorem RpL.erase : ∀ {ds : List Dt} {xs : List V} (i : Nat), RpL K H ex xs ds → RpL K H ex (xs.eraseIdx i) (ds.eraseIdx i)
  | [], _, _, .nil => .nil
  | _ :: _, _, 0, .cons _ t => t
  | _ :: _, _, i + 1, .cons q t => .cons q (RpL.erase i t)
theorem RpL.rev {ds : List Dt} {xs : List V} (r : RpL K H ex xs ds) : RpL K H ex xs.reverse ds.reverse := by
  induction ds generalizing xs with
  | nil => cases r; exact .nil
  | cons d ds ih =>
    cases r with
    | cons r t =>
      rw [List.reverse_cons, List.reverse_cons]; exact (ih t).append (.cons r .nil)
theorem RpL.ints : ∀ {ns : List Int} {xs : List V}, RpL K H ex xs (ns.map Dt.int) → xs = ns.map V.int
  | [], _, .nil => rfl
  | n :: ns, _, .cons (.int _) t => by rw [List.map_cons, RpL.ints t]
theorem RpL.bls : ∀ {ns : List Bool} {xs : List V}, RpL K H ex xs (ns.map Dt.bl) → xs = ns.map V.bl
  | [], _, .nil => rfl
  | n :: ns, _, .cons (.bl _) t => by rw [List.map_cons, RpL.bls t]
theorem RpL.of_ints (K : PySem.W.Frag) (H : Hp) (ex : AP) : ∀ ns : List Int, RpL K H ex (ns.map V.int) (ns.map Dt.int)
  | [] => .nil
  | n :: ns => .cons (.int n) (RpL.of_ints K H ex ns)
theorem Rp.sub {d : Dt} {x : V} (hx : ∀ b, ex' b → ex b) (r : Rp K H ex x d) : Rp K H ex' x d := r.mono fun b o e n => ⟨e, fun z => n (hx b z)⟩
theorem RpL.sub {d : List Dt} {x : List V} (hx : ∀ b, ex' b → ex b) (r : RpL K H ex x d) : RpL K H ex' x d := r.mono fun b o e n => ⟨e, fun z => n (hx b z)⟩
theorem Rp.fresh {d : Dt} {x : V} {p : Addr} {o : HO} (h : H p = none) (r : Rp K H ex x d) : Rp K (upd H p o) (fun q => ex q ∨ q = p) x d :=
  r.mono fun b u e n => ⟨by rw [upd_ne (ne_of_none e h)]; exact e, fun z => z.elim n fun z => ne_of_none e h z⟩
theorem RpL.fresh {d : List Dt} {x : List V} {p : Addr} {o : HO} (h : H p = none) (r : RpL K H ex x d) : RpL K (upd H p o) (fun q => ex q ∨ q = p) x d :=
  r.mono fun b u e n => ⟨by rw [upd_ne (ne_of_none e h)]; exact e, fun z => z.elim n fun z => ne_of_none e h z⟩
theorem RpL.write {d : List Dt} {x : List V} {p : Addr} {o : HO} (h : ex p) (r : RpL K H ex x d) : RpL K (upd H p o) ex x d :=
  r.mono fun b u e n => ⟨by rw [upd_ne (fun z => n (by rw [z]; exact h))]; exact e, n⟩
theorem Rp.write {d : Dt} {x : V} {p : Addr} {o : HO} (h : ex p) (r : Rp K H ex x d) : Rp K (upd H p o) ex x d :=
  r.mono fun b u e n => ⟨by rw [upd_ne (fun z => n (by rw [z]; exact h))]; exact e, n⟩
end

/-! ### abstract states -/
/-- what a slot (or a value) is: not known; data; a list that only this slot holds -/
inductive AV where
  | un
  | dt (d : Dt)
  | ow (xs : List Dt)

def Own (Γ : List AV) (σ : Sg) (p : Addr) : Prop := ∃ (i : Nat) (ds : List Dt), Γ[i]? = some (AV.ow ds) ∧ σ[i]? = some (some (V.ref p))

/-- where a def stands: the heap at its entry, the places that were lent to it, foreign lists, the number of slots -/
structure Ent where
  H : Hp
  lent : List (Nat × Addr)
  fo : AP
  pn : Addr → HO → Prop
  n : Nat
def Ent.x (S : Ent) : AP := fun p => ∃ i, (i, p) ∈ S.lent

def slotOk (K : PySem.W.Frag) (H : Hp) (ex : AP) (s : Option (Option V)) : AV → Prop
  | .un => True
  | .dt d => ∃ x, s = some (some x) ∧ Rp K H ex x d
  | .ow ds => ∃ p xs, s = some (some (V.ref p)) ∧ H p = some (.lst xs) ∧ RpL K H ex xs ds
theorem slotOk.mono {K : PySem.W.Frag} {H H' : Hp} {ex ex' : AP} {s : Option (Option V)} {a : AV} (h : ∀ b o, H b = some o → ¬ ex b → H' b = some o ∧ ¬ ex' b) (ho : ∀ ds p xs, a = .ow ds → s = some (some (.ref p)) → H p = some (.lst xs) → H' p = some (.lst xs)) (q : slotOk K H ex s a) : slotOk K H' ex' s a := by
  cases a with
  | un => trivial
  | dt d =>
    obtain ⟨x, e, q⟩ := q
    exact ⟨x, e, q.mono h⟩
  | ow ds =>
    obtain ⟨p, xs, e, e2, q⟩ := q
    exact ⟨p, xs, e, ho ds p xs rfl e e2, q.mono h⟩

abbrev Exc (S : Ent) (Γ : List AV) (σ : Sg) (ex : AP) : AP := fun p => Own Γ σ p ∨ S.fo p ∨ ex p
abbrev no : AP := fun _ => False

structure RS (K : PySem.W.Frag) (S : Ent) (ex : AP) (Γ : List AV) (σ : Sg) (H : Hp) : Prop where
  slots : ∀ (i : Nat) (a : AV), Γ[i]? = some a → slotOk K H (Exc S Γ σ ex) σ[i]? a
  dist : ∀ (i j : Nat) (ds es : List Dt) (p : Addr), Γ[i]? = some (AV.ow ds) → Γ[j]? = some (AV.ow es) → σ[i]? = some (some (V.ref p)) → σ[j]? = some (some (V.ref p)) → i = j
  fr : ∀ b o, S.H b = some o → ¬ S.x b → H b = some o
  own : ∀ p, Own Γ σ p → S.x p ∨ S.H p = none
  lent : ∀ (i : Nat) (p : Addr), (i, p) ∈ S.lent → σ[i]? = some (some (V.ref p)) ∧ ∃ ds, Γ[i]? = some (AV.ow ds) ∨ Γ[i]? = some (AV.dt (.lst ds))
  nex : ∀ p, Own Γ σ p → ¬ ex p
  nfo : ∀ p, Own Γ σ p → ¬ S.fo p
  fo : ∀ p, S.fo p → H p ≠ none ∧ ¬ S.x p
  xtr : ∀ p, S.x p → S.H p ≠ none
  pin : ∀ b o, S.pn b o → H b = some o ∧ ¬ Own Γ σ b ∧ ¬ ex b
  len : σ.length = S.n
  lenΓ : Γ.length = S.n

/-- a value that has come -/
def Res (K : PySem.W.Frag) (S : Ent) (Γ : List AV) (σ : Sg) (H : Hp) (x : V) : AV → Prop
  | .un => RS K S no Γ σ H
  | .dt d => RS K S no Γ σ H ∧ Rp K H (Exc S Γ σ no) x d
  | .ow ds => ∃ p xs, x = V.ref p ∧ RS K S (· = p) Γ σ H ∧ H p = some (.lst xs) ∧ RpL K H (Exc S Γ σ (· = p)) xs ds ∧ ¬ S.fo p ∧ S.H p = none

section
variable {K : PySem.W.Frag} {S : Ent} {ex ex' : AP} {Γ Γ' : List AV} {σ : Sg} {H H' : Hp} {x : V} {a : AV} {p : Addr} {i : Nat} {d : Dt} {ds : List Dt} {xs : List V}
theorem RS.ex_mono (r : RS K S ex Γ σ H) (h : ∀ p, ex' p → ex p) : RS K S ex' Γ σ H :=
  { r with
    slots := fun i a e => (r.slots i a e).mono (fun b o e n => ⟨e, fun z => n (z.elim .inl fun z => .inr (z.elim .inl fun z => .inr (h b z)))⟩) fun _ _ _ _ _ e => e
    nex := fun p o z => r.nex p o (h p z)
    pin := fun b o z => ⟨(r.pin b o z).1, (r.pin b o z).2.1, fun y => (r.pin b o z).2.2 (h b y)⟩ }
theorem RS.no (r : RS K S ex Γ σ H) : RS K S no Γ σ H := r.ex_mono fun _ z => z.elim
theorem RS.own_tr (r : RS K S ex Γ σ H) (h : Own Γ σ p) : ∃ xs, H p = some (.lst xs) := by
  obtain ⟨i, ds, e1, e2⟩ := h
  obtain ⟨p', xs, e3, e4, _⟩ := r.slots i _ e1
  rw [e2] at e3
  cases e3
  exact ⟨xs, e4⟩
theorem RS.x_tr (r : RS K S ex Γ σ H) (h : S.x p) : ∃ xs, H p = some (.lst xs) := by
  obtain ⟨i, hi⟩ := h
  obtain ⟨e, ds, h | h⟩ := r.lent i p hi
  · exact r.own_tr ⟨i, ds, h, e⟩
  · obtain ⟨x, e2, q⟩ := r.slots i _ h
    rw [e] at e2
    cases e2
    cases q with
    | lst q _ _ => exact ⟨_, q⟩
theorem RS.tr (r : RS K S ex Γ σ H) (h : S.H p ≠ none) : H p ≠ none := by
  by_cases hx : S.x p
  · obtain ⟨xs, e⟩ := r.x_tr hx
    rw [e]
    exact fun z => by cases z
  · cases e : S.H p with
    | none => exact absurd e h
    | some o =>
      rw [r.fr p o e hx]
      exact fun z => by cases z
theorem RS.new (r : RS K S ex Γ σ H) (h : H p = none) : ¬ Own Γ σ p ∧ ¬ S.fo p ∧ S.H p = none := by
  refine ⟨fun z => ?_, fun z => (r.fo p z).1 h, ?_⟩
  · obtain ⟨xs, e⟩ := r.own_tr z
    rw [h] at e
    cases e
  · cases e : S.H p with
    | none => rfl
    | some o => exact absurd h (r.tr (by rw [e]; exact fun z => by cases z))
/-- a new object: it is no part of what was there -/
theorem RS.alloc {o : HO} (r : RS K S ex Γ σ H) (h : H p = none) : RS K S (fun q => ex q ∨ q = p) Γ σ (upd H p o) :=
  { r with
    slots := fun i a e => by
      obtain ⟨n1, n2, n3⟩ := r.new h
      refine (r.slots i a e).mono (fun b u e n => ⟨by rw [upd_ne (ne_of_none e h)]; exact e, fun z => ?_⟩) fun _ _ _ _ _ e => by rw [upd_ne (ne_of_none e h)]; exact e
      rcases z with z | z | z | z
      · exact n (.inl z)
      · exact n (.inr (.inl z))
      · exact n (.inr (.inr z))
      · exact ne_of_none e h z
    fr := fun b u e n => by
      have := r.fr b u e n
      rw [upd_ne (ne_of_none this h)]
      exact this
    nex := fun q z y => y.elim (r.nex q z) fun y => (r.new h).1 (y ▸ z)
    pin := fun b u z => by
      obtain ⟨h1, h2, h3⟩ := r.pin b u z
      have n : b ≠ p := ne_of_none h1 h
      exact ⟨by rw [upd_ne n]; exact h1, h2, fun y => y.elim h3 n⟩
    fo := fun q z => ⟨by rw [upd_ne (show q ≠ p from fun y => (r.fo q z).1 (by rw [y]; exact h))]; exact (r.fo q z).1, (r.fo q z).2⟩ }
theorem Res.rs (h : Res K S Γ σ H x a) : RS K S DL.no Γ σ H := by
  cases a with
  | un => exact h
  | dt d => exact h.1
  | ow ds => obtain ⟨p, xs, _, r, _⟩ := h; exact r.no
/-- a new list -/
theorem Res.newL (r : RS K S DL.no Γ σ H) (h : H p = none) (q : RpL K H (Exc S Γ σ DL.no) xs ds) : Res K S Γ σ (upd H p (.lst xs)) (.ref p) (.ow ds) :=
  ⟨p, xs, rfl, (r.alloc h).ex_mono fun _ z => .inr z, upd_same, (q.fresh h).sub fun b z => by
    rcases z with z | z | z
    · exact .inl (.inl z)
    · exact .inl (.inr (.inl z))
    · exact .inr z, (r.new h).2.1, (r.new h).2.2⟩
theorem Res.newT (r : RS K S DL.no Γ σ H) (h : H p = none) (q : RpL K H (Exc S Γ σ DL.no) xs ds) : Res K S Γ σ (upd H p (.tup xs)) (.ref p) (.dt (.tup ds)) := by
  have n := r.new h
  refine ⟨(r.alloc h).no, .tup upd_same ?_ ((q.fresh h).sub fun b z => .inl z)⟩
  rintro (z | z | z)
  · exact n.1 z
  · exact n.2.1 z
  · exact z
/-- a fresh list as data -/
theorem Res.freeze (h : Res K S Γ σ H x (.ow ds)) : Res K S Γ σ H x (.dt (.lst ds)) := by
  obtain ⟨p, xs, rfl, r, e, q, nf, n⟩ := h
  refine ⟨r.no, .lst e ?_ (q.sub fun b z => z.elim .inl fun z => .inr (z.elim .inl fun z => z.elim))⟩
  rintro (z | z | z)
  · exact r.nex p z rfl
  · exact nf z
  · exact z

/-! ### slots -/
theorem getSet {α : Type} {l : List α} {i j : Nat} {x y : α} (h : (l.set i x)[j]? = some y) : (i = j ∧ y = x ∧ i < l.length) ∨ (i ≠ j ∧ l[j]? = some y) := by
  by_cases e : i = j
  · subst e
    by_cases hl : i < l.length
    · rw [List.getElem?_set_self hl] at h
      exact .inl ⟨rfl, (Option.some.inj h).symm, hl⟩
    · rw [List.getElem?_eq_none (by rw [List.length_set]; omega)] at h
      cases h
  · rw [List.getElem?_set_ne e] at h
    exact .inr ⟨e, h⟩
theorem ltOf {α : Type} {l : List α} {i : Nat} {x : α} (h : l[i]? = some x) : i < l.length := (List.getElem?_eq_some_iff.mp h).1
theorem own_lt (h : Own Γ σ p) : ∃ i, i < Γ.length ∧ i < σ.length := let ⟨i, _, e1, e2⟩ := h; ⟨i, ltOf e1, ltOf e2⟩
/-- the list of a slot, seen as data from here on -/
theorem RS.freeze (r : RS K S ex Γ σ H) (h : Γ[i]? = some (.ow ds)) : RS K S ex (Γ.set i (.dt (.lst ds))) σ H := by
  have sub : ∀ p, Own (Γ.set i (.dt (.lst ds))) σ p → Own Γ σ p ∧ ¬ σ[i]? = some (some (.ref p)) := fun p ⟨j, es, e1, e2⟩ => by
    rcases getSet e1 with ⟨_, z, _⟩ | ⟨n, e1⟩
    · cases z
    · exact ⟨⟨j, es, e1, e2⟩, fun z => n (r.dist i j ds es p h e1 z e2)⟩
  have subE : ∀ p, Exc S (Γ.set i (.dt (.lst ds))) σ ex p → Exc S Γ σ ex p := fun p z => z.elim (fun z => .inl (sub p z).1) .inr
  refine { r with slots := fun j a e => ?_, dist := fun j k es fs p e1 e2 e3 e4 => ?_, own := fun p o => r.own p (sub p o).1, pin := fun b o z => ⟨(r.pin b o z).1, fun y => (r.pin b o z).2.1 (sub b y).1, (r.pin b o z).2.2⟩, lent := fun j p e => ?_, nex := fun p o => r.nex p (sub p o).1, nfo := fun p o => r.nfo p (sub p o).1, lenΓ := by rw [List.length_set]; exact r.lenΓ }
  · rcases getSet e with ⟨rfl, rfl, _⟩ | ⟨n, e⟩
    · obtain ⟨p, xs, e1, e2, q⟩ := r.slots i _ h
      refine ⟨.ref p, e1, .lst e2 ?_ (q.sub subE)⟩
      rintro (z | z | z)
      · exact (sub p z).2 e1
      · exact r.nfo p ⟨i, ds, h, e1⟩ z
      · exact r.nex p ⟨i, ds, h, e1⟩ z
    · exact (r.slots j a e).mono (fun b o e n => ⟨e, fun z => n (subE b z)⟩) fun _ _ _ _ _ e => e
  · rcases getSet e1 with ⟨_, z, _⟩ | ⟨n, e1⟩
    · cases z
    rcases getSet e2 with ⟨_, z, _⟩ | ⟨n, e2⟩
    · cases z
    exact r.dist j k es fs p e1 e2 e3 e4
  · obtain ⟨e1, es, e2⟩ := r.lent j p e
    refine ⟨e1, ?_⟩
    by_cases hij : i = j
    · subst hij
      exact ⟨ds, .inr (List.getElem?_set_self (ltOf h))⟩
    · rw [List.getElem?_set_ne hij]
      exact ⟨es, e2⟩
/-- a slot forgotten -/
theorem RS.forget (r : RS K S ex Γ σ H) (hl : ∀ p, (i, p) ∉ S.lent) : RS K S ex (Γ.set i .un) σ H := by
  have sub : ∀ p, Own (Γ.set i .un) σ p → Own Γ σ p := fun p ⟨j, es, e1, e2⟩ => by
    rcases getSet e1 with ⟨_, z, _⟩ | ⟨n, e1⟩
    · cases z
    · exact ⟨j, es, e1, e2⟩
  have subE : ∀ p, Exc S (Γ.set i .un) σ ex p → Exc S Γ σ ex p := fun p z => z.elim (fun z => .inl (sub p z)) .inr
  refine { r with slots := fun j a e => ?_, dist := fun j k es fs p e1 e2 e3 e4 => ?_, own := fun p o => r.own p (sub p o), pin := fun b o z => ⟨(r.pin b o z).1, fun y => (r.pin b o z).2.1 (sub b y), (r.pin b o z).2.2⟩, lent := fun j p e => ?_, nex := fun p o => r.nex p (sub p o), nfo := fun p o => r.nfo p (sub p o), lenΓ := by rw [List.length_set]; exact r.lenΓ }
  · rcases getSet e with ⟨rfl, rfl, _⟩ | ⟨n, e⟩
    · trivial
    · exact (r.slots j a e).mono (fun b o e n => ⟨e, fun z => n (subE b z)⟩) fun _ _ _ _ _ e => e
  · rcases getSet e1 with ⟨_, z, _⟩ | ⟨n, e1⟩
    · cases z
    rcases getSet e2 with ⟨_, z, _⟩ | ⟨n, e2⟩
    · cases z
    exact r.dist j k es fs p e1 e2 e3 e4
  · obtain ⟨e1, es, e2⟩ := r.lent j p e
    refine ⟨e1, ?_⟩
    by_cases hij : i = j
    · subst hij
      exact absurd e (hl p)
    · rw [List.getElem?_set_ne hij]
      exact ⟨es, e2⟩
/-- the list of a slot that is not lent, taken out of it -/
theorem RS.move (r : RS K S DL.no Γ σ H) (h : Γ[i]? = some (.ow ds)) (hl : ∀ p, (i, p) ∉ S.lent) : ∃ p, σ[i]? = some (some (.ref p)) ∧ Res K S (Γ.set i .un) σ H (.ref p) (.ow ds) := by
  obtain ⟨p, xs, e1, e2, q⟩ := r.slots i _ h
  have o : Own Γ σ p := ⟨i, ds, h, e1⟩
  have nO : ¬ Own (Γ.set i .un) σ p := fun ⟨j, es, z1, z2⟩ => by
    rcases getSet z1 with ⟨_, z, _⟩ | ⟨n, z1⟩
    · cases z
    · exact n (r.dist i j ds es p h z1 e1 z2)
  have sub : ∀ p, Own (Γ.set i .un) σ p → Own Γ σ p := fun p ⟨j, es, e1, e2⟩ => by
    rcases getSet e1 with ⟨_, z, _⟩ | ⟨n, e1⟩
    · cases z
    · exact ⟨j, es, e1, e2⟩
  have subE : ∀ b, Exc S (Γ.set i .un) σ (· = p) b → Exc S Γ σ DL.no b := fun b z => by
    rcases z with z | z | z
    · exact .inl (sub b z)
    · exact .inr (.inl z)
    · exact .inl (z ▸ o)
  have nx : ¬ S.x p := fun ⟨j, hj⟩ => by
    obtain ⟨z1, es, z2 | z2⟩ := r.lent j p hj
    · have := r.dist i j ds es p h z2 e1 z1
      subst this
      exact hl p hj
    · obtain ⟨x, z3, z4⟩ := r.slots j _ z2
      rw [z1] at z3
      cases z3
      cases z4 with
      | lst _ n _ => exact n (.inl o)
  refine ⟨p, e1, p, xs, rfl, { r.forget hl with slots := fun j a e => ?_, nex := fun b o z => nO (z ▸ o), pin := fun b u z => ⟨(r.pin b u z).1, fun y => (r.pin b u z).2.1 (sub b y), fun y => (r.pin b u z).2.1 (y ▸ o)⟩ }, e2, q.sub subE, r.nfo p o, (r.own p o).resolve_left nx⟩
  rcases getSet e with ⟨rfl, rfl, _⟩ | ⟨n, e⟩
  · trivial
  · exact (r.slots j a e).mono (fun b o e n => ⟨e, fun z => n (subE b z)⟩) fun _ _ _ _ _ e => e
/-- the list of a slot, changed -/
theorem RS.write {es : List Dt} {ys : List V} (r : RS K S ex Γ σ H) (h : Γ[i]? = some (.ow ds)) (e1 : σ[i]? = some (some (.ref p))) (q : RpL K H (Exc S Γ σ ex) ys es) : RS K S ex (Γ.set i (.ow es)) σ (upd H p (.lst ys)) := by
  have o : Own Γ σ p := ⟨i, ds, h, e1⟩
  have sub : ∀ b, Own (Γ.set i (.ow es)) σ b → Own Γ σ b := fun b ⟨j, fs, z1, z2⟩ => by
    rcases getSet z1 with ⟨rfl, _, _⟩ | ⟨n, z1⟩
    · exact ⟨i, ds, h, z2⟩
    · exact ⟨j, fs, z1, z2⟩
  have subE : ∀ b, Exc S (Γ.set i (.ow es)) σ ex b → Exc S Γ σ ex b := fun b z => z.elim (fun z => .inl (sub b z)) .inr
  have nx := r.own p o
  refine { r with slots := fun j a e => ?_, dist := fun j k es1 fs b z1 z2 z3 z4 => ?_, fr := fun b u z n => ?_, own := fun b z => r.own b (sub b z), lent := fun j b z => ?_, nex := fun b z => r.nex b (sub b z), nfo := fun b z => r.nfo b (sub b z), pin := fun b u z => ⟨by rw [upd_ne (show b ≠ p from fun y => (r.pin b u z).2.1 (y ▸ o))]; exact (r.pin b u z).1, fun y => (r.pin b u z).2.1 (sub b y), (r.pin b u z).2.2⟩, fo := fun b z => ⟨by rw [upd_ne (show b ≠ p from fun y => r.nfo p o (y ▸ z))]; exact (r.fo b z).1, (r.fo b z).2⟩, lenΓ := by rw [List.length_set]; exact r.lenΓ }
  · rcases getSet e with ⟨rfl, rfl, _⟩ | ⟨n, e⟩
    · exact ⟨p, ys, e1, upd_same, (q.write (.inl o)).sub subE⟩
    · refine (r.slots j a e).mono (fun b u e n => ⟨by rw [upd_ne (show b ≠ p from fun z => n (.inl (by rw [z]; exact o)))]; exact e, fun z => n (subE b z)⟩) fun fs b zs ea eb ec => ?_
      subst ea
      rw [upd_ne]
      · exact ec
      · rintro rfl
        exact n (r.dist i j ds fs b h e e1 eb)
  · have fix : ∀ (j : Nat) (gs : List Dt), (Γ.set i (.ow es))[j]? = some (.ow gs) → ∃ gs', Γ[j]? = some (.ow gs') := fun j gs z => by
      rcases getSet z with ⟨rfl, _, _⟩ | ⟨n, z⟩
      · exact ⟨ds, h⟩
      · exact ⟨gs, z⟩
    obtain ⟨g1, y1⟩ := fix j _ z1
    obtain ⟨g2, y2⟩ := fix k _ z2
    exact r.dist j k g1 g2 b y1 y2 z3 z4
  · have := r.fr b u z n
    rw [upd_ne]
    · exact this
    · rintro rfl
      rcases nx with y | y
      · exact n y
      · rw [y] at z
        cases z
  · obtain ⟨z1, fs, z2⟩ := r.lent j b z
    refine ⟨z1, ?_⟩
    by_cases hij : i = j
    · subst hij
      exact ⟨es, .inl (List.getElem?_set_self (ltOf h))⟩
    · rw [List.getElem?_set_ne hij]
      exact ⟨fs, z2⟩
/-- a value beside others that are not to be met -/
def ResX (K : PySem.W.Frag) (S : Ent) (ex : AP) (Γ : List AV) (σ : Sg) (H : Hp) (x : V) : AV → Prop
  | .un => RS K S ex Γ σ H
  | .dt d => RS K S ex Γ σ H ∧ Rp K H (Exc S Γ σ ex) x d
  | .ow ds => ∃ p xs, x = V.ref p ∧ RS K S (fun b => ex b ∨ b = p) Γ σ H ∧ H p = some (.lst xs) ∧ RpL K H (Exc S Γ σ (fun b => ex b ∨ b = p)) xs ds ∧ ¬ S.fo p ∧ ¬ ex p ∧ S.H p = none
theorem ResX.rs (h : ResX K S ex Γ σ H x a) : RS K S ex Γ σ H := by
  cases a with
  | un => exact h
  | dt d => exact h.1
  | ow ds => obtain ⟨p, xs, _, r, _⟩ := h; exact r.ex_mono fun _ z => .inl z
/-- a value stored into a slot that is not lent -/
theorem RS.storeX (hr : ResX K S ex Γ σ H x a) (hi : i < S.n) (hl : ∀ p, (i, p) ∉ S.lent) : RS K S ex (Γ.set i a) (σ.set i (some x)) H := by
  have r := hr.rs
  have li : i < σ.length := by rw [r.len]; exact hi
  have lg : i < Γ.length := by rw [r.lenΓ]; exact hi
  have sub : ∀ b, Own (Γ.set i a) (σ.set i (some x)) b → Own Γ σ b ∨ ((∃ ds, a = .ow ds) ∧ x = .ref b) := fun b ⟨j, fs, z1, z2⟩ => by
    rcases getSet z1 with ⟨rfl, z, _⟩ | ⟨n, z1⟩
    · rw [List.getElem?_set_self li] at z2
      exact .inr ⟨⟨fs, z.symm⟩, Option.some.inj (Option.some.inj z2)⟩
    · rw [List.getElem?_set_ne n] at z2
      exact .inl ⟨j, fs, z1, z2⟩
  -- what is not to be met by the other slots
  have key : ∀ b, Exc S (Γ.set i a) (σ.set i (some x)) ex b → Exc S Γ σ (fun b => ex b ∨ ((∃ ds, a = .ow ds) ∧ x = .ref b)) b := fun b z => by
    rcases z with z | z | z
    · rcases sub b z with y | y
      · exact .inl y
      · exact .inr (.inr (.inr y))
    · exact .inr (.inl z)
    · exact .inr (.inr (.inl z))
  have slots' : ∀ (j : Nat) (c : AV), Γ[j]? = some c → slotOk K H (Exc S Γ σ (fun b => ex b ∨ ((∃ ds, a = .ow ds) ∧ x = .ref b))) σ[j]? c := fun j c e => by
    cases a with
    | un => exact (r.slots j c e).mono (fun b o e n => ⟨e, fun z => z.elim (fun z => n (.inl z)) fun z => z.elim (fun z => n (.inr (.inl z))) fun z => z.elim (fun z => n (.inr (.inr z))) fun ⟨⟨_, z⟩, _⟩ => by cases z⟩) fun _ _ _ _ _ e => e
    | dt d => exact (r.slots j c e).mono (fun b o e n => ⟨e, fun z => z.elim (fun z => n (.inl z)) fun z => z.elim (fun z => n (.inr (.inl z))) fun z => z.elim (fun z => n (.inr (.inr z))) fun ⟨⟨_, z⟩, _⟩ => by cases z⟩) fun _ _ _ _ _ e => e
    | ow ds =>
      obtain ⟨p, xs, rfl, r', e1, q, nf, nx, n'⟩ := hr
      exact (r'.slots j c e).mono (fun b o e n => ⟨e, fun z => z.elim (fun z => n (.inl z)) fun z => z.elim (fun z => n (.inr (.inl z))) fun z => z.elim (fun z => n (.inr (.inr (.inl z)))) fun ⟨_, z⟩ => n (.inr (.inr (.inr (V.ref.inj z).symm)))⟩) fun _ _ _ _ _ e => e
  have nown : ∀ b, (∃ ds, a = .ow ds) → x = .ref b → ¬ Own Γ σ b ∧ S.H b = none ∧ ¬ S.fo b ∧ ¬ ex b := fun b ⟨ds, ea⟩ exx => by
    subst ea
    obtain ⟨p, xs, e0, r', e1, q, nf, nx, n'⟩ := hr
    rw [exx] at e0
    cases e0
    exact ⟨fun z => r'.nex b z (.inr rfl), n', nf, nx⟩
  refine { r with slots := fun j c e => ?_, dist := fun j k es fs b z1 z2 z3 z4 => ?_, own := fun b z => ?_, lent := fun j b z => ?_, nex := fun b z => ?_, nfo := fun b z => ?_, pin := fun b u z => ⟨(r.pin b u z).1, fun y => ?_, (r.pin b u z).2.2⟩, len := by rw [List.length_set]; exact r.len, lenΓ := by rw [List.length_set]; exact r.lenΓ }
  · rcases getSet e with ⟨rfl, rfl, _⟩ | ⟨n, e⟩
    · rw [List.getElem?_set_self li]
      cases c with
      | un => trivial
      | dt d =>
        obtain ⟨_, q⟩ := hr
        exact ⟨x, rfl, q.sub fun b z => (key b z).elim .inl fun z => .inr (z.elim .inl fun z => z.elim .inr fun ⟨⟨_, z⟩, _⟩ => by cases z)⟩
      | ow ds =>
        obtain ⟨p, xs, rfl, r', e1, q, nf, nx, n'⟩ := hr
        exact ⟨p, xs, rfl, e1, q.sub fun b z => (key b z).elim .inl fun z => .inr (z.elim .inl fun z => .inr (z.elim .inl fun ⟨_, z⟩ => .inr (V.ref.inj z).symm))⟩
    · rw [List.getElem?_set_ne n]
      exact (slots' j c e).mono (fun b o e n => ⟨e, fun z => n (key b z)⟩) fun _ _ _ _ _ e => e
  · rcases getSet z1 with ⟨rfl, y1, _⟩ | ⟨n1, z1⟩
    · rcases getSet z2 with ⟨rfl, y2, _⟩ | ⟨n2, z2⟩
      · rfl
      · rw [List.getElem?_set_self li] at z3
        rw [List.getElem?_set_ne n2] at z4
        exact absurd ⟨k, fs, z2, z4⟩ (nown b ⟨es, y1.symm⟩ (Option.some.inj (Option.some.inj z3))).1
    · rcases getSet z2 with ⟨rfl, y2, _⟩ | ⟨n2, z2⟩
      · rw [List.getElem?_set_self li] at z4
        rw [List.getElem?_set_ne n1] at z3
        exact absurd ⟨j, es, z1, z3⟩ (nown b ⟨fs, y2.symm⟩ (Option.some.inj (Option.some.inj z4))).1
      · rw [List.getElem?_set_ne n1] at z3
        rw [List.getElem?_set_ne n2] at z4
        exact r.dist j k es fs b z1 z2 z3 z4
  · rcases sub b z with y | ⟨y1, y2⟩
    · exact r.own b y
    · exact .inr (nown b y1 y2).2.1
  · obtain ⟨z1, fs, z2⟩ := r.lent j b z
    have n : i ≠ j := by
      rintro rfl
      exact hl b z
    rw [List.getElem?_set_ne n, List.getElem?_set_ne n]
    exact ⟨z1, fs, z2⟩
  · rcases sub b z with y | ⟨y1, y2⟩
    · exact r.nex b y
    · exact (nown b y1 y2).2.2.2
  · rcases sub b z with y | ⟨y1, y2⟩
    · exact r.nfo b y
    · exact (nown b y1 y2).2.2.1
  · rcases sub b y with y | ⟨⟨ds, ea⟩, y2⟩
    · exact (r.pin b u z).2.1 y
    · subst ea
      obtain ⟨p, xs, e0, r', e1, q, nf, nx, n'⟩ := hr
      rw [y2] at e0
      cases e0
      exact (r'.pin b u z).2.2 (.inr rfl)
theorem Res.toX (h : Res K S Γ σ H x a) : ResX K S DL.no Γ σ H x a := by
  cases a with
  | un => exact h
  | dt d => exact h
  | ow ds =>
    obtain ⟨p, xs, e, r, e1, q, nf, n⟩ := h
    exact ⟨p, xs, e, r.ex_mono fun b z => z.elim False.elim id, e1, q.sub fun b z => z.elim .inl fun z => .inr (z.elim .inl fun z => .inr (z.elim False.elim id)), nf, id, n⟩
theorem RS.store (hr : Res K S Γ σ H x a) (hi : i < S.n) (hl : ∀ p, (i, p) ∉ S.lent) : RS K S DL.no (Γ.set i a) (σ.set i (some x)) H := RS.storeX hr.toX hi hl
end
end DL

namespace DL
open PySem PySem.Spec
open PyProof.Rows L2

/-! ### families of contexts: a def's body, a comprehension's blocks -/
structure Core where
  prog : Program
  w : World
  K : PySem.W.Frag
  mg : Str → Option Value
  base : Heap
  A : Around
  N : List Str
  stack : List Env
  calm : Bool
structure Var where
  s : Shared
  H : Hp
  env : Env
  outer : List Env
  ex : List Addr
  fn : Str → Bool
  pn : List (Addr × Obj)
  xe : Value → Shared → Prop
abbrev mkX (c : Core) (v : Var) : Cx where
  prog := c.prog
  w := c.w
  K := c.K
  mg := c.mg
  base := c.base
  A := c.A
  N := c.N
  s_0 := v.s
  H_0 := v.H
  env := v.env
  outer := v.outer
  stack := c.stack
  ex := v.ex
  fn := v.fn
  calm := c.calm
  pn := v.pn
  xe := v.xe

section
variable (c : Core) {ι : Type} (v : ι → Var)
/-- the weakest readings -/
def wE (e : Expr) : TE := fun σ H R => ∃ t : TE, (∀ i, PE (mkX c (v i)) e t) ∧ t σ H R
def wT (e : Expr) : TT := fun σ H R => ∃ t : TT, (∀ i, PT (mkX c (v i)) e t) ∧ t σ H R
def wA (es : List Expr) : TA := fun σ H R => ∃ t : TA, (∀ i, PA (mkX c (v i)) es t) ∧ t σ H R
def wK (kws : List Keyword) : TA := fun σ H R => ∃ t : TA, (∀ i, PK (mkX c (v i)) kws t) ∧ t σ H R
def wS (st : Stmt) : TS := fun D σ H => ∃ t : TS, (∀ i, PS (mkX c (v i)) st t) ∧ t D σ H
def wB (sts : List Stmt) : TS := fun D σ H => ∃ t : TS, (∀ i, PSs (mkX c (v i)) sts t) ∧ t D σ H
def wI (tg e : Expr) : TI := fun σ H R => ∃ t : TI, (∀ i, PI (mkX c (v i)) tg e t) ∧ t σ H R
end
section
variable {c : Core} {ι : Type} {v : ι → Var} {e : Expr} {es : List Expr} {kws : List Keyword} {st : Stmt} {sts : List Stmt} {tg : Expr}
theorem wE.pe (i : ι) : PE (mkX c (v i)) e (wE c v e) := ⟨fun pins s σ H Q I ⟨_, h, q⟩ => (h i).run pins s σ H Q I q⟩
theorem wT.pt (i : ι) : PT (mkX c (v i)) e (wT c v e) := ⟨fun pins s σ H Q I ⟨_, h, q⟩ => (h i).run pins s σ H Q I q⟩
theorem wA.pa (i : ι) : PA (mkX c (v i)) es (wA c v es) := ⟨fun pos pins s σ H Q I ⟨_, h, q⟩ => (h i).run pos pins s σ H Q I q⟩
theorem wK.pk (i : ι) : PK (mkX c (v i)) kws (wK c v kws) := ⟨fun pos pins s σ H Q I ⟨_, h, q⟩ => (h i).run pos pins s σ H Q I q⟩
theorem wS.ps (i : ι) : PS (mkX c (v i)) st (wS c v st) := ⟨fun pins s σ H Q I ⟨_, h, q⟩ => (h i).run pins s σ H Q I q⟩
theorem wB.pss (i : ι) : PSs (mkX c (v i)) sts (wB c v sts) := ⟨fun pins s σ H Q I ⟨_, h, q⟩ => (h i).run pins s σ H Q I q⟩
theorem wI.pi (i : ι) : PI (mkX c (v i)) tg e (wI c v tg e) := ⟨fun pins s σ H Q I ⟨_, h, q⟩ => (h i).run pins s σ H Q I q⟩
theorem wE.mono {σ : Sg} {H : Hp} {R R' : VK} (h : wE c v e σ H R) (m : ∀ x H', R x H' → R' x H') : wE c v e σ H R' := by
  obtain ⟨t, ht, q⟩ := h
  refine ⟨fun σ H R' => ∃ R, t σ H R ∧ ∀ x H', R x H' → R' x H', fun i => ⟨fun pins s σ H Q I ⟨R, q, m⟩ => ?_⟩, R, q, m⟩
  exact thn ((ht i).run pins s σ H R I q) fun u s' ⟨x, H', I', r, q⟩ => ⟨x, H', I', r, m x H' q⟩
end

/-! ### arguments: data, or a slot's list on loan -/
inductive AK where
  | d (a : AV)
  | ln (i : Nat)
def RpA (K : PySem.W.Frag) (H : Hp) (ex : AP) (x : V) : AV → Prop
  | .un => True
  | .dt d => Rp K H ex x d
  | .ow ds => Rp K H ex x (.lst ds)
def RpK (K : PySem.W.Frag) (H : Hp) (ex : AP) (σ : Sg) (x : V) : AK → Prop
  | .d a => RpA K H ex x a
  | .ln i => σ[i]? = some (some x)
def RpKL (K : PySem.W.Frag) (H : Hp) (ex : AP) (σ : Sg) : List V → List AK → Prop
  | [], [] => True
  | x :: xs, a :: as => RpK K H ex σ x a ∧ RpKL K H ex σ xs as
  | _, _ => False

section
variable {K : PySem.W.Frag} {S : Ent} {ex ex' : AP} {Γ Γ' Γ'' : List AV} {σ : Sg} {H H' H'' : Hp} {x : V} {a : AV} {p : Addr} {i : Nat} {d : Dt} {ds : List Dt} {xs : List V}
theorem RpA.mono (h : ∀ b o, H b = some o → ¬ ex b → H' b = some o ∧ ¬ ex' b) (r : RpA K H ex x a) : RpA K H' ex' x a := by
  cases a with
  | un => trivial
  | dt d => exact Rp.mono h r
  | ow ds => exact Rp.mono h r
theorem RpK.mono {a : AK} (h : ∀ b o, H b = some o → ¬ ex b → H' b = some o ∧ ¬ ex' b) (r : RpK K H ex σ x a) : RpK K H' ex' σ x a := by
  cases a with
  | d a => exact RpA.mono h r
  | ln i => exact r
theorem RpKL.mono (h : ∀ b o, H b = some o → ¬ ex b → H' b = some o ∧ ¬ ex' b) : ∀ {as : List AK} {xs : List V}, RpKL K H ex σ xs as → RpKL K H' ex' σ xs as
  | [], [], _ => trivial
  | _ :: _, _ :: _, r => ⟨RpK.mono h r.1, RpKL.mono h r.2⟩
  | [], _ :: _, r => r.elim
  | _ :: _, [], r => r.elim
theorem Res.rpa (h : Res K S Γ σ H x a) : RpA K H (Exc S Γ σ DL.no) x a := by
  cases a with
  | un => trivial
  | dt d => exact h.2
  | ow ds => exact h.freeze.2

/-- what an expression may change -/
structure Step (Γ Γ' : List AV) (σ : Sg) (H H' : Hp) : Prop where
  fr : ∀ b o, H b = some o → ¬ Own Γ σ b → H' b = some o
  own : ∀ p, Own Γ' σ p → Own Γ σ p
theorem Step.refl : Step Γ Γ σ H H := ⟨fun _ _ e _ => e, fun _ o => o⟩
theorem Step.trans (s : Step Γ Γ' σ H H') (t : Step Γ' Γ'' σ H' H'') : Step Γ Γ'' σ H H'' :=
  ⟨fun b o e n => t.fr b o (s.fr b o e n) fun z => n (s.own b z), fun p z => s.own p (t.own p z)⟩
theorem Step.alloc {o : HO} (s : Step Γ Γ' σ H H') (h : H' p = none) : Step Γ Γ' σ H (upd H' p o) :=
  ⟨fun b u e n => by
    have := s.fr b u e n
    rw [upd_ne (ne_of_none this h)]
    exact this, s.own⟩
/-- a list that has come is new, or a slot's own -/
def New (H : Hp) (Γ : List AV) (σ : Sg) (x : V) : AV → Prop
  | .ow _ => ∃ p, x = V.ref p ∧ (H p = none ∨ Own Γ σ p)
  | _ => True
theorem New.back (n : New H' Γ' σ x a) (s : Step Γ Γ' σ H H') : New H Γ σ x a := by
  cases a with
  | ow ds =>
    obtain ⟨p, e, h⟩ := n
    refine ⟨p, e, ?_⟩
    rcases h with h | h
    · by_cases o : Own Γ σ p
      · exact .inr o
      · cases e : H p with
        | none => exact .inl rfl
        | some u =>
          rw [s.fr p u e o] at h
          cases h
    · exact .inr (s.own p h)
  | _ => trivial
theorem New.ofL (s : Step Γ Γ' σ H H') (h : H' p = none) : New H Γ σ (.ref p) (.ow ds) := New.back (H' := H') (Γ' := Γ') ⟨p, rfl, .inl h⟩ s
/-- what was made ahead of a step still stands -/
theorem Step.keeps (s : Step Γ Γ' σ H H') : ∀ b o, H b = some o → ¬ Exc S Γ σ DL.no b → H' b = some o ∧ ¬ Exc S Γ' σ DL.no b := fun b o e n =>
  ⟨s.fr b o e fun z => n (.inl z), fun z => n (z.elim (fun z => .inl (s.own b z)) .inr)⟩
end

/-! ### expressions over plain data -/
section
variable (c : Core) {ι : Type} (v : ι → Var) (S : Ent)
def ED (e : Expr) (Γ : List AV) (Q : AV → List AV → Prop) : Prop := ∀ (σ : Sg) (H : Hp) (R : VK), RS c.K S no Γ σ H →
  (∀ x H' a Γ', Q a Γ' → Res c.K S Γ' σ H' x a → Step Γ Γ' σ H H' → New H Γ σ x a → R x H') → wE c v e σ H R
def TD (e : Expr) (Γ : List AV) (Q : Bool → List AV → Prop) : Prop := ∀ (σ : Sg) (H : Hp) (R : Bool → Hp → Prop), RS c.K S no Γ σ H →
  (∀ b H' Γ', Q b Γ' → RS c.K S no Γ' σ H' → Step Γ Γ' σ H H' → R b H') → wT c v e σ H R
def EA (es : List Expr) (Γ : List AV) (Q : List AK → List AV → Prop) : Prop := ∀ (σ : Sg) (H : Hp) (R : List V → Hp → Prop), RS c.K S no Γ σ H →
  (∀ xs H' as Γ', Q as Γ' → RS c.K S no Γ' σ H' → RpKL c.K H' (Exc S Γ' σ no) σ xs as → Step Γ Γ' σ H H' → R xs H') → wA c v es σ H R
end

section
variable {c : Core} {ι : Type} {v : ι → Var} {S : Ent} {Γ : List AV} {Q Q' : AV → List AV → Prop} {e a b : Expr} {es : List Expr} {pos : Pos}
theorem ED.mono (h : ED c v S e Γ Q) (m : ∀ x Γ', Q x Γ' → Q' x Γ') : ED c v S e Γ Q' := fun σ H R r k => h σ H R r fun x H' a Γ' q => k x H' a Γ' (m a Γ' q)
/-- two expressions, the first one first -/
theorem ED.two {Q2 : AV → AV → List AV → Prop} (h : ED c v S a Γ fun x Γ1 => ED c v S b Γ1 fun y Γ2 => Q2 x y Γ2) {σ : Sg} {H : Hp} {R : V → V → Hp → Prop} (r : RS c.K S no Γ σ H)
    (k : ∀ x y H' u w Γ', Q2 u w Γ' → RS c.K S no Γ' σ H' → RpA c.K H' (Exc S Γ' σ no) x u → RpA c.K H' (Exc S Γ' σ no) y w → Step Γ Γ' σ H H' → R x y H') : wE c v a σ H fun x H1 => wE c v b σ H1 fun y H2 => R x y H2 := by
  refine h σ H _ r fun x H1 u Γ1 hq r1 s1 _ => ?_
  refine hq σ H1 _ r1.rs fun y H2 w Γ2 hq2 r2 s2 _ => ?_
  exact k x y H2 u w Γ2 hq2 r2.rs (r1.rpa.mono s2.keeps) r2.rpa (s1.trans s2)

/-! names and constants -/
theorem ed_int {i : Int} {j} (q : Q (.dt (.int i)) Γ) : ED c v S (.Constant (.int i) j pos) Γ Q := fun σ H R r k => ⟨_, fun _ => pe_int, k _ _ _ _ q ⟨r, .int i⟩ .refl trivial⟩
theorem ed_bl {i : Bool} {j} (q : Q (.dt (.bl i)) Γ) : ED c v S (.Constant (.bool i) j pos) Γ Q := fun σ H R r k => ⟨_, fun _ => pe_bl, k _ _ _ _ q ⟨r, .bl i⟩ .refl trivial⟩
theorem ed_non {j} (q : Q (.dt .non) Γ) : ED c v S (.Constant .none j pos) Γ Q := fun σ H R r k => ⟨_, fun _ => pe_non, k _ _ _ _ q ⟨r, .non⟩ .refl trivial⟩
theorem ed_str {i : Str} {j} (q : Q (.dt (.str i)) Γ) : ED c v S (.Constant (.str i) j pos) Γ Q := fun σ H R r k => ⟨_, fun _ => pe_str, k _ _ _ _ q ⟨r, .str i⟩ .refl trivial⟩
/-- a name stands in the i-th slot -/
structure At (c : Core) (v : ι → Var) (x : Str) (i : Nat) : Prop where
  ix : c.N[i]? = some x
  vis : ∀ k, Vis (v k).env.scope x
  d1 : (x == ("__debug__" : Str)) = false
  d2 : (x == ("__classdict__" : Str)) = false
theorem At.pe {x : Str} {i : Nat} (h : At c v x i) (k : ι) : PE (mkX c (v k)) (.Name x pos) (tVar i) := pe_var h.ix (h.vis k) h.d1 h.d2
theorem ed_name (i : Nat) {x : Str} {d : Dt} (h : At c v x i) (g : Γ[i]? = some (.dt d)) (q : Q (.dt d) Γ) : ED c v S (.Name x pos) Γ Q := fun σ H R r k => by
  obtain ⟨y, e, z⟩ := r.slots i _ g
  exact ⟨_, fun i => h.pe i, y, e, k _ _ _ _ q ⟨r, z⟩ .refl trivial⟩
/-- a list's name, its list seen as data from here on -/
theorem ed_name_freeze (i : Nat) {x : Str} {ds : List Dt} (h : At c v x i) (g : Γ[i]? = some (.ow ds)) (q : Q (.dt (.lst ds)) (Γ.set i (.dt (.lst ds)))) : ED c v S (.Name x pos) Γ Q := fun σ H R r k => by
  obtain ⟨p, xs, e, z, w⟩ := r.slots i _ g
  have r' := r.freeze g
  obtain ⟨y, e2, z2⟩ := r'.slots i _ (List.getElem?_set_self (ltOf g))
  refine ⟨_, fun i => h.pe i, y, e2, k _ _ _ _ q ⟨r', z2⟩ ⟨fun _ _ e _ => e, fun b ⟨j, fs, z3, z4⟩ => ?_⟩ trivial⟩
  rcases getSet z3 with ⟨_, z, _⟩ | ⟨_, z3⟩
  · cases z
  · exact ⟨j, fs, z3, z4⟩
/-- a list's name, its list taken out of the slot -/
theorem ed_name_move (i : Nat) {x : Str} {ds : List Dt} (h : At c v x i) (g : Γ[i]? = some (.ow ds)) (hl : ∀ p, (i, p) ∉ S.lent) (q : Q (.ow ds) (Γ.set i .un)) : ED c v S (.Name x pos) Γ Q := fun σ H R r k => by
  obtain ⟨p, e, z⟩ := r.move g hl
  refine ⟨_, fun i => h.pe i, _, e, k _ _ _ _ q z ⟨fun _ _ e _ => e, fun b ⟨j, fs, z3, z4⟩ => ?_⟩ ⟨p, rfl, .inr ⟨i, ds, g, e⟩⟩⟩
  rcases getSet z3 with ⟨_, z, _⟩ | ⟨_, z3⟩
  · cases z
  · exact ⟨j, fs, z3, z4⟩

/-! operators -/
theorem ed_opI {op : Operator} {C : Int → Int → Prop} {g : Int → Int → Int} (ho : ∀ i, OpR (mkX c (v i)) (binaryOp op) (rI C fun i j => .int (g i j)))
    (h : ED c v S a Γ fun x Γ1 => ED c v S b Γ1 fun y Γ2 => ∃ i j, x = .dt (.int i) ∧ y = .dt (.int j) ∧ C i j ∧ Q (.dt (.int (g i j))) Γ2) : ED c v S (.BinOp a op b pos) Γ Q := fun σ H R r k =>
  ⟨_, fun i => pe_op (ho i) (wE.pe i) (wE.pe i), ED.two h r fun x y H' u w Γ' ⟨i, j, e1, e2, hc, q⟩ r' ru rw' s => by
    subst e1 e2
    cases ru
    cases rw'
    exact ⟨i, j, rfl, rfl, hc, k _ _ _ _ q ⟨r', .int _⟩ s trivial⟩⟩
theorem ed_opI0 {op : Operator} {g : Int → Int → Int} (ho : ∀ i, OpR (mkX c (v i)) (binaryOp op) (rI0 fun i j => .int (g i j)))
    (h : ED c v S a Γ fun x Γ1 => ED c v S b Γ1 fun y Γ2 => ∃ i j, x = .dt (.int i) ∧ y = .dt (.int j) ∧ Q (.dt (.int (g i j))) Γ2) : ED c v S (.BinOp a op b pos) Γ Q := fun σ H R r k =>
  ⟨_, fun i => pe_op (ho i) (wE.pe i) (wE.pe i), ED.two h r fun x y H' u w Γ' ⟨i, j, e1, e2, q⟩ r' ru rw' s => by
    subst e1 e2
    cases ru
    cases rw'
    exact ⟨i, j, rfl, rfl, k _ _ _ _ q ⟨r', .int _⟩ s trivial⟩⟩
/-- comparisons of ints -/
theorem ed_cmpI {op : CmpOp} {g : Int → Int → Bool} (ho : ∀ i, OpR (mkX c (v i)) (compareOp op) (rI0 fun i j => .bl (g i j))) (hm : behindInMarks op b = false)
    (h : ED c v S a Γ fun x Γ1 => ED c v S b Γ1 fun y Γ2 => ∃ i j, x = .dt (.int i) ∧ y = .dt (.int j) ∧ Q (.dt (.bl (g i j))) Γ2) : ED c v S (.Compare a [op] [b] pos) Γ Q := fun σ H R r k =>
  ⟨_, fun i => pe_cmpR (ho i) (wE.pe i) (wE.pe i) hm, ED.two h r fun x y H' u w Γ' ⟨i, j, e1, e2, q⟩ r' ru rw' s => by
    subst e1 e2
    cases ru
    cases rw'
    exact ⟨i, j, rfl, rfl, k _ _ _ _ q ⟨r', .bl _⟩ s trivial⟩⟩
end
end DL

namespace DL
open PySem PySem.Spec
open PyProof.Rows L2

section
variable (c : Core) {ι : Type} (v : ι → Var) (S : Ent)
/-- an expression as an argument -/
def EK (e : Expr) (Γ : List AV) (Q : AK → List AV → Prop) : Prop := ∀ (σ : Sg) (H : Hp) (R : VK), RS c.K S no Γ σ H →
  (∀ x H' k Γ', Q k Γ' → RS c.K S no Γ' σ H' → RpK c.K H' (Exc S Γ' σ no) σ x k → Step Γ Γ' σ H H' → R x H') → wE c v e σ H R
end
section
variable {c : Core} {ι : Type} {v : ι → Var} {S : Ent} {Γ : List AV} {Q : AV → List AV → Prop} {QK : AK → List AV → Prop} {QB : Bool → List AV → Prop} {QA : List AK → List AV → Prop} {e a b : Expr} {es : List Expr} {pos : Pos}
theorem ek_ed (h : ED c v S e Γ fun x Γ' => QK (.d x) Γ') : EK c v S e Γ QK := fun σ H R r k => h σ H R r fun x H' a Γ' q hr s _ => k x H' _ Γ' q hr.rs hr.rpa s
theorem ek_loan (i : Nat) {x : Str} {ds : List Dt} (h : At c v x i) (g : Γ[i]? = some (.ow ds)) (q : QK (.ln i) Γ) : EK c v S (.Name x pos) Γ QK := fun σ H R r k => by
  obtain ⟨p, xs, e, z, w⟩ := r.slots i _ g
  exact ⟨_, fun i => h.pe i, _, e, k _ _ _ _ q r e .refl⟩
theorem EK.two {Q2 : AK → AK → List AV → Prop} (h : EK c v S a Γ fun x Γ1 => EK c v S b Γ1 fun y Γ2 => Q2 x y Γ2) {σ : Sg} {H : Hp} {R : V → V → Hp → Prop} (r : RS c.K S no Γ σ H)
    (k : ∀ x y H' u w Γ', Q2 u w Γ' → RS c.K S no Γ' σ H' → RpK c.K H' (Exc S Γ' σ no) σ x u → RpK c.K H' (Exc S Γ' σ no) σ y w → Step Γ Γ' σ H H' → R x y H') : wE c v a σ H fun x H1 => wE c v b σ H1 fun y H2 => R x y H2 := by
  refine h σ H _ r fun x H1 u Γ1 hq r1 q1 s1 => ?_
  refine hq σ H1 _ r1 fun y H2 w Γ2 hq2 r2 q2 s2 => ?_
  exact k x y H2 u w Γ2 hq2 r2 (q1.mono s2.keeps) q2 (s1.trans s2)
theorem ea_nil (q : QA [] Γ) : EA c v S [] Γ QA := fun σ H R r k => ⟨_, fun _ => pa_nil, k _ _ _ _ q r trivial .refl⟩
/-- no star -/
def NoStar (v : ι → Var) (e : Expr) (es : List Expr) : Prop := ∀ i, starEach (e :: es) (v i).env = (false, eval e (v i).env) :: starEach es (v i).env
def NoStarL (v : ι → Var) (pos : Pos) (es : List Expr) : Prop := ∀ i, (backTo pos (starEach es (v i).env)).any (·.1) = false
theorem ea_cons (hs : NoStar v e es) (h : EK c v S e Γ fun x Γ1 => EA c v S es Γ1 fun xs Γ2 => QA (x :: xs) Γ2) : EA c v S (e :: es) Γ QA := fun σ H R r k => by
  refine ⟨_, fun i => pa_cons (wE.pe i) (wA.pa i) (hs i), h σ H _ r fun x H1 u Γ1 hq r1 q1 s1 => ?_⟩
  refine hq σ H1 _ r1 fun xs H2 us Γ2 hq2 r2 q2 s2 => ?_
  exact k _ _ _ _ hq2 r2 ⟨q1.mono s2.keeps, q2⟩ (s1.trans s2)

/-! ### tests -/
def PlainTest (v : ι → Var) (e : Expr) : Prop := ∀ i whole, isTrue e (v i).env whole = (do let v ← whole; standAt e.pos; holding [v] (truthy v))
theorem td_val (he : PlainTest v e) (h : ED c v S e Γ fun x Γ' => ∃ k, x = .dt (.bl k) ∧ QB k Γ') : TD c v S e Γ QB := fun σ H R r k => by
  refine ⟨_, fun i => pt_val (wE.pe i) (he i), ?_⟩
  exact h σ H _ r fun x H' a Γ' ⟨b, e, q⟩ hr s _ => by
    subst e
    obtain ⟨r', z⟩ := hr
    cases z
    exact ⟨b, rfl, k _ _ _ q r' s⟩
theorem td_not (h : TD c v S e Γ fun k Γ' => QB (!k) Γ') : TD c v S (.UnaryOp .Not e pos) Γ QB := fun σ H R r k =>
  ⟨_, fun i => pt_not (wT.pt i), h σ H _ r fun b H' Γ' q r' s => k _ _ _ q r' s⟩
/-- a chain of tests: what is asked of each of its ends -/
def WD (c : Core) (v : ι → Var) (S : Ent) (e : Expr) (Γ : List AV) (Q : Bool → List AV → Prop) : Prop := ∀ (σ : Sg) (H : Hp) (R : Bool → Hp → Prop), RS c.K S no Γ σ H →
  (∀ b H' Γ', Q b Γ' → RS c.K S no Γ' σ H' → Step Γ Γ' σ H H' → R b H') → ∃ t : TT, (∀ i, PW (mkX c (v i)) e t) ∧ t σ H R
theorem td_wd (h : WD c v S e Γ QB) : TD c v S e Γ QB := fun σ H R r k => by
  obtain ⟨t, h1, h2⟩ := h σ H R r k
  exact ⟨t, fun i => (h1 i).pt, h2⟩
theorem wW {e : Expr} (i : ι) : PW (mkX c (v i)) e (fun σ H R => ∃ t : TT, (∀ i, PW (mkX c (v i)) e t) ∧ t σ H R) := ⟨fun wh pins s σ H Q I ⟨_, h, q⟩ => (h i).run wh pins s σ H Q I q⟩
theorem wd_and1 (h : TD c v S a Γ QB) : WD c v S (.BoolOp .And [a] pos) Γ QB := fun σ H R r k => ⟨_, fun i => pw_and1 (wT.pt i), h σ H R r k⟩
theorem wd_or1 (h : TD c v S a Γ QB) : WD c v S (.BoolOp .Or [a] pos) Γ QB := fun σ H R r k => ⟨_, fun i => pw_or1 (wT.pt i), h σ H R r k⟩
theorem wd_and (h : TD c v S a Γ fun k Γ' => (k = true → WD c v S (.BoolOp .And (b :: es) pos) Γ' QB) ∧ (k = false → QB false Γ')) : WD c v S (.BoolOp .And (a :: b :: es) pos) Γ QB := fun σ H R r k =>
  ⟨_, fun i => pw_and (wT.pt i) (wW i), h σ H _ r fun x H' Γ' q r' s => by
    cases x with
    | true => exact iteT (q.1 rfl σ H' _ r' fun y H2 Γ2 q2 r2 s2 => k _ _ _ q2 r2 (s.trans s2))
    | false => exact iteF (k _ _ _ (q.2 rfl) r' s)⟩
theorem wd_or (h : TD c v S a Γ fun k Γ' => (k = false → WD c v S (.BoolOp .Or (b :: es) pos) Γ' QB) ∧ (k = true → QB true Γ')) : WD c v S (.BoolOp .Or (a :: b :: es) pos) Γ QB := fun σ H R r k =>
  ⟨_, fun i => pw_or (wT.pt i) (wW i), h σ H _ r fun x H' Γ' q r' s => by
    cases x with
    | true => exact iteT (k _ _ _ (q.2 rfl) r' s)
    | false => exact iteF (q.1 rfl σ H' _ r' fun y H2 Γ2 q2 r2 s2 => k _ _ _ q2 r2 (s.trans s2))⟩
/-- and, or, not as values -/
theorem ed_not (h : ED c v S e Γ fun x Γ' => ∃ k, x = .dt (.bl k) ∧ Q (.dt (.bl (!k))) Γ') : ED c v S (.UnaryOp .Not e pos) Γ Q := fun σ H R r k =>
  ⟨_, fun i => pe_not (wE.pe i), h σ H _ r fun x H' a Γ' ⟨b, e, q⟩ hr s _ => by
    subst e
    obtain ⟨r', z⟩ := hr
    cases z
    exact ⟨b, rfl, k _ _ _ _ q ⟨r', .bl _⟩ s trivial⟩⟩
theorem ed_bool1 {op : BoolOp} (h : ED c v S a Γ Q) : ED c v S (.BoolOp op [a] pos) Γ Q := fun σ H R r k => ⟨_, fun i => pe_one (wE.pe i), h σ H R r k⟩
theorem ed_and (h : ED c v S a Γ fun x Γ' => ∃ k, x = .dt (.bl k) ∧ (k = true → ED c v S (.BoolOp .And (b :: es) pos) Γ' Q) ∧ (k = false → Q (.dt (.bl false)) Γ')) : ED c v S (.BoolOp .And (a :: b :: es) pos) Γ Q := fun σ H R r k =>
  ⟨_, fun i => pe_and (wE.pe i) (wE.pe i), h σ H _ r fun x H' u Γ' ⟨b, e, q1, q2⟩ hr s _ => by
    subst e
    obtain ⟨r', z⟩ := hr
    cases z
    refine ⟨b, rfl, ?_⟩
    cases b with
    | true => exact iteT (q1 rfl σ H' _ r' fun y H2 a2 Γ2 q2 r2 s2 n2 => k _ _ _ _ q2 r2 (s.trans s2) (n2.back s))
    | false => exact iteF (k _ _ _ _ (q2 rfl) ⟨r', .bl _⟩ s trivial)⟩
theorem ed_or (h : ED c v S a Γ fun x Γ' => ∃ k, x = .dt (.bl k) ∧ (k = false → ED c v S (.BoolOp .Or (b :: es) pos) Γ' Q) ∧ (k = true → Q (.dt (.bl true)) Γ')) : ED c v S (.BoolOp .Or (a :: b :: es) pos) Γ Q := fun σ H R r k =>
  ⟨_, fun i => pe_or (wE.pe i) (wE.pe i), h σ H _ r fun x H' u Γ' ⟨b, e, q1, q2⟩ hr s _ => by
    subst e
    obtain ⟨r', z⟩ := hr
    cases z
    refine ⟨b, rfl, ?_⟩
    cases b with
    | true => exact iteT (k _ _ _ _ (q2 rfl) ⟨r', .bl _⟩ s trivial)
    | false => exact iteF (q1 rfl σ H' _ r' fun y H2 a2 Γ2 q2 r2 s2 n2 => k _ _ _ _ q2 r2 (s.trans s2) (n2.back s))⟩
theorem ed_ifExp {t : Expr} (h : TD c v S t Γ fun k Γ' => (k = true → ED c v S a Γ' Q) ∧ (k = false → ED c v S b Γ' Q)) : ED c v S (.IfExp t a b pos) Γ Q := fun σ H R r k =>
  ⟨_, fun i => pe_ifExp (wT.pt i) (wE.pe i) (wE.pe i), h σ H _ r fun x H' Γ' q r' s => by
    cases x with
    | true => exact iteT (q.1 rfl σ H' _ r' fun y H2 a2 Γ2 q2 r2 s2 n2 => k _ _ _ _ q2 r2 (s.trans s2) (n2.back s))
    | false => exact iteF (q.2 rfl σ H' _ r' fun y H2 a2 Γ2 q2 r2 s2 n2 => k _ _ _ _ q2 r2 (s.trans s2) (n2.back s))⟩

/-! ### what an argument holds -/
def akD (Γ : List AV) : AK → Option Dt
  | .d (.dt d) => some d
  | .d (.ow ds) => some (.lst ds)
  | _ => none
def akL (Γ : List AV) : AK → Option (List Dt)
  | .d (.dt (.lst ds)) => some ds
  | .d (.ow ds) => some ds
  | .d (.dt (.scr ns)) => some (ns.map .int)
  | .ln i => match Γ[i]? with
    | some (.ow ds) => some ds
    | _ => none
  | _ => none
def akT (Γ : List AV) : AK → Option (List Dt)
  | .d (.dt (.tup ds)) => some ds
  | _ => none
/-- a list, a tuple -/
def akS (Γ : List AV) (k : AK) : Option (List Dt) := (akL Γ k).or (akT Γ k)
end

section
variable {K : PySem.W.Frag} {S : Ent} {ex ex' : AP} {Γ Γ' : List AV} {σ : Sg} {H H' : Hp} {x : V} {k : AK} {d : Dt} {ds : List Dt}
theorem akD_of (e : akD Γ k = some d) (q : RpK K H ex σ x k) : Rp K H ex x d := by
  rcases k with (_ | d | ds) | i
  · cases e
  · cases e; exact q
  · cases e; exact q
  · cases e
theorem akL_of (e : akL Γ k = some ds) (r : RS K S DL.no Γ σ H) (q : RpK K H (Exc S Γ σ DL.no) σ x k) : ∃ p xs, x = .ref p ∧ SqL K H p xs ∧ RpL K H (Exc S Γ σ DL.no) xs ds := by
  have scr : ∀ ns : List Int, Rp K H (Exc S Γ σ DL.no) x (.scr ns) → ∃ p xs, x = .ref p ∧ SqL K H p xs ∧ RpL K H (Exc S Γ σ DL.no) xs (ns.map .int) := fun ns q => by
    cases q with
    | scrF e n => exact ⟨_, _, rfl, .inl (.inr ⟨_, e⟩), RpL.of_ints _ _ _ ns⟩
    | scrK e => exact ⟨_, _, rfl, .inr e, RpL.of_ints _ _ _ ns⟩
  rcases k with (_ | d | es) | i
  · cases e
  · cases d with
    | lst es =>
      cases e
      cases q with
      | lst e n r => exact ⟨_, _, rfl, .of e, r⟩
    | scr ns =>
      cases e
      exact scr ns q
    | _ => cases e
  · cases e
    cases q with
    | lst e n r => exact ⟨_, _, rfl, .of e, r⟩
  · have e' : (match Γ[i]? with | some (AV.ow ds) => some ds | _ => none) = some ds := e
    split at e'
    · rename_i es g
      cases e'
      obtain ⟨p, xs, e1, e2, q2⟩ := r.slots i _ g
      have q' : σ[i]? = some (some x) := q
      rw [q'] at e1
      cases e1
      exact ⟨p, xs, rfl, .of e2, q2⟩
    · cases e'
theorem akT_of (e : akT Γ k = some ds) (q : RpK K H ex σ x k) : ∃ p xs, x = .ref p ∧ H p = some (.tup xs) ∧ RpL K H ex xs ds := by
  rcases k with (_ | d | es) | i
  · cases e
  · cases d with
    | tup es =>
      cases e
      cases q with
      | tup e n r => exact ⟨_, _, rfl, e, r⟩
    | _ => cases e
  · cases e
  · cases e
theorem akS_of (e : akS Γ k = some ds) (r : RS K S DL.no Γ σ H) (q : RpK K H (Exc S Γ σ DL.no) σ x k) : ∃ p xs, x = .ref p ∧ (SqL K H p xs ∨ SqT K H p xs) ∧ RpL K H (Exc S Γ σ DL.no) xs ds := by
  unfold akS at e
  cases h : akL Γ k with
  | some es =>
    rw [h] at e
    cases e
    obtain ⟨p, xs, e1, e2, q2⟩ := akL_of h r q
    exact ⟨p, xs, e1, .inl e2, q2⟩
  | none =>
    rw [h] at e
    obtain ⟨p, xs, e1, e2, q2⟩ := akT_of (show akT Γ k = some ds from e) q
    exact ⟨p, xs, e1, .inr (.of e2), q2⟩
end
end DL

namespace DL
open PySem PySem.Spec
open PyProof.Rows L2

section
variable (c : Core) {ι : Type} (v : ι → Var) (S : Ent)
/-- a call by values, over plain data -/
def CB (r : List V → Hp → VK → Prop) (P : List AK → List AV → (AV → List AV → Prop) → Prop) : Prop :=
  ∀ (as : List AK) (Γ : List AV) (Q : AV → List AV → Prop) (σ : Sg) (H : Hp) (xs : List V) (R : VK), P as Γ Q → RS c.K S no Γ σ H → RpKL c.K H (Exc S Γ σ no) σ xs as →
    (∀ y H' a Γ', Q a Γ' → Res c.K S Γ' σ H' y a → Step Γ Γ' σ H H' → New H Γ σ y a → R y H') → r xs H R
end
section
variable {c : Core} {ι : Type} {v : ι → Var} {S : Ent} {Γ : List AV} {Q : AV → List AV → Prop} {QK : AK → List AV → Prop} {QB : Bool → List AV → Prop} {QA : List AK → List AV → Prop} {e a b : Expr} {es : List Expr} {pos p : Pos} {x : Str} {id T : String}
  {r : List V → Hp → VK → Prop} {P : List AK → List AV → (AV → List AV → Prop) → Prop}
theorem line1 {n : Nat} (h : n ≤ 1000000) : n ≤ sizeLine := by
  rw [sizeLine_eq]
  omega
theorem RpKL.one {K : PySem.W.Frag} {H : Hp} {ex : AP} {σ : Sg} {xs : List V} {k : AK} (q : RpKL K H ex σ xs [k]) : ∃ x, xs = [x] ∧ RpK K H ex σ x k := by
  match xs, q with
  | [x], q => exact ⟨x, rfl, q.1⟩
theorem RpKL.pair {K : PySem.W.Frag} {H : Hp} {ex : AP} {σ : Sg} {xs : List V} {k j : AK} (q : RpKL K H ex σ xs [k, j]) : ∃ x y, xs = [x, y] ∧ RpK K H ex σ x k ∧ RpK K H ex σ y j := by
  match xs, q with
  | [x, y], q => exact ⟨x, y, rfl, q.1, q.2.1⟩
theorem ed_callB (hc : ∀ i, CallR (mkX c (v i)) (.builtin id) r) (hP : CB c S r P) (hg : ∀ i, Gl (mkX c (v i)) x) (hm : c.mg x = none) (hv : bootBuiltins x = some (.builtin id)) (hn : x ≠ "__name__") (hdb : (x == ("__debug__" : Str)) = false)
    (he : NoStar v e es) (hpl : NoStarL v pos es) (h : EA c v S (e :: es) Γ fun as Γ' => P as Γ' Q) : ED c v S (.Call (.Name x p) (e :: es) [] pos) Γ Q := fun σ H R r k =>
  ⟨_, fun i => pe_callB (hc i) (hg i) hm hv (wA.pa i) hn hdb (he i) (hpl i), h σ H _ r fun xs H' as Γ' q r' hx s =>
    hP as Γ' Q σ H' xs _ q r' hx fun y H2 u Γ2 q2 r2 s2 n2 => k _ _ _ _ q2 r2 (s.trans s2) (n2.back s)⟩
theorem ed_callTy (hc : ∀ i, CallR (mkX c (v i)) (.type T) r) (hP : CB c S r P) (hg : ∀ i, Gl (mkX c (v i)) x) (hm : c.mg x = none) (hv : bootBuiltins x = some (.type T)) (hn : x ≠ "__name__") (hdb : (x == ("__debug__" : Str)) = false)
    (he : NoStar v e es) (hpl : NoStarL v pos es) (h : EA c v S (e :: es) Γ fun as Γ' => P as Γ' Q) : ED c v S (.Call (.Name x p) (e :: es) [] pos) Γ Q := fun σ H R r k =>
  ⟨_, fun i => pe_callTy (hc i) (hg i) hm hv (wA.pa i) hn hdb (he i) (hpl i), h σ H _ r fun xs H' as Γ' q r' hx s =>
    hP as Γ' Q σ H' xs _ q r' hx fun y H2 u Γ2 q2 r2 s2 n2 => k _ _ _ _ q2 r2 (s.trans s2) (n2.back s)⟩

/-! ### built-ins -/
def pLen : List AK → List AV → (AV → List AV → Prop) → Prop := fun as Γ Q => ∃ k ds, as = [k] ∧ akS Γ k = some ds ∧ Q (.dt (.int ds.length)) Γ
theorem cb_len : CB c S (fun xs H Q => ∃ p ys, xs = [.ref p] ∧ (SqL c.K H p ys ∨ SqT c.K H p ys) ∧ Q (.int ys.length) H) pLen := by
  rintro as Γ Q σ H xs R ⟨k, ds, rfl, e, q⟩ r hx kk
  obtain ⟨x, rfl, hk⟩ := hx.one
  obtain ⟨p, ys, rfl, hs, hl⟩ := akS_of e r hk
  exact ⟨p, ys, rfl, hs, kk _ _ _ _ q ⟨r, by rw [hl.len]; exact .int _⟩ .refl trivial⟩
def pInt1 (g : Int → Int) : List AK → List AV → (AV → List AV → Prop) → Prop := fun as Γ Q => ∃ k i, as = [k] ∧ akD Γ k = some (.int i) ∧ Q (.dt (.int (g i))) Γ
theorem cb_abs : CB c S (fun xs H Q => ∃ i, xs = [.int i] ∧ Q (.int (if i < 0 then -i else i)) H) (pInt1 fun i => if i < 0 then -i else i) := by
  rintro as Γ Q σ H xs R ⟨k, i, rfl, e, q⟩ r hx kk
  obtain ⟨x, rfl, hk⟩ := hx.one
  cases akD_of e hk
  exact ⟨i, rfl, kk _ _ _ _ q ⟨r, .int _⟩ .refl trivial⟩
def pInt2 (g : Int → Int → Int) : List AK → List AV → (AV → List AV → Prop) → Prop := fun as Γ Q => ∃ k l i j, as = [k, l] ∧ akD Γ k = some (.int i) ∧ akD Γ l = some (.int j) ∧ Q (.dt (.int (g i j))) Γ
theorem cb_int2 {g : Int → Int → Int} : CB c S (fun xs H Q => ∃ i j, xs = [.int i, .int j] ∧ Q (.int (g i j)) H) (pInt2 g) := by
  rintro as Γ Q σ H xs R ⟨k, l, i, j, rfl, e, e2, q⟩ r hx kk
  obtain ⟨x, y, rfl, hk, hl⟩ := hx.pair
  cases akD_of e hk
  cases akD_of e2 hl
  exact ⟨i, j, rfl, kk _ _ _ _ q ⟨r, .int _⟩ .refl trivial⟩
def pInt : List AK → List AV → (AV → List AV → Prop) → Prop := fun as Γ Q => ∃ k, as = [k] ∧ ((∃ i, akD Γ k = some (.int i) ∧ Q (.dt (.int i)) Γ) ∨ ∃ b, akD Γ k = some (.bl b) ∧ Q (.dt (.int (if b then 1 else 0))) Γ)
theorem cb_int : CB c S (fun xs H Q => (∃ i, xs = [.int i] ∧ Q (.int i) H) ∨ ∃ k, xs = [.bl k] ∧ Q (.int (if k then 1 else 0)) H) pInt := by
  rintro as Γ Q σ H xs R ⟨k, rfl, q⟩ r hx kk
  obtain ⟨x, rfl, hk⟩ := hx.one
  rcases q with ⟨i, e, q⟩ | ⟨i, e, q⟩
  · cases akD_of e hk
    exact .inl ⟨i, rfl, kk _ _ _ _ q ⟨r, .int _⟩ .refl trivial⟩
  · cases akD_of e hk
    exact .inr ⟨i, rfl, kk _ _ _ _ q ⟨r, .int _⟩ .refl trivial⟩
/-- the least of a list of ints -/
def pMin : List AK → List AV → (AV → List AV → Prop) → Prop := fun as Γ Q => ∃ (k : AK) (ns : List Int), as = [k] ∧ akL Γ k = some (List.map Dt.int ns) ∧ 0 < ns.length ∧ ∀ m : Int, m ∈ ns → (∀ y, y ∈ ns → m ≤ y) → Q (.dt (.int m)) Γ
theorem cb_min : CB c S (rMin c.K) pMin := by
  rintro as Γ Q σ H xs R ⟨k, ns, rfl, e, h0, q⟩ r hx kk
  obtain ⟨x, rfl, hk⟩ := hx.one
  obtain ⟨p, ys, rfl, hs, hl⟩ := akL_of e r hk
  rw [hl.ints] at hs
  exact ⟨p, ns, rfl, hs, h0, fun m h1 h2 => kk _ _ _ _ (q m h1 h2) ⟨r, .int _⟩ .refl trivial⟩
/-- tuple(list), list(..), sorted(ints), all(bools) -/
def pTup : List AK → List AV → (AV → List AV → Prop) → Prop := fun as Γ Q => ∃ k ds, as = [k] ∧ akS Γ k = some ds ∧ Q (.dt (.tup ds)) Γ
theorem RpKL.sub {K : PySem.W.Frag} {H H' : Hp} {ex ex' : AP} {xs : List V} {ds : List Dt} (h : ∀ b o, H b = some o → ¬ ex b → H' b = some o ∧ ¬ ex' b) (q : RpL K H ex xs ds) : RpL K H' ex' xs ds := q.mono h
theorem cb_tup : CB c S (fun xs H Q => ∃ p ys, xs = [.ref p] ∧ ((SqL c.K H p ys ∧ ∀ l, H l = none → Q (.ref l) (upd H l (.tup ys))) ∨ (SqT c.K H p ys ∧ Q (.ref p) H))) pTup := by
  rintro as Γ Q σ H xs R ⟨k, ds, rfl, e, q⟩ r hx kk
  obtain ⟨x, rfl, hk⟩ := hx.one
  unfold akS at e
  cases h : akL Γ k with
  | some es =>
    rw [h] at e
    cases e
    obtain ⟨p, ys, rfl, hs, hl⟩ := akL_of h r hk
    exact ⟨p, ys, rfl, .inl ⟨hs, fun l hn => kk _ _ _ _ q (Res.newT r hn hl) (Step.refl.alloc hn) trivial⟩⟩
  | none =>
    rw [h] at e
    have e' : akT Γ k = some ds := e
    obtain ⟨p, ys, rfl, hs, hl⟩ := akT_of e' hk
    refine ⟨p, ys, rfl, .inr ⟨.of hs, kk _ _ _ _ q ⟨r, ?_⟩ .refl trivial⟩⟩
    rcases k with (_ | d | es) | i
    · cases e'
    · cases d with
      | tup es => cases e'; exact hk
      | _ => cases e'
    · cases e'
    · cases e'
def pList : List AK → List AV → (AV → List AV → Prop) → Prop := fun as Γ Q => ∃ k ds, as = [k] ∧ akS Γ k = some ds ∧ Q (.ow ds) Γ
theorem cb_list : CB c S (fun xs H Q => ∃ p ys, xs = [.ref p] ∧ (SqL c.K H p ys ∨ SqT c.K H p ys) ∧ ∀ l, H l = none → Q (.ref l) (upd H l (.lst ys))) pList := by
  rintro as Γ Q σ H xs R ⟨k, ds, rfl, e, q⟩ r hx kk
  obtain ⟨x, rfl, hk⟩ := hx.one
  obtain ⟨p, ys, rfl, hs, hl⟩ := akS_of e r hk
  exact ⟨p, ys, rfl, hs, fun l hn => kk _ _ _ _ q (Res.newL r hn hl) (Step.refl.alloc hn) (New.ofL .refl hn)⟩
def pSorted : List AK → List AV → (AV → List AV → Prop) → Prop := fun as Γ Q => ∃ (k : AK) (ns : List Int), as = [k] ∧ akL Γ k = some (List.map Dt.int ns) ∧ ns.length < 64 ∧ ∀ ns' : List Int, ns'.Perm ns → ns'.Pairwise (· ≤ ·) → Q (.ow (ns'.map .int)) Γ
theorem cb_sorted : CB c S (rSorted c.K) pSorted := by
  rintro as Γ Q σ H xs R ⟨k, ns, rfl, e, h64, q⟩ r hx kk
  obtain ⟨x, rfl, hk⟩ := hx.one
  obtain ⟨p, ys, rfl, hs, hl⟩ := akL_of e r hk
  rw [hl.ints] at hs
  exact ⟨p, ns, rfl, hs, h64, fun ns' l h1 h2 hn => kk _ _ _ _ (q ns' h1 h2) (Res.newL r hn (RpL.of_ints _ _ _ _)) (Step.refl.alloc hn) (New.ofL .refl hn)⟩
def pAll : List AK → List AV → (AV → List AV → Prop) → Prop := fun as Γ Q => ∃ (k : AK) (bs : List Bool), as = [k] ∧ akL Γ k = some (List.map Dt.bl bs) ∧ Q (.dt (.bl (bs.all fun z => z))) Γ
theorem cb_all : CB c S (rAll c.K) pAll := by
  rintro as Γ Q σ H xs R ⟨k, bs, rfl, e, q⟩ r hx kk
  obtain ⟨x, rfl, hk⟩ := hx.one
  obtain ⟨p, ys, rfl, hs, hl⟩ := akL_of e r hk
  rw [hl.bls] at hs
  exact ⟨p, bs, rfl, hs, kk _ _ _ _ q ⟨r, .bl _⟩ .refl trivial⟩

/-! ### isinstance with a built-in class -/
def Dt.ty : Dt → Option String
  | .non => some "NoneType"
  | .bl _ => some "bool"
  | .int _ => some "int"
  | .str _ => some "str"
  | .tup _ => some "tuple"
  | .lst _ => some "list"
  | .dct [] [] => some "dict"
  | _ => none
def pIs : List AK → List AV → (AV → List AV → Prop) → Prop := fun as Γ Q => ∃ k d T t u, as = [k, .d (.dt (.raw (.ty u)))] ∧ akD Γ k = some d ∧ d.ty = some t ∧ kitB t u = some T ∧ Q (.dt (.bl T)) Γ
theorem cb_is : CB c S (rIsi c.K) pIs := by
  rintro as Γ Q σ H xs R ⟨k, d, T, t, u, rfl, e, e2, e3, q⟩ r hx kk
  obtain ⟨x, y, rfl, hk, hl⟩ := hx.pair
  have hr := akD_of e hk
  have hy : y = .ty u := by
    have z : Rp c.K H (Exc S Γ σ no) y (.raw (.ty u)) := hl
    cases z
    rfl
  subst hy
  refine ⟨x, .ty u, .type t, .type u, T, rfl, .ty u, ?_, kit_ty e3, kk _ _ _ _ q ⟨r, .bl _⟩ .refl trivial⟩
  cases hr with
  | non => cases e2; exact .base .non
  | bl b => cases e2; exact .base (.bl b)
  | int i => cases e2; exact .base (.int i)
  | str s => cases e2; exact .base (.str s)
  | raw x => cases e2
  | tup h n q => cases e2; exact .base (.tup h)
  | lst h n q => cases e2; exact .base (.lst h)
  | dct0 h n => cases e2; exact .base (.dK h)
  | scrF h n => cases e2
  | scrK h => cases e2
  | obj h n => cases e2
  | exa _ _ _ _ => cases e2
/-- a built-in class's name as a value -/
theorem ek_type {u : String} (hg : ∀ i, Gl (mkX c (v i)) x) (hm : c.mg x = none) (hv : bootBuiltins x = some (.type u)) (hn : x ≠ "__name__") (hd : (x == ("__debug__" : Str)) = false) (q : QK (.d (.dt (.raw (.ty u)))) Γ) : EK c v S (.Name x pos) Γ QK := fun σ H R r k =>
  ⟨_, fun i => pe_bltn (v := .ty u) (hg i) hm hv rfl hn hd, k _ _ _ _ q r (Rp.raw _) .refl⟩

/-! ### displays -/
def akF (Γ : List AV) (as : List AK) : Option (List Dt) := as.mapM (akD Γ)
theorem akF_of {K : PySem.W.Frag} {H : Hp} {ex : AP} {σ : Sg} {Γ : List AV} : ∀ {as : List AK} {xs : List V} {ds : List Dt}, akF Γ as = some ds → RpKL K H ex σ xs as → RpL K H ex xs ds
  | [], [], _, e, _ => by
    cases e
    exact .nil
  | a :: as, x :: xs, ds, e, q => by
    unfold akF at e
    rw [List.mapM_cons] at e
    cases h : akD Γ a with
    | none => rw [h] at e; cases e
    | some d =>
      rw [h] at e
      cases h2 : as.mapM (akD Γ) with
      | none => rw [h2] at e; cases e
      | some es =>
        rw [h2] at e
        cases e
        exact .cons (akD_of h q.1) (akF_of h2 q.2)
  | [], _ :: _, _, _, q => q.elim
  | _ :: _, [], _, _, q => q.elim
theorem ed_lst (h : EA c v S es Γ fun as Γ' => ∃ ds, akF Γ' as = some ds ∧ ds.length ≤ 1000 ∧ Q (.ow ds) Γ') : ED c v S (.List es pos) Γ Q := fun σ H R r k =>
  ⟨_, fun i => pe_lst (wA.pa i), h σ H _ r fun xs H' as Γ' ⟨ds, e, hz, q⟩ r' hx s => by
    have hl := akF_of e hx
    refine ⟨by rw [hl.len]; exact line1 (by omega), fun p hn => k _ _ _ _ q (Res.newL r' hn hl) (s.alloc hn) (New.ofL s hn)⟩⟩
theorem ed_tup {x1} (h : EA c v S es Γ fun as Γ' => ∃ ds, akF Γ' as = some ds ∧ ds.length ≤ 1000 ∧ Q (.dt (.tup ds)) Γ') : ED c v S (.Tuple es x1 pos) Γ Q := fun σ H R r k =>
  ⟨_, fun i => pe_tup (wA.pa i), h σ H _ r fun xs H' as Γ' ⟨ds, e, hz, q⟩ r' hx s => by
    have hl := akF_of e hx
    refine ⟨by rw [hl.len]; exact line1 (by omega), fun p hn => k _ _ _ _ q (Res.newT r' hn hl) (s.alloc hn) trivial⟩⟩

/-! ### subscripts -/
theorem atI_len {α β : Type} {xs : List α} {ys : List β} {i : Int} {y : β} (h : xs.length = ys.length) (e : atI ys i = some y) : ∃ j, ixN xs.length i = some j ∧ ys[j]? = some y := by
  unfold atI at e
  rw [← h] at e
  cases z : ixN xs.length i with
  | none => rw [z] at e; cases e
  | some j => rw [z] at e; exact ⟨j, rfl, e⟩
theorem ed_ix (hb : PlainIx b) (h : EK c v S a Γ fun k Γ1 => EK c v S b Γ1 fun l Γ2 => ∃ ds i d, akS Γ2 k = some ds ∧ akD Γ2 l = some (.int i) ∧ atI ds i = some d ∧ Q (.dt d) Γ2) : ED c v S (.Subscript a b pos) Γ Q := fun σ H R r kk =>
  ⟨_, fun i => pe_ix (show IxR (mkX c (v i)) (rIx c.K) from ix_seq) (wE.pe i) (wE.pe i) hb, EK.two h r fun x y H' k l Γ' ⟨ds, i, d, e1, e2, e3, q⟩ r' hk hl s => by
    obtain ⟨p, xs, rfl, hs, hx⟩ := akS_of e1 r' hk
    cases akD_of e2 hl
    obtain ⟨j, ej, ed⟩ := atI_len hx.len e3
    obtain ⟨z, ez, rz⟩ := hx.get ed
    have ea : atI xs i = some z := by
      unfold atI
      rw [ej]
      exact ez
    have fin : R z H' := kk _ _ _ _ q ⟨r', rz⟩ s trivial
    rcases hs with hs | hs
    · exact .inl ⟨p, xs, i, z, rfl, rfl, hs, ea, fin⟩
    · exact .inr (.inl ⟨p, xs, i, z, rfl, rfl, hs, ea, fin⟩)⟩

/-! ### slices -/
def cutD (xs : List Dt) (lo hi : Option Int) : List Dt := (xs.drop (HT.sIx xs.length 0 lo)).take (HT.sIx xs.length xs.length hi - HT.sIx xs.length 0 lo)
theorem RpL.cut {K : PySem.W.Frag} {H : Hp} {ex : AP} {xs : List V} {ds : List Dt} (q : RpL K H ex xs ds) (lo hi : Option Int) : RpL K H ex (cutV xs lo hi) (cutD ds lo hi) := by
  unfold cutV cutD
  rw [q.len]
  exact (q.drop _).take _
/-- a part of a slice -/
def OD (c : Core) (v : ι → Var) (S : Ent) (e : Option Expr) (Γ : List AV) (Q : Option Int → List AV → Prop) : Prop :=
  match e with
  | none => Q none Γ
  | some e => ED c v S e Γ fun x Γ' => ∃ i, x = .dt (.int i) ∧ Q (some i) Γ'
def tO (c : Core) (v : ι → Var) (e : Option Expr) : TO :=
  match e with
  | none => tNoPart
  | some e => tPart (wE c v e)
theorem OD.po {o : Option Expr} (i : ι) : PO (mkX c (v i)) o (tO c v o) := by
  cases o with
  | none => exact po_none
  | some e => exact po_some (wE.pe i)
theorem OD.go {o : Option Expr} {QO : Option Int → List AV → Prop} (h : OD c v S o Γ QO) {σ : Sg} {H : Hp} {R : Option Int → Hp → Prop} (r : RS c.K S no Γ σ H) (k : ∀ i H' Γ', QO i Γ' → RS c.K S no Γ' σ H' → Step Γ Γ' σ H H' → R i H') : tO c v o σ H R := by
  cases o with
  | none => exact k _ _ _ h r .refl
  | some e =>
    refine h σ H _ r fun x H' a Γ' ⟨i, e, q⟩ hr s _ => ?_
    subst e
    obtain ⟨r', z⟩ := hr
    cases z
    exact ⟨i, rfl, k _ _ _ q r' s⟩
theorem ed_slT {lo hi : Option Expr} {p2 : Pos} (h : EK c v S a Γ fun k Γ1 => OD c v S lo Γ1 fun l Γ2 => OD c v S hi Γ2 fun u Γ3 => ∃ ds, akT Γ3 k = some ds ∧ Q (.dt (.tup (cutD ds l u))) Γ3) : ED c v S (.Subscript a (.Slice lo hi none p2) pos) Γ Q := fun σ H R r kk =>
  ⟨_, fun i => pe_slice (show SlR (mkX c (v i)) (rSlA c.K) from sl_tupA) (wE.pe i) (OD.po i) (OD.po i), h σ H _ r fun x H1 k Γ1 q1 r1 hk s1 => q1.go r1 fun l H2 Γ2 q2 r2 s2 => q2.go r2 fun u H3 Γ3 ⟨ds, e, q⟩ r3 s3 => by
    have hk3 := (hk.mono s2.keeps).mono s3.keeps
    obtain ⟨p, xs, rfl, hs, hx⟩ := akT_of e hk3
    refine ⟨p, xs, rfl, .of hs, fun hw => kk _ _ _ _ q ⟨r3, ?_⟩ ((s1.trans s2).trans s3) trivial, fun _ p hn => kk _ _ _ _ q (Res.newT r3 hn (hx.cut l u)) (((s1.trans s2).trans s3).alloc hn) trivial⟩
    have e' : cutD ds l u = ds := by
      unfold cutD
      rw [← hx.len, hw.1, hw.2, List.drop_zero, hx.len, Nat.sub_zero, List.take_length]
    rw [e']
    rcases k with (_ | d | es) | i
    · cases e
    · cases d with
      | tup es => cases e; exact hk3
      | _ => cases e
    · cases e
    · cases e⟩
theorem ed_slL {lo hi : Option Expr} {p2 : Pos} (h : EK c v S a Γ fun k Γ1 => OD c v S lo Γ1 fun l Γ2 => OD c v S hi Γ2 fun u Γ3 => ∃ ds, akL Γ3 k = some ds ∧ Q (.ow (cutD ds l u)) Γ3) : ED c v S (.Subscript a (.Slice lo hi none p2) pos) Γ Q := fun σ H R r kk =>
  ⟨_, fun i => pe_slice (show SlR (mkX c (v i)) (rSlL c.K) from sl_list) (wE.pe i) (OD.po i) (OD.po i), h σ H _ r fun x H1 k Γ1 q1 r1 hk s1 => q1.go r1 fun l H2 Γ2 q2 r2 s2 => q2.go r2 fun u H3 Γ3 ⟨ds, e, q⟩ r3 s3 => by
    obtain ⟨p, xs, rfl, hs, hx⟩ := akL_of e r3 ((hk.mono s2.keeps).mono s3.keeps)
    exact ⟨p, xs, rfl, hs, fun p hn => kk _ _ _ _ q (Res.newL r3 hn (hx.cut l u)) (((s1.trans s2).trans s3).alloc hn) (New.ofL ((s1.trans s2).trans s3) hn)⟩⟩

/-! ### + and * of sequences -/
theorem ed_catT (h : EK c v S a Γ fun k Γ1 => EK c v S b Γ1 fun l Γ2 => ∃ ds es, akT Γ2 k = some ds ∧ akT Γ2 l = some es ∧ ds.length + es.length ≤ 1000 ∧ Q (.dt (.tup (ds ++ es))) Γ2) : ED c v S (.BinOp a .Add b pos) Γ Q := fun σ H R r kk =>
  ⟨_, fun i => pe_op (show OpR (mkX c (v i)) (binaryOp .Add) (rCatA c.K) from op_catA) (wE.pe i) (wE.pe i), EK.two h r fun x y H' k l Γ' ⟨ds, es, e1, e2, hz, q⟩ r' hk hl s => by
    have whole : ∀ {j : AK} {gs : List Dt} {z : V}, akT Γ' j = some gs → RpK c.K H' (Exc S Γ' σ no) σ z j → Rp c.K H' (Exc S Γ' σ no) z (.tup gs) := fun {j gs z} e q => by
      rcases j with (_ | d | es) | i
      · cases e
      · cases d with
        | tup es => cases e; exact q
        | _ => cases e
      · cases e
      · cases e
    have w1 := whole e1 hk
    have w2 := whole e2 hl
    obtain ⟨p1, xs, rfl, hs1, hx⟩ := akT_of e1 hk
    obtain ⟨p2, ys, rfl, hs2, hy⟩ := akT_of e2 hl
    refine ⟨p1, p2, xs, ys, rfl, rfl, .of hs1, .of hs2, ?_, fun z => ?_, fun _ z => ?_, fun _ _ p hn => kk _ _ _ _ q (Res.newT r' hn (hx.append hy)) (s.alloc hn) trivial⟩
    · rw [hx.len, hy.len]
      exact line1 (by omega)
    · subst z
      have : ds = [] := List.length_eq_zero_iff.mp hx.len.symm
      subst this
      exact kk _ _ _ _ q ⟨r', w2⟩ s trivial
    · subst z
      have : es = [] := List.length_eq_zero_iff.mp hy.len.symm
      subst this
      rw [List.append_nil] at q
      exact kk _ _ _ _ q ⟨r', w1⟩ s trivial⟩
/-- lists that are data, or on loan -/
theorem akL_trk {K : PySem.W.Frag} {H : Hp} {σ : Sg} {x : V} {k : AK} {ds : List Dt} (e : akL Γ k = some ds) (ns : ∀ n, k ≠ .d (.dt (.scr n))) (r : RS K S no Γ σ H) (q : RpK K H (Exc S Γ σ no) σ x k) : ∃ p xs, x = .ref p ∧ H p = some (.lst xs) ∧ RpL K H (Exc S Γ σ no) xs ds := by
  rcases k with (_ | d | es) | i
  · cases e
  · cases d with
    | lst es => cases e; cases q with | lst e n r => exact ⟨_, _, rfl, e, r⟩
    | scr n => exact absurd rfl (ns n)
    | _ => cases e
  · cases e; cases q with | lst e n r => exact ⟨_, _, rfl, e, r⟩
  · have e' : (match Γ[i]? with | some (AV.ow ds) => some ds | _ => none) = some ds := e
    split at e'
    · rename_i es g
      cases e'
      obtain ⟨p, xs, e1, e2, q2⟩ := r.slots i _ g
      have q' : σ[i]? = some (some x) := q
      rw [q'] at e1
      cases e1
      exact ⟨p, xs, rfl, e2, q2⟩
    · cases e'
def noScr : AK → Bool
  | .d (.dt (.scr _)) => false
  | _ => true
theorem noScr_of {k : AK} (h : noScr k = true) : ∀ n, k ≠ .d (.dt (.scr n)) := fun n e => by subst e; cases h
theorem ed_catL (h : EK c v S a Γ fun k Γ1 => EK c v S b Γ1 fun l Γ2 => ∃ ds es, akL Γ2 k = some ds ∧ akL Γ2 l = some es ∧ noScr k = true ∧ noScr l = true ∧ ds.length + es.length ≤ 1000000 ∧ Q (.ow (ds ++ es)) Γ2) : ED c v S (.BinOp a .Add b pos) Γ Q := fun σ H R r kk =>
  ⟨_, fun i => pe_op op_cat (wE.pe i) (wE.pe i), EK.two h r fun x y H' k l Γ' ⟨ds, es, e1, e2, n1, n2, hz, q⟩ r' hk hl s => by
    obtain ⟨p1, xs, rfl, hs1, hx⟩ := akL_trk e1 (noScr_of n1) r' hk
    obtain ⟨p2, ys, rfl, hs2, hy⟩ := akL_trk e2 (noScr_of n2) r' hl
    refine ⟨p1, p2, xs, ys, rfl, rfl, hs1, hs2, ?_, fun p hn => kk _ _ _ _ q (Res.newL r' hn (hx.append hy)) (s.alloc hn) (New.ofL s hn)⟩
    rw [hx.len, hy.len]
    exact line1 (by omega)⟩
theorem RpL.rep {K : PySem.W.Frag} {H : Hp} {ex : AP} {xs : List V} {ds : List Dt} (q : RpL K H ex xs ds) : ∀ n : Nat, RpL K H ex (List.replicate n xs).flatten (List.replicate n ds).flatten
  | 0 => .nil
  | n + 1 => by
    rw [List.replicate_succ, List.replicate_succ, List.flatten_cons, List.flatten_cons]; exact q.append (RpL.rep q n)
theorem ed_repL (h : EK c v S a Γ fun k Γ1 => EK c v S b Γ1 fun l Γ2 => ∃ ds n, akL Γ2 k = some ds ∧ noScr k = true ∧ akD Γ2 l = some (.int n) ∧ -1000000 ≤ n ∧ n ≤ 1000000 ∧ ds.length * n.toNat ≤ 1000000 ∧ Q (.ow (List.replicate n.toNat ds).flatten) Γ2) : ED c v S (.BinOp a .Mult b pos) Γ Q := fun σ H R r kk =>
  ⟨_, fun i => pe_op op_rep (wE.pe i) (wE.pe i), EK.two h r fun x y H' k l Γ' ⟨ds, n, e1, n1, e2, h1, h2, hz, q⟩ r' hk hl s => by
    obtain ⟨p1, xs, rfl, hs1, hx⟩ := akL_trk e1 (noScr_of n1) r' hk
    cases akD_of e2 hl
    refine ⟨p1, n, xs, rfl, rfl, hs1, by omega, by omega, ?_, fun p hn => kk _ _ _ _ q (Res.newL r' hn (hx.rep _)) (s.alloc hn) (New.ofL s hn)⟩
    rw [hx.len]
    exact line1 (by omega)⟩
end
end DL

namespace DL
open PySem PySem.Spec
open PyProof.Rows L2

/-! ### statements -/
structure DE where
  nx : List AV → Prop
  rt : AV → List AV → Prop
  bk : List AV → Prop := fun _ => False
  ct : List AV → Prop := fun _ => False
structure Link (K : PySem.W.Frag) (S : Ent) (E : Ends) (D : DE) : Prop where
  nx : ∀ Γ σ H, D.nx Γ → RS K S no Γ σ H → E.nx σ H
  rt : ∀ a Γ σ H x, D.rt a Γ → Res K S Γ σ H x a → E.rt x H
  bk : ∀ Γ σ H, D.bk Γ → RS K S no Γ σ H → E.bk σ H
  ct : ∀ Γ σ H, D.ct Γ → RS K S no Γ σ H → E.ct σ H
section
variable (c : Core) {ι : Type} (v : ι → Var) (S : Ent)
def SD (st : Stmt) (D : DE) (Γ : List AV) : Prop := ∀ (E : Ends) (σ : Sg) (H : Hp), Link c.K S E D → RS c.K S no Γ σ H → wS c v st E σ H
def BD (sts : List Stmt) (D : DE) (Γ : List AV) : Prop := ∀ (E : Ends) (σ : Sg) (H : Hp), Link c.K S E D → RS c.K S no Γ σ H → wB c v sts E σ H
end
section
variable {c : Core} {ι : Type} {v : ι → Var} {S : Ent} {Γ : List AV} {D : DE} {e a b : Expr} {es : List Expr} {st : Stmt} {sts sts' : List Stmt} {pos p : Pos} {x y : Str}
theorem bd_nil (h : D.nx Γ) : BD c v S [] D Γ := fun E σ H L r => ⟨_, fun _ => pss_nil, L.nx _ _ _ h r⟩
theorem bd_cons (h : SD c v S st { D with nx := BD c v S sts D } Γ) : BD c v S (st :: sts) D Γ := fun E σ H L r =>
  ⟨_, fun i => pss_cons (wS.ps i) (wB.pss i), h _ σ H ⟨fun Γ σ H q r => q E σ H L r, L.rt, L.bk, L.ct⟩ r⟩
theorem sd_pass (h : D.nx Γ) : SD c v S (.Pass pos) D Γ := fun E σ H L r => ⟨_, fun _ => ps_pass, L.nx _ _ _ h r⟩
theorem sd_break (h : D.bk Γ) : SD c v S (.Break pos) D Γ := fun E σ H L r => ⟨_, fun _ => ps_break, L.bk _ _ _ h r⟩
theorem sd_cont (h : D.ct Γ) : SD c v S (.Continue pos) D Γ := fun E σ H L r => ⟨_, fun _ => ps_continue, L.ct _ _ _ h r⟩
theorem sd_ret (h : ED c v S e Γ D.rt) : SD c v S (.Return (some e) pos) D Γ := fun E σ H L r =>
  ⟨_, fun i => ps_ret (wE.pe i), h σ H _ r fun x H' a Γ' q hr s _ => L.rt _ _ _ _ _ q hr⟩
theorem sd_retN (h : D.rt (.dt .non) Γ) : SD c v S (.Return none pos) D Γ := fun E σ H L r => ⟨_, fun _ => ps_retN, L.rt _ _ _ _ _ h ⟨r, .non⟩⟩
theorem sd_expr (hs : ∀ i, swapsWith e none pos.line (v i).env = pure false) (h : ED c v S e Γ fun _ => D.nx) : SD c v S (.Expr e pos) D Γ := fun E σ H L r =>
  ⟨_, fun i => ps_expr (wE.pe i) (hs i), h σ H _ r fun x H' a Γ' q hr s _ => L.nx _ _ _ q hr.rs⟩
theorem sd_if (h : TD c v S e Γ fun k Γ' => (k = true → BD c v S sts D Γ') ∧ (k = false → BD c v S sts' D Γ')) : SD c v S (.If e sts sts' pos) D Γ := fun E σ H L r =>
  ⟨_, fun i => ps_if (wT.pt i) (wB.pss i) (wB.pss i), h σ H _ r fun b H' Γ' q r' s => by
    cases b with
    | true => exact iteT (q.1 rfl E σ H' L r')
    | false => exact iteF (q.2 rfl E σ H' L r')⟩
theorem sd_never (h : False) : SD c v S st D Γ := h.elim
theorem SD.imp {D' : DE} (h : SD c v S st D Γ) (h1 : ∀ Γ, D.nx Γ → D'.nx Γ) (h2 : ∀ a Γ, D.rt a Γ → D'.rt a Γ) (h3 : ∀ Γ, D.bk Γ → D'.bk Γ) (h4 : ∀ Γ, D.ct Γ → D'.ct Γ) : SD c v S st D' Γ := fun E σ H L r =>
  h E σ H ⟨fun Γ σ H q => L.nx Γ σ H (h1 _ q), fun a Γ σ H x q => L.rt a Γ σ H x (h2 _ _ q), fun Γ σ H q => L.bk Γ σ H (h3 _ q), fun Γ σ H q => L.ct Γ σ H (h4 _ q)⟩ r

/-- a name that may be stored -/
structure AtS (c : Core) (v : ι → Var) (x : Str) (i : Nat) : Prop where
  nd : c.N.Nodup
  ix : c.N[i]? = some x
  loc : ∀ k, Loc (v k).env.scope x
  hf : ∀ k, (v k).fn x = true ∨ (v k).env.scope.names.lookup x = some .local
theorem sd_set (i : Nat) {px : Pos} (h : AtS c v x i) (hs : ∀ k, swapsWith e (some (.Name x px)) pos.line (v k).env = pure false) (hi : i < S.n) (hl : ∀ p, (i, p) ∉ S.lent)
    (q : ED c v S e Γ fun a Γ' => D.nx (Γ'.set i a)) : SD c v S (.Assign [.Name x px] e pos) D Γ := fun E σ H L r =>
  ⟨_, fun k => ps_set h.nd h.ix (h.loc k) (wE.pe k) (hs k) (h.hf k), q σ H _ r fun y H' a Γ' q hr s _ => L.nx _ _ _ q (RS.store hr hi hl)⟩
/-- x, y = e1, e2 -/
theorem RS.move_fo {K : PySem.W.Frag} {f : AP} {σ : Sg} {H : Hp} (r : RS K { S with fo := fun b => S.fo b ∨ f b } DL.no Γ σ H) (hp : ∀ b o, S.pn b o → ¬ f b) : RS K S f Γ σ H where
  slots := fun i a e => (r.slots i a e).mono (fun b o e n => ⟨e, fun z => n (z.elim .inl fun z => .inr (.inl z))⟩) fun _ _ _ _ _ e => e
  dist := r.dist
  fr := r.fr
  own := r.own
  lent := r.lent
  nex := fun p o z => r.nfo p o (.inr z)
  nfo := fun p o z => r.nfo p o (.inl z)
  fo := fun p z => r.fo p (.inl z)
  xtr := r.xtr
  pin := fun b o z => ⟨(r.pin b o z).1, (r.pin b o z).2.1, hp b o z⟩
  len := r.len
  lenΓ := r.lenΓ
theorem RS.to_fo {K : PySem.W.Frag} {f : AP} {σ : Sg} {H : Hp} (r : RS K S f Γ σ H) (hf : ∀ p, f p → H p ≠ none ∧ ¬ S.x p) : RS K { S with fo := fun b => S.fo b ∨ f b } DL.no Γ σ H where
  slots := fun i a e => (r.slots i a e).mono (fun b o e n => ⟨e, fun z => n (z.elim .inl fun z => .inr (z.elim id False.elim))⟩) fun _ _ _ _ _ e => e
  dist := r.dist
  fr := r.fr
  own := r.own
  lent := r.lent
  nex := fun p o z => z
  nfo := fun p o z => z.elim (r.nfo p o) (r.nex p o)
  fo := fun p z => z.elim (r.fo p) (hf p)
  xtr := r.xtr
  pin := fun b o z => ⟨(r.pin b o z).1, (r.pin b o z).2.1, id⟩
  len := r.len
  lenΓ := r.lenΓ
/-- the places of a value that only it holds -/
def Sole (x : V) (a : AV) : AP := fun p => (∃ ds, a = .ow ds) ∧ x = .ref p
theorem Res.sole {K : PySem.W.Frag} {σ : Sg} {H : Hp} {z : V} {u : AV} (h : Res K S Γ σ H z u) : RS K { S with fo := fun b => S.fo b ∨ Sole z u b } DL.no Γ σ H := by
  cases u with
  | un => exact RS.to_fo (h.ex_mono fun p ⟨⟨_, z⟩, _⟩ => by cases z) fun p ⟨⟨_, z⟩, _⟩ => by cases z
  | dt d => exact RS.to_fo (h.1.ex_mono fun p ⟨⟨_, z⟩, _⟩ => by cases z) fun p ⟨⟨_, z⟩, _⟩ => by cases z
  | ow ds =>
    obtain ⟨p, xs, rfl, r, e, q, nf, n⟩ := h
    refine RS.to_fo (r.ex_mono fun b ⟨_, z⟩ => (V.ref.inj z).symm) fun b ⟨_, z⟩ => ?_
    cases z
    refine ⟨?_, fun z => r.xtr _ z n⟩
    rw [e]
    exact fun z => nomatch z
theorem Res.sole_pin {K : PySem.W.Frag} {σ : Sg} {H : Hp} {z : V} {u : AV} (h : Res K S Γ σ H z u) : ∀ b o, S.pn b o → ¬ Sole z u b := fun b o hb ⟨⟨ds, e1⟩, e2⟩ => by
  subst e1
  obtain ⟨p, xs, rfl, r, e, q, nf, n⟩ := h
  cases e2
  exact (r.pin _ _ hb).2.2 rfl
theorem sd_par (i j : Nat) {px py pt : Pos} {kt k2 : Nat} {pt2 : Pos} (hx : AtS c v x i) (hy : AtS c v y j) (hij : i ≠ j) (lx : ∀ k, (v k).env.scope.names.lookup x = some .local) (ly : ∀ k, (v k).env.scope.names.lookup y = some .local)
    (hs1 : NoStar v a [b]) (hs2 : NoStar v b []) (hw : ∀ k, swappedStores [.Tuple [.Name x px, .Name y py] kt pt] (.Tuple [a, b] k2 pt2) (v k).env = pure (some [x, y]))
    (hss : ∀ k, swapsWithSole [.Tuple [.Name x px, .Name y py] kt pt] (.Tuple [a, b] k2 pt2) pos.line (v k).env = pure false) (hi : i < S.n) (hj : j < S.n) (hli : ∀ p, (i, p) ∉ S.lent) (hlj : ∀ p, (j, p) ∉ S.lent)
    (q : ED c v S a Γ fun u Γ1 => ∀ f : AP, ED c v { S with fo := fun b => S.fo b ∨ f b } b Γ1 fun w Γ2 => D.nx ((Γ2.set i u).set j w)) (still : c.calm = true := by rfl) :
    SD c v S (.Assign [.Tuple [.Name x px, .Name y py] kt pt] (.Tuple [a, b] k2 pt2) pos) D Γ := fun E σ H L r => by
  refine ⟨_, fun k => ps_par still hx.nd hx.ix hy.ix hij (lx k) (ly k) (pa_cons (wE.pe k) (pa_cons (wE.pe k) pa_nil (hs2 k)) (hs1 k)) (hw k) (hss k), ?_⟩
  refine q σ H _ r fun x1 H1 u Γ1 q1 hr1 s1 n1 => ?_
  refine q1 (Sole x1 u) σ H1 _ hr1.sole fun y1 H2 w Γ2 q2 hr2 s2 n2 => ?_
  refine ⟨x1, y1, rfl, L.nx _ _ _ q2 (RS.store ?_ hj hlj)⟩
  -- x1 as it stands now
  have r2 : RS c.K S (Sole x1 u) Γ2 σ H2 := RS.move_fo hr2.rs hr1.sole_pin
  have hu : ResX c.K S DL.no Γ2 σ H2 x1 u := by
    cases u with
    | un => exact r2.no
    | dt d => exact ⟨r2.no, hr1.2.mono s2.keeps⟩
    | ow ds =>
      obtain ⟨p, xs, rfl, r1, e1, q1, nf, n⟩ := hr1
      refine ⟨p, xs, rfl, r2.ex_mono fun b z => z.elim False.elim fun z => ⟨⟨ds, rfl⟩, by rw [z]⟩, s2.fr p _ e1 fun z => r1.nex p z rfl, q1.mono fun b o e n => ⟨s2.fr b o e fun z => n (.inl z), fun z => n ?_⟩, nf, id, n⟩
      rcases z with z | z | z | z
      · exact .inl (s2.own b z)
      · exact .inr (.inl z)
      · exact z.elim
      · exact .inr (.inr z)
  cases w with
  | un => exact RS.storeX hu hi hli
  | dt d =>
    refine ⟨RS.storeX hu hi hli, hr2.2.sub fun b z => ?_⟩
    rcases z with ⟨k, fs, z1, z2⟩ | z | z
    · rcases getSet z1 with ⟨rfl, z, hlt⟩ | ⟨n, z1⟩
      · rw [List.getElem?_set_self (by rw [r2.len, ← r2.lenΓ]; exact hlt)] at z2
        exact .inr (.inl (.inr ⟨⟨fs, z.symm⟩, Option.some.inj (Option.some.inj z2)⟩))
      · rw [List.getElem?_set_ne n] at z2
        exact .inl ⟨k, fs, z1, z2⟩
    · exact .inr (.inl (.inl z))
    · exact z.elim
  | ow es =>
    obtain ⟨p2, ys, rfl, rr, e2, qy, nf2, np2⟩ := hr2
    have rr' : RS c.K S (fun b => Sole x1 u b ∨ b = p2) Γ2 σ H2 := {
      slots := fun i a e => (rr.slots i a e).mono (fun b o e n => ⟨e, fun z => n (z.elim .inl fun z => z.elim (fun z => .inr (.inl (.inl z))) fun z => z.elim (fun z => .inr (.inl (.inr z))) fun z => .inr (.inr z))⟩) fun _ _ _ _ _ e => e
      dist := rr.dist
      fr := rr.fr
      own := rr.own
      lent := rr.lent
      nex := fun p o z => z.elim (fun z => rr.nfo p o (.inr z)) (rr.nex p o)
      nfo := fun p o z => rr.nfo p o (.inl z)
      fo := fun p z => rr.fo p (.inl z)
      xtr := rr.xtr
      pin := fun b o z => ⟨(rr.pin b o z).1, (rr.pin b o z).2.1, fun y => y.elim (fun y => (r2.pin b o z).2.2 y) (rr.pin b o z).2.2⟩
      len := rr.len
      lenΓ := rr.lenΓ }
    -- the new list is no part of x1
    have old : ∀ b o, H1 b = some o → ¬ Own Γ1 σ b → b ≠ p2 := fun b o e n z => by
      obtain ⟨p', z1, z2⟩ := n2
      cases z1
      subst z
      rcases z2 with z2 | z2
      · rw [z2] at e
        cases e
      · exact n z2
    have hu2 : ResX c.K S (· = p2) Γ2 σ H2 x1 u := by
      cases u with
      | un => exact rr'.ex_mono fun b z => .inr z
      | dt d =>
        refine ⟨rr'.ex_mono fun b z => .inr z, hr1.2.mono fun b o e n => ⟨s2.fr b o e fun z => n (.inl z), fun z => ?_⟩⟩
        rcases z with z | z | z
        · exact n (.inl (s2.own b z))
        · exact n (.inr (.inl z))
        · exact old b o e (fun z => n (.inl z)) z
      | ow ds =>
        obtain ⟨p, xs, rfl, r1, e1, q1, nf, n⟩ := hr1
        have hp : p ≠ p2 := old p _ e1 fun z => r1.nex p z rfl
        refine ⟨p, xs, rfl, rr'.ex_mono fun b z => z.elim .inr fun z => .inl ⟨⟨ds, rfl⟩, by rw [z]⟩, s2.fr p _ e1 fun z => r1.nex p z rfl, q1.mono fun b o e n => ⟨s2.fr b o e fun z => n (.inl z), fun z => ?_⟩, nf, hp, n⟩
        rcases z with z | z | z | z
        · exact n (.inl (s2.own b z))
        · exact n (.inr (.inl z))
        · exact old b o e (fun z => n (.inl z)) z
        · exact n (.inr (.inr z))
    refine ⟨p2, ys, rfl, RS.storeX hu2 hi hli, e2, qy.sub fun b z => ?_, fun z => nf2 (.inl z), np2⟩
    rcases z with ⟨k, fs, z1, z2⟩ | z | z
    · rcases getSet z1 with ⟨rfl, z, hlt⟩ | ⟨n, z1⟩
      · rw [List.getElem?_set_self (by rw [r2.len, ← r2.lenΓ]; exact hlt)] at z2
        exact .inr (.inl (.inr ⟨⟨fs, z.symm⟩, Option.some.inj (Option.some.inj z2)⟩))
      · rw [List.getElem?_set_ne n] at z2
        exact .inl ⟨k, fs, z1, z2⟩
    · exact .inr (.inl (.inl z))
    · exact .inr (.inr z)
end
end DL

namespace DL
open PySem PySem.Spec
open PyProof.Rows L2

section
variable {c : Core} {ι : Type} {v : ι → Var} {S : Ent} {Γ : List AV} {Q : AV → List AV → Prop} {D : DE} {e a b : Expr} {es : List Expr} {st : Stmt} {sts sts' : List Stmt} {pos p apos cpos : Pos} {x y : Str}
theorem own_set {σ : Sg} {i : Nat} {ds es : List Dt} {q : Addr} (g : Γ[i]? = some (.ow ds)) (o : Own (Γ.set i (.ow es)) σ q) : Own Γ σ q := by
  obtain ⟨j, fs, z1, z2⟩ := o
  rcases getSet z1 with ⟨rfl, _, _⟩ | ⟨n, z1⟩
  · exact ⟨i, ds, g, z2⟩
  · exact ⟨j, fs, z1, z2⟩
/-- xs.append(e), xs a slot's own list -/
def FewArgs (v : ι → Var) (cpos : Pos) (e : Expr) (es : List Expr) : Prop := ∀ i, ((backTo cpos (starEach (e :: es) (v i).env)).all (fun x => !x.1) && (backToKw cpos (keywordEach [] (v i).env)).all (fun x => x.1.isSome)
      && decide ((e :: es).length + ([] : List Keyword).length + (if ([] : List Keyword).isEmpty then 0 else 1) < 30)) = true
def Base0 (v : ι → Var) (o : Expr) (name : Str) : Prop := ∀ i, attributeBase o name (v i).env (eval o (v i).env) = eval o (v i).env
theorem ed_append (i : Nat) {ds0 : List Dt} (hx : At c v x i) (g : Γ[i]? = some (.ow ds0)) (hb : Base0 v (.Name x p) "append") (hf : FewArgs v cpos e []) (hl : (apos.endLine == cpos.line) = true) (hs : NoStar v e [])
    (h : EK c v S e Γ fun k Γ1 => ∃ ds d, Γ1[i]? = some (.ow ds) ∧ akD Γ1 k = some d ∧ ds.length < 1000000 ∧ Q (.dt .non) (Γ1.set i (.ow (ds ++ [d])))) : ED c v S (.Call (.Attribute (.Name x p) "append" apos) [e] [] cpos) Γ Q := fun σ H R r kk => by
  obtain ⟨q0, xs0, e0, h0, w0⟩ := r.slots i _ g
  refine ⟨tBM c.K "list" rAppend (tVar i) (tCons (wE c v e) tNil), fun k => pe_bm PySem.F.plainAttrs_list PySem.F.slot_list_append PySem.F.type_list_append (show MtR (mkX c (v k)) "list.append" rAppend from mt_append) (hx.pe k) (pa_cons (wE.pe k) pa_nil (hs k)) (hb k) (hf k) hl (hs k) rfl, ?_⟩
  refine ⟨_, e0, .inl ⟨rfl, _, .of h0⟩, ?_⟩
  refine h σ H _ r fun y H1 k Γ1 ⟨ds, d, g1, ed, hz, q⟩ r1 hk s => ?_
  obtain ⟨q1, xs1, e1, h1, w1⟩ := r1.slots i _ g1
  rw [e0] at e1
  cases e1
  have hr := akD_of ed hk
  have o1 : Own Γ1 σ q0 := ⟨i, ds, g1, e0⟩
  refine ⟨q0, xs1, y, rfl, rfl, h1, ?_, ?_⟩
  · have := line1 (n := xs1.length + 1) (by rw [w1.len]; omega)
    omega
  · exact kk _ _ _ _ q ⟨r1.write g1 e0 (w1.append (.cons hr .nil)), .non⟩ ⟨fun b o eb nb => by
      have : b ≠ q0 := fun z => nb (s.own _ (z ▸ o1))
      rw [upd_ne this]
      exact s.fr b o eb nb, fun b o => s.own b (own_set g1 o)⟩ trivial
/-- xs[i] = e, xs a slot's own list -/
theorem sd_setItem (i : Nat) (hx : At c v x i) {px pt : Pos}
    (hsw : ∀ k, swapsWithSole [.Subscript (.Name x px) b pt] e pos.line (v k).env = pure false) (hss : ∀ k, swappedStores [.Subscript (.Name x px) b pt] e (v k).env = pure none)
    (h1 : ∀ k, (assignEach [.Subscript (.Name x px) b pt] (v k).env).map (·.2) = [assign (.Subscript (.Name x px) b pt) (v k).env])
    (ha : ∀ k z, assign (.Subscript (.Name x px) b pt) (v k).env z = (do
      let ov ← holding [z] (eval (.Name x px) (v k).env)
      let iv ← holding [z, ov] (eval b (v k).env)
      standAt pt
      holding [z, ov, iv] (setItem ov iv z)
      release [z, ov, iv] []))
    (h : EK c v S e Γ fun k Γ1 => (∃ ds, Γ1[i]? = some (.ow ds)) ∧ EK c v S b Γ1 fun l Γ2 => ∃ ds n j d, Γ2[i]? = some (.ow ds) ∧ akD Γ2 l = some (.int n) ∧ ixN ds.length n = some j ∧ akD Γ2 k = some d ∧ D.nx (Γ2.set i (.ow (ds.set j d)))) :
    SD c v S (.Assign [.Subscript (.Name x px) b pt] e pos) D Γ := fun E σ H L r => by
  refine ⟨_, fun k => ps_asg (wE.pe k) (pg_sub (hx.pe k) (wE.pe k) (show PSet (mkX c (v k)) rSetL from set_list) (ha k)) (hsw k) (hss k) (h1 k), ?_⟩
  refine h σ H _ r fun y H1 k Γ1 ⟨⟨ds1, g1⟩, q1⟩ r1 hk s1 => ?_
  obtain ⟨p1, xs1, e1, z1, w1⟩ := r1.slots i _ g1
  refine ⟨_, e1, ?_⟩
  refine q1 σ H1 _ r1 fun w H2 l Γ2 ⟨ds, n, j, d, g2, en, ej, ed, q⟩ r2 hl s2 => ?_
  obtain ⟨p2, xs2, e2, z2, w2⟩ := r2.slots i _ g2
  rw [e1] at e2
  cases e2
  cases akD_of en hl
  refine ⟨p1, xs2, n, j, rfl, rfl, z2, by rw [w2.len]; exact ej, L.nx _ _ _ q (r2.write g2 e1 (RpL.set (akD_of ed (hk.mono s2.keeps)) j w2))⟩
end

/-! ### targets -/
section
variable (c : Core) {ι : Type} (v : ι → Var) (S : Ent)
def wG (tg : Expr) : TG := fun x σ H R => ∃ t : TG, (∀ i, PG (mkX c (v i)) tg t) ∧ t x σ H R
def wGs (tgs : List Expr) : TGs := fun xs σ H R => ∃ t : TGs, (∀ i, PGs (mkX c (v i)) tgs t) ∧ t xs σ H R
def GD (tg : Expr) (d : Dt) (W : List Nat) (Γ : List AV) (Q : List AV → Prop) : Prop := ∀ (σ : Sg) (H : Hp) (x : V) (R : Sg → Hp → Prop), RS c.K S no Γ σ H → Rp c.K H (Exc S Γ σ no) x d →
  (∀ σ' Γ', Q Γ' → RS c.K S no Γ' σ' H → (∀ p, Own Γ' σ' p → Own Γ σ p) → (∀ i, i ∉ W → σ'[i]? = σ[i]?) → R σ' H) → wG c v tg x σ H R
def GDs (tgs : List Expr) (ds : List Dt) (W : List Nat) (Γ : List AV) (Q : List AV → Prop) : Prop := ∀ (σ : Sg) (H : Hp) (xs : List V) (R : Sg → Hp → Prop), RS c.K S no Γ σ H → RpL c.K H (Exc S Γ σ no) xs ds →
  (∀ σ' Γ', Q Γ' → RS c.K S no Γ' σ' H → (∀ p, Own Γ' σ' p → Own Γ σ p) → (∀ i, i ∉ W → σ'[i]? = σ[i]?) → R σ' H) → wGs c v tgs xs σ H R
end
section
variable {c : Core} {ι : Type} {v : ι → Var} {S : Ent} {Γ : List AV} {Q : List AV → Prop} {D : DE} {e a b tg iter : Expr} {es tgs : List Expr} {body : List Stmt} {pos p : Pos} {x : Str} {d : Dt} {ds : List Dt} {QS : List Dt → List AV → Prop}
theorem wG.pg (i : ι) : PG (mkX c (v i)) tg (wG c v tg) := ⟨fun pins s σ H x u Q I r ⟨_, h, q⟩ => (h i).run pins s σ H x u Q I r q⟩
theorem wGs.pgs (i : ι) : PGs (mkX c (v i)) tgs (wGs c v tgs) := ⟨fun pins s σ H x u Q I r ⟨_, h, q⟩ => (h i).run pins s σ H x u Q I r q⟩
theorem own_store {σ : Sg} {i : Nat} {z : V} (hl : i < σ.length) : ∀ p, Own (Γ.set i (.dt d)) (σ.set i (some z)) p → Own Γ σ p := fun p ⟨j, fs, z1, z2⟩ => by
  rcases getSet z1 with ⟨_, z, _⟩ | ⟨n, z1⟩
  · cases z
  · rw [List.getElem?_set_ne n] at z2
    exact ⟨j, fs, z1, z2⟩
theorem gd_name (i : Nat) (h : AtS c v x i) (hi : i < S.n) (hl : ∀ p, (i, p) ∉ S.lent) (q : Q (Γ.set i (.dt d))) : GD c v S (.Name x pos) d [i] Γ Q := fun σ H y R r hr k =>
  ⟨_, fun j => pg_name h.nd h.ix (h.loc j) (h.hf j), k _ _ q (RS.store ⟨r, hr⟩ hi hl) (own_store (by rw [r.len]; exact hi)) fun j hj => List.getElem?_set_ne (fun z => hj (by rw [z]; exact List.mem_cons_self))⟩
theorem gds_nil (q : Q Γ) : GDs c v S [] [] [] Γ Q := fun σ H xs R r hr k => by
  cases hr
  exact ⟨_, fun _ => pgs_nil, rfl, k _ _ q r (fun _ o => o) fun _ _ => rfl⟩
def AssignEach (v : ι → Var) (e : Expr) (es : List Expr) : Prop := ∀ i, (assignEach (e :: es) (v i).env).map (·.2) = assign e (v i).env :: (assignEach es (v i).env).map (·.2)
theorem gds_cons {W1 W2 : List Nat} (hs : AssignEach v tg tgs) (h : GD c v S tg d W1 Γ fun Γ' => GDs c v S tgs ds W2 Γ' Q) : GDs c v S (tg :: tgs) (d :: ds) (W1 ++ W2) Γ Q := fun σ H xs R r hr k => by
  cases hr with
  | cons h1 h2 =>
    refine ⟨_, fun i => pgs_cons (wG.pg i) (wGs.pgs i) (hs i), _, _, rfl, ?_⟩
    refine h σ H _ _ r h1 fun σ1 Γ1 q1 r1 o1 w1 => ?_
    refine q1 σ1 H _ _ r1 (h2.sub fun b z => z.elim (fun z => .inl (o1 b z)) .inr) fun σ2 Γ2 q2 r2 o2 w2 => k _ _ q2 r2 (fun p z => o1 p (o2 p z)) fun i hi => (w2 i fun z => hi (List.mem_append_right _ z)).trans (w1 i fun z => hi (List.mem_append_left _ z))
theorem gd_tup {k : Nat} {W : List Nat} (hn : ∀ i, (assignEach tgs (v i).env).length = ds.length) (hst : ∀ i, (assignEach tgs (v i).env).findIdx? (·.1) = none) (h : GDs c v S tgs ds W Γ Q) (still : c.calm = true := by rfl) : GD c v S (.Tuple tgs k pos) (.tup ds) W Γ Q := fun σ H y R r hr kk => by
  cases hr with
  | tup e n q => exact ⟨gTup c.K ds.length (wGs c v tgs), fun i => pg_tup still (wGs.pgs i) (hn i) (hst i), _, _, rfl, .of e, q.len, h σ H _ _ r q kk⟩

/-! ### loops -/
abbrev Ent.pin (S : Ent) (f : Addr → HO → Prop) : Ent := { S with pn := fun b o => S.pn b o ∨ f b o }
theorem RS.unpin {K : PySem.W.Frag} {f : Addr → HO → Prop} {ex : AP} {σ : Sg} {H : Hp} (r : RS K (S.pin f) ex Γ σ H) : RS K S ex Γ σ H where
  slots := r.slots
  dist := r.dist
  fr := r.fr
  own := r.own
  lent := r.lent
  nex := r.nex
  nfo := r.nfo
  fo := r.fo
  xtr := r.xtr
  pin := fun b o z => r.pin b o (.inl z)
  len := r.len
  lenΓ := r.lenΓ
theorem RS.dopin {K : PySem.W.Frag} {f : Addr → HO → Prop} {ex : AP} {σ : Sg} {H : Hp} (r : RS K S ex Γ σ H) (hf : ∀ b o, f b o → H b = some o ∧ ¬ Own Γ σ b ∧ ¬ ex b) : RS K (S.pin f) ex Γ σ H where
  slots := r.slots
  dist := r.dist
  fr := r.fr
  own := r.own
  lent := r.lent
  nex := r.nex
  nfo := r.nfo
  fo := r.fo
  xtr := r.xtr
  pin := fun b o z => z.elim (r.pin b o) (hf b o)
  len := r.len
  lenΓ := r.lenΓ
theorem Res.unpin {K : PySem.W.Frag} {f : Addr → HO → Prop} {σ : Sg} {H : Hp} {z : V} {u : AV} (h : Res K (S.pin f) Γ σ H z u) : Res K S Γ σ H z u := by
  cases u with
  | un => exact RS.unpin h
  | dt d => exact ⟨h.1.unpin, h.2⟩
  | ow ds =>
    obtain ⟨p, xs, e, r, h2⟩ := h
    exact ⟨p, xs, e, r.unpin, h2⟩
/-- all that stands at H but the slots' lists -/
def AllPin (H : Hp) (Γ : List AV) (σ : Sg) : Addr → HO → Prop := fun b o => H b = some o ∧ ¬ Own Γ σ b
def LoopD (P : Nat → List AV → Prop) (D : DE) (j : Nat) : DE := { nx := P (j + 1), rt := D.rt, bk := D.nx, ct := P (j + 1) }
def NoFold (v : ι → Var) (iter : Expr) : Prop := ∀ i x, foldedSetIterable iter (v i).env x = pure x
def PassOwn (c : Core) (v : ι → Var) : Prop := ∀ i, PassesOwn (model c.prog c.w) c.A (v i).env (v i).xe
/-- what one turn is to do with the item d -/
def TurnD (c : Core) (v : ι → Var) (S : Ent) (tg : Expr) (body : List Stmt) (D : DE) (P : Nat → List AV → Prop) (j : Nat) (d : Dt) (Γ : List AV) : Prop :=
  ∃ W, ∀ f, GD c v (S.pin f) tg d W Γ fun Γ' => BD c v (S.pin f) body (LoopD P D j) Γ'
theorem Link.loop {K : PySem.W.Frag} {f : Addr → HO → Prop} {E : Ends} {P : Nat → List AV → Prop} {j : Nat} (L : Link K S E D) :
    Link K (S.pin f) { E with nx := fun σ H => ∃ Γ, P (j + 1) Γ ∧ RS K (S.pin f) no Γ σ H, ct := fun σ H => ∃ Γ, P (j + 1) Γ ∧ RS K (S.pin f) no Γ σ H, bk := E.nx } (LoopD P D j) :=
  ⟨fun Γ σ H q r => ⟨Γ, q, r⟩, fun a Γ σ H x q r => L.rt a Γ σ H x q r.unpin, fun Γ σ H q r => L.nx Γ σ H q r.unpin, fun Γ σ H q r => ⟨Γ, q, r⟩⟩

/-- what a walk hands out, item by item, as long as all stands that stood at its beginning (but the places own) -/
structure Walk (K : PySem.W.Frag) (J : It) (H1 : Hp) (own E : AP) (ds : List Dt) : Prop where
  go : ∀ j H', (∀ b o, H1 b = some o → ¬ own b → H' b = some o) → j < ds.length → J.go j H'
  stop : ∀ j H', (∀ b o, H1 b = some o → ¬ own b → H' b = some o) → ds.length ≤ j → J.stop j H'
  yld : ∀ j H' x H'', (∀ b o, H1 b = some o → ¬ own b → H' b = some o) → j < ds.length → J.yld j H' x H'' → ∃ d, ds[j]? = some d ∧
    ((H'' = H' ∧ Rp K H1 E x d) ∨ ∃ T vs es, H' T = none ∧ H'' = upd H' T (.tup vs) ∧ x = .ref T ∧ d = .tup es ∧ RpL K H1 E vs es)
def SrcD (c : Core) {ι : Type} (v : ι → Var) (S : Ent) (tg iter : Expr) (Γ : List AV) (Q : List Dt → List AV → Prop) : Prop := ∀ (σ : Sg) (H : Hp) (R : It → Hp → Prop), RS c.K S no Γ σ H →
  (∀ J H1 ds Γ1, Q ds Γ1 → RS c.K S no Γ1 σ H1 → Step Γ Γ1 σ H H1 → Walk c.K J H1 (Own Γ1 σ) (Exc S Γ1 σ no) ds → R J H1) → wI c v tg iter σ H R
/-- a walk's item, at its turn -/
theorem Walk.item {K : PySem.W.Frag} {J : It} {H1 H' H'' : Hp} {ds : List Dt} {Γ1 Γ' : List AV} {σ σ' : Sg} {j : Nat} {z : V} {f : Addr → HO → Prop} {fo' : AP} (w : Walk K J H1 (Own Γ1 σ) (Exc S Γ1 σ no) ds) (hf : ∀ b o, AllPin H1 Γ1 σ b o → f b o)
    (hfo : ∀ b, fo' b → S.fo b ∨ H1 b = none) (r : RS K { S with pn := fun b o => S.pn b o ∨ f b o, fo := fo' } no Γ' σ' H') (hj : j < ds.length) (y : J.yld j H' z H'') :
    ∃ d, ds[j]? = some d ∧ RS K { S with pn := fun b o => S.pn b o ∨ f b o, fo := fo' } no Γ' σ' H'' ∧ Rp K H'' (Exc { S with pn := fun b o => S.pn b o ∨ f b o, fo := fo' } Γ' σ' no) z d ∧ (∀ b o, H' b = some o → H'' b = some o) := by
  have fr : ∀ b o, H1 b = some o → ¬ Own Γ1 σ b → H' b = some o := fun b o e n => (r.pin b o (.inr (hf b o ⟨e, n⟩))).1
  have mo : ∀ b o, H1 b = some o → ¬ Exc S Γ1 σ no b → H' b = some o ∧ ¬ Exc { S with pn := fun b o => S.pn b o ∨ f b o, fo := fo' } Γ' σ' no b := fun b o e n => by
    have q := r.pin b o (.inr (hf b o ⟨e, fun z => n (.inl z)⟩))
    refine ⟨q.1, fun y => y.elim q.2.1 fun y => y.elim (fun y => ?_) id⟩
    rcases hfo b y with z | z
    · exact n (.inr (.inl z))
    · rw [z] at e
      cases e
  obtain ⟨d, ed, h⟩ := w.yld j H' z H'' fr hj y
  refine ⟨d, ed, ?_⟩
  rcases h with ⟨rfl, hr⟩ | ⟨T, vs, es, nT, rfl, rfl, rfl, hr⟩
  · exact ⟨r, hr.mono mo, fun _ _ e => e⟩
  · have := Res.newT r nT (hr.mono mo)
    exact ⟨this.1, this.2, fun b o e => by rw [upd_ne (ne_of_none e nT)]; exact e⟩
/-- for -/
theorem sd_for (hp : PassOwn c v) (hs : NoFold v iter)
    (h : SrcD c v S tg iter Γ fun ds Γ1 => ∃ P : Nat → List AV → Prop, P 0 Γ1 ∧ (∀ j d Γ2, ds[j]? = some d → P j Γ2 → TurnD c v S tg body D P j d Γ2) ∧ ∀ Γ2, P ds.length Γ2 → D.nx Γ2) (still : c.calm = true := by rfl) :
    SD c v S (.For tg iter body [] pos) D Γ := fun E σ H L r => by
  refine ⟨_, fun i => ps_for (hp i) still (wI.pi i) (wG.pg i) (wB.pss i) (hs i), ?_⟩
  refine h σ H _ r fun J H1 ds Γ1 ⟨P, p0, step, done⟩ r1 s w => ?_
  have rp : RS c.K (S.pin (AllPin H1 Γ1 σ)) no Γ1 σ H1 := r1.dopin fun b o ⟨z1, z2⟩ => ⟨z1, z2, id⟩
  refine ⟨fun j m σ' H' => m = ds.length - j ∧ j ≤ ds.length ∧ ∃ Γ', P j Γ' ∧ RS c.K (S.pin (AllPin H1 Γ1 σ)) no Γ' σ' H', ⟨_, rfl, Nat.zero_le _, Γ1, p0, rp⟩, ?_⟩
  rintro j m σ' H' ⟨rfl, hj, Γ', pj, r'⟩
  have fr : ∀ b o, H1 b = some o → ¬ Own Γ1 σ b → H' b = some o := fun b o e n => (r'.pin b o (.inr ⟨e, n⟩)).1
  by_cases hlt : j < ds.length
  · refine .inr ⟨w.go j H' fr hlt, fun σ2 H2 => ∃ Γ2, P (j + 1) Γ2 ∧ RS c.K (S.pin (AllPin H1 Γ1 σ)) no Γ2 σ2 H2, fun σ2 H2 ⟨Γ2, p2, r2⟩ => ⟨_, by omega, rfl, hlt, Γ2, p2, r2⟩, fun x H2 y => ?_⟩
    obtain ⟨d, ed, r2, hd, _⟩ := w.item (f := AllPin H1 Γ1 σ) (fo' := S.fo) (fun _ _ z => z) (fun _ z => .inl z) r' hlt y
    obtain ⟨W, hW⟩ := step j d Γ' ed pj
    exact hW _ σ' H2 x _ r2 hd fun σ3 Γ3 q3 r3 _ _ => q3 _ σ3 H2 L.loop r3
  · have e : j = ds.length := by omega
    subst e
    exact .inl ⟨w.stop _ H' fr (Nat.le_refl _), L.nx _ _ _ (done _ pj) r'.unpin⟩

/-! ### what is walked -/
theorem src_T (h : EK c v S iter Γ fun k Γ1 => ∃ ds, akT Γ1 k = some ds ∧ QS ds Γ1) : SrcD c v S tg iter Γ QS := fun σ H R r kk => by
  refine ⟨_, fun i => (show PI (mkX c (v i)) tg iter (iTup c.K (wE c v iter)) from pi_tup (wE.pe i)), ?_⟩
  refine h σ H _ r fun x H1 k Γ1 ⟨ds, ek, q⟩ r1 hk s => ?_
  obtain ⟨a, xs, rfl, ha, hx⟩ := akT_of ek hk
  have na : ¬ Own Γ1 σ a := fun z => by
    obtain ⟨ys, e⟩ := r1.own_tr z
    rw [ha] at e
    cases e
  refine ⟨a, rfl, ⟨xs, .of ha⟩, kk _ _ _ _ q r1 s ⟨fun j H' fr hj => ?_, fun j H' fr hj => ⟨xs, .of (fr _ _ ha na), by rw [hx.len]; exact hj⟩, fun j H' z H'' fr _ y => ?_⟩⟩
  · have hj' : j < xs.length := by rw [hx.len]; exact hj
    exact ⟨xs, xs[j], .of (fr _ _ ha na), List.getElem?_eq_getElem hj'⟩
  · obtain ⟨e1, e2⟩ := y
    obtain ⟨d, ed, hd⟩ := hx.get' (e2 xs (.of (fr _ _ ha na)))
    exact ⟨d, ed, .inl ⟨e1, hd⟩⟩
/-- a list that is no slot's own (or is seen as data from here on) -/
def noLn : AK → Bool
  | .d _ => true
  | .ln _ => false
theorem akL_data {K : PySem.W.Frag} {H : Hp} {σ : Sg} {x : V} {k : AK} {ds : List Dt} (e : akL Γ k = some ds) (hn : noScr k = true) (hl : noLn k = true) (r : RS K S no Γ σ H) (q : RpK K H (Exc S Γ σ no) σ x k) : ∃ p xs, x = .ref p ∧ H p = some (.lst xs) ∧ RpL K H (Exc S Γ σ no) xs ds ∧ ¬ Own Γ σ p := by
  rcases k with (_ | d | es) | i
  · cases e
  · cases d with
    | lst es => cases e; cases q with | lst e n r => exact ⟨_, _, rfl, e, r, fun z => n (.inl z)⟩
    | scr n => cases hn
    | _ => cases e
  · cases e; cases q with | lst e n r => exact ⟨_, _, rfl, e, r, fun z => n (.inl z)⟩
  · cases hl
theorem src_L (h : EK c v S iter Γ fun k Γ1 => ∃ ds, akL Γ1 k = some ds ∧ noScr k = true ∧ noLn k = true ∧ QS ds Γ1) : SrcD c v S tg iter Γ QS := fun σ H R r kk => by
  refine ⟨_, fun i => (show PI (mkX c (v i)) tg iter (iList c.K (wE c v iter)) from pi_list (wE.pe i)), ?_⟩
  refine h σ H _ r fun x H1 k Γ1 ⟨ds, ek, n1, n2, q⟩ r1 hk s => ?_
  obtain ⟨a, xs, rfl, ha, hx, na⟩ := akL_data ek n1 n2 r1 hk
  refine ⟨a, rfl, ⟨xs, .of ha⟩, kk _ _ _ _ q r1 s ⟨fun j H' fr hj => ?_, fun j H' fr hj => ⟨xs, .of (fr _ _ ha na), by rw [hx.len]; exact hj⟩, fun j H' z H'' fr _ y => ?_⟩⟩
  · have hj' : j < xs.length := by rw [hx.len]; exact hj
    exact ⟨xs, xs[j], .of (fr _ _ ha na), List.getElem?_eq_getElem hj'⟩
  · obtain ⟨e1, e2⟩ := y
    obtain ⟨d, ed, hd⟩ := hx.get' (e2 xs (.of (fr _ _ ha na)))
    exact ⟨d, ed, .inl ⟨e1, hd⟩⟩
/-- lo, lo + 1, .. -/
def rngD (lo : Int) (n : Nat) : List Dt := (List.range n).map fun i => .int (lo + (i : Nat))
theorem rngD_len (lo : Int) (n : Nat) : (rngD lo n).length = n := by
  unfold rngD; rw [List.length_map, List.length_range]
theorem rngD_get {lo : Int} {n j : Nat} (h : j < n) : (rngD lo n)[j]? = some (.int (lo + (j : Nat))) := by
  unfold rngD
  rw [List.getElem?_map, List.getElem?_range h]
  rfl
theorem walk_rng {K : PySem.W.Frag} {H1 : Hp} {own E : AP} {lo : Int} {n : Nat} : Walk K (Itr lo n) H1 own E (rngD lo n) := by
  refine ⟨fun j H' _ h => by rw [rngD_len] at h; exact h, fun j H' _ h => by rw [rngD_len] at h; exact h, fun j H' x H'' _ hj y => ?_⟩
  rw [rngD_len] at hj
  obtain ⟨rfl, rfl⟩ := y
  exact ⟨_, rngD_get hj, .inl ⟨rfl, .int _⟩⟩
theorem src_R1 (hg : ∀ i, Gl (mkX c (v i)) "range") (hm : c.mg "range" = none) (hs : ∀ i, starEach [a] (v i).env = [(false, eval a (v i).env)])
    (h : EA c v S [a] Γ fun as Γ1 => ∃ k n, as = [k] ∧ akD Γ1 k = some (.int n) ∧ (-(2 ^ 62) ≤ n ∧ n < 2 ^ 62) ∧ QS (rngD 0 n.toNat) Γ1) : SrcD c v S tg (.Call (.Name "range" p) [a] [] pos) Γ QS := fun σ H R r kk => by
  refine ⟨_, fun i => pi_range1 (hg i) hm (wA.pa i) (hs i), ?_⟩
  refine h σ H _ r fun xs H1 as Γ1 ⟨k, n, e, ed, ⟨b1, b2⟩, q⟩ r1 hx s => ?_
  subst e
  obtain ⟨x, rfl, hk⟩ := hx.one
  cases akD_of ed hk
  exact ⟨n, rfl, b1, b2, kk _ _ _ _ q r1 s walk_rng⟩
theorem src_R2 (hg : ∀ i, Gl (mkX c (v i)) "range") (hm : c.mg "range" = none) (hs : ∀ i, starEach [a, b] (v i).env = [(false, eval a (v i).env), (false, eval b (v i).env)]) (hs2 : ∀ i, starEach [b] (v i).env = [(false, eval b (v i).env)])
    (h : EA c v S [a, b] Γ fun as Γ1 => ∃ k l m n, as = [k, l] ∧ akD Γ1 k = some (.int m) ∧ akD Γ1 l = some (.int n) ∧ (-(2 ^ 62) ≤ m ∧ m < 2 ^ 62 ∧ -(2 ^ 62) ≤ n ∧ n < 2 ^ 62) ∧ QS (rngD m (n - m).toNat) Γ1) : SrcD c v S tg (.Call (.Name "range" p) [a, b] [] pos) Γ QS := fun σ H R r kk => by
  refine ⟨_, fun i => pi_range2 (hg i) hm (wA.pa i) (hs i) (hs2 i), ?_⟩
  refine h σ H _ r fun xs H1 as Γ1 ⟨k, l, m, n, e, ed, ed2, b, q⟩ r1 hx s => ?_
  subst e
  obtain ⟨x, y, rfl, hk, hl⟩ := hx.pair
  cases akD_of ed hk
  cases akD_of ed2 hl
  exact ⟨m, n, rfl, b, kk _ _ _ _ q r1 s walk_rng⟩
end
end DL

namespace DL
open PySem PySem.Spec
open PyProof.Rows L2

/-! ### comprehensions -/
/-- the blocks' contexts -/
abbrev BI (ι : Type) := ι × Shared × Hp × Addr × List (Str × Addr) × List Addr
abbrev blkV {ι : Type} (c : Core) (v : ι → Var) (scope : Scope) : BI ι → Var := fun k =>
  { s := k.2.1, H := k.2.2.1, env := compEnvC scope k.2.2.2.2.1 k.2.2.2.1 (v k.1).env, outer := c.stack, ex := k.2.2.2.2.2, fn := fun x => scope.names.lookup x == some .cell, pn := [], xe := fun _ _ => False }
def wipeD (Γ : List AV) : List Nat → List AV
  | [] => Γ
  | i :: is => (wipeD Γ is).set i .un
section
variable {K : PySem.W.Frag} {S : Ent} {ex : AP} {Γ Γ' : List AV} {σ : Sg} {H H' : Hp}
theorem RS.forget2 {i : Nat} (r : RS K S ex Γ σ H) (hl : ∀ p, (i, p) ∉ S.lent) : RS K S ex (Γ.set i .un) (σ.set i none) H := by
  have r' := r.forget hl
  have sub : ∀ p, Own (Γ.set i .un) (σ.set i none) p → Own (Γ.set i .un) σ p := fun p ⟨j, es, e1, e2⟩ => by
    rcases getSet e1 with ⟨_, z, _⟩ | ⟨n, e1'⟩
    · cases z
    · rw [List.getElem?_set_ne n] at e2
      exact ⟨j, es, e1, e2⟩
  have subE : ∀ p, Exc S (Γ.set i .un) (σ.set i none) ex p → Exc S (Γ.set i .un) σ ex p := fun p z => z.elim (fun z => .inl (sub p z)) .inr
  refine { r' with slots := fun j a e => ?_, dist := fun j k es fs p e1 e2 e3 e4 => ?_, own := fun p o => r'.own p (sub p o), pin := fun b o z => ⟨(r'.pin b o z).1, fun y => (r'.pin b o z).2.1 (sub b y), (r'.pin b o z).2.2⟩, lent := fun j p e => ?_, nex := fun p o => r'.nex p (sub p o), nfo := fun p o => r'.nfo p (sub p o), len := by rw [List.length_set]; exact r'.len }
  · rcases getSet e with ⟨rfl, rfl, _⟩ | ⟨n, e'⟩
    · trivial
    · rw [List.getElem?_set_ne n]
      exact (r'.slots j a e).mono (fun b o e n => ⟨e, fun z => n (subE b z)⟩) fun _ _ _ _ _ e => e
  · have nj : ∀ {j : Nat} {es : List Dt}, (Γ.set i .un)[j]? = some (.ow es) → i ≠ j := fun {j es} e z => by
      rcases getSet e with ⟨_, y, _⟩ | ⟨n, _⟩
      · cases y
      · exact n z
    rw [List.getElem?_set_ne (nj e1)] at e3
    rw [List.getElem?_set_ne (nj e2)] at e4
    exact r'.dist j k es fs p e1 e2 e3 e4
  · obtain ⟨e1, e2⟩ := r'.lent j p e
    have n : i ≠ j := by
      rintro rfl
      exact hl p e
    rw [List.getElem?_set_ne n]
    exact ⟨e1, e2⟩
theorem RS.wipe (r : RS K S ex Γ σ H) : ∀ {is : List Nat}, (∀ i ∈ is, ∀ p, (i, p) ∉ S.lent) → RS K S ex (wipeD Γ is) (wipe σ is) H
  | [], _ => r
  | i :: is, hl => (RS.wipe r fun j hj => hl j (List.mem_cons_of_mem _ hj)).forget2 (hl i List.mem_cons_self)
/-- back from a block: the slots wiped are not known -/
theorem wipe_other (σ : Sg) : ∀ {is : List Nat} {i : Nat}, i ∉ is → (wipe σ is)[i]? = σ[i]?
  | [], _, _ => rfl
  | j :: is, i, h => by
    show ((wipe σ is).set j none)[i]? = σ[i]?
    rw [List.getElem?_set_ne (fun z => h (by rw [z]; exact List.mem_cons_self))]
    exact wipe_other σ fun z => h (List.mem_cons_of_mem _ z)
theorem RS.unwipe {is : List Nat} (r : RS K S ex Γ (L2.wipe σ is) H) (hu : ∀ i ∈ is, ∀ a, Γ[i]? = some a → a = .un) (hl : ∀ i ∈ is, ∀ p, (i, p) ∉ S.lent) : RS K S ex Γ σ H ∧ ∀ p, Own Γ σ p → Own Γ (L2.wipe σ is) p := by
  have ne : ∀ {j : Nat} {es : List Dt}, Γ[j]? = some (.ow es) → j ∉ is := fun {j es} e z => by
    have := hu j z _ e
    cases this
  have sub : ∀ p, Own Γ σ p → Own Γ (L2.wipe σ is) p := fun p ⟨j, es, e1, e2⟩ => ⟨j, es, e1, by rw [wipe_other σ (ne e1)]; exact e2⟩
  have subE : ∀ p, Exc S Γ σ ex p → Exc S Γ (L2.wipe σ is) ex p := fun p z => z.elim (fun z => .inl (sub p z)) .inr
  refine ⟨{ r with slots := fun j a e => ?_, dist := fun j k es fs p e1 e2 e3 e4 => ?_, own := fun p o => r.own p (sub p o), pin := fun b o z => ⟨(r.pin b o z).1, fun y => (r.pin b o z).2.1 (sub b y), (r.pin b o z).2.2⟩, lent := fun j p e => ?_, nex := fun p o => r.nex p (sub p o), nfo := fun p o => r.nfo p (sub p o), len := by rw [← L2.wipe_length σ is]; exact r.len }, sub⟩
  · by_cases hj : j ∈ is
    · cases hu j hj a e
      trivial
    · rw [← wipe_other σ hj]
      exact (r.slots j a e).mono (fun b o e n => ⟨e, fun z => n (subE b z)⟩) fun _ _ _ _ _ e => e
  · rw [← wipe_other σ (ne e1)] at e3
    rw [← wipe_other σ (ne e2)] at e4
    exact r.dist j k es fs p e1 e2 e3 e4
  · obtain ⟨e1, e2⟩ := r.lent j p e
    have n : j ∉ is := fun z => hl j z p e
    rw [← wipe_other σ n]
    exact ⟨e1, e2⟩
end

/-- a clause's tests -/
def wTs (c : Core) {ι : Type} (v : ι → Var) (ifs : List Expr) : TT := fun σ H R => ∃ t : TT, (∀ i, PTs (mkX c (v i)) ifs t) ∧ t σ H R
def TsD (c : Core) {ι : Type} (v : ι → Var) (S : Ent) (ifs : List Expr) (Γ : List AV) (Q : Bool → List AV → Prop) : Prop := ∀ (σ : Sg) (H : Hp) (R : Bool → Hp → Prop), RS c.K S no Γ σ H →
  (∀ b H' Γ', Q b Γ' → RS c.K S no Γ' σ H' → Step Γ Γ' σ H H' → R b H') → wTs c v ifs σ H R
section
variable {c : Core} {ι : Type} {v : ι → Var} {S : Ent} {Γ : List AV} {Q : AV → List AV → Prop} {QB : Bool → List AV → Prop} {e elt tg iter : Expr} {ifs : List Expr} {pos : Pos}
theorem wTs.pts (i : ι) : PTs (mkX c (v i)) ifs (wTs c v ifs) := ⟨fun pins s σ H Q I ⟨_, h, q⟩ => (h i).run pins s σ H Q I q⟩
theorem ts_nil (q : QB true Γ) : TsD c v S [] Γ QB := fun σ H R r k => ⟨_, fun _ => pts_nil, k _ _ _ q r .refl⟩
theorem ts_one (h : TD c v S e Γ QB) : TsD c v S [e] Γ QB := fun σ H R r k => ⟨_, fun i => pts_one (wT.pt i), h σ H R r k⟩

abbrev Ent.lc (S : Ent) (g : AP) (f : Addr → HO → Prop) : Ent := { S with fo := fun b => S.fo b ∨ g b, pn := fun b o => S.pn b o ∨ f b o }
/-- one turn: acc made so far -/
def LcTurn (c : Core) {ι : Type} (v' : BI ι → Var) (S : Ent) (is : List Nat) (tg : Expr) (ifs : List Expr) (elt : Expr) (P : Nat → List Dt → List AV → Prop) (j : Nat) (d : Dt) (acc : List Dt) (Γ : List AV) : Prop :=
  ∃ W : List Nat, (∀ i ∈ W, i ∈ is) ∧ ∀ g f, GD c v' (S.lc g f) tg d W (wipeD Γ is) fun Γ1 => TsD c v' (S.lc g f) ifs Γ1 fun b Γ2 =>
    (b = true → ED c v' (S.lc g f) elt Γ2 fun a Γ3 => ∃ y, akD Γ3 (.d a) = some y ∧ P (j + 1) (acc ++ [y]) (wipeD Γ3 is)) ∧ (b = false → P (j + 1) acc (wipeD Γ2 is))
theorem wipe_get (σ : Sg) : ∀ (is : List Nat) (i : Nat), (L2.wipe σ is)[i]? = if i ∈ is then (if i < σ.length then some none else none) else σ[i]?
  | [], i => by simp [L2.wipe]
  | j :: is, i => by
    show ((L2.wipe σ is).set j none)[i]? = _
    by_cases e : j = i
    · subst e
      rw [if_pos List.mem_cons_self]
      by_cases hl : j < σ.length
      · rw [if_pos hl, List.getElem?_set_self (by rw [L2.wipe_length]; exact hl)]
      · rw [if_neg hl, List.getElem?_eq_none (by rw [List.length_set, L2.wipe_length]; omega)]
    · rw [List.getElem?_set_ne e, wipe_get σ is i]
      by_cases h : i ∈ is
      · rw [if_pos h, if_pos (List.mem_cons_of_mem _ h)]
      · rw [if_neg h, if_neg (fun z => (List.mem_cons.mp z).elim (fun z => e z.symm) h)]
theorem wipe_eq {σ σ' : Sg} {is : List Nat} (hl : σ'.length = σ.length) (h : ∀ i, i ∉ is → σ'[i]? = σ[i]?) : L2.wipe σ' is = L2.wipe σ is := by
  apply List.ext_getElem?
  intro i
  rw [wipe_get, wipe_get, hl]
  by_cases hi : i ∈ is
  · rw [if_pos hi, if_pos hi]
  · rw [if_neg hi, if_neg hi, h i hi]
theorem wipe_wipe (σ : Sg) (is : List Nat) : L2.wipe (L2.wipe σ is) is = L2.wipe σ is := by
  apply List.ext_getElem?
  intro i
  rw [wipe_get, wipe_get, L2.wipe_length]
  by_cases hi : i ∈ is
  · rw [if_pos hi, if_pos hi]
  · rw [if_neg hi, if_neg hi]
theorem wipeD_other (Γ : List AV) : ∀ {is : List Nat} {i : Nat}, i ∉ is → (wipeD Γ is)[i]? = Γ[i]?
  | [], _, _ => rfl
  | j :: is, i, h => by
    show ((wipeD Γ is).set j .un)[i]? = Γ[i]?
    rw [List.getElem?_set_ne (fun z => h (by rw [z]; exact List.mem_cons_self))]
    exact wipeD_other Γ fun z => h (List.mem_cons_of_mem _ z)
theorem wipeD_un (Γ : List AV) : ∀ {is : List Nat} {i : Nat}, i ∈ is → ∀ a, (wipeD Γ is)[i]? = some a → a = .un
  | j :: is, i, h, a, e => by
    rcases getSet (show ((wipeD Γ is).set j .un)[i]? = some a from e) with ⟨_, z, _⟩ | ⟨n, z⟩
    · exact z
    · exact wipeD_un Γ ((List.mem_cons.mp h).resolve_left fun z => n z.symm) a z
theorem own_wipe {σ : Sg} {is : List Nat} {p : Addr} (o : Own (wipeD Γ is) (L2.wipe σ is) p) : Own Γ σ p := by
  obtain ⟨j, es, e1, e2⟩ := o
  have n : j ∉ is := fun z => by cases wipeD_un Γ z _ e1
  rw [wipeD_other Γ n] at e1
  rw [wipe_other σ n] at e2
  exact ⟨j, es, e1, e2⟩
/-- [elt for tg in iter if ..] -/
theorem ed_lc {own : List (Str × Nat)} {scope : Scope} (hN : c.N.Nodup) (ok : ∀ i, BlkOk c.N (v i).env.scope scope own) (hs : NoFold v iter) (hl : ∀ i ∈ own.map (·.2), ∀ p, (i, p) ∉ S.lent)
    (h : SrcD c v S tg iter Γ fun ds Γ1 => ds.length ≤ 1000000 ∧ ∃ P : Nat → List Dt → List AV → Prop, P 0 [] (wipeD Γ1 (own.map (·.2))) ∧
      (∀ j d acc Γ2, ds[j]? = some d → P j acc Γ2 → LcTurn c (blkV c v scope) S (own.map (·.2)) tg ifs elt P j d acc Γ2) ∧ ∀ acc Γ2, P ds.length acc Γ2 → Q (.ow acc) (wipeD Γ2 (own.map (·.2)))) (still : c.calm = true := by rfl) :
    ED c v S (.ListComp elt [⟨tg, iter, ifs, 0⟩] scope pos) Γ Q := fun σ H R r kk => by
  refine ⟨_, fun k => pe_lc (X := mkX c (v k)) still hN (wI.pi k) (ok k) (fun s H C cl fp => (wG.pg (c := c) (v := blkV c v scope) (k, s, H, C, cl, fp) : PG (mkX c (blkV c v scope (k, s, H, C, cl, fp))) tg _))
    (fun s H C cl fp => (wTs.pts (c := c) (v := blkV c v scope) (k, s, H, C, cl, fp) : PTs (mkX c (blkV c v scope (k, s, H, C, cl, fp))) ifs _)) (fun s H C cl fp => (wE.pe (c := c) (v := blkV c v scope) (k, s, H, C, cl, fp) : PE (mkX c (blkV c v scope (k, s, H, C, cl, fp))) elt _)) (hs k), ?_⟩
  generalize own.map (·.2) = is at hl h ⊢
  refine h σ H _ r fun J H1 ds Γ1 ⟨hz, P, p0, step, done⟩ r1 s w => ?_
  intro D hD
  have nD := r1.new hD
  -- the invariant
  let F : Addr → HO → Prop := AllPin H1 Γ1 σ
  refine ⟨fun j m H' => m = ds.length - j ∧ j ≤ ds.length ∧ ∃ acc accV Γ', acc.length ≤ j ∧ P j acc Γ' ∧ (∀ i ∈ is, ∀ a, Γ'[i]? = some a → a = .un) ∧ H' D = some (.lst accV) ∧ RpL c.K H' (Exc (S.lc (· = D) F) Γ' (L2.wipe σ is) no) accV acc ∧
    RS c.K (S.lc (· = D) F) no Γ' (L2.wipe σ is) H' ∧ ∀ p, Own Γ' (L2.wipe σ is) p → Own Γ1 σ p, ⟨_, rfl, Nat.zero_le _, [], [], wipeD Γ1 is, Nat.le_refl _, p0, fun i hi => wipeD_un Γ1 hi, upd_same, .nil, ?_, fun p => own_wipe⟩, ?_⟩
  · have rw' := r1.wipe hl
    have rD := (rw'.alloc (o := .lst []) hD).ex_mono (ex' := (· = D)) fun _ z => .inr z
    have q := RS.to_fo rD fun p e => by
      subst e
      exact ⟨by rw [upd_same]; exact fun z => (nomatch z), fun z => r1.xtr _ z nD.2.2⟩
    refine q.dopin fun b o ⟨z1, z2⟩ => ⟨by rw [upd_ne (ne_of_none z1 hD)]; exact z1, fun z => z2 (own_wipe z), id⟩
  · rintro j m H' ⟨rfl, hj, acc, accV, Γ', ha, pj, hu, hDl, hacc, r', ow⟩
    have fr : ∀ b o, H1 b = some o → ¬ Own Γ1 σ b → H' b = some o := fun b o e n => (r'.pin b o (.inr ⟨e, n⟩)).1
    by_cases hlt : j < ds.length
    · -- a turn
      refine .inr ⟨w.go j H' fr hlt, fun H2 => ∃ acc accV Γ', acc.length ≤ j + 1 ∧ P (j + 1) acc Γ' ∧ (∀ i ∈ is, ∀ a, Γ'[i]? = some a → a = .un) ∧ H2 D = some (.lst accV) ∧ RpL c.K H2 (Exc (S.lc (· = D) F) Γ' (L2.wipe σ is) no) accV acc ∧
        RS c.K (S.lc (· = D) F) no Γ' (L2.wipe σ is) H2 ∧ ∀ p, Own Γ' (L2.wipe σ is) p → Own Γ1 σ p, fun H2 h2 => ⟨_, by omega, rfl, hlt, h2⟩, fun x H2 y => ?_⟩
      obtain ⟨d, ed, r2, hd, frY⟩ := w.item (S := S) (f := F) (fo' := fun b => S.fo b ∨ b = D) (fun _ _ z => z) (fun b z => z.elim .inl fun z => .inr (by rw [z]; exact hD)) r' hlt y
      obtain ⟨W, hW, step⟩ := step j d acc Γ' ed pj
      have hDl2 : H2 D = some (.lst accV) := frY _ _ hDl
      have hacc2 : RpL c.K H2 (Exc (S.lc (· = D) F) Γ' (L2.wipe σ is) no) accV acc := hacc.mono fun b o e n => ⟨frY b o e, n⟩
      -- the accumulated list is pinned for this turn
      let F2 : Addr → HO → Prop := fun b o => F b o ∨ (H2 b = some o ∧ ¬ Own Γ' (L2.wipe σ is) b)
      have r2' : RS c.K (S.lc (· = D) F2) no Γ' (L2.wipe σ is) H2 :=
        { r2 with pin := fun b o z => z.elim (fun z => r2.pin b o (.inl z)) fun z => z.elim (fun z => r2.pin b o (.inr z)) fun z => ⟨z.1, z.2, id⟩ }
      have r2w : RS c.K (S.lc (· = D) F2) no (wipeD Γ' is) (L2.wipe σ is) H2 := by
        have := r2'.wipe hl
        rw [wipe_wipe] at this
        exact this
      have ow2 : ∀ p, Own (wipeD Γ' is) (L2.wipe σ is) p → Own Γ' (L2.wipe σ is) p := fun p z => by
        rw [← wipe_wipe σ is] at z
        exact own_wipe z
      have hd2 : Rp c.K H2 (Exc (S.lc (· = D) F2) (wipeD Γ' is) (L2.wipe σ is) no) x d := Rp.sub (fun b z => z.elim (fun z => .inl (ow2 b z)) .inr) hd
      refine step (· = D) F2 _ H2 x _ r2w hd2 fun σ3 Γ3 q3 r3 o3 w3 => ?_
      have ew : L2.wipe σ3 is = L2.wipe σ is := by
        rw [wipe_eq (σ := L2.wipe σ is) (by rw [r3.len, r2w.len]) fun i hi => w3 i fun z => hi (hW i z)]
        exact wipe_wipe σ is
      refine ⟨ew, ?_⟩
      have nOwnD : ∀ {Γx : List AV} {σx : Sg} {Hx : Hp}, RS c.K (S.lc (· = D) F2) no Γx σx Hx → ¬ Own Γx σx D := fun rx z => rx.nfo D z (.inr rfl)
      -- the end of a turn, from its last state
      have back : ∀ {Γx : List AV} {Hx : Hp}, RS c.K (S.lc (· = D) F2) no Γx σ3 Hx → (∀ p, Own Γx σ3 p → Own Γ3 σ3 p) → RS c.K (S.lc (· = D) F) no (wipeD Γx is) (L2.wipe σ is) Hx ∧ (∀ p, Own (wipeD Γx is) (L2.wipe σ is) p → Own Γ1 σ p) ∧ Hx D = some (.lst accV) ∧
          (∀ b o, H2 b = some o → ¬ Own Γ' (L2.wipe σ is) b → Hx b = some o) := fun {Γx Hx} rx ox => by
        have z := rx.wipe hl
        rw [ew] at z
        refine ⟨{ z with pin := fun b o y => z.pin b o (y.elim .inl fun y => .inr (.inl y)) }, fun p y => ?_, (rx.pin D _ (.inr (.inr ⟨hDl2, ?_⟩))).1, fun b o e n => (rx.pin b o (.inr (.inr ⟨e, n⟩))).1⟩
        · rw [← ew] at y
          exact ow p (ow2 p (o3 p (ox p (own_wipe y))))
        · exact fun z => r2.nfo D z (.inr rfl)
      refine q3 σ3 H2 _ r3 fun b H4 Γ4 q4 r4 s4 => ?_
      cases b with
      | false =>
        refine iteF ?_
        obtain ⟨z1, z2, z3, z4⟩ := back r4 fun p y => s4.own p y
        refine ⟨acc, accV, wipeD Γ4 is, by omega, q4.2 rfl, fun i hi => wipeD_un Γ4 hi, z3, hacc2.mono fun b o e n => ⟨z4 b o e fun z => n (.inl z), fun z => n ?_⟩, z1, z2⟩
        rcases z with z | z
        · refine .inl (ow2 b (o3 b (s4.own b (own_wipe (is := is) ?_))))
          rw [ew]
          exact z
        · exact .inr z
      | true =>
        refine iteT ?_
        refine q4.1 rfl σ3 H4 _ r4 fun y5 H5 a Γ5 ⟨dy, ey, q5⟩ hr5 s5 _ => ?_
        have r5 := hr5.rs
        obtain ⟨z1, z2, z3, z4⟩ := back r5 fun p y => s4.own p (s5.own p y)
        have oo : ∀ b, Own (wipeD Γ5 is) (L2.wipe σ is) b → Own Γ5 σ3 b := fun b z => by
          rw [← ew] at z
          exact own_wipe z
        have ry : Rp c.K H5 (Exc (S.lc (· = D) F) (wipeD Γ5 is) (L2.wipe σ is) no) y5 dy := Rp.sub (fun b z => z.elim (fun z => .inl (oo b z)) .inr) (akD_of (k := .d a) (σ := σ3) ey hr5.rpa)
        have rac : RpL c.K H5 (Exc (S.lc (· = D) F) (wipeD Γ5 is) (L2.wipe σ is) no) accV acc := hacc2.mono fun b o e n => ⟨z4 b o e fun z => n (.inl z), fun z => n (z.elim (fun z => .inl (ow2 b (o3 b (s4.own b (s5.own b (oo b z)))))) .inr)⟩
        refine ⟨accV, z3, ?_, acc ++ [dy], accV ++ [y5], wipeD Γ5 is, by rw [List.length_append]; exact Nat.add_le_add ha (Nat.le_refl 1), q5, fun i hi => wipeD_un Γ5 hi, upd_same, (rac.append (.cons ry .nil)).write (.inr (.inl (.inr rfl))), ?_, z2⟩
        · rw [hacc2.len]
          have := line1 (n := acc.length + 1) (by omega)
          omega
        · -- the list has grown: nothing else leans on it
          have nD5 : ¬ Own (wipeD Γ5 is) (L2.wipe σ is) D := fun z => nOwnD r5 (oo D z)
          have up : ∀ b o, H5 b = some o → b ≠ D → (upd H5 D (.lst (accV ++ [y5]))) b = some o := fun b o e n => by rw [upd_ne n]; exact e
          exact { z1 with
            slots := fun i a e => (z1.slots i a e).mono (fun b o e n => ⟨up b o e fun z => n (.inr (.inl (.inr z))), n⟩) fun ds p xs ea es ep => up p _ ep fun z => nD5 ⟨i, ds, by rw [← ea]; exact e, by rw [← z]; exact es⟩
            fr := fun b o e n => up b o (z1.fr b o e n) fun z => by rw [z, nD.2.2] at e; cases e
            fo := fun b z => by
              refine ⟨?_, (z1.fo b z).2⟩
              by_cases e : b = D
              · rw [e, upd_same]
                exact fun z => nomatch z
              · rw [upd_ne e]
                exact (z1.fo b z).1
            pin := fun b o z => by
              have nb : b ≠ D := fun e => by
                rcases z with z | z
                · have := (r1.pin b o z).1
                  rw [e, hD] at this
                  cases this
                · have := z.1
                  rw [e, hD] at this
                  cases this
              exact ⟨up b o (z1.pin b o z).1 nb, (z1.pin b o z).2⟩ }
    · -- the end
      have e : j = ds.length := by omega
      subst e
      have z := r'.wipe hl
      rw [wipe_wipe] at z
      obtain ⟨z1, z2⟩ := RS.unwipe z (fun i hi => wipeD_un Γ' hi) hl
      have oo : ∀ p, Own (wipeD Γ' is) σ p → Own Γ' (L2.wipe σ is) p := fun p y => by
        have := z2 p y
        rw [← wipe_wipe σ is] at this
        exact own_wipe this
      have s' : Step Γ (wipeD Γ' is) σ H H' := ⟨fun b o e n => fr b o (s.fr b o e n) fun z => n (s.own b z), fun p y => s.own p (ow p (oo p y))⟩
      refine .inl ⟨w.stop _ H' fr (Nat.le_refl _), kk _ _ _ _ (done acc Γ' pj) ⟨D, accV, rfl, ?_, hDl, hacc.sub fun b y => ?_, fun y => nD.2.1 y, nD.2.2⟩ s' ?_⟩
      · exact RS.move_fo (S := S) (f := (· = D)) { z1 with pin := fun b o y => z1.pin b o (.inl y) } fun b o y e => by
          have := (r1.pin b o y).1
          rw [e, hD] at this
          cases this
      · rcases y with y | y | y
        · exact .inl (oo b y)
        · exact .inr (.inl (.inl y))
        · exact .inr (.inl (.inr y))
      · exact New.back (H' := H1) (Γ' := Γ1) ⟨D, rfl, .inl hD⟩ s
end
end DL

namespace DL
open PySem PySem.Spec
open PyProof.Rows L2

/-! ### what a def promises over plain data: its arguments, what it gives, what becomes of the lists lent to it -/
abbrev DSp := List AV → (AV → List AV → Prop) → Prop
def lentOf (as : List AV) (vs : List V) : List (Nat × Addr) := (List.range as.length).filterMap fun (i : Nat) => match as[i]?, vs[i]? with
  | some (AV.ow _), some (V.ref p) => some (i, p)
  | _, _ => none
theorem lent_mem {as : List AV} {vs : List V} {i : Nat} {p : Addr} : (i, p) ∈ lentOf as vs ↔ ∃ ds, as[i]? = some (.ow ds) ∧ vs[i]? = some (.ref p) := by
  unfold lentOf
  rw [List.mem_filterMap]
  constructor
  · rintro ⟨j, hj, e⟩
    split at e
    · rename_i ds q e1 e2
      cases e
      exact ⟨ds, e1, e2⟩
    · cases e
  · rintro ⟨ds, e1, e2⟩
    refine ⟨i, List.mem_range.mpr (ltOf e1), ?_⟩
    rw [e1, e2]
theorem no_lent {as : List AV} {vs : List V} {i : Nat} (h : ∀ ds, as[i]? ≠ some (.ow ds)) : ∀ p, (i, p) ∉ lentOf as vs := fun p z => by
  obtain ⟨ds, e, _⟩ := lent_mem.mp z
  exact h ds e
abbrev Ent.call (H : Hp) (as : List AV) (vs : List V) (fo : AP) (n : Nat) : Ent := { H := H, lent := lentOf as vs, fo := fo, pn := fun _ _ => False, n := n }
def spD (K : PySem.W.Frag) (DS : DSp) : Sp := fun vs H Q E => ∃ (as : List AV) (fo : AP) (post : AV → List AV → Prop), DS as post ∧ RS K (Ent.call H as vs fo as.length) no as (vs.map some) H ∧
  ∀ x H' a as', post a as' → Res K (Ent.call H as vs fo as.length) as' (vs.map some) H' x a → Q x H'
theorem spD_len {K : PySem.W.Frag} {DS : DSp} {vs : List V} {H : Hp} {Q : VK} {E : XK} {n : Nat} (hn : ∀ as post, DS as post → as.length = n) (h : spD K DS vs H Q E) : vs.length = n := by
  obtain ⟨as, fo, post, h1, h2, _⟩ := h
  have := h2.len
  rw [List.length_map] at this
  exact this.trans (hn as post h1)
/-- a def that keeps a promise where no container is being written out (repr) -/
structure FnG (P : Program) (w : World) (K : PySem.W.Frag) (mg : Str → Option Value) (base : Heap) (k : Nat) (f : Addr) (fd : FuncData) (ps : List Str) (sp : Sp) : Prop where
  len : ∀ as G Q E, sp as G Q E → as.length = ps.length
  run : ∀ (A : Around) (outer : List Env) (s : Shared) (H : Hp) (args : Args) (us : List Value) (vs : List V) (Q : VK), Room k A → A.guards = some [] → Env0 P w K mg base A outer s H → BindsTo s fd args (ps.zip us) → Vals vs us → sp vs H Q E0 →
    codeAny (model P w) A (.call (.ref f) args) (CR CX0 outer P w H s Q E0) s
theorem FnG.mono {P : Program} {w : World} {K : PySem.W.Frag} {mg : Str → Option Value} {base : Heap} {j k : Nat} {f : Addr} {fd : FuncData} {ps : List Str} {sp : Sp} (F : FnG P w K mg base j f fd ps sp) (h : j ≤ k) : FnG P w K mg base k f fd ps sp :=
  ⟨F.len, fun A outer s H args us vs Q hr => F.run A outer s H args us vs Q (hr.mono h)⟩

section
variable {X : Cx} {k : Nat} {f : Addr} {fd : FuncData} {ps ks : List Str} {sp : Sp} {ds : List Value} {x : Str} {p pos : Pos} {e : Expr} {es : List Expr} {t tk : TA}
theorem runG {pins : List (Addr × Obj)} {σ : Sg} {H : Hp} {s : Shared} {Q : VK} {args : Args} {us : List Value} {vs : List V} (F : FnG X.prog X.w X.K X.mg X.base k f fd ps sp) (hr : Room k X.A) (hgu : X.A.guards = some [])
    (hb : BindsTo s fd args (ps.zip us)) (I : Inv X pins σ H s) (r : Vals vs us) (h : sp vs H Q E0) : codeAny (model X.prog X.w) X.A (.call (.ref f) args) (fun r s' => match r with
      | .ok (.ret u) => EP X pins σ Q u s'
      | _ => False) s := by
  refine codeAny_mono (F.run X.A X.stack s H args us vs Q hr hgu I.env0 hb r h) fun r s' hq => ?_
  cases r with
  | error _ => exact False.elim hq
  | ok fl =>
    cases fl with
    | ret u => exact I.after hq
    | next => exact False.elim hq
    | brk => exact False.elim hq
    | cont => exact False.elim hq
/-- f(e, ..), every parameter given -/
theorem pe_callG (F : FnG X.prog X.w X.K X.mg X.base k f fd ps sp) (hr : Room k X.A) (hgu : X.A.guards = some []) (hg : Gl X x) (hm : X.mg x = some (.ref f)) (hk : PySem.W.keepIn X.K (.ref f) = true) (hb : Binds X.K fd ps [])
    (ha : PA X (e :: es) t) (hdb : (x == ("__debug__" : Str)) = false) (he : starEach (e :: es) X.env = (false, eval e X.env) :: starEach es X.env) (hpl : (backTo pos (starEach es X.env)).any (·.1) = false) :
    PE X (.Call (.Name x p) (e :: es) [] pos) (fun σ H Q => t σ H fun vs H1 => sp vs H1 Q E0) := by
  refine (⟨fun pins s σ H Q I h => ?_⟩)
  refine wpAny_Call_Name_kw (ld_glob I hg hm ?_ hdb); refine PySem.W.callWith_K (h₀ := X.base) I.ok.mod.kin hk (thn (ha.run pos pins s σ H _ I h) fun us s1 ⟨vs, H1, I1, r, q⟩ => ⟨I1.kIn, ?_⟩) he hpl
  have hl : (us ++ ([] : List Value)).length = ps.length := by rw [List.append_nil, ← r.length]; exact F.len _ _ _ _ q
  have hb' := hb s1 us I1.kIn hl
  rw [List.append_nil] at hb'
  refine wpAny_call (codeAny_mono (runG F hr hgu hb' I1 r q) fun r s' hq => ?_)
  cases r with
  | error _ => exact False.elim hq
  | ok fl =>
    cases fl with
    | ret u => exact hq
    | next => exact False.elim hq
    | brk => exact False.elim hq
    | cont => exact False.elim hq
/-- a call with keywords alone, named in the parameters' order or not, fills the parameters with the keywords' values -/
def KwB (K : PySem.W.Frag) (fd : FuncData) (ps ks : List Str) : Prop := ∀ (s : Shared) (given : List Value), K.In s.heap → given.length = ps.length → BindsTo s fd ⟨[], ks.zip given⟩ (ps.zip given)
theorem KwB.mk {K : PySem.W.Frag} {qual x : Str} {st : Stmt} (F : Fun K x qual st f fd) {ks : List Str} (h : ∀ (kV doc pm : Value) (an : Option Addr) (cdv ct : Value) (given : List Value), given.length = ps.length → bindArgs (PySem.W.fnOf x qual (defArgs st) (defBody st) (defScope st) .none kV doc pm an cdv ct) ⟨[], ks.zip given⟩ = pure (ps.zip given)) : KwB K fd ps ks := by
  obtain ⟨_, _, kV, doc, pm, an, cdv, ct, _, rfl, _, _⟩ := F.ex
  exact fun s given _ e => BindsTo.of_eq (h kV doc pm an cdv ct given e)
/-- f(k = v, ..): keywords alone -/
theorem pe_callGK {kws : List Keyword} {ks : List Str} (F : FnG X.prog X.w X.K X.mg X.base k f fd ps sp) (hr : Room k X.A) (hgu : X.A.guards = some []) (hg : Gl X x) (hm : X.mg x = some (.ref f)) (hk : PySem.W.keepIn X.K (.ref f) = true)
    (kwb : KwB X.K fd ps ks) (vals : PK X kws tk) (named : (backToKw pos (keywordEach kws X.env)).all (·.1.isSome) = true) (these : (backToKw pos (keywordEach kws X.env)).filterMap (·.1) = ks) (nodbg : (x == ("__debug__" : Str)) = false)
    (nostar : ((backTo pos (starEach [] X.env)).any (·.1) || (backToKw pos (keywordEach kws X.env)).any (·.1.isNone)) = false) :
    PE X (.Call (.Name x p) [] kws pos) (fun σ H Q => tk σ H fun zs H1 => sp zs H1 Q E0) := by
  refine (⟨fun pins s σ H Q I h => ?_⟩)
  refine wpAny_Call_Name_kw (ld_glob I hg hm ?_ nodbg)
  refine PySem.W.callWith_KW0 (h₀ := X.base) I.ok.mod.kin hk named (thn (vals.run pos pins s σ H _ I h) fun ws s1 ⟨zs, H1, I1, rz, q⟩ => ⟨I1.kIn, ?_⟩) nostar
  rw [these]
  have many : ws.length = ps.length := rz.length ▸ F.len _ _ _ _ q
  refine wpAny_call (codeAny_mono (runG F hr hgu (kwb s1 ws I1.kIn many) I1 rz q) fun res s' done => ?_)
  match res, done with
  | .ok (.ret _), done => exact done
  | .ok .next, done => exact done.elim
  | .ok .brk, done => exact done.elim
  | .ok .cont, done => exact done.elim
  | .error _, done => exact done.elim
end

/-! ### a call over plain data -/
def AV.fz : AV → AV
  | .un => .un
  | .dt d => .dt d
  | .ow ds => .dt (.lst ds)
def argA (Γ : List AV) : AK → Option AV
  | .d a => some a.fz
  | .ln i => match Γ[i]? with
    | some (.ow ds) => some (.ow ds)
    | _ => none
def argsA (Γ : List AV) (as : List AK) : Option (List AV) := as.mapM (argA Γ)
def backA (Γ : List AV) : List AK → List AV → List AV
  | .ln m :: as, a :: vs => (backA Γ as vs).set m a
  | _ :: as, _ :: vs => backA Γ as vs
  | _, _ => Γ
/-- no slot is lent twice -/
def lnsOk : List AK → Bool
  | [] => true
  | .ln m :: as => as.all (fun | .ln j => decide (j ≠ m) | _ => true) && lnsOk as
  | _ :: as => lnsOk as
theorem argsA_get {Γ : List AV} : ∀ {as : List AK} {avs : List AV} {i : Nat} {a : AV}, argsA Γ as = some avs → avs[i]? = some a → ∃ k, as[i]? = some k ∧ argA Γ k = some a
  | [], _, i, a, e, h => by cases e; simp at h
  | k :: as, avs, i, a, e, h => by
    unfold argsA at e
    rw [List.mapM_cons] at e
    cases h1 : argA Γ k with
    | none => rw [h1] at e; cases e
    | some b =>
      rw [h1] at e
      cases h2 : as.mapM (argA Γ) with
      | none => rw [h2] at e; cases e
      | some bs =>
        rw [h2] at e
        cases e
        cases i with
        | zero => cases h; exact ⟨k, rfl, h1⟩
        | succ i => exact argsA_get (as := as) h2 (by simpa using h)
theorem argsA_len {Γ : List AV} : ∀ {as : List AK} {avs : List AV}, argsA Γ as = some avs → avs.length = as.length
  | [], _, e => by cases e; rfl
  | k :: as, avs, e => by
    unfold argsA at e
    rw [List.mapM_cons] at e
    cases h1 : argA Γ k with
    | none => rw [h1] at e; cases e
    | some b =>
      rw [h1] at e
      cases h2 : as.mapM (argA Γ) with
      | none => rw [h2] at e; cases e
      | some bs =>
        rw [h2] at e
        cases e
        exact congrArg (· + 1) (argsA_len (as := as) h2)
theorem RpKL.get {K : PySem.W.Frag} {H : Hp} {ex : AP} {σ : Sg} : ∀ {xs : List V} {as : List AK} {i : Nat} {k : AK}, RpKL K H ex σ xs as → as[i]? = some k → ∃ x, xs[i]? = some x ∧ RpK K H ex σ x k
  | x :: xs, a :: as, 0, k, q, e => by
    cases e
    exact ⟨x, rfl, q.1⟩
  | x :: xs, a :: as, i + 1, k, q, e => by
    obtain ⟨y, h1, h2⟩ := RpKL.get (i := i) q.2 (by simpa using e)
    exact ⟨y, by simpa using h1, h2⟩
  | [], [], _, _, _, e => by simp at e
  | [], _ :: _, _, _, q, _ => q.elim
  | _ :: _, [], _, _, q, _ => q.elim
theorem RpKL.len {K : PySem.W.Frag} {H : Hp} {ex : AP} {σ : Sg} : ∀ {xs : List V} {as : List AK}, RpKL K H ex σ xs as → xs.length = as.length
  | [], [], _ => rfl
  | _ :: _, _ :: _, q => congrArg (· + 1) (RpKL.len q.2)
  | [], _ :: _, q => q.elim
  | _ :: _, [], q => q.elim
theorem lns_inj : ∀ {as : List AK} {i j m : Nat}, lnsOk as = true → as[i]? = some (AK.ln m) → as[j]? = some (AK.ln m) → i = j
  | k :: as, 0, 0, _, _, _, _ => rfl
  | k :: as, 0, j + 1, m, h, e1, e2 => by
    cases e1
    have h' := (Bool.and_eq_true_iff.mp h).1
    have := List.all_eq_true.mp h' (.ln m) (List.mem_of_getElem? (by simpa using e2))
    simp at this
  | k :: as, i + 1, 0, m, h, e1, e2 => by
    cases e2
    have h' := (Bool.and_eq_true_iff.mp h).1
    have := List.all_eq_true.mp h' (.ln m) (List.mem_of_getElem? (by simpa using e1))
    simp at this
  | k :: as, i + 1, j + 1, m, h, e1, e2 => by
    have h' : lnsOk as = true := by
      cases k with
      | d a => exact h
      | ln m => exact (Bool.and_eq_true_iff.mp h).2
    rw [lns_inj (i := i) (j := j) h' (by simpa using e1) (by simpa using e2)]
theorem backA_len (Γ : List AV) : ∀ (as : List AK) (vs : List AV), (backA Γ as vs).length = Γ.length
  | [], _ => by cases ‹List AV› <;> rfl
  | .ln m :: as, [] => rfl
  | .d a :: as, [] => rfl
  | .ln m :: as, b :: vs => by
    show ((backA Γ as vs).set m b).length = _
    rw [List.length_set]
    exact backA_len Γ as vs
  | .d a :: as, b :: vs => backA_len Γ as vs
theorem backA_get {Γ : List AV} {m : Nat} {b : AV} : ∀ {as : List AK} {vs : List AV}, vs.length = as.length → (backA Γ as vs)[m]? = some b → (∃ i : Nat, as[i]? = some (AK.ln m) ∧ vs[i]? = some b) ∨ ((∀ i : Nat, as[i]? ≠ some (AK.ln m)) ∧ Γ[m]? = some b)
  | [], [], _, e => .inr ⟨fun i z => by simp at z, e⟩
  | .ln j :: as, a :: vs, h, e => by
    rcases getSet (show ((backA Γ as vs).set j a)[m]? = some b from e) with ⟨rfl, rfl, _⟩ | ⟨n, e⟩
    · exact .inl ⟨0, rfl, rfl⟩
    · rcases backA_get (as := as) (vs := vs) (by simpa using h) e with ⟨i, h1, h2⟩ | ⟨h1, h2⟩
      · exact .inl ⟨i + 1, by simpa using h1, by simpa using h2⟩
      · refine .inr ⟨fun i z => ?_, h2⟩
        cases i with
        | zero =>
          have z' : AK.ln j = .ln m := Option.some.inj z
          cases z'
          exact n rfl
        | succ i => exact h1 i (by simpa using z)
  | .d c :: as, a :: vs, h, e => by
    rcases backA_get (as := as) (vs := vs) (by simpa using h) (show (backA Γ as vs)[m]? = some b from e) with ⟨i, h1, h2⟩ | ⟨h1, h2⟩
    · exact .inl ⟨i + 1, by simpa using h1, by simpa using h2⟩
    · refine .inr ⟨fun i z => ?_, h2⟩
      cases i with
      | zero =>
        have z' : AK.d c = .ln m := Option.some.inj z
        cases z'
      | succ i => exact h1 i (by simpa using z)
  | [], _ :: _, z, _ => by cases z
  | _ :: _, [], z, _ => by cases z
theorem backA_at {Γ : List AV} {m i : Nat} : ∀ {as : List AK} {vs : List AV}, vs.length = as.length → lnsOk as = true → m < Γ.length → as[i]? = some (AK.ln m) → (backA Γ as vs)[m]? = vs[i]? := fun {as vs} hl ho hm e => by
  have : m < (backA Γ as vs).length := by rw [backA_len]; exact hm
  obtain ⟨b, hb⟩ : ∃ b, (backA Γ as vs)[m]? = some b := ⟨_, List.getElem?_eq_getElem this⟩
  rcases backA_get hl hb with ⟨j, h1, h2⟩ | ⟨h1, _⟩
  · rw [lns_inj ho e h1, hb, h2]
  · exact absurd e (h1 i)
end DL

namespace DL
open PySem PySem.Spec
open PyProof.Rows L2

section
variable {K : PySem.W.Frag} {S : Ent} {Γ : List AV} {σ : Sg} {H H' : Hp} {xs : List V} {as : List AK} {avs avs' : List AV} {x : V} {a : AV}
/-- foreign for the callee: the caller's lists but those that are lent -/
def Fo (S : Ent) (Γ : List AV) (σ : Sg) (avs : List AV) (xs : List V) : AP := fun b => (Own Γ σ b ∨ S.fo b) ∧ ¬ ∃ i, (i, b) ∈ lentOf avs xs
theorem lent_own (r : RS K S no Γ σ H) (q : RpKL K H (Exc S Γ σ no) σ xs as) (ea : argsA Γ as = some avs) {i : Nat} {p : Addr} (h : (i, p) ∈ lentOf avs xs) : ∃ m ds, as[i]? = some (.ln m) ∧ Γ[m]? = some (.ow ds) ∧ avs[i]? = some (.ow ds) ∧ σ[m]? = some (some (.ref p)) ∧ xs[i]? = some (.ref p) := by
  obtain ⟨ds, e1, e2⟩ := lent_mem.mp h
  obtain ⟨k, ek, ea'⟩ := argsA_get ea e1
  cases k with
  | d b =>
    exfalso
    cases b <;> cases ea'
  | ln m =>
    obtain ⟨y, ey, hy⟩ := q.get ek
    rw [e2] at ey
    cases ey
    have ea' : (match Γ[m]? with | some (AV.ow ds) => some (AV.ow ds) | _ => none) = some (AV.ow ds) := ea'
    split at ea'
    · rename_i g
      cases ea'
      exact ⟨m, ds, ek, g, e1, hy, e2⟩
    · cases ea'
theorem call_in (r : RS K S no Γ σ H) (q : RpKL K H (Exc S Γ σ no) σ xs as) (ea : argsA Γ as = some avs) (ho : lnsOk as = true) : RS K (Ent.call H avs xs (Fo S Γ σ avs xs) avs.length) no avs (xs.map some) H := by
  have hl : xs.length = avs.length := by rw [q.len, argsA_len ea]
  have own : ∀ p, Own avs (xs.map some) p → ∃ i m ds, avs[i]? = some (.ow ds) ∧ xs[i]? = some (.ref p) ∧ as[i]? = some (.ln m) ∧ Γ[m]? = some (.ow ds) ∧ σ[m]? = some (some (.ref p)) ∧ (i, p) ∈ lentOf avs xs := fun p ⟨i, ds, e1, e2⟩ => by
    rw [List.getElem?_map] at e2
    cases h : xs[i]? with
    | none => rw [h] at e2; cases e2
    | some y =>
      rw [h] at e2
      cases e2
      have m := lent_mem.mpr ⟨ds, e1, h⟩
      obtain ⟨m', ds', h1, h2, h3, h4, h5⟩ := lent_own r q ea m
      rw [e1] at h3
      cases h3
      exact ⟨i, m', ds, e1, h, h1, h2, h4, m⟩
  have ownΓ : ∀ p, Own avs (xs.map some) p → Own Γ σ p := fun p z => by
    obtain ⟨i, m, ds, _, _, _, g, e, _⟩ := own p z
    exact ⟨m, ds, g, e⟩
  have sub : ∀ p, Exc (Ent.call H avs xs (Fo S Γ σ avs xs) avs.length) avs (xs.map some) no p → Exc S Γ σ no p := fun p z => by
    rcases z with z | z | z
    · exact .inl (ownΓ p z)
    · exact z.1.elim .inl fun z => .inr (.inl z)
    · exact z.elim
  have lx : ∀ p, (Ent.call H avs xs (Fo S Γ σ avs xs) avs.length).x p → Own Γ σ p := fun p ⟨i, h⟩ => by
    obtain ⟨m, ds, _, g, _, e, _⟩ := lent_own r q ea h
    exact ⟨m, ds, g, e⟩
  refine ⟨fun i b e => ?_, fun i j ds es p e1 e2 e3 e4 => ?_, fun _ _ e _ => e, fun p z => ?_, fun i p h => ?_, fun _ _ z => z, fun p z w => ?_, fun p z => ⟨?_, fun ⟨i, h⟩ => z.2 ⟨i, h⟩⟩, fun p z => ?_, fun _ _ z => z.elim, by rw [List.length_map]; exact hl, rfl⟩
  · obtain ⟨k, ek, eb⟩ := argsA_get ea e
    obtain ⟨y, ey, hy⟩ := q.get ek
    rw [List.getElem?_map, ey]
    cases k with
    | d c =>
      cases c with
      | un => cases eb; trivial
      | dt d => cases eb; exact ⟨y, rfl, Rp.sub sub hy⟩
      | ow ds => cases eb; exact ⟨y, rfl, Rp.sub sub hy⟩
    | ln m =>
      have eb : (match Γ[m]? with | some (AV.ow ds) => some (AV.ow ds) | _ => none) = some b := eb
      split at eb
      · rename_i es g
        cases eb
        obtain ⟨p, ys, e1, e2, w⟩ := r.slots m _ g
        have hy : σ[m]? = some (some y) := hy
        rw [hy] at e1
        cases e1
        exact ⟨p, ys, rfl, e2, w.sub sub⟩
      · cases eb
  · obtain ⟨_, _, _, _, _, _, _, _, h1⟩ := own p ⟨i, ds, e1, e3⟩
    obtain ⟨ki, eki, eai⟩ := argsA_get ea e1
    obtain ⟨kj, ekj, eaj⟩ := argsA_get ea e2
    have at1 : ∀ {i : Nat} {ds : List Dt}, avs[i]? = some (.ow ds) → (xs.map some)[i]? = some (some (.ref p)) → ∃ m es, as[i]? = some (.ln m) ∧ Γ[m]? = some (.ow es) ∧ σ[m]? = some (some (.ref p)) := fun {i ds} e1 e2 => by
      rw [List.getElem?_map] at e2
      cases h : xs[i]? with
      | none => rw [h] at e2; cases e2
      | some y =>
        rw [h] at e2
        cases e2
        obtain ⟨m', ds', h1, h2, _, h4, _⟩ := lent_own r q ea (lent_mem.mpr ⟨ds, e1, h⟩)
        exact ⟨m', ds', h1, h2, h4⟩
    obtain ⟨m1, f1, a1, g1, s1⟩ := at1 e1 e3
    obtain ⟨m2, f2, a2, g2, s2⟩ := at1 e2 e4
    have := r.dist m1 m2 f1 f2 p g1 g2 s1 s2
    subst this
    exact lns_inj ho a1 a2
  · obtain ⟨i, _, _, _, _, _, _, _, h⟩ := own p z
    exact .inl ⟨i, h⟩
  · obtain ⟨m, ds, _, _, h3, _, h5⟩ := lent_own r q ea h
    exact ⟨by rw [List.getElem?_map, h5]; rfl, ds, .inl h3⟩
  · obtain ⟨i, _, _, _, _, _, _, _, h⟩ := own p z
    exact w.2 ⟨i, h⟩
  · rcases z.1 with z | z
    · obtain ⟨ys, e⟩ := r.own_tr z
      rw [e]
      exact fun z => nomatch z
    · exact (r.fo p z).1
  · obtain ⟨ys, e⟩ := r.own_tr (lx p z)
    show H p ≠ none
    rw [e]
    exact fun z => nomatch z
theorem call_out (r : RS K S no Γ σ H) (q : RpKL K H (Exc S Γ σ no) σ xs as) (ea : argsA Γ as = some avs) (ho : lnsOk as = true) (hr : Res K (Ent.call H avs xs (Fo S Γ σ avs xs) avs.length) avs' (xs.map some) H' x a) :
    Res K S (backA Γ as avs') σ H' x a ∧ Step Γ (backA Γ as avs') σ H H' ∧ New H Γ σ x a := by
  have r' := hr.rs
  have hl : xs.length = avs.length := by rw [q.len, argsA_len ea]
  have hl' : avs'.length = as.length := by rw [r'.lenΓ]; exact argsA_len ea
  have lentΓ : ∀ {i : Nat} {p : Addr}, (i, p) ∈ lentOf avs xs → Own Γ σ p := fun {i p} h => by
    obtain ⟨m, ds, _, g, _, e, _⟩ := lent_own r q ea h
    exact ⟨m, ds, g, e⟩
  have frame : ∀ b o, H b = some o → ¬ Own Γ σ b → H' b = some o := fun b o e n => r'.fr b o e fun ⟨i, h⟩ => n (lentΓ h)
  -- an argument on loan
  have loan : ∀ {i m : Nat} {b : AV}, as[i]? = some (.ln m) → avs'[i]? = some b → ∃ p ds, σ[m]? = some (some (.ref p)) ∧ xs[i]? = some (.ref p) ∧ (i, p) ∈ lentOf avs xs ∧ Γ[m]? = some (.ow ds) ∧ avs[i]? = some (.ow ds) := fun {i m b} e1 e2 => by
    have hi : i < avs.length := by rw [argsA_len ea]; exact ltOf e1
    obtain ⟨k, ek, eb⟩ := argsA_get ea (List.getElem?_eq_getElem hi)
    rw [e1] at ek
    cases ek
    have eb : (match Γ[m]? with | some (AV.ow ds) => some (AV.ow ds) | _ => none) = some avs[i] := eb
    split at eb
    · rename_i es g
      obtain ⟨y, ey, hy⟩ := q.get e1
      obtain ⟨p, ys, s1, s2, w⟩ := r.slots m _ g
      have hy : σ[m]? = some (some y) := hy
      rw [hy] at s1
      cases s1
      have ea' : avs[i]? = some (.ow es) := by rw [List.getElem?_eq_getElem hi, ← eb]
      exact ⟨p, es, hy, ey, lent_mem.mpr ⟨es, ea', ey⟩, g, ea'⟩
    · cases eb
  have own' : ∀ p, Own (backA Γ as avs') σ p → (Own avs' (xs.map some) p ∧ Own Γ σ p) ∨ (Own Γ σ p ∧ ¬ ∃ i, (i, p) ∈ lentOf avs xs) := fun p ⟨m, es, e1, e2⟩ => by
    rcases backA_get hl' e1 with ⟨i, h1, h2⟩ | ⟨h1, h2⟩
    · obtain ⟨p', ds, s1, s2, s3, g, _⟩ := loan h1 h2
      rw [e2] at s1
      cases s1
      exact .inl ⟨⟨i, es, h2, by rw [List.getElem?_map, s2]; rfl⟩, m, ds, g, e2⟩
    · refine .inr ⟨⟨m, es, h2, e2⟩, fun ⟨i, h⟩ => ?_⟩
      obtain ⟨m', ds, a1, g, _, s1, _⟩ := lent_own r q ea h
      have := r.dist m m' es ds p h2 g e2 s1
      subst this
      exact h1 i a1
  have ownΓ : ∀ p, Own (backA Γ as avs') σ p → Own Γ σ p := fun p z => (own' p z).elim (·.2) (·.1)
  have lentC : ∀ {i : Nat} {p : Addr}, (i, p) ∈ lentOf avs xs → (Ent.call H avs xs (Fo S Γ σ avs xs) avs.length).x p := fun h => ⟨_, h⟩
  have foN : ∀ p, S.fo p → ¬ ∃ i, (i, p) ∈ lentOf avs xs := fun p z ⟨i, h⟩ => r.nfo p (lentΓ h) z
  have sub : ∀ {ex : AP} p, Exc S (backA Γ as avs') σ ex p → Exc (Ent.call H avs xs (Fo S Γ σ avs xs) avs.length) avs' (xs.map some) ex p := fun {ex} p z => by
    rcases z with z | z | z
    · rcases own' p z with z | z
      · exact .inl z.1
      · exact .inr (.inl ⟨.inl z.1, z.2⟩)
    · exact .inr (.inl ⟨.inr z, foN p z⟩)
    · exact .inr (.inr z)
  have subΓ : ∀ {ex : AP}, (∀ p, ex p → H p = none) → ∀ b o, H b = some o → ¬ Exc S Γ σ no b → H' b = some o ∧ ¬ Exc S (backA Γ as avs') σ ex b := fun {ex} hex b o e n => by
    refine ⟨frame b o e fun z => n (.inl z), fun z => ?_⟩
    rcases z with z | z | z
    · exact n (.inl (ownΓ b z))
    · exact n (.inr (.inl z))
    · rw [hex b z] at e
      cases e
  have main : ∀ ex : AP, (∀ p, ex p → H p = none) → RS K (Ent.call H avs xs (Fo S Γ σ avs xs) avs.length) ex avs' (xs.map some) H' → RS K S ex (backA Γ as avs') σ H' := fun ex hex rc => by
    refine ⟨fun m b e => ?_, fun m1 m2 ds es p e1 e2 e3 e4 => ?_, fun b o e n => ?_, fun p z => r.own p (ownΓ p z), fun i p h => ?_, fun p z w => ?_, fun p z => r.nfo p (ownΓ p z), fun p z => ⟨?_, (r.fo p z).2⟩, r.xtr, fun b o z => ?_, r.len, by rw [backA_len]; exact r.lenΓ⟩
    · rcases backA_get hl' e with ⟨i, h1, h2⟩ | ⟨h1, h2⟩
      · obtain ⟨p, ds, s1, s2, s3, g, _⟩ := loan h1 h2
        have z := rc.slots i b h2
        rw [List.getElem?_map, s2] at z
        rw [s1]
        exact z.mono (fun b o e n => ⟨e, fun z => n (sub b z)⟩) fun _ _ _ _ _ e => e
      · refine (r.slots m b h2).mono (subΓ hex) fun ds p ys eb ep e3 => ?_
        subst eb
        refine rc.fr p _ e3 fun ⟨i, h⟩ => ?_
        obtain ⟨m', ds', a1, g, _, s1, _⟩ := lent_own r q ea h
        have := r.dist m m' ds ds' p h2 g ep s1
        subst this
        exact h1 i a1
    · rcases backA_get hl' e1 with ⟨i1, h1, h2⟩ | ⟨h1, h2⟩
      · obtain ⟨p1, d1, s1, s2, s3, g1, _⟩ := loan h1 h2
        rw [e3] at s1
        cases s1
        rcases backA_get hl' e2 with ⟨i2, k1, k2⟩ | ⟨k1, k2⟩
        · obtain ⟨p2, d2, t1, t2, t3, g2, _⟩ := loan k1 k2
          rw [e4] at t1
          cases t1
          exact r.dist m1 m2 d1 d2 p g1 g2 e3 e4
        · exact r.dist m1 m2 d1 es p g1 k2 e3 e4
      · rcases backA_get hl' e2 with ⟨i2, k1, k2⟩ | ⟨k1, k2⟩
        · obtain ⟨p2, d2, t1, t2, t3, g2, _⟩ := loan k1 k2
          exact r.dist m1 m2 ds d2 p h2 g2 e3 e4
        · exact r.dist m1 m2 ds es p h2 k2 e3 e4
    · have := r.fr b o e n
      refine rc.fr b o this fun ⟨i, h⟩ => ?_
      rcases r.own b (lentΓ h) with z | z
      · exact n z
      · rw [z] at e
        cases e
    · obtain ⟨z1, ds, z2⟩ := r.lent i p h
      refine ⟨z1, ?_⟩
      have hi : i < (backA Γ as avs').length := by
        rw [backA_len]
        exact z2.elim ltOf ltOf
      rcases backA_get hl' (List.getElem?_eq_getElem hi) with ⟨j, h1, h2⟩ | ⟨h1, h2⟩
      · obtain ⟨p1, d1, s1, s2, s3, g1, _⟩ := loan h1 h2
        rw [z1] at s1
        cases s1
        obtain ⟨_, fs, w⟩ := rc.lent j p s3
        rw [List.getElem?_eq_getElem hi, ← h2]
        exact ⟨fs, w⟩
      · rw [List.getElem?_eq_getElem hi, ← h2]
        exact ⟨ds, z2⟩
    · obtain ⟨ys, e⟩ := r.own_tr (ownΓ p z)
      rw [hex p w] at e
      cases e
    · have := (r.fo p z).1
      cases e : H p with
      | none => exact absurd e this
      | some o =>
        rw [rc.fr p o e fun ⟨i, h⟩ => foN p z ⟨i, h⟩]
        exact fun z => nomatch z
    · obtain ⟨z1, z2, z3⟩ := r.pin b o z
      refine ⟨rc.fr b o z1 fun ⟨i, h⟩ => z2 (lentΓ h), fun y => z2 (ownΓ b y), fun y => ?_⟩
      rw [hex b y] at z1
      cases z1
  refine ⟨?_, ⟨frame, ownΓ⟩, ?_⟩
  · cases a with
    | un => exact main no (fun _ z => z.elim) hr
    | dt d => exact ⟨main no (fun _ z => z.elim) hr.1, Rp.sub (fun b z => sub b z) hr.2⟩
    | ow ds =>
      obtain ⟨p, ys, e, rc, e1, w, nf, n⟩ := hr
      have hn : H p = none := n
      refine ⟨p, ys, e, main (· = p) (fun b z => by rw [z]; exact hn) rc, e1, w.sub fun b z => sub b z, (r.new hn).2.1, (r.new hn).2.2⟩
  · cases a with
    | ow ds =>
      obtain ⟨p, ys, e, rc, e1, w, nf, n⟩ := hr
      exact ⟨p, e, .inl n⟩
    | _ => trivial
end

section
variable {c : Core} {ι : Type} {v : ι → Var} {S : Ent} {Γ : List AV} {Q : AV → List AV → Prop} {e : Expr} {es : List Expr} {kws : List Keyword} {pos p : Pos} {x : Str} {k : Nat} {f : Addr} {fd : FuncData} {ps : List Str} {DS : DSp}
/-- f(e, ..) -/
theorem ed_call (F : FnG c.prog c.w c.K c.mg c.base k f fd ps (spD c.K DS)) (hr : Room k c.A) (hgu : c.A.guards = some []) (hg : ∀ i, Gl (mkX c (v i)) x) (hm : c.mg x = some (.ref f)) (hk : PySem.W.keepIn c.K (.ref f) = true) (hb : Binds c.K fd ps [])
    (hdb : (x == ("__debug__" : Str)) = false) (he : NoStar v e es) (hpl : NoStarL v pos es)
    (h : EA c v S (e :: es) Γ fun as Γ1 => ∃ avs, argsA Γ1 as = some avs ∧ lnsOk as = true ∧ DS avs fun a avs' => avs'.length = avs.length → Q a (backA Γ1 as avs')) : ED c v S (.Call (.Name x p) (e :: es) [] pos) Γ Q := fun σ H R r kk => by
  refine ⟨_, fun i => (pe_callG (X := mkX c (v i)) F hr hgu (hg i) hm hk hb (wA.pa i) hdb (he i) (hpl i)), ?_⟩
  refine h σ H _ r fun xs H1 as Γ1 ⟨avs, ea, ho, hD⟩ r1 hx s => ?_
  refine ⟨avs, _, _, hD, call_in r1 hx ea ho, fun y H2 a as' q hres => ?_⟩
  obtain ⟨z1, z2, z3⟩ := call_out r1 hx ea ho hres
  exact kk _ _ _ _ (q hres.rs.lenΓ) z1 (s.trans z2) (z3.back s)
end

/-! ### a def's body -/
abbrev coreOf (P : Program) (w : World) (K : PySem.W.Frag) (mg : Str → Option Value) (base : Heap) (A : Around) (N : List Str) (stack : List Env) : Core := ⟨P, w, K, mg, base, A, N, stack, true⟩
abbrev varOf (s : Shared) (H : Hp) (env : Env) (outer : List Env) : Unit → Var := fun _ => ⟨s, H, env, outer, [], fun _ => true, [], fun _ _ => False⟩
/-- what is left of the arguments' lists -/
def outsA (as Γ : List AV) : List AV := (as.zip Γ).map fun z => match z.1 with
  | .ow _ => z.2
  | _ => .un
/-- a def's first state, from the caller's -/
theorem entry_rs {K : PySem.W.Frag} {H : Hp} {as : List AV} {vs : List V} {fo : AP} {N ps : List Str} (rs : RS K (Ent.call H as vs fo as.length) no as (vs.map some) H) (la : as.length = ps.length) (ln : vs.length = ps.length) (hNl : ps.length ≤ N.length) :
    RS K (Ent.call H as vs fo N.length) no (as ++ List.replicate (N.length - as.length) .un) (start N vs) H := by
  have ge : ∀ {i : Nat} {b : AV}, (as ++ List.replicate (N.length - as.length) AV.un)[i]? = some b → as[i]? = some b ∨ b = .un := fun {i b} e => by
    by_cases hi : i < as.length
    · rw [List.getElem?_append_left hi] at e
      exact .inl e
    · rw [List.getElem?_append_right (by omega), List.getElem?_replicate] at e
      split at e
      · exact .inr (Option.some.inj e).symm
      · cases e
  have st0 : ∀ {i : Nat} {b : AV}, as[i]? = some b → (start N vs)[i]? = (vs.map some)[i]? := fun {i b} e => by
    have : i < (vs.map some).length := by rw [List.length_map, ln, ← la]; exact ltOf e
    unfold L2.start
    rw [List.getElem?_append_left this]
  have ow0 : ∀ q, Own (as ++ List.replicate (N.length - as.length) AV.un) (start N vs) q → Own as (vs.map some) q := fun q ⟨i, ds, e1, e2⟩ => by
    rcases ge e1 with z | z
    · exact ⟨i, ds, z, by rw [← st0 z]; exact e2⟩
    · cases z
  have sub0 : ∀ q, Exc (Ent.call H as vs fo N.length) (as ++ List.replicate (N.length - as.length) AV.un) (start N vs) no q → Exc (Ent.call H as vs fo as.length) as (vs.map some) no q := fun q z => z.elim (fun z => .inl (ow0 q z)) .inr
  refine ⟨fun i b e => ?_, fun i j ds es q e1 e2 e3 e4 => ?_, rs.fr, fun q z => rs.own q (ow0 q z), fun i q z => ?_, fun _ _ z => z, fun q z => rs.nfo q (ow0 q z), rs.fo, rs.xtr, fun _ _ z => z.elim, ?_, ?_⟩
  · rcases ge e with z | z
    · rw [st0 z]
      exact (rs.slots i b z).mono (fun b o e n => ⟨e, fun z => n (sub0 b z)⟩) fun _ _ _ _ _ e => e
    · subst z
      trivial
  · rcases ge e1 with z1 | z1
    · rcases ge e2 with z2 | z2
      · rw [st0 z1] at e3
        rw [st0 z2] at e4
        exact rs.dist i j ds es q z1 z2 e3 e4
      · cases z2
    · cases z1
  · obtain ⟨z1, ds, z2⟩ := rs.lent i q z
    have hi : i < as.length := z2.elim ltOf ltOf
    rw [List.getElem?_append_left hi]
    refine ⟨?_, ds, z2⟩
    rcases z2 with z2 | z2 <;> (rw [st0 z2]; exact z1)
  · show (start N vs).length = N.length
    unfold L2.start
    rw [List.length_append, List.length_map, List.length_replicate]; omega
  · rw [List.length_append, List.length_replicate]
    show as.length + (N.length - as.length) = N.length
    omega
/-- a def's last state, for the caller -/
theorem outs_res {K : PySem.W.Frag} {H : Hp} {as : List AV} {vs : List V} {fo : AP} {n : Nat} (rs : RS K (Ent.call H as vs fo as.length) no as (vs.map some) H) (few : as.length ≤ n) {a : AV} {Γ : List AV} {σ' : Sg} {H' : Hp} {z : V} (hres : Res K (Ent.call H as vs fo n) Γ σ' H' z a) :
    Res K (Ent.call H as vs fo as.length) (outsA as Γ) (vs.map some) H' z a := by
  have r' := hres.rs
  have go : ∀ {i : Nat} {ds : List Dt}, (outsA as Γ)[i]? = some (.ow ds) → (∃ es, as[i]? = some (.ow es)) ∧ Γ[i]? = some (.ow ds) := fun {i ds} e => by
    unfold outsA at e
    rw [List.getElem?_map] at e
    cases h1 : (as.zip Γ)[i]? with
    | none => rw [h1] at e; cases e
    | some y =>
      rw [h1] at e
      rw [List.getElem?_zip_eq_some] at h1
      obtain ⟨y1, y2⟩ := y
      cases y1 with
      | ow es =>
        cases (show y2 = AV.ow ds from Option.some.inj e)
        exact ⟨⟨es, h1.1⟩, h1.2⟩
      | un => cases (Option.some.inj e)
      | dt d => cases (Option.some.inj e)
  have gd : ∀ {i : Nat} {b : AV}, (outsA as Γ)[i]? = some b → b = .un ∨ ((∃ es, as[i]? = some (.ow es)) ∧ Γ[i]? = some b) := fun {i b} e => by
    unfold outsA at e
    rw [List.getElem?_map] at e
    cases h1 : (as.zip Γ)[i]? with
    | none => rw [h1] at e; cases e
    | some y =>
      rw [h1] at e
      rw [List.getElem?_zip_eq_some] at h1
      obtain ⟨y1, y2⟩ := y
      cases y1 with
      | ow es =>
        cases (show y2 = b from Option.some.inj e)
        exact .inr ⟨⟨es, h1.1⟩, h1.2⟩
      | un => exact .inl (Option.some.inj e).symm
      | dt d => exact .inl (Option.some.inj e).symm
  -- a lent place is where it was
  have lentV : ∀ {i : Nat} {es : List Dt}, as[i]? = some (.ow es) → ∃ q, (vs.map some)[i]? = some (some (.ref q)) ∧ σ'[i]? = some (some (.ref q)) ∧ (i, q) ∈ lentOf as vs := fun {i es} e => by
    obtain ⟨q, ys, e1, _, _⟩ := rs.slots i _ e
    have ev : vs[i]? = some (.ref q) := by
      rw [List.getElem?_map] at e1
      cases h : vs[i]? with
      | none => rw [h] at e1; cases e1
      | some y => rw [h] at e1; cases e1; rfl
    have m := lent_mem.mpr ⟨es, e, ev⟩
    exact ⟨q, e1, (r'.lent i q m).1, m⟩
  have owo : ∀ q, Own (outsA as Γ) (vs.map some) q → Own Γ σ' q := fun q ⟨i, ds, e1, e2⟩ => by
    obtain ⟨⟨es, z1⟩, z2⟩ := go e1
    obtain ⟨q', y1, y2, _⟩ := lentV z1
    rw [e2] at y1
    cases y1
    exact ⟨i, ds, z2, y2⟩
  have subo : ∀ {ex : AP} q, Exc (Ent.call H as vs fo as.length) (outsA as Γ) (vs.map some) ex q → Exc (Ent.call H as vs fo n) Γ σ' ex q := fun {ex} q z => z.elim (fun z => .inl (owo q z)) .inr
  have rso : ∀ ex : AP, RS K (Ent.call H as vs fo n) ex Γ σ' H' → RS K (Ent.call H as vs fo as.length) ex (outsA as Γ) (vs.map some) H' := fun ex rc => by
    refine ⟨fun i b e => ?_, fun i j ds es q e1 e2 e3 e4 => ?_, rc.fr, fun q z => rc.own q (owo q z), fun i q z => ?_, fun q z => rc.nex q (owo q z), fun q z => rc.nfo q (owo q z), rc.fo, rc.xtr, fun _ _ z => z.elim, rs.len, ?_⟩
    · rcases gd e with z | ⟨⟨es, z1⟩, z2⟩
      · subst z
        trivial
      · obtain ⟨q, y1, y2, _⟩ := lentV z1
        rw [y1, ← y2]
        exact (rc.slots i b z2).mono (fun b o e n => ⟨e, fun z => n (subo b z)⟩) fun _ _ _ _ _ e => e
    · obtain ⟨⟨_, z1⟩, z2⟩ := go e1
      obtain ⟨⟨_, w1⟩, w2⟩ := go e2
      obtain ⟨q1, y1, y2, _⟩ := lentV z1
      obtain ⟨q2, x1, x2, _⟩ := lentV w1
      rw [e3] at y1
      cases y1
      rw [e4] at x1
      cases x1
      exact rc.dist i j ds es q z2 w2 y2 x2
    · obtain ⟨z1, _⟩ := rs.lent i q z
      obtain ⟨_, ds, z2⟩ := rc.lent i q z
      obtain ⟨es, z3, _⟩ := lent_mem.mp z
      refine ⟨z1, ds, ?_⟩
      have : (outsA as Γ)[i]? = Γ[i]? := by
        unfold outsA
        rw [List.getElem?_map]
        have hz : ∃ y, Γ[i]? = some y := z2.elim (fun z => ⟨_, z⟩) fun z => ⟨_, z⟩
        obtain ⟨y, hy⟩ := hz
        have : (as.zip Γ)[i]? = some (AV.ow es, y) := List.getElem?_zip_eq_some.mpr ⟨z3, hy⟩
        rw [this, hy]
        rfl
      rw [this]
      exact z2
    · unfold outsA
      rw [List.length_map, List.length_zip, rc.lenΓ]
      show min as.length n = as.length
      omega
  cases a with
  | un => exact rso _ hres
  | dt d => exact ⟨rso _ hres.1, Rp.sub (fun b z => subo b z) hres.2⟩
  | ow ds =>
    obtain ⟨q, ys, e, rc, e1, w1, nf, n⟩ := hres
    exact ⟨q, ys, e, rso _ rc, e1, w1.sub fun b z => subo b z, nf, n⟩
theorem FnG.of {P : Program} {w : World} {K : PySem.W.Frag} {mg : Str → Option Value} {base : Heap} {x qual : Str} {st : Stmt} {f : Addr} {fd : FuncData} {N ps : List Str} {k : Nat} {DS : DSp} (F : Fun K x qual st f fd) (SC : FnScope N ps (defScope st)) (hn : ∀ as post, DS as post → as.length = ps.length)
    (hbody : ∀ (cdv : Value) (A : Around) (outer : List Env) (s : Shared) (H : Hp) (vs : List V) (fo : AP) (as : List AV) (post : AV → List AV → Prop), Room k (A.deeper (envOfC qual (defScope st) s.heap.objs.size f cdv)) → A.guards = some [] → DS as post →
      BD (coreOf P w K mg base (A.deeper (envOfC qual (defScope st) s.heap.objs.size f cdv)) N (envOfC qual (defScope st) s.heap.objs.size f cdv :: outer)) (varOf s H (envOfC qual (defScope st) s.heap.objs.size f cdv) outer) (Ent.call H as vs fo N.length) (defBody st)
        { nx := fun Γ => post (.dt .non) (outsA as Γ), rt := fun a Γ => post a (outsA as Γ) } (as ++ List.replicate (N.length - as.length) .un)) : FnG P w K mg base (k + 1) f fd ps (spD K DS) := by
  obtain ⟨oc, od, kV, doc, pm, an, cdv, ct, osl, rfl, lk, hcd⟩ := F.ex; refine ⟨fun vs H Q E h => spD_len hn h, fun A outer s H args us vs Q hr hgu e0 hb rv h => ?_⟩
  have ln : vs.length = ps.length := spD_len hn h
  have inK : K.In s.heap := e0.mod.kin.keeps (fun b o z => (e0.bs b o z).1)
  have nolim : s.heap.NoLimit := e0.mod.nolimit.keeps (fun b o z => (e0.bs b o z).1)
  have kinds : ∀ y ∈ ps.zip us, (defScope st).names.lookup y.1 = some .local ∨ ((defScope st).names.lookup y.1 = some .cell ∧ ((cellsFrom (s.heap.objs.size + 1) (defScope st).names []).lookup y.1).isSome = true) := by
    rintro ⟨n, u⟩ hy
    rcases SC.par n (List.of_mem_zip hy).1 with z | z
    · exact .inl z
    · exact .inr ⟨z, PySem.W.cellsFrom_some _ _ _ (.inl z)⟩
  refine codeAny_call_function hr.depth (inK _ _ lk) rfl SC.co SC.gen rfl (PySem.W.codeRec_of inK hcd) (hb _ _ _ _ (wpAny_newFunctionEnv_cells SC.kind kinds fun env henv s1 ic => ?_))
  subst henv
  refine ⟨nolim.keeps ic.toInCall.keep, codeAny_func ?_⟩
  -- the body
  obtain ⟨as, fo, post, hD, rs, hQ⟩ := h
  have la : as.length = ps.length := hn as post hD
  have hNl : ps.length ≤ N.length := by
    have := congrArg List.length SC.pre
    rw [List.length_take] at this
    omega
  have room : Room k (A.deeper (envOfC qual (defScope st) s.heap.objs.size f cdv)) := hr.deeper _
  have bd := hbody cdv A outer s H vs fo as post room hgu hD
  have I0 : Inv (cxOf CX0 P w K mg base N qual (defScope st) f cdv A outer s H E0) [] (start N vs) H s1 := inv_start SC hr.hd e0 ln rv ic
  have I1 : Inv (mkX (coreOf P w K mg base (A.deeper (envOfC qual (defScope st) s.heap.objs.size f cdv)) N (envOfC qual (defScope st) s.heap.objs.size f cdv :: outer)) (varOf s H (envOfC qual (defScope st) s.heap.objs.size f cdv) outer ())) [] (start N vs) H s1 := I0.wish _
  have rs0 := entry_rs rs la ln hNl
  have fin : ∀ (a : AV) (Γ : List AV) (σ' : Sg) (H' : Hp) (z : V), post a (outsA as Γ) → Res K (Ent.call H as vs fo N.length) Γ σ' H' z a → Q z H' := fun a Γ σ' H' z hp hres => hQ z H' a (outsA as Γ) hp (outs_res rs (by omega) hres)
  obtain ⟨t, ht, hq⟩ := bd { nx := fun _ H' => Q .non H', rt := Q } (start N vs) H ⟨fun Γ σ' H' hp hr => fin (.dt .non) Γ σ' H' .non hp ⟨hr, .non⟩, fun a Γ σ' H' z hp hr => fin a Γ σ' H' z hp hr, fun _ _ _ z => z.elim, fun _ _ _ z => z.elim⟩ rs0
  refine wpAny_mono ((ht ()).run [] s1 (start N vs) H _ I1 hq) (fun fl s' hs => ?_) fun e s' hs => hs.elim
  have done : ∀ {σ' : Sg} {H' : Hp} {z : V} {u : Value}, Inv (mkX (coreOf P w K mg base (A.deeper (envOfC qual (defScope st) s.heap.objs.size f cdv)) N (envOfC qual (defScope st) s.heap.objs.size f cdv :: outer)) (varOf s H (envOfC qual (defScope st) s.heap.objs.size f cdv) outer ())) [] σ' H' s' → RelV z u → Q z H' → CE outer P w H s Q u s' :=
    fun {σ' H' z u} J hrel hq => ⟨z, H', J.os, J.bare, J.base, J.hok, hrel, hq⟩
  cases fl with
  | ret u =>
    obtain ⟨z, σ', H', J, hrel, hq⟩ := hs
    exact done J hrel hq
  | next =>
    obtain ⟨σ', H', J, hq⟩ := hs
    exact done (z := V.non) (u := Value.none) J rfl hq
  | brk => obtain ⟨_, _, _, hq⟩ := hs; exact hq.elim
  | cont => obtain ⟨_, _, _, hq⟩ := hs; exact hq.elim
end DL

namespace DL
open PySem PySem.Spec
open PyProof.Rows L2

/-! ### operators whose rule the values choose -/
section
variable {X : Cx}
theorem OpR.or2 {f : Value → Value → Sem Value} {r r' : R2} (h : OpR X f r) (h' : OpR X f r') : OpR X f (fun x y H Q => r x y H Q ∨ r' x y H Q) := by
  intro pins s σ H x y v u Q I rx ry q; rcases q with q | q
  · exact h _ _ _ _ _ _ _ _ _ I rx ry q
  · exact h' _ _ _ _ _ _ _ _ _ I rx ry q
/-- ** of ints whose power has less than 2 ^ 27 bits -/
def CPowW (i j : Int) : Prop := 0 ≤ j ∧ (Builtin.Int.intBits i : Int) * j ≤ 2 ^ 27
theorem op_powW : OpR X (binaryOp .Pow) (rI CPowW fun i j => .int (i ^ j.toNat)) := by
  intro pins s σ H x y v u Q I rx ry h; obtain ⟨i, j, rfl, rfl, ⟨h0, h1⟩, q⟩ := h
  obtain ⟨t, rfl⟩ := rx
  obtain ⟨t', rfl⟩ := ry
  exact pow_int h0 h1 ⟨.int _, H, I.tok _, ⟨_, rfl⟩, q⟩
theorem bits_le {i : Int} {n : Nat} (h : i.natAbs < 2 ^ n) : Builtin.Int.intBits i ≤ n := by
  unfold Builtin.Int.intBits
  split
  · omega
  · rename_i hi
    have : i.natAbs ≠ 0 := by simpa using hi
    have := (Nat.log2_lt this).mpr h
    omega
theorem powW_ok {i j : Int} {n : Nat} (h : i.natAbs < 2 ^ n) (h0 : 0 ≤ j) (h1 : (n : Int) * j ≤ 2 ^ 27) : CPowW i j := by
  refine ⟨h0, Int.le_trans (Int.mul_le_mul_of_nonneg_right ?_ h0) h1⟩
  exact Int.ofNat_le.mpr (bits_le h)
end
section
variable {c : Core} {ι : Type} {v : ι → Var} {S : Ent} {Γ : List AV} {Q : AV → List AV → Prop} {QK : AK → List AV → Prop} {e a b : Expr} {es : List Expr} {pos p2 : Pos}
theorem akT_whole {K : PySem.W.Frag} {H : Hp} {ex : AP} {σ : Sg} {j : AK} {gs : List Dt} {z : V} (e : akT Γ j = some gs) (q : RpK K H ex σ z j) : Rp K H ex z (.tup gs) := by
  rcases j with (_ | d | es) | i
  · cases e
  · cases d with
    | tup es => cases e; exact q
    | _ => cases e
  · cases e
  · cases e
/-- what + gives -/
def AddR (Q : AV → List AV → Prop) (k l : AK) (Γ : List AV) : Prop :=
  (∃ i j, akD Γ k = some (.int i) ∧ akD Γ l = some (.int j) ∧ Q (.dt (.int (i + j))) Γ) ∨
  (∃ ds es, akT Γ k = some ds ∧ akT Γ l = some es ∧ ds.length + es.length ≤ 1000 ∧ Q (.dt (.tup (ds ++ es))) Γ) ∨
  (∃ ds es, akL Γ k = some ds ∧ akL Γ l = some es ∧ noScr k = true ∧ noScr l = true ∧ ds.length + es.length ≤ 1000000 ∧ Q (.ow (ds ++ es)) Γ) ∨
  (∃ x y : Str, akD Γ k = some (.str x) ∧ akD Γ l = some (.str y) ∧ x.length + y.length ≤ 1000000 ∧ Q (.dt (.str (x ++ y))) Γ)
theorem ed_add (h : EK c v S a Γ fun k Γ1 => EK c v S b Γ1 fun l Γ2 => AddR Q k l Γ2) : ED c v S (.BinOp a .Add b pos) Γ Q := fun σ H R r kk =>
  ⟨_, fun i => pe_op (OpR.or2 op_add (OpR.or2 (show OpR (mkX c (v i)) (binaryOp .Add) (rCatA c.K) from op_catA) (OpR.or2 op_cat op_add_str))) (wE.pe i) (wE.pe i), EK.two h r fun x y H' k l Γ' q r' hk hl s => by
    rcases q with ⟨i, j, e1, e2, q⟩ | ⟨ds, es, e1, e2, hz, q⟩ | ⟨ds, es, e1, e2, n1, n2, hz, q⟩ | ⟨i, j, e1, e2, hz, q⟩
    · cases akD_of e1 hk
      cases akD_of e2 hl
      exact .inl ⟨i, j, rfl, rfl, kk _ _ _ _ q ⟨r', .int _⟩ s trivial⟩
    · have w1 := akT_whole e1 hk
      have w2 := akT_whole e2 hl
      obtain ⟨p1, xs, rfl, hs1, hx⟩ := akT_of e1 hk
      obtain ⟨p2, ys, rfl, hs2, hy⟩ := akT_of e2 hl
      refine .inr (.inl ⟨p1, p2, xs, ys, rfl, rfl, .of hs1, .of hs2, ?_, fun z => ?_, fun _ z => ?_, fun _ _ p hn => kk _ _ _ _ q (Res.newT r' hn (hx.append hy)) (s.alloc hn) trivial⟩)
      · rw [hx.len, hy.len]
        exact line1 (by omega)
      · subst z
        have : ds = [] := List.length_eq_zero_iff.mp hx.len.symm
        subst this
        exact kk _ _ _ _ q ⟨r', w2⟩ s trivial
      · subst z
        have : es = [] := List.length_eq_zero_iff.mp hy.len.symm
        subst this
        rw [List.append_nil] at q
        exact kk _ _ _ _ q ⟨r', w1⟩ s trivial
    · obtain ⟨p1, xs, rfl, hs1, hx⟩ := akL_trk e1 (noScr_of n1) r' hk
      obtain ⟨p2, ys, rfl, hs2, hy⟩ := akL_trk e2 (noScr_of n2) r' hl
      refine .inr (.inr (.inl ⟨p1, p2, xs, ys, rfl, rfl, hs1, hs2, ?_, fun p hn => kk _ _ _ _ q (Res.newL r' hn (hx.append hy)) (s.alloc hn) (New.ofL s hn)⟩))
      rw [hx.len, hy.len]
      exact line1 (by omega)
    · cases akD_of e1 hk
      cases akD_of e2 hl
      exact .inr (.inr (.inr ⟨i, j, rfl, rfl, line1 hz, kk _ _ _ _ q ⟨r', .str _⟩ s trivial⟩))⟩
def MulR (Q : AV → List AV → Prop) (k l : AK) (Γ : List AV) : Prop :=
  (∃ i j, akD Γ k = some (.int i) ∧ akD Γ l = some (.int j) ∧ CMulW i j ∧ Q (.dt (.int (i * j))) Γ) ∨
  (∃ ds n, akL Γ k = some ds ∧ noScr k = true ∧ akD Γ l = some (.int n) ∧ (-1000000 ≤ n ∧ n ≤ 1000000 ∧ ds.length * n.toNat ≤ 1000000) ∧ Q (.ow (List.replicate n.toNat ds).flatten) Γ)
theorem ed_mul (h : EK c v S a Γ fun k Γ1 => EK c v S b Γ1 fun l Γ2 => MulR Q k l Γ2) : ED c v S (.BinOp a .Mult b pos) Γ Q := fun σ H R r kk =>
  ⟨_, fun i => pe_op (OpR.or2 op_mulW op_rep) (wE.pe i) (wE.pe i), EK.two h r fun x y H' k l Γ' q r' hk hl s => by
    rcases q with ⟨i, j, e1, e2, hc, q⟩ | ⟨ds, n, e1, n1, e2, ⟨h1, h2, hz⟩, q⟩
    · cases akD_of e1 hk
      cases akD_of e2 hl
      exact .inl ⟨i, j, rfl, rfl, hc, kk _ _ _ _ q ⟨r', .int _⟩ s trivial⟩
    · obtain ⟨p1, xs, rfl, hs1, hx⟩ := akL_trk e1 (noScr_of n1) r' hk
      cases akD_of e2 hl
      refine .inr ⟨p1, n, xs, rfl, rfl, hs1, by omega, by omega, ?_, fun p hn => kk _ _ _ _ q (Res.newL r' hn (hx.rep _)) (s.alloc hn) (New.ofL s hn)⟩
      rw [hx.len]
      exact line1 (by omega)⟩
/-- int operators with a condition: -, //, %, ** -/
def IntR (C : Int → Int → Prop) (g : Int → Int → Int) (Q : AV → List AV → Prop) (k l : AK) (Γ : List AV) : Prop := ∃ i j, akD Γ k = some (.int i) ∧ akD Γ l = some (.int j) ∧ C i j ∧ Q (.dt (.int (g i j))) Γ
theorem ed_intop {op : Operator} {C : Int → Int → Prop} {g : Int → Int → Int} (ho : ∀ i, OpR (mkX c (v i)) (binaryOp op) (rI C fun i j => .int (g i j))) (h : EK c v S a Γ fun k Γ1 => EK c v S b Γ1 fun l Γ2 => IntR C g Q k l Γ2) : ED c v S (.BinOp a op b pos) Γ Q := fun σ H R r kk =>
  ⟨_, fun i => pe_op (ho i) (wE.pe i) (wE.pe i), EK.two h r fun x y H' k l Γ' ⟨i, j, e1, e2, hc, q⟩ r' hk hl s => by
    cases akD_of e1 hk
    cases akD_of e2 hl
    exact ⟨i, j, rfl, rfl, hc, kk _ _ _ _ q ⟨r', .int _⟩ s trivial⟩⟩
theorem op_subC {X : Cx} : OpR X (binaryOp .Sub) (rI (fun _ _ => True) fun i j => .int (i - j)) := fun pins s σ H x y v u Q I rx ry ⟨i, j, e1, e2, _, q⟩ => op_sub pins s σ H x y v u Q I rx ry ⟨i, j, e1, e2, q⟩
theorem ed_sub (h : EK c v S a Γ fun k Γ1 => EK c v S b Γ1 fun l Γ2 => IntR (fun _ _ => True) (fun i j => i - j) Q k l Γ2) : ED c v S (.BinOp a .Sub b pos) Γ Q := ed_intop (fun _ => op_subC) h
theorem ed_mod (h : EK c v S a Γ fun k Γ1 => EK c v S b Γ1 fun l Γ2 => IntR (fun _ j => j ≠ 0) (fun i j => i.fmod j) Q k l Γ2) : ED c v S (.BinOp a .Mod b pos) Γ Q := ed_intop (fun _ => op_modN) h
theorem ed_div (h : EK c v S a Γ fun k Γ1 => EK c v S b Γ1 fun l Γ2 => IntR CDivW (fun i j => i / j) Q k l Γ2) : ED c v S (.BinOp a .FloorDiv b pos) Γ Q := ed_intop (fun _ => op_fdivW) h
theorem ed_pow (h : EK c v S a Γ fun k Γ1 => EK c v S b Γ1 fun l Γ2 => IntR CPowW (fun i j => i ^ j.toNat) Q k l Γ2) : ED c v S (.BinOp a .Pow b pos) Γ Q := ed_intop (fun _ => op_powW) h
theorem ed_neg (h : ED c v S a Γ fun x Γ' => ∃ i, x = .dt (.int i) ∧ Q (.dt (.int (-i))) Γ') : ED c v S (.UnaryOp .USub a pos) Γ Q := fun σ H R r kk =>
  ⟨_, fun i => pe_un un_neg (wE.pe i), h σ H _ r fun x H' u Γ' ⟨i, e, q⟩ hr s _ => by
    subst e
    obtain ⟨r', z⟩ := hr
    cases z
    exact ⟨i, rfl, kk _ _ _ _ q ⟨r', .int _⟩ s trivial⟩⟩
/-- comparisons of ints -/
def CmpR (g : Int → Int → Bool) (Q : AV → List AV → Prop) (k l : AK) (Γ : List AV) : Prop := ∃ i j, akD Γ k = some (.int i) ∧ akD Γ l = some (.int j) ∧ Q (.dt (.bl (g i j))) Γ
theorem ed_cmp {op : CmpOp} {g : Int → Int → Bool} (ho : ∀ i, OpR (mkX c (v i)) (compareOp op) (rI0 fun i j => .bl (g i j))) (hm : behindInMarks op b = false) (h : EK c v S a Γ fun k Γ1 => EK c v S b Γ1 fun l Γ2 => CmpR g Q k l Γ2) : ED c v S (.Compare a [op] [b] pos) Γ Q := fun σ H R r kk =>
  ⟨_, fun i => pe_cmpR (ho i) (wE.pe i) (wE.pe i) hm, EK.two h r fun x y H' k l Γ' ⟨i, j, e1, e2, q⟩ r' hk hl s => by
    cases akD_of e1 hk
    cases akD_of e2 hl
    exact ⟨i, j, rfl, rfl, kk _ _ _ _ q ⟨r', .bl _⟩ s trivial⟩⟩
theorem ed_lt (h : EK c v S a Γ fun k Γ1 => EK c v S b Γ1 fun l Γ2 => CmpR (fun i j => decide (i < j)) Q k l Γ2) : ED c v S (.Compare a [.Lt] [b] pos) Γ Q := ed_cmp (fun _ => op_lt) (nomark _) h
theorem ed_le (h : EK c v S a Γ fun k Γ1 => EK c v S b Γ1 fun l Γ2 => CmpR (fun i j => decide (i ≤ j)) Q k l Γ2) : ED c v S (.Compare a [.LtE] [b] pos) Γ Q := ed_cmp (fun _ => op_le) (nomark _) h
theorem ed_gt (h : EK c v S a Γ fun k Γ1 => EK c v S b Γ1 fun l Γ2 => CmpR (fun i j => decide (j < i)) Q k l Γ2) : ED c v S (.Compare a [.Gt] [b] pos) Γ Q := ed_cmp (fun _ => op_gt) (nomark _) h
theorem ed_ge (h : EK c v S a Γ fun k Γ1 => EK c v S b Γ1 fun l Γ2 => CmpR (fun i j => decide (j ≤ i)) Q k l Γ2) : ED c v S (.Compare a [.GtE] [b] pos) Γ Q := ed_cmp (fun _ => op_ge) (nomark _) h
/-- x is None -/
def Dt.isNon : Dt → Option Bool
  | .non => some true
  | .raw _ => none
  | _ => some false
theorem ed_isN {k : Nat} {pn : Pos} (h : ED c v S a Γ fun x Γ' => ∃ d t, akD Γ' (.d x) = some d ∧ d.isNon = some t ∧ Q (.dt (.bl t)) Γ') : ED c v S (.Compare a [.Is] [.Constant .none k pn] pos) Γ Q := fun σ H R r kk =>
  ⟨_, fun i => pe_cmp (pc_isN (wE.pe i)) rfl, h σ H _ r fun x H' u Γ' ⟨d, t, e1, e2, q⟩ hr s _ => by
    have z := akD_of (σ := σ) e1 hr.rpa
    have : decide (x = .non) = t := by
      cases z <;> cases e2 <;> rfl
    rw [this]
    exact kk _ _ _ _ q ⟨hr.rs, .bl _⟩ s trivial⟩
theorem ed_notN {k : Nat} {pn : Pos} (h : ED c v S a Γ fun x Γ' => ∃ d t, akD Γ' (.d x) = some d ∧ d.isNon = some t ∧ Q (.dt (.bl (!t))) Γ') : ED c v S (.Compare a [.IsNot] [.Constant .none k pn] pos) Γ Q := fun σ H R r kk =>
  ⟨_, fun i => pe_cmp (pc_notN (wE.pe i)) rfl, h σ H _ r fun x H' u Γ' ⟨d, t, e1, e2, q⟩ hr s _ => by
    have z := akD_of (σ := σ) e1 hr.rpa
    have : decide (x = .non) = t := by
      cases z <;> cases e2 <;> rfl
    rw [this]
    exact kk _ _ _ _ q ⟨hr.rs, .bl _⟩ s trivial⟩
end
end DL

namespace DL
open PySem PySem.Spec
open PyProof.Rows L2

mutual
/-- plain data as the library's data -/
def Dt.py : Dt → Option PyData
  | .non => some .none
  | .bl b => some (.bool b)
  | .int i => some (.int i)
  | .str s => some (.str s)
  | .tup xs => (Dt.pyAll xs).map .tuple
  | .lst xs => (Dt.pyAll xs).map .list
  | .dct [] [] => some (.dict [])
  | .dct _ _ => none
  | .raw _ => none
  | .scr _ => none
  | .obj _ => none
  | .exa _ _ => none
def Dt.pyAll : List Dt → Option (List PyData)
  | [] => some []
  | x :: xs => match x.py, Dt.pyAll xs with
    | some x, some xs => some (x :: xs)
    | _, _ => none
end
mutual
/-- no list stands within -/
def Dt.noL : Dt → Bool
  | .lst _ => false
  | .tup xs => Dt.noLAll xs
  | _ => true
def Dt.noLAll : List Dt → Bool
  | [] => true
  | x :: xs => x.noL && Dt.noLAll xs
end
section
variable {X : Cx} {pins : List (Addr × Obj)} {σ : Sg} {H : Hp} {ex : AP} {s : Shared}
mutual
theorem Rp.reads (I : Inv X pins σ H s) : ∀ {d : Dt} {x : V} {u : Value} {pd : PyData}, Rp X.K H ex x d → RelV x u → d.py = some pd → ∃ as, Reads s.heap u pd as ∧ (d.noL = true → sysModules ∉ as)
  | .non, _, _, _, .non, r, e => by
    cases e
    cases r
    exact ⟨_, .none, fun _ z => nomatch z⟩
  | .bl b, _, _, _, .bl _, r, e => by
    cases e
    cases r
    exact ⟨_, .bool b, fun _ z => nomatch z⟩
  | .int i, _, _, _, .int _, r, e => by
    cases e
    obtain ⟨t, rfl⟩ := r
    exact ⟨_, .int i t, fun _ z => nomatch z⟩
  | .str x, _, _, _, .str _, r, e => by
    cases e
    obtain ⟨t, rfl⟩ := r
    exact ⟨_, .str x t, fun _ z => nomatch z⟩
  | .tup ds, _, _, _, .tup h n q, r, e => by
    cases (show _ = Value.ref _ from r)
    simp only [Dt.py] at e
    cases hp : Dt.pyAll ds with
    | none => rw [hp] at e; cases e
    | some pds =>
      rw [hp] at e
      cases e
      obtain ⟨its, rv, ⟨o, ho, hc, n, hd⟩, _⟩ := I.tuple (.of h)
      obtain ⟨as, hr, hs⟩ := RpL.readsAll I q rv hp
      exact ⟨_, .tuple ho hc hd hr, fun z => hs (by simpa [Dt.noL] using z)⟩
  | .lst ds, _, _, _, .lst h n q, r, e => by
    cases (show _ = Value.ref _ from r)
    simp only [Dt.py] at e
    cases hp : Dt.pyAll ds with
    | none => rw [hp] at e; cases e
    | some pds =>
      rw [hp] at e
      cases e
      obtain ⟨its, rv, ⟨o, n, ho, hc, _, hd⟩, _⟩ := I.list (.of h)
      obtain ⟨as, hr, hs⟩ := RpL.readsAll I q rv hp
      exact ⟨_, .list ho hc hd hr, fun z => by simp [Dt.noL] at z⟩
  | .dct [] [], _, _, _, .dct0 (a := a) h n, r, e => by
    cases (show _ = Value.ref _ from r)
    cases (show some (PyData.dict []) = some _ from e)
    obtain ⟨_, hs, vs, kv, o, es, ep, ho, hx, hd, hm⟩ := (show ObjOk X.prog X.w H s.heap a (.dK []) from I.hok a _ h)
    cases kv
    have hes : es.toList = [] := by
      have := hm.2.1
      generalize es.toList = l at this
      cases this
      rfl
    refine ⟨_, .dict ho hx.1 hd (as := []) (bs := []) ?_ ?_, fun _ z => ?_⟩
    · rw [hes]
      exact .nil
    · rw [hes]
      exact .nil
    · have : sysModules = a := by simpa using z
      rw [this] at hs
      simp at hs
theorem RpL.readsAll (I : Inv X pins σ H s) : ∀ {ds : List Dt} {xs : List V} {us : List Value} {pds : List PyData}, RpL X.K H ex xs ds → Vals xs us → Dt.pyAll ds = some pds → ∃ as, ReadsAll s.heap us pds as ∧ (Dt.noLAll ds = true → sysModules ∉ as)
  | [], _, _, _, .nil, r, e => by
    cases e
    cases r
    exact ⟨_, .nil, fun _ z => nomatch z⟩
  | d :: ds, _, _, _, .cons h t, r, e => by
    cases r with
    | cons r1 r2 =>
      simp only [Dt.pyAll] at e
      cases h1 : d.py with
      | none => rw [h1] at e; cases e
      | some pd =>
        cases h2 : Dt.pyAll ds with
        | none => rw [h1, h2] at e; cases e
        | some pds =>
          rw [h1, h2] at e
          cases e
          obtain ⟨as, q1, n1⟩ := Rp.reads I h r1 h1
          obtain ⟨bs, q2, n2⟩ := RpL.readsAll I t r2 h2
          refine ⟨_, .cons q1 q2, fun z => ?_⟩
          have z := Bool.and_eq_true_iff.mp (show (d.noL && Dt.noLAll ds) = true by simpa [Dt.noLAll] using z)
          exact fun y => (List.mem_append.mp y).elim (n1 z.1) (n2 z.2)
end
/-- what repr shows -/
structure Shows (d : Dt) (pd : PyData) : Prop where
  py : d.py = some pd
  sh : pd.showable = true
  lf : pd.leavesShort 1921 = true
  bu : pd.bulk ≤ 5000
  dp : pd.depth ≤ 60
  dc : pd.hasDict = true → d.noL = true
theorem Shows.fits {d : Dt} {pd : PyData} (h : Shows d pd) : pd.shown.length ≤ sizeLine := by
  have := PyData.shown_le_bulk 1921 (by omega) pd h.lf
  have := h.bu
  rw [sizeLine_eq]
  omega
def rRepr (K : PySem.W.Frag) : List V → Hp → VK → Prop := fun xs H Q => ∃ x d pd ex, xs = [x] ∧ Rp K H ex x d ∧ Shows d pd ∧ Q (.str pd.shown) H
theorem call_reprD (hg : X.A.guards = some []) (hu : X.A.units + 64 < cLine) : CallR X (.builtin "repr") (rRepr X.K) := by
  intro pins s σ H xs us Q I r h; obtain ⟨x, d, pd, ex, rfl, hr, hs, q⟩ := h
  obtain ⟨u, rfl, ru⟩ := r.one
  have fit := hs.fits
  have ref : ∀ {a : Addr}, u = .ref a → wpAny (model X.prog X.w) X.A (call (.builtin "repr") [u]) (EP X pins σ Q) X.xe s := fun {a} e => by
    obtain ⟨as, rd, nd⟩ := Rp.reads I hr ru hs.py
    subst e
    have dp := hs.dp
    exact repr_of_reads' rd hs.sh (fun z => nd (hs.dc z)) hg (by omega) (fun _ _ z => z) (fun h' t tk hk => ⟨.str pd.shown, H, I.kept hk, ⟨_, rfl⟩, q⟩) fit
  cases hr with
  | non =>
    cases hs.py
    cases ru
    exact P.repr_of_none ⟨.str _, H, I.tok _, ⟨_, rfl⟩, q⟩
  | bl b =>
    cases hs.py
    cases ru
    exact P.repr_of_bool ⟨.str _, H, I.tok _, ⟨_, rfl⟩, q⟩
  | int i =>
    cases hs.py
    obtain ⟨t, rfl⟩ := ru
    exact P.repr_of_int (by simpa [PyData.showable] using hs.sh) ⟨.str _, H, I.tok _, ⟨_, rfl⟩, q⟩
  | str y =>
    cases hs.py
    obtain ⟨t, rfl⟩ := ru
    exact P.repr_of_str ⟨.str _, H, I.tok _, ⟨_, rfl⟩, q⟩ fit
  | raw y => cases hs.py
  | tup _ _ _ => exact ref ru
  | lst _ _ _ => exact ref ru
  | dct0 _ _ => exact ref ru
  | scrF _ _ => cases hs.py
  | scrK _ => cases hs.py
  | obj _ _ => cases hs.py
  | exa _ _ _ _ => cases hs.py
end

section
variable {c : Core} {ι : Type} {v : ι → Var} {S : Ent} {Γ : List AV} {Q : AV → List AV → Prop} {e a b : Expr} {es : List Expr} {pos : Pos}
def pRepr : List AK → List AV → (AV → List AV → Prop) → Prop := fun as Γ Q => ∃ k d pd, as = [k] ∧ akD Γ k = some d ∧ Shows d pd ∧ Q (.dt (.str pd.shown)) Γ
theorem cb_repr : CB c S (rRepr c.K) pRepr := by
  rintro as Γ Q σ H xs R ⟨k, d, pd, rfl, e, hs, q⟩ r hx kk
  obtain ⟨x, rfl, hk⟩ := hx.one
  exact ⟨x, d, pd, _, rfl, akD_of e hk, hs, kk _ _ _ _ q ⟨r, .str _⟩ .refl trivial⟩
/-- == and != of data -/
def rEqP (K : PySem.W.Frag) (g : Bool → Bool) : R2 := fun x y H Q => ∃ d e pd pe ex, Rp K H ex x d ∧ Rp K H ex y e ∧ d.py = some pd ∧ e.py = some pe ∧ SeqAt.shaped pd = true ∧ SeqAt.shaped pe = true ∧ Q (.bl (g (PyData.eqv pd pe))) H
theorem op_eqP {X : Cx} (hu : X.A.units + 64 < cLine) : OpR X (compareOp .Eq) (rEqP X.K id) := by
  intro pins s σ H x y v u Q I rx ry h; obtain ⟨d, e, pd, pe, ex, hd, he, p1, p2, sd, se, q⟩ := h
  obtain ⟨as, r1, _⟩ := Rp.reads I hd rx p1
  obtain ⟨bs, r2, _⟩ := Rp.reads I he ry p2
  exact (SeqAt.compareEq_shaped r1 r2 sd se hu ⟨.bl _, H, I, rfl, q⟩)
theorem op_neP {X : Cx} (hu : X.A.units + 64 < cLine) : OpR X (compareOp .NotEq) (rEqP X.K not) := by
  intro pins s σ H x y v u Q I rx ry h; obtain ⟨d, e, pd, pe, ex, hd, he, p1, p2, sd, se, q⟩ := h
  obtain ⟨as, r1, _⟩ := Rp.reads I hd rx p1
  obtain ⟨bs, r2, _⟩ := Rp.reads I he ry p2
  exact (SeqAt.compareNe_shaped r1 r2 sd se hu ⟨.bl _, H, I, rfl, q⟩)
def akDL (Γ : List AV) (k : AK) : Option Dt := (akD Γ k).or ((akL Γ k).map .lst)
theorem akDL_of {K : PySem.W.Frag} {H : Hp} {σ : Sg} {x : V} {k : AK} {d : Dt} (e : akDL Γ k = some d) (r : RS K S no Γ σ H) (q : RpK K H (Exc S Γ σ no) σ x k) : Rp K H no x d := by
  unfold akDL at e
  cases h : akD Γ k with
  | some d' =>
    rw [h] at e
    cases e
    exact (akD_of h q).sub fun _ z => z.elim
  | none =>
    rw [h] at e
    rcases k with (_ | d' | es) | i
    · cases e
    · cases h
    · cases h
    · have e' : ((match Γ[i]? with | some (AV.ow ds) => some ds | _ => none).map Dt.lst) = some d := e
      split at e'
      · rename_i es g
        cases e'
        obtain ⟨p, xs, e1, e2, q2⟩ := r.slots i _ g
        have q' : σ[i]? = some (some x) := q
        rw [q'] at e1
        cases e1
        exact .lst e2 id (q2.sub fun _ z => z.elim)
      · cases e'
def EqR (g : Bool → Bool) (Q : AV → List AV → Prop) (k l : AK) (Γ : List AV) : Prop := ∃ d e pd pe, akDL Γ k = some d ∧ akDL Γ l = some e ∧ d.py = some pd ∧ e.py = some pe ∧ (SeqAt.shaped pd = true ∧ SeqAt.shaped pe = true) ∧ Q (.dt (.bl (g (PyData.eqv pd pe)))) Γ
theorem ed_eq (hu : c.A.units + 64 < cLine) (h : EK c v S a Γ fun k Γ1 => EK c v S b Γ1 fun l Γ2 => EqR id Q k l Γ2) : ED c v S (.Compare a [.Eq] [b] pos) Γ Q := fun σ H R r kk =>
  ⟨_, fun i => pe_cmpR (show OpR (mkX c (v i)) (compareOp .Eq) (rEqP c.K id) from op_eqP hu) (wE.pe i) (wE.pe i) (nomark _), EK.two h r fun x y H' k l Γ' ⟨d, e, pd, pe, e1, e2, p1, p2, ⟨s1, s2⟩, q⟩ r' hk hl s =>
    ⟨d, e, pd, pe, _, akDL_of e1 r' hk, akDL_of e2 r' hl, p1, p2, s1, s2, kk _ _ _ _ q ⟨r', .bl _⟩ s trivial⟩⟩
theorem ed_ne (hu : c.A.units + 64 < cLine) (h : EK c v S a Γ fun k Γ1 => EK c v S b Γ1 fun l Γ2 => EqR not Q k l Γ2) : ED c v S (.Compare a [.NotEq] [b] pos) Γ Q := fun σ H R r kk =>
  ⟨_, fun i => pe_cmpR (show OpR (mkX c (v i)) (compareOp .NotEq) (rEqP c.K not) from op_neP hu) (wE.pe i) (wE.pe i) (nomark _), EK.two h r fun x y H' k l Γ' ⟨d, e, pd, pe, e1, e2, p1, p2, ⟨s1, s2⟩, q⟩ r' hk hl s =>
    ⟨d, e, pd, pe, _, akDL_of e1 r' hk, akDL_of e2 r' hl, p1, p2, s1, s2, kk _ _ _ _ q ⟨r', .bl _⟩ s trivial⟩⟩
end
end DL

namespace DL
open PySem PySem.Spec
open PyProof.Rows L2
section
variable {c : Core} {ι : Type} {v : ι → Var} {S : Ent} {Γ : List AV} {Q : Bool → List AV → Prop} {e a b : Expr} {es : List Expr} {pos : Pos}
def CmpT (g : Int → Int → Bool) (Q : Bool → List AV → Prop) (k l : AK) (Γ : List AV) : Prop := ∃ i j, akD Γ k = some (.int i) ∧ akD Γ l = some (.int j) ∧ Q (g i j) Γ
theorem td_cmp {op : CmpOp} {g : Int → Int → Bool} (ho : ∀ i, OpR (mkX c (v i)) (compareOp op) (rI0 fun i j => .bl (g i j))) (hm : behindInMarks op b = false) (h : EK c v S a Γ fun k Γ1 => EK c v S b Γ1 fun l Γ2 => CmpT g Q k l Γ2) : TD c v S (.Compare a [op] [b] pos) Γ Q := fun σ H R r kk =>
  ⟨_, fun i => pt_cmpR (ho i) (wE.pe i) (wE.pe i) hm, EK.two h r fun x y H' k l Γ' ⟨i, j, e1, e2, q⟩ r' hk hl s => by
    cases akD_of e1 hk
    cases akD_of e2 hl
    exact ⟨i, j, rfl, rfl, _, rfl, kk _ _ _ q r' s⟩⟩
theorem td_lt (h : EK c v S a Γ fun k Γ1 => EK c v S b Γ1 fun l Γ2 => CmpT (fun i j => decide (i < j)) Q k l Γ2) : TD c v S (.Compare a [.Lt] [b] pos) Γ Q := td_cmp (fun _ => op_lt) (nomark _) h
theorem td_le (h : EK c v S a Γ fun k Γ1 => EK c v S b Γ1 fun l Γ2 => CmpT (fun i j => decide (i ≤ j)) Q k l Γ2) : TD c v S (.Compare a [.LtE] [b] pos) Γ Q := td_cmp (fun _ => op_le) (nomark _) h
theorem td_gt (h : EK c v S a Γ fun k Γ1 => EK c v S b Γ1 fun l Γ2 => CmpT (fun i j => decide (j < i)) Q k l Γ2) : TD c v S (.Compare a [.Gt] [b] pos) Γ Q := td_cmp (fun _ => op_gt) (nomark _) h
theorem td_ge (h : EK c v S a Γ fun k Γ1 => EK c v S b Γ1 fun l Γ2 => CmpT (fun i j => decide (j ≤ i)) Q k l Γ2) : TD c v S (.Compare a [.GtE] [b] pos) Γ Q := td_cmp (fun _ => op_ge) (nomark _) h
def EqT (g : Bool → Bool) (Q : Bool → List AV → Prop) (k l : AK) (Γ : List AV) : Prop := ∃ d e pd pe, akDL Γ k = some d ∧ akDL Γ l = some e ∧ d.py = some pd ∧ e.py = some pe ∧ (SeqAt.shaped pd = true ∧ SeqAt.shaped pe = true) ∧ Q (g (PyData.eqv pd pe)) Γ
theorem td_eq (hu : c.A.units + 64 < cLine) (h : EK c v S a Γ fun k Γ1 => EK c v S b Γ1 fun l Γ2 => EqT id Q k l Γ2) : TD c v S (.Compare a [.Eq] [b] pos) Γ Q := fun σ H R r kk =>
  ⟨_, fun i => pt_cmpR (show OpR (mkX c (v i)) (compareOp .Eq) (rEqP c.K id) from op_eqP hu) (wE.pe i) (wE.pe i) (nomark _), EK.two h r fun x y H' k l Γ' ⟨d, e, pd, pe, e1, e2, p1, p2, ⟨s1, s2⟩, q⟩ r' hk hl s =>
    ⟨d, e, pd, pe, _, akDL_of e1 r' hk, akDL_of e2 r' hl, p1, p2, s1, s2, _, rfl, kk _ _ _ q r' s⟩⟩
theorem td_ne (hu : c.A.units + 64 < cLine) (h : EK c v S a Γ fun k Γ1 => EK c v S b Γ1 fun l Γ2 => EqT not Q k l Γ2) : TD c v S (.Compare a [.NotEq] [b] pos) Γ Q := fun σ H R r kk =>
  ⟨_, fun i => pt_cmpR (show OpR (mkX c (v i)) (compareOp .NotEq) (rEqP c.K not) from op_neP hu) (wE.pe i) (wE.pe i) (nomark _), EK.two h r fun x y H' k l Γ' ⟨d, e, pd, pe, e1, e2, p1, p2, ⟨s1, s2⟩, q⟩ r' hk hl s =>
    ⟨d, e, pd, pe, _, akDL_of e1 r' hk, akDL_of e2 r' hl, p1, p2, s1, s2, _, rfl, kk _ _ _ q r' s⟩⟩
/-- == and != of ints -/
theorem td_eqI (h : EK c v S a Γ fun k Γ1 => EK c v S b Γ1 fun l Γ2 => CmpT (fun i j => decide (i = j)) Q k l Γ2) : TD c v S (.Compare a [.Eq] [b] pos) Γ Q := td_cmp (fun _ => fun pins s σ H x y v u Q I rx ry ⟨i, j, e1, e2, q⟩ => by
  subst e1 e2
  refine op_eq pins s σ H _ _ v u Q I rx ry ⟨rfl, ?_⟩
  have : decide (V.int i = V.int j) = decide (i = j) := by
    by_cases h : i = j
    · rw [h, decide_eq_true rfl, decide_eq_true rfl]
    · rw [decide_eq_false h, decide_eq_false fun z => h (V.int.inj z)]
  rw [this]
  exact q) (nomark _) h
theorem td_neI (h : EK c v S a Γ fun k Γ1 => EK c v S b Γ1 fun l Γ2 => CmpT (fun i j => !decide (i = j)) Q k l Γ2) : TD c v S (.Compare a [.NotEq] [b] pos) Γ Q := td_cmp (fun _ => fun pins s σ H x y v u Q I rx ry ⟨i, j, e1, e2, q⟩ => by
  subst e1 e2
  refine op_ne pins s σ H _ _ v u Q I rx ry ⟨rfl, ?_⟩
  have : decide (V.int i = V.int j) = decide (i = j) := by
    by_cases h : i = j
    · rw [h, decide_eq_true rfl, decide_eq_true rfl]
    · rw [decide_eq_false h, decide_eq_false fun z => h (V.int.inj z)]
  rw [this]
  exact q) (nomark _) h
theorem td_isN {k : Nat} {pn : Pos} (h : ED c v S a Γ fun x Γ' => ∃ d t, akD Γ' (.d x) = some d ∧ d.isNon = some t ∧ Q t Γ') : TD c v S (.Compare a [.Is] [.Constant .none k pn] pos) Γ Q := fun σ H R r kk =>
  ⟨_, fun i => pt_cmp (pc_isN (wE.pe i)) rfl, h σ H _ r fun x H' u Γ' ⟨d, t, e1, e2, q⟩ hr s _ => by
    have z := akD_of (σ := σ) e1 hr.rpa
    have : decide (x = .non) = t := by
      cases z <;> cases e2 <;> rfl
    exact ⟨_, rfl, by rw [this]; exact kk _ _ _ q hr.rs s⟩⟩
theorem td_notN {k : Nat} {pn : Pos} (h : ED c v S a Γ fun x Γ' => ∃ d t, akD Γ' (.d x) = some d ∧ d.isNon = some t ∧ Q (!t) Γ') : TD c v S (.Compare a [.IsNot] [.Constant .none k pn] pos) Γ Q := fun σ H R r kk =>
  ⟨_, fun i => pt_cmp (pc_notN (wE.pe i)) rfl, h σ H _ r fun x H' u Γ' ⟨d, t, e1, e2, q⟩ hr s _ => by
    have z := akD_of (σ := σ) e1 hr.rpa
    have : decide (x = .non) = t := by
      cases z <;> cases e2 <;> rfl
    exact ⟨_, rfl, by rw [this]; exact kk _ _ _ q hr.rs s⟩⟩
end
end DL

namespace DL
open PySem PySem.Spec
open PyProof.Rows L2

/-! ### leaves as terms -/
section
variable {Γ : List AV} {Q : AV → List AV → Prop} {QB : Bool → List AV → Prop} {k l : AK} {i j : Int} {ds es : List Dt} {d e : Dt}
theorem AddR.int (h1 : akD Γ k = some (.int i)) (h2 : akD Γ l = some (.int j)) (q : Q (.dt (.int (i + j))) Γ) : AddR Q k l Γ := .inl ⟨i, j, h1, h2, q⟩
theorem AddR.tup (h1 : akT Γ k = some ds) (h2 : akT Γ l = some es) (h3 : ds.length + es.length ≤ 1000) (q : Q (.dt (.tup (ds ++ es))) Γ) : AddR Q k l Γ := .inr (.inl ⟨ds, es, h1, h2, h3, q⟩)
theorem AddR.lst (h1 : akL Γ k = some ds) (h2 : akL Γ l = some es) (n1 : noScr k = true) (n2 : noScr l = true) (h3 : ds.length + es.length ≤ 1000000) (q : Q (.ow (ds ++ es)) Γ) : AddR Q k l Γ := .inr (.inr (.inl ⟨ds, es, h1, h2, n1, n2, h3, q⟩))
theorem AddR.str {x y : Str} (h1 : akD Γ k = some (.str x)) (h2 : akD Γ l = some (.str y)) (h3 : x.length + y.length ≤ 1000000) (q : Q (.dt (.str (x ++ y))) Γ) : AddR Q k l Γ := .inr (.inr (.inr ⟨x, y, h1, h2, h3, q⟩))
theorem MulR.int (h1 : akD Γ k = some (.int i)) (h2 : akD Γ l = some (.int j)) (h3 : CMulW i j) (q : Q (.dt (.int (i * j))) Γ) : MulR Q k l Γ := .inl ⟨i, j, h1, h2, h3, q⟩
theorem MulR.rep (h1 : akL Γ k = some ds) (n1 : noScr k = true) (h2 : akD Γ l = some (.int j)) (h3 : -1000000 ≤ j ∧ j ≤ 1000000 ∧ ds.length * j.toNat ≤ 1000000) (q : Q (.ow (List.replicate j.toNat ds).flatten) Γ) : MulR Q k l Γ := .inr ⟨ds, j, h1, n1, h2, h3, q⟩
theorem IntR.mk {C : Int → Int → Prop} {g : Int → Int → Int} (h1 : akD Γ k = some (.int i)) (h2 : akD Γ l = some (.int j)) (h3 : C i j) (q : Q (.dt (.int (g i j))) Γ) : IntR C g Q k l Γ := ⟨i, j, h1, h2, h3, q⟩
theorem CmpR.mk {g : Int → Int → Bool} (h1 : akD Γ k = some (.int i)) (h2 : akD Γ l = some (.int j)) (q : Q (.dt (.bl (g i j))) Γ) : CmpR g Q k l Γ := ⟨i, j, h1, h2, q⟩
theorem CmpT.mk {g : Int → Int → Bool} (h1 : akD Γ k = some (.int i)) (h2 : akD Γ l = some (.int j)) (q : QB (g i j) Γ) : CmpT g QB k l Γ := ⟨i, j, h1, h2, q⟩
theorem EqR.mk {g : Bool → Bool} {pd pe : PyData} (h1 : akDL Γ k = some d) (h2 : akDL Γ l = some e) (p1 : d.py = some pd) (p2 : e.py = some pe) (s : SeqAt.shaped pd = true ∧ SeqAt.shaped pe = true) (q : Q (.dt (.bl (g (PyData.eqv pd pe)))) Γ) : EqR g Q k l Γ := ⟨d, e, pd, pe, h1, h2, p1, p2, s, q⟩
theorem EqT.mk {g : Bool → Bool} {pd pe : PyData} (h1 : akDL Γ k = some d) (h2 : akDL Γ l = some e) (p1 : d.py = some pd) (p2 : e.py = some pe) (s : SeqAt.shaped pd = true ∧ SeqAt.shaped pe = true) (q : QB (g (PyData.eqv pd pe)) Γ) : EqT g QB k l Γ := ⟨d, e, pd, pe, h1, h2, p1, p2, s, q⟩
/-- what a subscript gives -/
def IxD (Q : AV → List AV → Prop) (k l : AK) (Γ : List AV) : Prop := ∃ ds i d, akS Γ k = some ds ∧ akD Γ l = some (.int i) ∧ atI ds i = some d ∧ Q (.dt d) Γ
theorem IxD.mk (h1 : akS Γ k = some ds) (h2 : akD Γ l = some (.int i)) (h3 : atI ds i = some d) (q : Q (.dt d) Γ) : IxD Q k l Γ := ⟨ds, i, d, h1, h2, h3, q⟩
theorem lt1 {a b : Nat} (h : Nat.ble (a + 1) b = true) : a < b := Nat.le_of_ble_eq_true h
theorem le1 {a b : Nat} (h : Nat.ble a b = true) : a ≤ b := Nat.le_of_ble_eq_true h
theorem nl {as : List AV} {vs : List V} {i : Nat} (h : (match as[i]? with | some (AV.ow _) => false | _ => true) = true) : ∀ p, (i, p) ∉ lentOf as vs := no_lent fun ds e => by
  rw [e] at h
  cases h
end

/-! ### built-ins by name -/
section
variable {c : Core} {ι : Type} {v : ι → Var} {S : Ent} {Γ : List AV} {Q : AV → List AV → Prop} {QK : AK → List AV → Prop} {e a b : Expr} {es : List Expr} {pos p p2 : Pos}
theorem ea1 (hs : NoStar v a []) {QA : List AK → List AV → Prop} (h : EK c v S a Γ fun k Γ1 => QA [k] Γ1) : EA c v S [a] Γ QA := ea_cons hs fun σ H R r kk => h σ H R r fun x H' k Γ' q => kk x H' k Γ' (ea_nil q)
theorem ea2 (hs : NoStar v a [b]) (hs2 : NoStar v b []) {QA : List AK → List AV → Prop} (h : EK c v S a Γ fun k Γ1 => EK c v S b Γ1 fun l Γ2 => QA [k, l] Γ2) : EA c v S [a, b] Γ QA := ea_cons hs fun σ H R r kk => h σ H R r fun x H' k Γ' q => kk x H' k Γ' (ea1 hs2 q)
theorem ed_len (hg : ∀ i, Gl (mkX c (v i)) "len") (hm : c.mg "len" = none) (he : NoStar v a []) (h : EK c v S a Γ fun k Γ1 => ∃ ds, akS Γ1 k = some ds ∧ Q (.dt (.int ds.length)) Γ1) : ED c v S (.Call (.Name "len" p) [a] [] pos) Γ Q :=
  ed_callB (fun _ => call_len_seq) cb_len hg hm PySem.boot_len (by decide) (by decide) he (fun _ => rfl) (ea1 he fun σ H R r kk => h σ H R r fun x H' k Γ' ⟨ds, e, q⟩ => kk x H' k Γ' ⟨k, ds, rfl, e, q⟩)
theorem ed_abs (hg : ∀ i, Gl (mkX c (v i)) "abs") (hm : c.mg "abs" = none) (he : NoStar v a []) (h : EK c v S a Γ fun k Γ1 => ∃ i, akD Γ1 k = some (.int i) ∧ Q (.dt (.int (if i < 0 then -i else i))) Γ1) : ED c v S (.Call (.Name "abs" p) [a] [] pos) Γ Q :=
  ed_callB (fun _ => call_abs) cb_abs hg hm (by decide +kernel) (by decide) (by decide) he (fun _ => rfl) (ea1 he fun σ H R r kk => h σ H R r fun x H' k Γ' ⟨i, e, q⟩ => kk x H' k Γ' ⟨k, i, rfl, e, q⟩)
theorem ed_max2 (hg : ∀ i, Gl (mkX c (v i)) "max") (hm : c.mg "max" = none) (he : NoStar v a [b]) (he2 : NoStar v b []) (hp : NoStarL v pos [b]) (h : EK c v S a Γ fun k Γ1 => EK c v S b Γ1 fun l Γ2 => ∃ i j, akD Γ2 k = some (.int i) ∧ akD Γ2 l = some (.int j) ∧ Q (.dt (.int (if j > i then j else i))) Γ2) (still : c.calm = true := by rfl) : ED c v S (.Call (.Name "max" p) [a, b] [] pos) Γ Q :=
  ed_callB (fun _ => call_max2 still) cb_int2 hg hm (by decide +kernel) (by decide) (by decide) he hp (ea2 he he2 fun σ H R r kk => h σ H R r fun x H' k Γ' q => kk x H' k Γ' fun σ H R r kk => q σ H R r fun y H2 l Γ2 ⟨i, j, e1, e2, q⟩ => kk y H2 l Γ2 ⟨k, l, i, j, rfl, e1, e2, q⟩)
theorem ed_min2 (hg : ∀ i, Gl (mkX c (v i)) "min") (hm : c.mg "min" = none) (he : NoStar v a [b]) (he2 : NoStar v b []) (hp : NoStarL v pos [b]) (h : EK c v S a Γ fun k Γ1 => EK c v S b Γ1 fun l Γ2 => ∃ i j, akD Γ2 k = some (.int i) ∧ akD Γ2 l = some (.int j) ∧ Q (.dt (.int (if j < i then j else i))) Γ2) (still : c.calm = true := by rfl) : ED c v S (.Call (.Name "min" p) [a, b] [] pos) Γ Q :=
  ed_callB (fun _ => call_min2 still) cb_int2 hg hm (by decide +kernel) (by decide) (by decide) he hp (ea2 he he2 fun σ H R r kk => h σ H R r fun x H' k Γ' q => kk x H' k Γ' fun σ H R r kk => q σ H R r fun y H2 l Γ2 ⟨i, j, e1, e2, q⟩ => kk y H2 l Γ2 ⟨k, l, i, j, rfl, e1, e2, q⟩)
theorem ed_minL (hg : ∀ i, Gl (mkX c (v i)) "min") (hm : c.mg "min" = none) (he : NoStar v a []) (h : EK c v S a Γ fun k Γ1 => ∃ ns : List Int, akL Γ1 k = some (ns.map .int) ∧ 0 < ns.length ∧ ∀ m, m ∈ ns → (∀ y, y ∈ ns → m ≤ y) → Q (.dt (.int m)) Γ1) (still : c.calm = true := by rfl) : ED c v S (.Call (.Name "min" p) [a] [] pos) Γ Q :=
  ed_callB (fun i => (show CallR (mkX c (v i)) (.builtin "min") (rMin c.K) from cr_min still)) cb_min hg hm (by decide +kernel) (by decide) (by decide) he (fun _ => rfl) (ea1 he fun σ H R r kk => h σ H R r fun x H' k Γ' ⟨ns, e, h0, q⟩ => kk x H' k Γ' ⟨k, ns, rfl, e, h0, q⟩)
theorem ed_intB (hg : ∀ i, Gl (mkX c (v i)) "int") (hm : c.mg "int" = none) (he : NoStar v a []) (h : EK c v S a Γ fun k Γ1 => ∃ b, akD Γ1 k = some (.bl b) ∧ Q (.dt (.int (if b then 1 else 0))) Γ1) : ED c v S (.Call (.Name "int" p) [a] [] pos) Γ Q :=
  ed_callTy (fun _ => call_int1) cb_int hg hm (by decide +kernel) (by decide) (by decide) he (fun _ => rfl) (ea1 he fun σ H R r kk => h σ H R r fun x H' k Γ' ⟨b, e, q⟩ => kk x H' k Γ' ⟨k, rfl, .inr ⟨b, e, q⟩⟩)
theorem ed_tuple (hg : ∀ i, Gl (mkX c (v i)) "tuple") (hm : c.mg "tuple" = none) (he : NoStar v a []) (h : EK c v S a Γ fun k Γ1 => ∃ ds, akS Γ1 k = some ds ∧ Q (.dt (.tup ds)) Γ1) : ED c v S (.Call (.Name "tuple" p) [a] [] pos) Γ Q :=
  ed_callTy (fun i => (show CallR (mkX c (v i)) (.type "tuple") (fun xs H Q => ∃ p ys, xs = [.ref p] ∧ ((SqL c.K H p ys ∧ ∀ l, H l = none → Q (.ref l) (upd H l (.tup ys))) ∨ (SqT c.K H p ys ∧ Q (.ref p) H))) from call_tuple_of)) cb_tup hg hm (by decide +kernel) (by decide) (by decide) he (fun _ => rfl) (ea1 he fun σ H R r kk => h σ H R r fun x H' k Γ' ⟨ds, e, q⟩ => kk x H' k Γ' ⟨k, ds, rfl, e, q⟩)
theorem ed_list (hg : ∀ i, Gl (mkX c (v i)) "list") (hm : c.mg "list" = none) (he : NoStar v a []) (h : EK c v S a Γ fun k Γ1 => ∃ ds, akS Γ1 k = some ds ∧ Q (.ow ds) Γ1) : ED c v S (.Call (.Name "list" p) [a] [] pos) Γ Q :=
  ed_callTy (fun i => (show CallR (mkX c (v i)) (.type "list") (fun xs H Q => ∃ p ys, xs = [.ref p] ∧ (SqL c.K H p ys ∨ SqT c.K H p ys) ∧ ∀ l, H l = none → Q (.ref l) (upd H l (.lst ys))) from call_list_of)) cb_list hg hm (by decide +kernel) (by decide) (by decide) he (fun _ => rfl) (ea1 he fun σ H R r kk => h σ H R r fun x H' k Γ' ⟨ds, e, q⟩ => kk x H' k Γ' ⟨k, ds, rfl, e, q⟩)
theorem ed_sorted (hg : ∀ i, Gl (mkX c (v i)) "sorted") (hm : c.mg "sorted" = none) (he : NoStar v a []) (h : EK c v S a Γ fun k Γ1 => ∃ ns : List Int, akL Γ1 k = some (ns.map .int) ∧ ns.length < 64 ∧ ∀ ns' : List Int, ns'.Perm ns → ns'.Pairwise (· ≤ ·) → Q (.ow (ns'.map .int)) Γ1) : ED c v S (.Call (.Name "sorted" p) [a] [] pos) Γ Q :=
  ed_callB (fun i => (show CallR (mkX c (v i)) (.builtin "sorted") (rSorted c.K) from cr_sorted)) cb_sorted hg hm (by decide +kernel) (by decide) (by decide) he (fun _ => rfl) (ea1 he fun σ H R r kk => h σ H R r fun x H' k Γ' ⟨ns, e, h0, q⟩ => kk x H' k Γ' ⟨k, ns, rfl, e, h0, q⟩)
theorem ed_all (hg : ∀ i, Gl (mkX c (v i)) "all") (hm : c.mg "all" = none) (he : NoStar v a []) (h : EK c v S a Γ fun k Γ1 => ∃ bs : List Bool, akL Γ1 k = some (bs.map .bl) ∧ Q (.dt (.bl (bs.all fun z => z))) Γ1) (still : c.calm = true := by rfl) : ED c v S (.Call (.Name "all" p) [a] [] pos) Γ Q :=
  ed_callB (fun i => (show CallR (mkX c (v i)) (.builtin "all") (rAll c.K) from cr_all still)) cb_all hg hm (by decide +kernel) (by decide) (by decide) he (fun _ => rfl) (ea1 he fun σ H R r kk => h σ H R r fun x H' k Γ' ⟨bs, e, q⟩ => kk x H' k Γ' ⟨k, bs, rfl, e, q⟩)
theorem ed_repr (hgu : c.A.guards = some []) (hu : c.A.units + 64 < cLine) (hg : ∀ i, Gl (mkX c (v i)) "repr") (hm : c.mg "repr" = none) (he : NoStar v a []) (h : EK c v S a Γ fun k Γ1 => ∃ d pd, akD Γ1 k = some d ∧ Shows d pd ∧ Q (.dt (.str pd.shown)) Γ1) : ED c v S (.Call (.Name "repr" p) [a] [] pos) Γ Q :=
  ed_callB (fun i => (show CallR (mkX c (v i)) (.builtin "repr") (rRepr c.K) from call_reprD hgu hu)) cb_repr hg hm (by decide +kernel) (by decide) (by decide) he (fun _ => rfl) (ea1 he fun σ H R r kk => h σ H R r fun x H' k Γ' ⟨d, pd, e, hs, q⟩ => kk x H' k Γ' ⟨k, d, pd, rfl, e, hs, q⟩)
/-- isinstance(a, T), T a built-in class -/
theorem ed_isT {T : Str} {u : String} (hg : ∀ i, Gl (mkX c (v i)) "isinstance") (hm : c.mg "isinstance" = none) (hgT : ∀ i, Gl (mkX c (v i)) T) (hmT : c.mg T = none) (hT : bootBuiltins T = some (.type u)) (hnT : T ≠ "__name__") (hdT : (T == ("__debug__" : Str)) = false) (he : NoStar v a [.Name T p2]) (he2 : NoStar v (.Name T p2) []) (hp : NoStarL v pos [.Name T p2])
    (h : EK c v S a Γ fun k Γ1 => ∃ d t b, akD Γ1 k = some d ∧ d.ty = some t ∧ kitB t u = some b ∧ Q (.dt (.bl b)) Γ1) : ED c v S (.Call (.Name "isinstance" p) [a, .Name T p2] [] pos) Γ Q :=
  ed_callB (fun i => (show CallR (mkX c (v i)) (.builtin "isinstance") (rIsi c.K) from call_isi)) cb_is hg hm (by decide +kernel) (by decide) (by decide) he hp (ea2 he he2 fun σ H R r kk => h σ H R r fun x H' k Γ' ⟨d, t, b, e1, e2, e3, q⟩ => kk x H' k Γ' (ek_type hgT hmT hT hnT hdT ⟨k, d, b, t, u, rfl, e1, e2, e3, q⟩))
theorem ed_ixD (hb : PlainIx b) (h : EK c v S a Γ fun k Γ1 => EK c v S b Γ1 fun l Γ2 => IxD Q k l Γ2) : ED c v S (.Subscript a b pos) Γ Q := ed_ix hb h
theorem dec_V {i j : Int} : decide (V.int i = V.int j) = decide (i = j) := by
  by_cases h : i = j
  · rw [h, decide_eq_true rfl, decide_eq_true rfl]
  · rw [decide_eq_false h, decide_eq_false fun z => h (V.int.inj z)]
theorem ed_eqI (h : EK c v S a Γ fun k Γ1 => EK c v S b Γ1 fun l Γ2 => CmpR (fun i j => decide (i = j)) Q k l Γ2) : ED c v S (.Compare a [.Eq] [b] pos) Γ Q := ed_cmp (fun _ => fun pins s σ H x y v u Q I rx ry ⟨i, j, e1, e2, q⟩ => by
  subst e1 e2
  exact op_eq pins s σ H _ _ v u Q I rx ry ⟨rfl, by rw [dec_V]; exact q⟩) (nomark _) h
theorem ed_neI (h : EK c v S a Γ fun k Γ1 => EK c v S b Γ1 fun l Γ2 => CmpR (fun i j => !decide (i = j)) Q k l Γ2) : ED c v S (.Compare a [.NotEq] [b] pos) Γ Q := ed_cmp (fun _ => fun pins s σ H x y v u Q I rx ry ⟨i, j, e1, e2, q⟩ => by
  subst e1 e2
  exact op_ne pins s σ H _ _ v u Q I rx ry ⟨rfl, by rw [dec_V]; exact q⟩) (nomark _) h
/-- f(k = v): one keyword -/
theorem pk1 {t : TE} {X : Cx} {n : Str} (h : PE X a t) : PK X [⟨some n, a, p⟩] (tCons t tNil) := pk_cons h pk_nil
theorem ed_callK1 {x : Str} {k : Nat} {f : Addr} {fd : FuncData} {ps ks : List Str} {DS : DSp} {n : Str} {kp : Pos} (F : FnG c.prog c.w c.K c.mg c.base k f fd ps (spD c.K DS)) (hr : Room k c.A) (hgu : c.A.guards = some []) (hg : ∀ i, Gl (mkX c (v i)) x) (hm : c.mg x = some (.ref f)) (hk : PySem.W.keepIn c.K (.ref f) = true)
    (hb : KwB c.K fd ps ks) (hdb : (x == ("__debug__" : Str)) = false) (hall : ∀ i, (backToKw pos (keywordEach [⟨some n, a, kp⟩] (v i).env)).all (·.1.isSome) = true) (hks : ∀ i, (backToKw pos (keywordEach [⟨some n, a, kp⟩] (v i).env)).filterMap (·.1) = ks)
    (hpl : ∀ i, ((backTo pos (starEach [] (v i).env)).any (·.1) || (backToKw pos (keywordEach [⟨some n, a, kp⟩] (v i).env)).any (·.1.isNone)) = false)
    (h : EK c v S a Γ fun kk Γ1 => ∃ avs, argsA Γ1 [kk] = some avs ∧ DS avs fun a avs' => avs'.length = avs.length → Q a (backA Γ1 [kk] avs')) : ED c v S (.Call (.Name x p) [] [⟨some n, a, kp⟩] pos) Γ Q := fun σ H R r kk => by
  refine ⟨_, fun i => (pe_callGK (X := mkX c (v i)) F hr hgu (hg i) hm hk hb (pk1 (wE.pe i)) (hall i) (hks i) hdb (hpl i)), ?_⟩
  refine h σ H _ r fun y H1 k1 Γ1 ⟨avs, ea, hD⟩ r1 hx s => ?_
  have hx' : RpKL c.K H1 (Exc S Γ1 σ no) σ [y] [k1] := ⟨hx, trivial⟩
  have ho : lnsOk [k1] = true := by cases k1 <;> rfl
  refine ⟨avs, _, _, hD, call_in r1 hx' ea ho, fun y H2 a as' q hres => ?_⟩
  obtain ⟨z1, z2, z3⟩ := call_out r1 hx' ea ho hres
  exact kk _ _ _ _ (q hres.rs.lenΓ) z1 (s.trans z2) (z3.back s)
end
end DL

/-! enumerate over what stays as it is while it is gone through; over a tuple in the layer -/
namespace DL
open PySem PySem.Spec
open PyProof.Rows L2

section
variable {prog : Program}
variable {w : World}
variable {A : Around}
variable {s : Shared} {E : Value → Shared → Prop}
/-- the two cells of enumerate(v): where v's own iterator is, and the counting one behind it -/
theorem enum_begun {v : Value} {o : Obj} {At : Heap → Prop} (B : Begins v o At) (ready : At s.heap) {Q : Value → Shared → Prop}
    (go : ∀ h₂, IsEnum h₂ (s.heap.objs.size + 1) s.heap.objs.size 0 .none ∧ h₂.get? s.heap.objs.size = some o ∧ (∀ b u, s.heap.get? b = some u → h₂.get? b = some u) → Q (.ref (s.heap.objs.size + 1)) { s with heap := h₂ }) :
    wpAny (model prog w) A (call (.type "enumerate") [v]) Q E s := by
  have made : Meets (Builtin.«enumerate.__new__» ⟨[.type "enumerate", v], []⟩) fun _ R s => At s.heap ∧ R (.ok (.ret (.ref (s.heap.push o).objs.size)))
      { s with heap := (s.heap.push o).push { cls := .type "enumerate", data := .fields #[.none, .bool false, .ref s.heap.objs.size, rawInt 0, .none, .none] } } := .of_wp fun prog w A R s ⟨at0, fin⟩ => by
    obtain ⟨heap, gens, dt, toks, os⟩ := s
    have sub := sub_enumerate
    have first : ∀ {A' : Around} {E Q : Value → Shared → Prop}, Q (.ref heap.objs.size) ⟨heap.push o, gens, dt, toks, os⟩ → wpAny (model prog w) A' (pyIter v) Q E ⟨heap, gens, dt, toks, os⟩ := fun q => B.iter prog w _ _ ⟨heap, gens, dt, toks, os⟩ _ at0 q
    wp_walk using first
    refine wpAny_stack_any fun _ => wpAny_pure ?_
    split
    · rename_i cls _ _ _ _ _
      by_cases z : (cls == Value.type "enumerate") = true
      · rw [z]
        wp_walk using first
        exact ⟨_, rfl, fin⟩
      · rw [Bool.not_eq_true] at z
        rw [z]
        wp_walk using first
        exact ⟨_, rfl, fin⟩
    · wp_walk using first
      exact ⟨_, rfl, fin⟩
  refine callType_new F.called_enumerate (by decide) (F.typeCall_enumerate_1 _) (F.newCall_enumerate_1 _) (fun _ => F.args_object_init_2 _ _) F.entry_enumerate_new made ⟨ready, ?_⟩
  have one : (s.heap.push o).objs.size = s.heap.objs.size + 1 := Heap.size_push ..
  have cell := Heap.get?_push_size (s.heap.push o) (o := { cls := .type "enumerate", data := .fields #[.none, .bool false, .ref s.heap.objs.size, rawInt 0, .none, .none] }) rfl
  rw [one] at cell
  rw [one]
  exact ⟨⟨_, cell, rfl⟩, go _ ⟨cell, Heap.get?_push_of_some _ (Heap.get?_push_size _ B.free), fun _ _ z => Heap.get?_push_of_some _ (Heap.get?_push_of_some _ z)⟩⟩
end
/-- the tuple at a, of m items, as it stands at each turn, each item in a new pair -/
def IteT (K : PySem.W.Frag) (a : Addr) (m : Nat) : It where
  go i H := ∃ ys : List V, SqT K H a ys ∧ ys.length = m ∧ i < m
  yld i H v H' := ∃ (T : Addr) (y : V), v = .ref T ∧ H T = none ∧ H' = upd H T (.tup [.int (i : Nat), y]) ∧ ∀ ys, SqT K H a ys → ys[i]? = some y
  stop i H := ∃ ys : List V, SqT K H a ys ∧ ys.length = m ∧ m ≤ i
/-- the counting cell at e, with the tuple's own iterator at it, ahead of the i-th item -/
structure CountsT (a e it : Addr) (m i : Nat) (h : Heap) : Prop where
  counts : ∃ old, IsEnum h e it ((i : Nat) : Int) old
  inner : h.IsTupleIter it a i
  two : e ≠ it
  most : i ≤ m
theorem CountsT.apart {a e it : Addr} {m i : Nat} {h : Heap} {items : Array Value} (C : CountsT a e it m i h) (t : h.IsTuple a items) : a ≠ e ∧ a ≠ it := by
  obtain ⟨o, at_a, cls_a, _⟩ := t
  constructor <;> intro z <;> subst z
  · obtain ⟨_, at_e⟩ := C.counts
    cases at_a.symm.trans at_e
    exact nomatch (show Value.type "enumerate" = Value.type "tuple" from cls_a)
  · obtain ⟨o', at_i, cls_i, _⟩ := C.inner
    cases at_a.symm.trans at_i
    exact absurd (Value.type.inj (cls_i.symm.trans cls_a)) (by decide)
theorem CountsT.below {a e it : Addr} {m i : Nat} {h : Heap} (C : CountsT a e it m i h) : e < h.objs.size ∧ it < h.objs.size :=
  ⟨C.counts.elim fun _ z => Heap.lt_size z, C.inner.elim fun _ z => Heap.lt_size z.1⟩
theorem turn_enumT {P : Program} {w : World} {K : PySem.W.Frag} {elts : List Expr} {kk : Nat} {tpos : Pos} (a e it : Addr) (m : Nat) : Turn P w K (.Tuple elts kk tpos) (IteT K a m) [e, it] e (CountsT a e it m) where
  mem := List.mem_cons_self ..
  obj := fun i h C b hb => by
    obtain ⟨_, z⟩ := C.counts
    obtain ⟨o, z', _, shape⟩ := C.inner
    rcases (List.mem_cons.mp hb).imp_right List.mem_singleton.mp with rfl | rfl
    · exact ⟨_, z, fun _ no => nomatch no⟩
    · exact ⟨o, z', fun _ no => nomatch shape.symm.trans no⟩
  keep := fun i h h' C same => by
    obtain ⟨old, z⟩ := C.counts
    exact ⟨⟨old, same e (by simp) _ z⟩, C.inner.at fun o y => same it (by simp) o y, C.two, C.most⟩
  item := fun X eP ew eK calm i pins s σ H E I free C go => by
    subst eP ew eK
    obtain ⟨ys, at_ys, many, lt⟩ := go
    obtain ⟨items, related, T0, _⟩ := I.tuple at_ys
    have T1 : s.heap.IsTuple a items.toArray := T0
    have size : items.toArray.size = m := by rw [List.size_toArray, ← related.length, many]
    obtain ⟨not_e, not_it⟩ := C.apart T1
    obtain ⟨below_e, below_it⟩ := C.below
    obtain ⟨old, now⟩ := C.counts
    have D := Draws.tuple (prog := X.prog) (w := X.w) (A := X.A.in1) (I.ok.hd calm) it a not_it items.toArray
    refine wpAny_pyNext_enum_itemD D now ⟨C.inner, T1⟩ (by omega) C.two (by simp [C.two, Ne.symm not_e]) fun u h1 tk isu out st1 pair _ rest => ⟨_, rfl, ?_⟩
    refine wpAny_letOwnedTupleGo_enum (s := { s with heap := h1, toks := tk + 1 }) out fun h2 next same => ?_
    obtain ⟨y, at_y, ry⟩ : ∃ y, ys[i]? = some y ∧ RelV y u := by
      obtain ⟨y, hy⟩ : ∃ y, ys[i]? = some y := ⟨_, List.getElem?_eq_getElem (many.symm ▸ lt)⟩
      obtain ⟨u', hu', ru⟩ := related.get hy
      rw [List.getElem?_toArray] at isu
      cases hu'.symm.trans isu
      exact ⟨y, hy, ru⟩
    have stays : ∀ b ob, b ∉ [e, it] → s.heap.get? b = some ob → h2.get? b = some ob := fun b ob no z => by
      rw [List.mem_cons, List.mem_singleton, not_or] at no
      exact (same.2 b no.1).trans (rest b ob no.1 no.2 z)
    have fresh : ObjOk X.prog X.w (upd H s.heap.objs.size (.tup [.int (i : Nat), y])) h2 s.heap.objs.size (.tup [.int (i : Nat), y]) :=
      ⟨(by show 2 ≤ sizeLine; decide), [.int i tk, u], .cons ⟨_, rfl⟩ (.cons ry .nil), _, (same.2 _ (Nat.ne_of_gt below_e)).trans pair, rfl, _, rfl⟩
    refine ⟨.ref s.heap.objs.size, _, I.turnedNew (ch := [e, it]) stays free (Nat.le_refl _) fresh, rfl, ⟨_, y, rfl, I.hok.fresh (Nat.le_refl _), rfl, fun zs at_zs => I.tuple_inj at_zs at_ys ▸ at_y⟩, ⟨⟨u, ?_⟩, ?_, C.two, lt⟩, fun b hb => ?_⟩
    · rw [Int.natCast_succ]
      exact next
    · exact st1.1.at fun o z => (same.2 it (Ne.symm C.two)).trans z
    · have young : b < s.heap.objs.size := by
        rcases (List.mem_cons.mp hb).imp_right List.mem_singleton.mp with rfl | rfl
        · exact below_e
        · exact below_it
      rw [upd_ne (Nat.ne_of_lt young)]; exact (free b hb).1
  done := fun X eP ew eK calm i pins s σ H E I free C fin => by
    subst eP ew eK
    obtain ⟨ys, at_ys, many, le⟩ := fin
    obtain ⟨items, related, T0, _⟩ := I.tuple at_ys
    have T1 : s.heap.IsTuple a items.toArray := T0
    obtain ⟨old, now⟩ := C.counts
    have last : i = items.toArray.size := by
      have top := C.most
      rw [List.size_toArray, ← related.length]
      omega
    have D := Draws.tuple (prog := X.prog) (w := X.w) (A := X.A.in1) (I.ok.hd calm) it a (C.apart T1).2 items.toArray
    obtain ⟨f0, f1, f2, f3, f4, f5⟩ := free it (List.mem_cons_of_mem _ (List.mem_singleton.mpr rfl))
    exact wpAny_pyNext_enum_endD D now (last ▸ ⟨C.inner, T1⟩) fun h1 ext => ⟨rfl, I.turned (t' := s.toks) (fun b o no z => ext b o no z) f0 f1 f3 f4 f5⟩
  self := fun A i s Q E C fin => C.counts.elim fun _ z => wpAny_pyIter_enum z fin
def iEnumT (K : PySem.W.Frag) (ta : TA) : TI := fun σ H R => ta σ H fun vs H1 => ∃ a ys, vs = [.ref a] ∧ SqT K H1 a ys ∧ R (IteT K a ys.length) H1
theorem pi_enumT {X : Cx} {a : Expr} {ta : TA} {p pos tpos : Pos} {elts : List Expr} {kk : Nat} (hg : Gl X "enumerate") (hm : X.mg "enumerate" = none) (ha : PA X [a] ta) (hs : starEach [a] X.env = [(false, eval a X.env)]) :
    PI X (.Tuple elts kk tpos) (.Call (.Name "enumerate" p) [a] [] pos) (iEnumT X.K ta) where
  run pins s σ H R I given := by
    refine Call_ (ld_blt I hg hm boot_enumerate (PyProof.Rows.callWith_type1 (thn (ha.run pos pins s σ H _ I given) fun us s1 got => ?_) hs rfl))
    obtain ⟨_, H1, I1, rels, t, ys, rfl, at_ys, fin⟩ := got
    match us, rels with
    | [_], .cons rel .nil =>
      cases rel
      obtain ⟨items, related, T0, _⟩ := I1.tuple at_ys
      refine enum_begun (begins_tuple t items.toArray) T0 fun h1 ⟨cell, inner, keeps⟩ => wpAny_pyIter_enum cell ?_
      refine ⟨s1.heap.objs.size + 1, [s1.heap.objs.size + 1, s1.heap.objs.size], _, _, H1, rfl, I1.kept (t' := s1.toks) keeps, turn_enumT t (s1.heap.objs.size + 1) s1.heap.objs.size ys.length, ⟨⟨.none, cell⟩, ⟨_, inner, rfl, rfl⟩, Nat.succ_ne_self _, Nat.zero_le _⟩, fun b hb => ?_, fin⟩
      have old : s1.heap.objs.size ≤ b := by
        rcases (List.mem_cons.mp hb).imp_right List.mem_singleton.mp with rfl | rfl <;> omega
      exact I1.fpOk old (I1.hok.fresh old)

/-! ### in the layer -/
section
variable {c : Core} {ι : Type} {v : ι → Var} {S : Ent}
variable {Γ : List AV} {a : Expr} {es : List Expr} {p pos tpos : Pos} {kk : Nat} {QS : List Dt → List AV → Prop}
/-- (0, d0), (1, d1), .. -/
def enD (ds : List Dt) : List Dt := ds.zipIdx.map fun p => .tup [.int (p.2 : Nat), p.1]
theorem enD_len (ds : List Dt) : (enD ds).length = ds.length := by unfold enD; rw [List.length_map, List.length_zipIdx]
theorem enD_get {ds : List Dt} {j : Nat} {d : Dt} (h : ds[j]? = some d) : (enD ds)[j]? = some (.tup [.int (j : Nat), d]) := by
  unfold enD
  rw [List.getElem?_map, List.getElem?_zipIdx, h]; simp
theorem src_enumT (hg : ∀ i, Gl (mkX c (v i)) "enumerate") (hm : c.mg "enumerate" = none) (hs : ∀ i, starEach [a] (v i).env = [(false, eval a (v i).env)])
    (h : EA c v S [a] Γ fun as Γ1 => ∃ k ds, as = [k] ∧ akT Γ1 k = some ds ∧ QS (enD ds) Γ1) : SrcD c v S (.Tuple es kk tpos) (.Call (.Name "enumerate" p) [a] [] pos) Γ QS := fun σ H R r kc => by
  refine ⟨_, fun i => (show PI (mkX c (v i)) (.Tuple es kk tpos) (.Call (.Name "enumerate" p) [a] [] pos) (iEnumT c.K (wA c v [a])) from pi_enumT (hg i) hm (wA.pa i) (hs i)), ?_⟩
  refine h σ H _ r fun xs H1 as Γ1 ⟨k, ds, e, ek, q⟩ r1 hx s => ?_
  subst e
  obtain ⟨x, rfl, hk⟩ := hx.one
  obtain ⟨b, ys, rfl, hb, hy⟩ := akT_of ek hk
  have nb : ¬ Own Γ1 σ b := fun z => by
    obtain ⟨zs, e⟩ := r1.own_tr z
    rw [hb] at e
    cases e
  have stands : ∀ H', (∀ b o, H1 b = some o → ¬ Own Γ1 σ b → H' b = some o) → SqT c.K H' b ys := fun H' fr => .of (fr _ _ hb nb)
  refine ⟨b, ys, rfl, .of hb, kc _ _ _ _ q r1 s ⟨fun j H' fr hj => ⟨ys, stands H' fr, rfl, ?_⟩, fun j H' fr hj => ⟨ys, stands H' fr, rfl, ?_⟩, fun j H' z H'' fr hj y => ?_⟩⟩
  · rw [hy.len, ← enD_len]; exact hj
  · rw [hy.len, ← enD_len]; exact hj
  · obtain ⟨T, u, rfl, nT, rfl, hu⟩ := y
    obtain ⟨d, ed, hd⟩ := hy.get' (hu ys (stands H' fr))
    exact ⟨_, enD_get ed, .inr ⟨T, _, _, nT, rfl, rfl, rfl, .cons (.int _) (.cons hd .nil)⟩⟩
end
end DL

/-! itertools.combinations, at the library's level -/
namespace Cmb
open PySem PySem.Spec L2
open Sem (wp)

theorem mro_cb : mroOf (.type "itertools.combinations") = pure [.type "itertools.combinations", .type "object"] := by rw [mroOf_type]; kernel_rfl
theorem lookup_cb_new : typeLookup (.type "itertools.combinations") "__new__" = pure (some (.builtin "itertools.combinations.__new__")) := by rw [typeLookup_type, builtinLookup_eq_fast]; kernel_rfl
theorem slot_cb_init : Slot "itertools.combinations" "__init__" "object.__init__" :=
  .of (owner := "object") (n := "__init__") (by rw [typeLookup_type, builtinLookup_eq_fast]; kernel_rfl) (by decide +kernel) (by decide +kernel) (by decide +kernel) (by first | exact .inl (by decide +kernel) | exact .inr (by decide +kernel)) (by rw [isSubtype_type]; kernel_rfl)
theorem sub_cb : isSubtype (.type "itertools.combinations") (.type "itertools.combinations") = pure true := by rw [isSubtype_type]; kernel_rfl
theorem called_cb : TypeCalled "itertools.combinations" "itertools.combinations.__new__" "object.__init__" :=
  ⟨by decide +kernel, by decide +kernel, ⟨_, _, mro_cb⟩, madeBy_type mro_cb lookup_cb_new (by decide +kernel), by decide +kernel, sub_cb, slot_cb_init⟩
theorem typeCall_cb (a b : Value) : checkTypeCall "itertools.combinations" ⟨[a, b], []⟩ = pure () := by kernel_rfl
theorem newCall_cb (a b : Value) : checkBuiltinCall "itertools.combinations.__new__" ⟨[.type "itertools.combinations", a, b], []⟩ = pure () := by kernel_rfl
theorem entry_cb_new : entryFor table "itertools.combinations.__new__" = some Builtin.«itertools.combinations.__new__» := entryFor_of_tree (by kernel_rfl)
theorem slot_cb_iter : Slot "itertools.combinations" "__iter__" "itertools.combinations.__iter__" :=
  .of (owner := "itertools.combinations") (n := "__iter__") (by rw [typeLookup_type, builtinLookup_eq_fast]; kernel_rfl) (by decide +kernel) (by decide +kernel) (by decide +kernel) (by first | exact .inl (by decide +kernel) | exact .inr (by decide +kernel)) sub_cb
theorem slot_cb_next : Slot "itertools.combinations" "__next__" "itertools.combinations.__next__" :=
  .of (owner := "itertools.combinations") (n := "__next__") (by rw [typeLookup_type, builtinLookup_eq_fast]; kernel_rfl) (by decide +kernel) (by decide +kernel) (by decide +kernel) (by first | exact .inl (by decide +kernel) | exact .inr (by decide +kernel)) sub_cb
theorem entry_cb_iter : entryFor table "itertools.combinations.__iter__" = some Builtin.«dict_keyiterator.__iter__» :=
  entryFor_alias (id' := "dict_keyiterator.__iter__") (by kernel_rfl)
    (by first | rfl | decide +kernel | (unfold String.splitOn; simp +decide [String.splitOnAux])) (by decide +kernel) (by kernel_rfl)
theorem entry_cb_next : entryFor table "itertools.combinations.__next__" = some Builtin.«itertools.combinations.__next__» := entryFor_of_tree (by kernel_rfl)
theorem plain_cb_new : plainId "itertools.combinations.__new__" = true := by decide +kernel
theorem noDict_cb : typeHasDict (.type "itertools.combinations") = false := by decide +kernel
theorem owner_cb : Manifest.owners.lookup (String.ofList ['s', 'n', 'o', 'i', 't', 'a', 'n', 'i', 'b', 'm', 'o', 'c', '.', 's', 'l', 'o', 'o', 't', 'r', 'e', 't', 'i'].reverse) = some Manifest.sig_itertools_combinations := by kernel_rfl
theorem args_cb_iter (a : Value) : argsOk "itertools.combinations.__iter__" ⟨[a], []⟩ := by
  unfold argsOk
  rw [signature?_of (id := "itertools.combinations.__iter__") (n := ['_', '_', 'r', 'e', 't', 'i', '_', '_']) (o := ['s', 'n', 'o', 'i', 't', 'a', 'n', 'i', 'b', 'm', 'o', 'c', '.', 's', 'l', 'o', 'o', 't', 'r', 'e', 't', 'i']) (by kernel_rfl) owner_cb]
  kernel_rfl
theorem args_cb_next (a : Value) : argsOk "itertools.combinations.__next__" ⟨[a], []⟩ := by
  unfold argsOk
  rw [signature?_of (id := "itertools.combinations.__next__") (n := ['_', '_', 't', 'x', 'e', 'n', '_', '_']) (o := ['s', 'n', 'o', 'i', 't', 'a', 'n', 'i', 'b', 'm', 'o', 'c', '.', 's', 'l', 'o', 'o', 't', 'r', 'e', 't', 'i']) (by kernel_rfl) owner_cb]
  kernel_rfl

abbrev recF (pool : Value) (st : Int) (last : Value) (idx : List Nat) : Array Value := ([pool, rawInt st, last] ++ idx.map fun i : Nat => rawInt i).toArray
abbrev IsCb (h : Heap) (cm : Addr) (pool : Value) (st : Int) (last : Value) (idx : List Nat) : Prop := h.get? cm = some { cls := .type "itertools.combinations", dict := none, data := .fields (recF pool st last idx), slots := #[] }
section
variable {prog : Program}
variable {w : World}
variable {A : Around}
variable {s : Shared}
variable {E : Value → Shared → Prop}
/-- what collect does with the value v -/
def Coll (prog : Program) (w : World) (A : Around) (s : Shared) (v : Value) (P : List Value → Prop) : Prop :=
  ∀ (E : Value → Shared → Prop) (Q : List Value → Shared → Prop), (∀ (h' : Heap) (tk : Nat) its, (∀ b o, s.heap.get? b = some o → h'.get? b = some o) → P its → Q its { s with heap := h', toks := tk }) → wpAny (model prog w) A (collect v) Q E s
end
section
variable {prog : Program}
variable {w : World}
variable {A : Around}
variable {s : Shared}
variable {E : Value → Shared → Prop}
theorem code_cb_new {v : Value} {t : Tok} {r : Nat} {P : List Value → Prop} {Q₁ : Value → Shared → Prop} (hr : r < 1000) (hC : Coll prog w A.in1 s v P) (hl : ∀ its, P its → its.length ≤ sizeLine)
    (h : ∀ (h' : Heap) (tk : Nat) its, (∀ b o, s.heap.get? b = some o → h'.get? b = some o) → P its →
      Q₁ (.ref (h'.push { cls := .type "tuple", data := .seq its.toArray }).objs.size) { s with heap := (h'.push { cls := .type "tuple", data := .seq its.toArray }).push { cls := .type "itertools.combinations", data := .fields (recF (.ref h'.objs.size) (if r > its.length then 2 else 0) .none (List.range r)) }, toks := tk }) :
    codeAny (model prog w) A (.call (.builtin "itertools.combinations.__new__") ⟨[.type "itertools.combinations", v, .int r t], []⟩) (wants Q₁ E) s := by
  refine codeAny_of_tree ?_
  show wpAny _ A.in1 (do checkBuiltinCall "itertools.combinations.__new__" ⟨[.type "itertools.combinations", v, .int r t], []⟩; again (.builtin "itertools.combinations.__new__" ⟨[.type "itertools.combinations", v, .int r t], []⟩)) _ _ s
  refine wpAny_bind (wpAny_of_eq (newCall_cb _ _) (wpAny_pure ⟨plainId_quiet plain_cb_new _, codeAny_builtin entry_cb_new ?_⟩))
  rw [Around.under_plainId plain_cb_new _]
  have hsub := sub_cb
  have hd := noDict_cb
  have hn : ¬ ((!(decide (-(2 ^ 63 : Int) ≤ (r : Int)) && decide ((r : Int) < (2 ^ 63 : Int)))) = true) := by
    have a : decide (-(2 ^ 63 : Int) ≤ (r : Int)) = true := decide_eq_true (by omega)
    have b : decide ((r : Int) < (2 ^ 63 : Int)) = true := decide_eq_true (by omega)
    rw [a, b]
    decide
  unfold Builtin.«itertools.combinations.__new__»
  refine wpAny_bind ?_
  show wpAny _ _ (Builtin.Itertools.itClassAndRest "combinations" ⟨[.type "itertools.combinations", v, .int r t], []⟩ >>= _) _ _ _
  refine wpAny_bind ?_
  have e1 : Builtin.Itertools.itClassAndRest "combinations" ⟨[.type "itertools.combinations", v, .int r t], []⟩ = pure (.type "itertools.combinations", [v, .int r t]) := by
    unfold Builtin.Itertools.itClassAndRest
    rw [show ("itertools." ++ "combinations" : String) = "itertools.combinations" by decide +kernel]
    dsimp only
    rw [show isType (.type "itertools.combinations") = pure true from rfl, pure_bind, sub_cb, pure_bind]
    rfl
  refine wpAny_of_eq e1 ?_
  show wpAny _ _ (Builtin.Itertools.itBindNamed "combinations" ["iterable", "r"] 2 2 [v, .int r t] [] >>= _) _ _ _
  refine wpAny_bind (wpAny_of_eq (a := [some v, some (.int r t)]) rfl ?_)
  show wpAny _ _ (Builtin.Itertools.itSsizeArg (.int r t) >>= _) _ _ _
  have e2 : Builtin.Itertools.itSsizeArg (.int r t) = pure (r : Int) := by
    have a : decide ((r : Int) < -(2 ^ 63 : Int)) = false := decide_eq_false (by omega)
    have b : decide ((r : Int) ≥ (2 ^ 63 : Int)) = false := decide_eq_false (by omega)
    unfold Builtin.Itertools.itSsizeArg
    rw [show asIndex (.int r t) = pure (r : Int) from rfl, pure_bind]
    dsimp only
    rw [a, b]
    rfl
  refine wpAny_bind (wpAny_of_eq e2 ?_)
  show wpAny _ _ (collect v >>= _) _ _ _
  refine wpAny_bind (hC _ _ fun h' tk its hk hp => ?_)
  dsimp only
  rw [if_neg (by omega)]
  have e3 : Builtin.Itertools.itTooMany (r : Int) = false := by
    unfold Builtin.Itertools.itTooMany; exact decide_eq_false (by omega)
  rw [e3, if_neg Bool.false_ne_true]
  refine wpAny_bind (wpAny_newTuple ?_ (hl its hp))
  refine wpAny_pure ?_
  dsimp only
  rw [Int.toNat_natCast]
  show wpAny _ _ (Builtin.Itertools.itNewRecord _ _ >>= _) _ _ _
  have e4 : ∀ fs, Builtin.Itertools.itNewRecord (.type "itertools.combinations") fs = newObj (.type "itertools.combinations") (.fields fs.toArray) := fun fs => by
    unfold Builtin.Itertools.itNewRecord
    rw [noDict_cb]
    rfl
  rw [e4]
  refine wpAny_bind (wpAny_newObj_type (wpAny_pure ?_) (by
    show (List.toArray ([Value.ref h'.objs.size, rawInt (if r > its.length then 2 else 0), .none] ++ (List.range r).map fun i : Nat => rawInt i)).size ≤ sizeLine + 2
    rw [List.size_toArray, List.length_append, List.length_map, List.length_range, sizeLine_eq]
    show 3 + r ≤ _
    omega))
  exact h h' tk its hk hp
theorem call_cb {v : Value} {t : Tok} {r : Nat} {P : List Value → Prop} {Q : Value → Shared → Prop} (hr : r < 1000) (hC : ∀ A', A'.handled = A.handled → Coll prog w A' s v P) (hl : ∀ its, P its → its.length ≤ sizeLine)
    (h : ∀ (h' : Heap) (tk : Nat) its h2, (∀ b o, s.heap.get? b = some o → h'.get? b = some o) → P its → (∀ b o, h'.get? b = some o → h2.get? b = some o) → h2.IsTuple h'.objs.size its.toArray → IsCb h2 (h'.objs.size + 1) (.ref h'.objs.size) (if r > its.length then 2 else 0) .none (List.range r) →
      Q (.ref (h'.objs.size + 1)) { s with heap := h2, toks := tk }) :
    wpAny (model prog w) A (call (.type "itertools.combinations") [v, .int r t]) Q E s := by
  refine callType_codes (Q₁ := fun obj s₁ => s₁.TypeIs obj "itertools.combinations" ∧ Q obj s₁) called_cb (typeCall_cb _ _) F.entry_object_init
    (code_cb_new (A := A.in1) hr (hC _ rfl) hl fun h' tk its hk hp => ⟨⟨_, Heap.get?_push_size _ rfl, rfl⟩, ?_⟩) fun obj s₁ h₁ => ?_
  · have hz : (h'.push { cls := .type "tuple", data := .seq its.toArray }).objs.size = h'.objs.size + 1 := Heap.size_push ..
    have hI : IsCb ((h'.push { cls := .type "tuple", data := .seq its.toArray }).push { cls := .type "itertools.combinations", data := .fields (recF (.ref h'.objs.size) (if r > its.length then 2 else 0) .none (List.range r)) }) (h'.objs.size + 1) (.ref h'.objs.size) (if r > its.length then 2 else 0) .none (List.range r) := by
      rw [← hz]; exact Heap.get?_push_size _ rfl
    rw [hz]
    exact h h' tk its _ hk hp (fun b o e => Heap.get?_push_of_some _ (Heap.get?_push_of_some _ e)) ⟨_, Heap.get?_push_of_some _ (Heap.get?_push_size _ rfl), rfl, 0, rfl⟩ hI
  · exact ⟨h₁.1, F.args_object_init_3 obj _ _, object_init_meets called_cb.init.lookup called_cb.made (by decide +kernel) prog w A.in1 _ s₁ ⟨h₁.1, rfl, h₁.2⟩⟩
theorem iter_cb {cm : Addr} {pool last : Value} {st : Int} {idx : List Nat} {Q : Value → Shared → Prop} (hit : IsCb s.heap cm pool st last idx) (h : Q (.ref cm) s) : wpAny (model prog w) A (pyIter (.ref cm)) Q E s := by
  have hT : s.TypeIs (.ref cm) "itertools.combinations" := ⟨_, hit, rfl⟩
  refine wpAny_pyIter_slot hT slot_cb_iter (wpAny_call_entry slot_cb_iter hT entry_cb_iter ?_ (args_cb_iter _))
  show wpAny _ _ (ret (.ref cm)) _ _ s
  exact wpAny_pure ⟨_, rfl, "itertools.combinations", _, hT, slot_cb_next.lookup, h⟩
theorem newTup {xs : List Value} {Q : Value → Shared → Prop} (hz : xs.length ≤ sizeLine) (h : Q (.ref s.heap.objs.size) { s with heap := s.heap.push { cls := .type "tuple", data := .seq xs.toArray } }) : wpAny (model prog w) A (newTuple xs) Q E s :=
  wpAny_newTuple h hz
/-- handing out the items at the indices idx -/
def nextIdx (n : Nat) (idx : List Nat) : Option (List Nat) :=
  match (List.range idx.length).reverse.find? fun i => idx.getD i 0 != i + n - idx.length with
  | none => none
  | some i => some (idx.take i ++ (List.range (idx.length - i)).map (idx.getD i 0 + 1 + ·))
theorem numbers {cm : Addr} {pool last : Value} {st : Int} {idx : List Nat} {Q : List Nat → Shared → Prop} (hit : IsCb s.heap cm pool st last idx) (h : Q idx s) : wpAny (model prog w) A (Builtin.Itertools.itNumbersFrom (.ref cm) 3) Q E s := by
  unfold Builtin.Itertools.itNumbersFrom
  show wpAny _ _ (load cm >>= _) _ _ s
  refine wpAny_bind (wpAny_load hit (wpAny_pure ?_))
  have e : ((recF pool st last idx).toList.drop 3).map (fun | .int n _ => n.toNat | _ => 0) = idx := by
    show (idx.map fun i : Nat => rawInt i).map _ = idx
    rw [List.map_map]
    conv => rhs; rw [← List.map_id idx]
    exact List.map_congr_left fun i _ => rfl
  exact (congrArg (fun z => Q z s) e).mpr h
theorem recF1 (pool last : Value) (st u : Int) (idx : List Nat) : (recF pool st last idx).setIfInBounds 1 (rawInt u) = recF pool u last idx := by
  unfold recF
  rw [List.setIfInBounds_toArray]
  rfl
theorem recF2 (pool last r : Value) (st : Int) (idx : List Nat) : (recF pool st last idx).setIfInBounds 2 r = recF pool st r idx := by
  unfold recF
  rw [List.setIfInBounds_toArray]
  rfl
theorem hand {cm pl : Addr} {st : Int} {last : Value} {items : Array Value} {fi idx : List Nat} {Q : Value → Shared → Prop} (hit : IsCb s.heap cm (.ref pl) st last fi) (hp : s.heap.IsTuple pl items) (hz : idx.length ≤ sizeLine)
    (hQ : ∀ h', IsCb h' cm (.ref pl) st (.ref s.heap.objs.size) fi → h'.get? s.heap.objs.size = some { cls := .type "tuple", data := .seq (idx.map fun i => items.getD i .none).toArray } → h'.objs.size = s.heap.objs.size + 1 →
      (∀ b o, b ≠ cm → s.heap.get? b = some o → h'.get? b = some o) → Q (.ref s.heap.objs.size) { s with heap := h' }) :
    wpAny (model prog w) A (do
      let result ← (do
        let items ← Builtin.Itertools.itPoolItems (.ref pl)
        newTuple (idx.map fun i => items.getD i .none))
      let before ← field (.ref cm) 2
      setField (.ref cm) 2 result
      letGo [before] [result]
      ret result) (fun fin s' => ∃ v, fin = Fin.done (Flow.ret v) ∧ Q v s') E s := by
  obtain ⟨ol, hol, _, nl, hdl⟩ := hp
  have hil : cm < s.heap.objs.size := Heap.lt_size hit
  refine wpAny_bind (wpAny_bind ?_); unfold Builtin.Itertools.itPoolItems
  refine wpAny_bind (wpAny_seqItems hol hdl (wpAny_pure ?_))
  refine newTup (by rw [List.length_map]; exact hz) ?_
  have hit1 := Heap.get?_push_of_some { cls := .type "tuple", data := .seq (idx.map fun i => items.getD i .none).toArray } hit
  refine wpAny_bind (wpAny_field hit1 rfl (x := last) rfl ?_)
  refine wpAny_bind (wpAny_setField_rec hit1 (by simp) fun h2 hit2 hs2 => ?_)
  refine wpAny_bind (wpAny_letGo (wpAny_pure ⟨_, rfl, hQ h2 ?_ ?_ ?_ fun b o hb e => ?_⟩))
  · rw [recF2] at hit2; exact hit2
  · exact hs2.extBut _ _ (Nat.ne_of_gt hil) (Heap.get?_push_size _ rfl)
  · rw [hs2.1, Heap.size_push]
  · exact hs2.extBut _ _ hb (Heap.get?_push_of_some _ e)
theorem first_cb {cm pl : Addr} {items : Array Value} {idx : List Nat} {Q : Option Value → Shared → Prop} (hit : IsCb s.heap cm (.ref pl) 0 .none idx) (hp : s.heap.IsTuple pl items) (hne : pl ≠ cm) (hz : idx.length ≤ sizeLine)
    (hQ : ∀ h', IsCb h' cm (.ref pl) 1 (.ref s.heap.objs.size) idx → h'.get? s.heap.objs.size = some { cls := .type "tuple", data := .seq (idx.map fun i => items.getD i .none).toArray } → h'.objs.size = s.heap.objs.size + 1 →
      (∀ b o, b ≠ cm → s.heap.get? b = some o → h'.get? b = some o) → Q (some (.ref s.heap.objs.size)) { s with heap := h' }) : wpAny (model prog w) A (callSpecial? (.ref cm) "__next__") Q E s := by
  have hT : s.TypeIs (.ref cm) "itertools.combinations" := ⟨_, hit, rfl⟩
  refine wpAny_callSpecial?_slot (name := Str.ofString "__next__") hT slot_cb_next (wpAny_call_entry slot_cb_next hT entry_cb_next ?_ (args_cb_next _))
  unfold Builtin.«itertools.combinations.__next__»
  show wpAny _ _ (field (.ref cm) 0 >>= _) _ _ s
  refine wpAny_bind (wpAny_field hit rfl (x := .ref pl) rfl ?_)
  show wpAny _ _ (Builtin.Itertools.itNumbersFrom (.ref cm) 3 >>= _) _ _ s
  refine wpAny_bind (numbers hit ?_)
  show wpAny _ _ ((field (.ref cm) 1 >>= _) >>= _) _ _ s
  refine wpAny_bind (wpAny_bind (wpAny_field hit rfl (x := .int 0 0) rfl (wpAny_pure ?_))); dsimp only
  refine wpAny_bind (wpAny_setField_rec hit (by simp) fun h1 hit1 hs1 => ?_)
  rw [recF1] at hit1
  exact hand hit1 (hp.extBut hs1.extBut hne) hz fun h' a b d k => by
    rw [hs1.1] at a b d
    rw [hs1.1]
    exact hQ h' a b d fun b o hb e => k b o hb (hs1.extBut _ _ hb e)
theorem step_cb {cm pl : Addr} {last : Value} {items : Array Value} {idx idx' : List Nat} {Q : Option Value → Shared → Prop} (hit : IsCb s.heap cm (.ref pl) 1 last idx) (hp : s.heap.IsTuple pl items) (hne : pl ≠ cm) (hz : idx'.length ≤ sizeLine) (hn : nextIdx items.size idx = some idx')
    (hQ : ∀ h', IsCb h' cm (.ref pl) 1 (.ref s.heap.objs.size) idx' → h'.get? s.heap.objs.size = some { cls := .type "tuple", data := .seq (idx'.map fun i => items.getD i .none).toArray } → h'.objs.size = s.heap.objs.size + 1 →
      (∀ b o, b ≠ cm → s.heap.get? b = some o → h'.get? b = some o) → Q (some (.ref s.heap.objs.size)) { s with heap := h' }) : wpAny (model prog w) A (callSpecial? (.ref cm) "__next__") Q E s := by
  have hT : s.TypeIs (.ref cm) "itertools.combinations" := ⟨_, hit, rfl⟩
  obtain ⟨ol, hol, _, nl, hdl⟩ := id hp
  refine wpAny_callSpecial?_slot (name := Str.ofString "__next__") hT slot_cb_next (wpAny_call_entry slot_cb_next hT entry_cb_next ?_ (args_cb_next _))
  unfold Builtin.«itertools.combinations.__next__»
  show wpAny _ _ (field (.ref cm) 0 >>= _) _ _ s
  refine wpAny_bind (wpAny_field hit rfl (x := .ref pl) rfl ?_)
  show wpAny _ _ (Builtin.Itertools.itNumbersFrom (.ref cm) 3 >>= _) _ _ s
  refine wpAny_bind (numbers hit ?_)
  show wpAny _ _ ((field (.ref cm) 1 >>= _) >>= _) _ _ s
  refine wpAny_bind (wpAny_bind (wpAny_field hit rfl (x := .int 1 0) rfl (wpAny_pure ?_)))
  show wpAny _ _ (Builtin.Itertools.itPoolItems (.ref pl) >>= _) _ _ s
  unfold Builtin.Itertools.itPoolItems
  refine wpAny_bind (wpAny_bind (wpAny_seqItems hol hdl (wpAny_pure ?_)))
  split
  · rename_i nx he
    have he' : nextIdx items.size idx = some nx := he
    rw [hn] at he'
    cases he'
    unfold Builtin.Itertools.itSetNumbersFrom
    refine wpAny_bind (wpAny_updateFields hit rfl ?_ ?_)
    · have hit1 : IsCb (s.heap.update cm (Obj.mapFields fun fs => fs.extract 0 3 ++ (idx'.map fun n : Nat => rawInt n).toArray)) cm (.ref pl) 1 last idx' := by
        have q := Heap.get?_update_self (Obj.mapFields fun fs => fs.extract 0 3 ++ (idx'.map fun n : Nat => rawInt n).toArray) hit rfl
        have e : Obj.mapFields (fun fs => fs.extract 0 3 ++ (idx'.map fun n : Nat => rawInt n).toArray) { cls := .type "itertools.combinations", dict := none, data := .fields (recF (.ref pl) 1 last idx), slots := #[] } = { cls := .type "itertools.combinations", dict := none, data := .fields (recF (.ref pl) 1 last idx'), slots := #[] } := by
          show Obj.mk _ _ (.fields _) _ = Obj.mk _ _ (.fields _) _
          congr 2
          unfold recF
          simp
        rw [e] at q
        exact q
      have hs1 : Heap.SameBut cm s.heap (s.heap.update cm (Obj.mapFields fun fs => fs.extract 0 3 ++ (idx'.map fun n : Nat => rawInt n).toArray)) := Heap.SameBut.update ..
      exact hand hit1 (hp.extBut hs1.extBut hne) hz fun h' a b d k => by
        rw [hs1.1] at a b d
        rw [hs1.1]
        exact hQ h' a b d fun b o hb e => k b o hb (hs1.extBut _ _ hb e)
    · have : ((recF (.ref pl) 1 last idx).extract 0 3 ++ (idx'.map fun n : Nat => rawInt n).toArray).size ≤ 3 + idx'.length := by
        unfold recF
        simp
        omega
      omega
  · rename_i he
    have he' : nextIdx items.size idx = none := he
    rw [hn] at he'
    cases he'
theorem stop_cb (hh : A.handled = none) {cm : Addr} {Q : Fin → Shared → Prop} (hQ : ∀ e h', CpRep.StopE e h' → (∀ b o, b ≠ cm → s.heap.get? b = some o → h'.get? b = some o) → E e { s with heap := h' }) : wpAny (model prog w) A (Builtin.Itertools.itStop : Sem Fin) Q E s := by
  unfold Builtin.Itertools.itStop
  show wpAny _ _ (newExc (.type "StopIteration") [] >>= fun e => raiseNew e) _ _ _
  have no_args : firstArgMember (.type "StopIteration") [] = pure Value.none := by
    first | rfl | simp only [firstArgMember]
  simp only [newExc, newTuple, raiseNew]
  refine wpAny_bind (wpAny_bind (wpAny_newObj_type (wpAny_bind (wpAny_of_eq no_args (wpAny_newObj_type (wpAny_bind (wpAny_handled ?_)) (by size_fits)))) (by size_fits)))
  rw [hh]
  exact wpAny_bind (wpAny_pure (wpAny_throw (hQ _ _ ⟨_, _, _, rfl, Heap.get?_push_size _ rfl, rfl, rfl, rfl⟩ fun b o _ e => Heap.get?_push_of_some _ (Heap.get?_push_of_some _ e))))
/-- the end: none are left, or there were none -/
theorem end_cb {cm pl : Addr} {last : Value} {items : Array Value} {idx : List Nat} {st : Int} {Q : Option Value → Shared → Prop} (hh : A.handled = none) (hit : IsCb s.heap cm (.ref pl) st last idx) (hp : s.heap.IsTuple pl items) (hn : st = 2 ∨ (st = 1 ∧ nextIdx items.size idx = none))
    (hQ : ∀ e h', CpRep.StopE e h' → (∀ b o, b ≠ cm → s.heap.get? b = some o → h'.get? b = some o) → E e { s with heap := h' }) : wpAny (model prog w) A (callSpecial? (.ref cm) "__next__") Q E s := by
  have hT : s.TypeIs (.ref cm) "itertools.combinations" := ⟨_, hit, rfl⟩
  obtain ⟨ol, hol, _, nl, hdl⟩ := id hp
  refine wpAny_callSpecial?_slot (name := Str.ofString "__next__") hT slot_cb_next (wpAny_call_entry slot_cb_next hT entry_cb_next ?_ (args_cb_next _))
  unfold Builtin.«itertools.combinations.__next__»
  show wpAny _ _ (field (.ref cm) 0 >>= _) _ _ s
  refine wpAny_bind (wpAny_field hit rfl (x := .ref pl) rfl ?_)
  show wpAny _ _ (Builtin.Itertools.itNumbersFrom (.ref cm) 3 >>= _) _ _ s
  refine wpAny_bind (numbers hit ?_)
  show wpAny _ _ ((field (.ref cm) 1 >>= _) >>= _) _ _ s
  rcases hn with rfl | ⟨rfl, hn⟩
  · refine wpAny_bind (wpAny_bind (wpAny_field hit rfl (x := .int 2 0) rfl (wpAny_pure ?_)))
    dsimp only
    refine wpAny_bind (wpAny_rule ?_); exact stop_cb (show A.in1.handled = none from hh) hQ
  · refine wpAny_bind (wpAny_bind (wpAny_field hit rfl (x := .int 1 0) rfl (wpAny_pure ?_)))
    show wpAny _ _ (Builtin.Itertools.itPoolItems (.ref pl) >>= _) _ _ s
    unfold Builtin.Itertools.itPoolItems
    refine wpAny_bind (wpAny_bind (wpAny_seqItems hol hdl (wpAny_pure ?_)))
    split
    · rename_i nx he
      have he' : nextIdx items.size idx = some nx := he
      rw [hn] at he'
      cases he'
    · refine wpAny_bind (wpAny_setField_rec hit (by simp) fun h2 hit2 hs2 => ?_)
      exact stop_cb (cm := cm) (show A.in1.handled = none from hh) fun e h' a b => hQ e h' a fun b' o hb e' => b b' o hb (hs2.extBut _ _ hb e')
end
end Cmb

/-! combinations: the walk -/
namespace Cmb
/-! ### which indices follow one another -/
/-- the lists of r numbers lo ≤ .. < lo + m, ascending, in order -/
def cs : Nat → Nat → Nat → List (List Nat)
  | _, 0, _ => [[]]
  | 0, _ + 1, _ => []
  | m + 1, r + 1, lo => (cs m r (lo + 1)).map (lo :: ·) ++ cs m (r + 1) (lo + 1)
/-- f leads from each to the next, and from the last one to e -/
def Ch {α : Type} (f : α → Option α) : List α → Option α → Prop
  | [], _ => False
  | [a], e => f a = e
  | a :: b :: l, e => f a = some b ∧ Ch f (b :: l) e
theorem Ch.app {α : Type} {f : α → Option α} {e : Option α} {b : α} {l2 : List α} (h2 : Ch f (b :: l2) e) : ∀ {l1 : List α}, Ch f l1 (some b) → Ch f (l1 ++ b :: l2) e
  | [a], h => ⟨h, h2⟩
  | _ :: c :: l, h => ⟨h.1, Ch.app h2 (l1 := c :: l) h.2⟩
theorem Ch.map {α : Type} {f : α → Option α} {g : α → α} {e' : Option α} (P : α → Prop) (h1 : ∀ a b, P a → f a = some b → f (g a) = some (g b)) (h2 : ∀ a, P a → f a = none → f (g a) = e') : ∀ {l : List α}, (∀ a ∈ l, P a) → Ch f l none → Ch f (l.map g) e'
  | [a], p, h => h2 a (p a List.mem_cons_self) h
  | a :: c :: l, p, h => ⟨h1 a c (p a List.mem_cons_self) h.1, Ch.map P h1 h2 (l := c :: l) (fun x hx => p x (List.mem_cons_of_mem _ hx)) h.2⟩
theorem Ch.get {α : Type} {f : α → Option α} : ∀ {l : List α} {i : Nat} {x : α}, Ch f l none → l[i]? = some x → f x = l[i + 1]?
  | [a], 0, x, h, e => by cases e; exact h
  | [a], i + 1, x, h, e => by cases e
  | a :: c :: l, 0, x, h, e => by cases e; exact h.1
  | a :: c :: l, i + 1, x, h, e => Ch.get (l := c :: l) (i := i) h.2 (by simpa using e)
theorem nextIdx_cons (n a : Nat) (t : List Nat) : nextIdx n (a :: t) = match nextIdx n t with
    | some t' => some (a :: t')
    | none => if a ≠ n - (t.length + 1) then some ((List.range (t.length + 1)).map (a + 1 + ·)) else none := by
  unfold nextIdx
  rw [List.length_cons, List.range_succ_eq_map, List.reverse_cons, List.find?_append, ← List.map_reverse, List.find?_map]
  have e : ((fun i => (a :: t).getD i 0 != i + n - (t.length + 1)) ∘ Nat.succ) = fun i => t.getD i 0 != i + n - t.length := by
    funext i
    show (t.getD i 0 != (i + 1) + n - (t.length + 1)) = _
    rw [show (i + 1) + n - (t.length + 1) = i + n - t.length by omega]
  rw [e]
  cases hf : (List.range t.length).reverse.find? (fun i => t.getD i 0 != i + n - t.length) with
  | some i =>
    simp only [Option.map_some, Option.some_or]
    show some ((a :: t).take (i + 1) ++ (List.range (t.length + 1 - (i + 1))).map ((a :: t).getD (i + 1) 0 + 1 + ·)) = _
    rw [show t.length + 1 - (i + 1) = t.length - i by omega]
    rfl
  | none =>
    simp only [Option.map_none, Option.none_or]
    by_cases h : a = n - (t.length + 1)
    · have : ([0] : List Nat).find? (fun i => (a :: t).getD i 0 != i + n - (t.length + 1)) = none := by
        simp [h]
      rw [this]
      simp [h]
    · have : ([0] : List Nat).find? (fun i => (a :: t).getD i 0 != i + n - (t.length + 1)) = some 0 := by
        simp [h]
      rw [this]
      simp [h]
      rw [List.range_succ_eq_map]; rw [List.map_cons, List.map_map]
theorem cs_len : ∀ (m r lo : Nat), ∀ t ∈ cs m r lo, t.length = r
  | m, 0, lo, t, h => by
    unfold cs at h
    rw [List.mem_singleton.mp h]
    rfl
  | 0, r + 1, _, t, h => by cases h
  | m + 1, r + 1, lo, t, h => by
    rcases (List.mem_append.mp h) with h | h
    · obtain ⟨u, hu, rfl⟩ := List.mem_map.mp h
      rw [List.length_cons, cs_len m r (lo + 1) u hu]
    · exact cs_len m (r + 1) (lo + 1) t h
theorem rng_cons (r lo : Nat) : (List.range (r + 1)).map (lo + ·) = lo :: (List.range r).map (lo + 1 + ·) := by
  rw [List.range_succ_eq_map]; rw [List.map_cons, List.map_map]
  congr 1
  exact List.map_congr_left fun i _ => by show lo + (i + 1) = _; omega
theorem cs_nil : ∀ (m r lo : Nat), m < r → cs m r lo = []
  | 0, r + 1, _, _ => rfl
  | m + 1, r + 1, lo, h => by
    show (cs m r (lo + 1)).map (lo :: ·) ++ cs m (r + 1) (lo + 1) = []
    rw [cs_nil m r _ (by omega), cs_nil m (r + 1) _ (by omega)]
    rfl
theorem cs_head : ∀ (m r lo : Nat), r ≤ m → ∃ l, cs m r lo = ((List.range r).map (lo + ·)) :: l
  | _, 0, _, _ => by unfold cs; exact ⟨[], rfl⟩
  | m + 1, r + 1, lo, h => by
    obtain ⟨l, e⟩ := cs_head m r (lo + 1) (by omega)
    refine ⟨l.map (lo :: ·) ++ cs m (r + 1) (lo + 1), ?_⟩
    show (cs m r (lo + 1)).map (lo :: ·) ++ cs m (r + 1) (lo + 1) = _
    rw [e, rng_cons]
    rfl
theorem cs_ch : ∀ (m r lo n : Nat), lo + m = n → r ≤ m → Ch (nextIdx n) (cs m r lo) none
  | m, 0, lo, n, _, _ => by
    unfold cs
    show nextIdx n [] = none
    rfl
  | m + 1, r + 1, lo, n, e, h => by
    show Ch _ ((cs m r (lo + 1)).map (lo :: ·) ++ cs m (r + 1) (lo + 1)) none
    have c1 := cs_ch m r (lo + 1) n (by omega) (by omega)
    by_cases hr : r + 1 ≤ m
    · have c2 := cs_ch m (r + 1) (lo + 1) n (by omega) hr
      obtain ⟨l, el⟩ := cs_head m (r + 1) (lo + 1) hr
      rw [el] at c2 ⊢
      refine Ch.app c2 (Ch.map (fun t => t.length = r) (fun a b p q => ?_) (fun a p q => ?_) (cs_len m r (lo + 1)) c1)
      · rw [nextIdx_cons, q]
      · rw [nextIdx_cons, q, p]
        show (if lo ≠ n - (r + 1) then _ else _) = _
        rw [if_pos (by omega)]
    · rw [cs_nil m (r + 1) _ (by omega), List.append_nil]
      refine Ch.map (fun t => t.length = r) (fun a b p q => ?_) (fun a p q => ?_) (cs_len m r (lo + 1)) c1
      · rw [nextIdx_cons, q]
      · rw [nextIdx_cons, q, p]
        show (if lo ≠ n - (r + 1) then _ else _) = _
        rw [if_neg (by omega)]
/-- the index lists of combinations(.., r) of n items -/
def combs (n r : Nat) : List (List Nat) := cs n r 0
theorem combs_zero {n r : Nat} (h : r ≤ n) : (combs n r)[0]? = some (List.range r) := by
  obtain ⟨l, e⟩ := cs_head n r 0 h
  unfold combs
  rw [e]
  simp
theorem combs_none {n r : Nat} (h : n < r) : combs n r = [] := cs_nil n r 0 h
theorem combs_next {n r i : Nat} {x : List Nat} (h : r ≤ n) (e : (combs n r)[i]? = some x) : nextIdx n x = (combs n r)[i + 1]? := (cs_ch n r 0 n (Nat.zero_add _) h).get e
theorem combs_len {n r i : Nat} {x : List Nat} (e : (combs n r)[i]? = some x) : x.length = r := cs_len n r 0 x (List.mem_of_getElem? e)
theorem cs_lt : ∀ (m r lo : Nat), ∀ t ∈ cs m r lo, ∀ i ∈ t, lo ≤ i ∧ i < lo + m
  | m, 0, lo, t, h => by
    unfold cs at h
    rw [List.mem_singleton.mp h]
    intro i hi
    cases hi
  | 0, r + 1, _, t, h => by cases h
  | m + 1, r + 1, lo, t, h => by
    rcases (List.mem_append.mp h) with h | h
    · obtain ⟨u, hu, rfl⟩ := List.mem_map.mp h
      intro i hi
      rcases List.mem_cons.mp hi with rfl | hi
      · omega
      · have := cs_lt m r (lo + 1) u hu i hi
        omega
    · intro i hi
      have := cs_lt m (r + 1) (lo + 1) t h i hi
      omega
theorem combs_lt {n r j : Nat} {x : List Nat} (e : (combs n r)[j]? = some x) : ∀ i ∈ x, i < n := fun i hi => by
  have := cs_lt n r 0 x (List.mem_of_getElem? e) i hi
  omega
end Cmb
namespace DL
open PySem PySem.Spec
open PyProof.Rows L2
/-- the items at the indices -/
def pickV (xs : List V) (idx : List Nat) : List V := idx.map fun i => xs.getD i .non
theorem pick_vals {xs : List V} {its : List Value} (rv : Vals xs its) : ∀ (idx : List Nat), Vals (pickV xs idx) (idx.map fun i => its.toArray.getD i Value.none)
  | [] => .nil
  | i :: r => .cons (by
      by_cases h : i < xs.length
      · obtain ⟨u, hu, ru⟩ := rv.get (List.getElem?_eq_getElem h)
        have e1 : xs.getD i .non = xs[i] := by simp [List.getD, List.getElem?_eq_getElem h]
        have e2 : its.toArray.getD i Value.none = u := by
          have := (List.getElem?_eq_some_iff.mp hu)
          obtain ⟨hl, e⟩ := this
          simp [Array.getD, hl, e]
        show RelV (xs.getD i .non) (its.toArray.getD i Value.none)
        rw [e1, e2]
        exact ru
      · have e1 : xs.getD i .non = .non := by simp [List.getD, List.getElem?_eq_none (Nat.le_of_not_lt h)]
        have e2 : its.toArray.getD i Value.none = Value.none := by
          have hl := rv.length
          simp [Array.getD, show ¬ i < its.length by omega]
        show RelV (xs.getD i .non) (its.toArray.getD i Value.none)
        rw [e1, e2]
        rfl) (pick_vals rv r)
/-- the items xs, r at a time, in new tuples -/
def Itcb (xs : List V) (r : Nat) : It :=
  ⟨fun i _ => i < (Cmb.combs xs.length r).length, fun i H v H' => ∃ T idx, v = .ref T ∧ H T = none ∧ H' = upd H T (.tup (pickV xs idx)) ∧ (Cmb.combs xs.length r)[i]? = some idx, fun i _ => (Cmb.combs xs.length r).length ≤ i⟩
def CbSt (it pl : Addr) (its : List Value) (r : Nat) (i : Nat) (h : Heap) : Prop :=
  h.IsTuple pl its.toArray ∧ pl ≠ it ∧ ((its.length < r ∧ ∃ last idx, Cmb.IsCb h it (.ref pl) 2 last idx) ∨ (r ≤ its.length ∧ i = 0 ∧ Cmb.IsCb h it (.ref pl) 0 .none (List.range r)) ∨
    (r ≤ its.length ∧ ∃ j last idx, i = j + 1 ∧ (Cmb.combs its.length r)[j]? = some idx ∧ Cmb.IsCb h it (.ref pl) 1 last idx))
theorem turn_cb {P : Program} {w : World} {K : PySem.W.Frag} {tg : Expr} {xs : List V} {its : List Value} (rv : Vals xs its) (it pl : Addr) (r : Nat) (hr : r < 1000) :
    Turn P w K tg (Itcb xs r) [it, pl] it (CbSt it pl its r) where
  mem := by simp
  obj := fun i h st b hb => by
    obtain ⟨hp, hne, st⟩ := st
    have hc : ∃ fs, h.get? it = some { cls := .type "itertools.combinations", dict := none, data := .fields fs, slots := #[] } := by
      rcases st with ⟨_, l, x, e⟩ | ⟨_, _, e⟩ | ⟨_, _, l, x, _, _, e⟩ <;> exact ⟨_, e⟩
    have e' : b = it ∨ b = pl := by simpa using hb
    rcases e' with z | z
    · obtain ⟨fs, e⟩ := hc
      rw [z]; exact ⟨_, e, fun v q => nomatch q⟩
    · obtain ⟨o, ho, _, nn, hd⟩ := hp
      rw [z]; exact ⟨o, ho, fun v q => by rw [hd] at q; cases q⟩
  keep := fun i h h' st k => by
    obtain ⟨⟨o, ho, q⟩, hne, st⟩ := st
    refine ⟨⟨o, k pl (by simp) o ho, q⟩, hne, ?_⟩
    rcases st with ⟨a, l, x, e⟩ | ⟨a, b, e⟩ | ⟨a, j, l, x, b, d, e⟩
    · exact .inl ⟨a, l, x, k it (by simp) _ e⟩
    · exact .inr (.inl ⟨a, b, k it (by simp) _ e⟩)
    · exact .inr (.inr ⟨a, j, l, x, b, d, k it (by simp) _ e⟩)
  item := by
    intro X hP hw hK hc i pins s σ H E I hf st hg; subst hP hw hK
    obtain ⟨hp, hne, st⟩ := st
    have hl := rv.length
    have hg : i < (Cmb.combs xs.length r).length := hg
    have hsz : its.length ≤ sizeLine → True := fun _ => trivial
    have fin : ∀ (idx : List Nat) (h' : Heap), (Cmb.combs xs.length r)[i]? = some idx → r ≤ its.length → Cmb.IsCb h' it (.ref pl) 1 (.ref s.heap.objs.size) idx → h'.get? s.heap.objs.size = some { cls := .type "tuple", data := .seq (idx.map fun i => its.toArray.getD i .none).toArray } → h'.objs.size = s.heap.objs.size + 1 →
        (∀ b o, b ≠ it → s.heap.get? b = some o → h'.get? b = some o) → ∃ u, some (Value.ref s.heap.objs.size) = some u ∧
        wpAny (model X.prog X.w) X.A (letOwnedTupleGo tg (.ref it) u) (fun _ s2 => ∃ x H', Inv X pins σ H' s2 ∧ RelV x u ∧ (Itcb xs r).yld i H x H' ∧ CbSt it pl its r (i + 1) s2.heap ∧ ∀ b ∈ [it, pl], H' b = none) E { s with heap := h' } := fun idx h' hi hrn a b d k => by
      have hil : it < s.heap.objs.size := by
        rcases st with ⟨_, l, x, e⟩ | ⟨_, _, e⟩ | ⟨_, _, l, x, _, _, e⟩ <;> exact Heap.lt_size e
      have hpl : pl < s.heap.objs.size := by
        obtain ⟨o, ho, _⟩ := hp
        exact Heap.lt_size ho
      have pv := pick_vals rv idx
      have new : ObjOk X.prog X.w (upd H s.heap.objs.size (.tup (pickV xs idx))) h' s.heap.objs.size (.tup (pickV xs idx)) :=
        ⟨by unfold pickV; rw [List.length_map, Cmb.combs_len hi, sizeLine_eq]; omega, _, pv, ⟨_, b, rfl, _, rfl⟩⟩
      have I1 : Inv X pins σ (upd H s.heap.objs.size (.tup (pickV xs idx))) { s with heap := h' } :=
        I.turnedNew (t' := s.toks) (ch := [it, pl]) (fun c ob hb q => k c ob (fun z => hb (by simp [z])) q) hf (Nat.le_refl _) new
      refine ⟨_, rfl, go_of (s := { s with heap := h' }) a rfl rfl (by decide) ⟨.ref s.heap.objs.size, _, I1, rfl, ⟨_, idx, rfl, I.hok.fresh (Nat.le_refl _), rfl, hi⟩, ⟨?_, hne, .inr (.inr ⟨hrn, i, _, idx, rfl, by rw [← hl]; exact hi, a⟩)⟩, fun c hb => ?_⟩⟩
      · obtain ⟨o, ho, q⟩ := hp
        exact ⟨o, k _ _ hne ho, q⟩
      · have hb' : c < s.heap.objs.size := by
          have e' : c = it ∨ c = pl := by simpa using hb
          rcases e' with z | z
          · rw [z]; exact hil
          · rw [z]; exact hpl
        rw [upd_ne (Nat.ne_of_lt hb')]; exact (hf c hb).1
    unfold pyNext
    rcases st with ⟨a, l, x, e⟩ | ⟨a, b, e⟩ | ⟨a, j, l, x, b, d, e⟩
    · rw [Cmb.combs_none (by omega)] at hg
      exact absurd hg (Nat.not_lt_zero _)
    · subst b
      refine wpAny_bind (wpAny_attempt (Cmb.first_cb e hp hne (by rw [List.length_range, sizeLine_eq]; omega) fun h' a1 b1 d1 k => wpAny_pure ?_))
      exact fin (List.range r) h' (Cmb.combs_zero (by omega)) a a1 b1 d1 k
    · subst b
      have hn := Cmb.combs_next (i := j) (by omega) d
      rw [← hl, List.getElem?_eq_getElem hg] at hn
      refine wpAny_bind (wpAny_attempt (Cmb.step_cb e hp hne (by rw [Cmb.combs_len (List.getElem?_eq_getElem hg), sizeLine_eq]; omega) (by rw [List.size_toArray, ← hl]; exact hn) fun h' a1 b1 d1 k => wpAny_pure ?_))
      exact fin _ h' (List.getElem?_eq_getElem hg) a a1 b1 d1 k
  done := by
    intro X hP hw hK hc i pins s σ H E I hf st hg; subst hP hw hK
    obtain ⟨hp, hne, st⟩ := st
    have hl := rv.length
    have hg : (Cmb.combs xs.length r).length ≤ i := hg
    have hend : ∃ u last idx, Cmb.IsCb s.heap it (.ref pl) u last idx ∧ (u = 2 ∨ (u = 1 ∧ Cmb.nextIdx its.toArray.size idx = none)) := by
      rcases st with ⟨a, l, x, e⟩ | ⟨a, b, e⟩ | ⟨a, j, l, x, b, d, e⟩
      · exact ⟨_, _, _, e, .inl rfl⟩
      · subst b
        have q := Cmb.combs_zero (n := xs.length) (r := r) (by omega)
        have := (List.getElem?_eq_some_iff.mp q).1
        omega
      · refine ⟨_, _, _, e, .inr ⟨rfl, ?_⟩⟩
        rw [List.size_toArray, Cmb.combs_next a d, ← hl]
        exact List.getElem?_eq_none (by omega)
    obtain ⟨u, last, idx, e, hu⟩ := hend
    unfold pyNext
    refine wpAny_bind (wpAny_attempt (Cmb.end_cb (I.ok.hd hc) e hp hu fun ev h' he k => ?_))
    obtain ⟨a, o, vs, rfl, ho, hcl, _, _⟩ := he
    refine wpAny_bind (wpAny_isInstance (T := "StopIteration") (b := true) ⟨o, ho, hcl⟩ isSubtype_stop ?_)
    exact wpAny_pure ⟨rfl, I.turnedL (t' := s.toks) (ch := [it, pl]) (fun c ob hb q => k c ob (fun z => hb (by simp [z])) q) hf⟩
  self A i s Q E st h := by
    obtain ⟨hp, hne, st⟩ := st
    rcases st with ⟨_, l, x, e⟩ | ⟨_, _, e⟩ | ⟨_, _, l, x, _, _, e⟩ <;> exact Cmb.iter_cb e h
end DL

/-! combinations, in the layer -/
namespace DL
open PySem PySem.Spec
open PyProof.Rows L2
theorem coll_range {prog : Program} {w : World} {A : Around} {s : Shared} {r : Addr} {a b : Int} {t u v : Tok} (hh : A.handled = none) (hr : IsRange s.heap r a b 1 t u v) (ok : RgOk a b) : Cmb.Coll prog w A s (.ref r) fun its => Vals (rgV a b) its := fun E Q hQ => by
  obtain ⟨b1, b2, b3, b4, b5⟩ := ok; exact collect_range (n := (b - a).toNat) hh hr (small_one b1 b2 b3 b4) (rangeSize_nat a b) b5 fun h' tk acc hk hi => hQ h' tk acc.toList hk (vals_rg hi)
theorem coll_list {prog : Program} {w : World} {A : Around} {s : Shared} {p : Addr} {its : List Value} {xs : List V} (rv : Vals xs its) (hp : s.heap.IsList p its.toArray) (hz : its.length ≤ sizeLine) : Cmb.Coll prog w A s (.ref p) fun its => Vals xs its := fun E Q hQ => by
  obtain ⟨o, ho, hc, n, hd⟩ := hp
  refine wpAny_collect_seq p (T := "list") (.inl rfl) ho hc hd (fun h' hk => ?_) (by rw [List.size_toArray]; exact hz)
  exact hQ h' s.toks _ hk rv
theorem coll_tuple {prog : Program} {w : World} {A : Around} {s : Shared} {p : Addr} {its : List Value} {xs : List V} (rv : Vals xs its) (hp : s.heap.IsTuple p its.toArray) (hz : its.length ≤ sizeLine) : Cmb.Coll prog w A s (.ref p) fun its => Vals xs its := fun E Q hQ => by
  obtain ⟨o, ho, hc, n, hd⟩ := hp
  refine wpAny_collect_seq p (T := "tuple") (.inr rfl) ho hc hd (fun h' hk => ?_) (by rw [List.size_toArray]; exact hz)
  exact hQ h' s.toks _ hk rv
section
variable {X : Cx} {tg e a : Expr} {ta te : TE} {p pos p2 pos2 p3 : Pos} {n : Int} {r : Nat} {jj : Nat}
/-- combinations(v, r), v collected as xs -/
theorem pi_cbOf {pins : List (Addr × Obj)} {σ : Sg} {H : Hp} {s : Shared} {R : It → Hp → Prop} {v : Value} {t : Tok} {xs : List V} (I : Inv X pins σ H s) (hr : r < 1000) (hC : ∀ A', A'.handled = X.A.handled → Cmb.Coll X.prog X.w A' s v fun its => Vals xs its) (hz : xs.length ≤ sizeLine) (q : R (Itcb xs r) H) :
    wpAny (model X.prog X.w) X.A (call (.type "itertools.combinations") [v, .int r t]) (fun v s1 => wpAny (model X.prog X.w) X.A (pyIter v) (PIE X pins σ tg R) X.xe s1) X.xe s := by
  refine Cmb.call_cb hr hC (fun its rv => by rw [← rv.length]; exact hz) fun h' tk its h2 hk rv hk2 hp hi => Cmb.iter_cb hi ?_
  have I1 : Inv X pins σ H { s with heap := h', toks := tk } := I.kept hk; have I2 : Inv X pins σ H { s with heap := h2, toks := tk } := I.kept fun b o e => hk2 _ _ (hk b o e)
  refine ⟨h'.objs.size + 1, [h'.objs.size + 1, h'.objs.size], _, _, H, rfl, I2, turn_cb rv (h'.objs.size + 1) h'.objs.size r hr, ⟨hp, Nat.ne_of_lt (Nat.lt_succ_self _), ?_⟩, fun b hb => ?_, q⟩
  · by_cases h : r > its.length
    · rw [if_pos h] at hi
      exact .inl ⟨h, _, _, hi⟩
    · rw [if_neg h] at hi
      exact .inr (.inl ⟨by omega, rfl, hi⟩)
  · have hle : h'.objs.size ≤ b := by
      have e' : b = h'.objs.size + 1 ∨ b = h'.objs.size := by simpa using hb
      rcases e' with z | z
      · rw [z]; apply Nat.le_add_right
      · rw [z]; exact Nat.le_refl _
    have q := I1.fpOk hle (I1.hok.fresh hle)
    exact q
/-- combinations(range(n), r) -/
def iCbR (ta : TE) (r : Nat) : TI := fun σ H R => ta σ H fun x H1 => ∃ n, x = .int n ∧ RgOk 0 n ∧ R (Itcb (rgV 0 n) r) H1
theorem pi_cbR (hr : r < 1000) (hn : n = (r : Int)) (hg : Gl X "combinations") (hm : X.mg "combinations" = some (.type "itertools.combinations")) (hg2 : Gl X "range") (hm2 : X.mg "range" = none) (hc : X.calm = true) (ha : PE X a ta) (na : starEach [a] X.env = (false, eval a X.env) :: starEach [] X.env)
    (hs : starEach [.Call (.Name "range" p2) [a] [] pos2, .Constant (.int n) jj p3] X.env = (false, eval (.Call (.Name "range" p2) [a] [] pos2) X.env) :: starEach [.Constant (.int n) jj p3] X.env) (hs2 : starEach [.Constant (.int n) jj p3] X.env = (false, eval (.Constant (.int n) jj p3) X.env) :: starEach [] X.env)
    (hpl : (backTo pos (starEach [.Constant (.int n) jj p3] X.env)).any (·.1) = false) :
    PI X tg (.Call (.Name "combinations" p) [.Call (.Name "range" p2) [a] [] pos2, .Constant (.int n) jj p3] [] pos) (iCbR ta r) := by
  refine (⟨fun pins s σ H R I h => ?_⟩)
  subst hn
  refine Call_ (ld_glob I hg hm (PyProof.Rows.callWith_type1 (args_cons (thn (prg_1 hg2 hm2 ha na pins s σ H (fun a b H1 => RgOk a b ∧ R (Itcb (rgV a b) r) H1) I h) fun v s1 ⟨ad, a, b, t, u, w, H1, ev, hr1, I1, ok, q⟩ => ?_) hs) hs hpl))
  · subst ev
    refine args_cons (wpAny_Constant_int (args_nil ?_)) hs2
    have hh := I1.ok.hd hc
    refine pi_cbOf (s := { s1 with toks := s1.toks + 1 }) (I1.tok _) hr (fun A' e => coll_range (e.trans hh) hr1 ok) ?_ q
    obtain ⟨b1, b2, b3, b4, b5⟩ := ok; rw [rgV_length, sizeLine_eq]
    omega
/-- combinations(xs, r) of a list or a tuple -/
def iCbS (K : PySem.W.Frag) (ta : TE) (r : Nat) : TI := fun σ H R => ta σ H fun x H1 => ∃ p xs, x = .ref p ∧ (SqL K H1 p xs ∨ SqT K H1 p xs) ∧ R (Itcb xs r) H1
theorem pi_cbS (hr : r < 1000) (hn : n = (r : Int)) (hg : Gl X "combinations") (hm : X.mg "combinations" = some (.type "itertools.combinations")) (hc : X.calm = true) (ha : PE X a ta)
    (hs : starEach [a, .Constant (.int n) jj p3] X.env = (false, eval a X.env) :: starEach [.Constant (.int n) jj p3] X.env) (hs2 : starEach [.Constant (.int n) jj p3] X.env = (false, eval (.Constant (.int n) jj p3) X.env) :: starEach [] X.env)
    (hpl : (backTo pos (starEach [.Constant (.int n) jj p3] X.env)).any (·.1) = false) :
    PI X tg (.Call (.Name "combinations" p) [a, .Constant (.int n) jj p3] [] pos) (iCbS X.K ta r) := by
  refine (⟨fun pins s σ H R I h => ?_⟩)
  subst hn
  refine Call_ (ld_glob I hg hm (PyProof.Rows.callWith_type1 (args_cons (thn (ha.run pins s σ H _ I h) fun v s1 ⟨x, H1, I1, rx, ad, xs, ex, hq, q⟩ => ?_) hs) hs hpl))
  subst ex
  obtain rfl : v = .ref ad := rx
  refine args_cons (wpAny_Constant_int (args_nil ?_)) hs2
  have I2 := I1.tok (s1.toks + 1)
  rcases hq with hq | hq
  · obtain ⟨its, rv, pl, hz⟩ := I2.list hq
    exact pi_cbOf I2 hr (fun A' e => coll_list rv pl.isList (by rw [← rv.length]; exact hz)) hz q
  · obtain ⟨its, rv, pl, hz⟩ := I2.tuple hq
    exact pi_cbOf I2 hr (fun A' e => coll_tuple rv pl (by rw [← rv.length]; exact hz)) hz q
end
/-! ### in the layer -/
section
variable {c : Core} {ι : Type} {v : ι → Var} {S : Ent} {Γ : List AV} {a tg : Expr} {p pos p2 pos2 p3 : Pos} {n : Int} {r jj : Nat} {QS : List Dt → List AV → Prop}
/-- the choices of r of ds -/
def cbD (ds : List Dt) (r : Nat) : List Dt := (Cmb.combs ds.length r).map fun idx => .tup (idx.map fun i => ds.getD i .non)
theorem cbD_len (ds : List Dt) (r : Nat) : (cbD ds r).length = (Cmb.combs ds.length r).length := by
  unfold cbD
  rw [List.length_map]
theorem RpL.pick {K : PySem.W.Frag} {H : Hp} {ex : AP} {xs : List V} {ds : List Dt} (h : RpL K H ex xs ds) : ∀ (idx : List Nat), (∀ i ∈ idx, i < ds.length) → RpL K H ex (pickV xs idx) (idx.map fun i => ds.getD i .non)
  | [], _ => .nil
  | i :: t, hi => by
    have hl : i < xs.length := by rw [h.len]; exact hi i List.mem_cons_self
    obtain ⟨d, ed, hd⟩ := h.get' (List.getElem?_eq_getElem hl)
    refine .cons ?_ (RpL.pick h t fun j hj => hi j (List.mem_cons_of_mem _ hj))
    have e1 : xs.getD i .non = xs[i] := by simp [List.getD, List.getElem?_eq_getElem hl]
    have e2 : ds.getD i .non = d := by simp [List.getD, ed]
    show Rp _ _ _ (xs.getD i .non) (ds.getD i .non)
    rw [e1, e2]
    exact hd
theorem walk_cb {K : PySem.W.Frag} {H1 : Hp} {own E : AP} {xs : List V} {ds : List Dt} {r : Nat} (h : RpL K H1 E xs ds) : Walk K (Itcb xs r) H1 own E (cbD ds r) := by
  have hl := h.len
  refine ⟨fun j H' _ hj => by rw [cbD_len, ← hl] at hj; exact hj, fun j H' _ hj => by rw [cbD_len, ← hl] at hj; exact hj, fun j H' x H'' _ hj y => ?_⟩
  obtain ⟨T, idx, rfl, nT, rfl, hi⟩ := y
  rw [hl] at hi
  refine ⟨.tup (idx.map fun i => ds.getD i .non), ?_, .inr ⟨T, _, _, nT, rfl, rfl, rfl, h.pick idx (Cmb.combs_lt hi)⟩⟩
  unfold cbD
  rw [List.getElem?_map, hi]
  rfl
theorem rg_RpL {K : PySem.W.Frag} {H : Hp} {ex : AP} (m : Int) : RpL K H ex (rgV 0 m) (rngD 0 m.toNat) := by
  unfold rgV rngD
  rw [Int.sub_zero]
  have : ∀ l : List Nat, RpL K H ex (l.map fun i => V.int (0 + (i : Nat))) (l.map fun i => Dt.int (0 + (i : Nat))) := fun l => by
    induction l with
    | nil => exact .nil
    | cons i t ih => exact .cons (.int _) ih
  exact this _
theorem src_cbR (hr : r < 1000) (hn : n = (r : Int)) (hg : ∀ i, Gl (mkX c (v i)) "combinations") (hm : c.mg "combinations" = some (.type "itertools.combinations")) (hg2 : ∀ i, Gl (mkX c (v i)) "range") (hm2 : c.mg "range" = none) (na : NoStar v a [])
    (hs : NoStar v (.Call (.Name "range" p2) [a] [] pos2) [.Constant (.int n) jj p3]) (hs2 : NoStar v (.Constant (.int n) jj p3) []) (hpl : NoStarL v pos [.Constant (.int n) jj p3])
    (h : EK c v S a Γ fun k Γ1 => ∃ m, akD Γ1 k = some (.int m) ∧ (0 ≤ m ∧ m ≤ 16777216) ∧ QS (cbD (rngD 0 m.toNat) r) Γ1) (still : c.calm = true := by rfl) : SrcD c v S tg (.Call (.Name "combinations" p) [.Call (.Name "range" p2) [a] [] pos2, .Constant (.int n) jj p3] [] pos) Γ QS := fun σ H R rr kk => by
  refine ⟨_, fun i => (show PI (mkX c (v i)) tg _ (iCbR (wE c v a) r) from pi_cbR hr hn (hg i) hm (hg2 i) hm2 still (wE.pe i) (na i) (hs i) (hs2 i) (hpl i)), ?_⟩
  refine h σ H _ rr fun x H1 k Γ1 ⟨m, ed, b, q⟩ r1 hk s => ?_
  cases akD_of ed hk
  exact ⟨m, rfl, .of_le (by omega) b.2 (by omega) b.1, kk _ _ _ _ q r1 s (walk_cb (rg_RpL m))⟩
theorem src_cbS (hr : r < 1000) (hn : n = (r : Int)) (hg : ∀ i, Gl (mkX c (v i)) "combinations") (hm : c.mg "combinations" = some (.type "itertools.combinations"))
    (hs : NoStar v a [.Constant (.int n) jj p3]) (hs2 : NoStar v (.Constant (.int n) jj p3) []) (hpl : NoStarL v pos [.Constant (.int n) jj p3])
    (h : EK c v S a Γ fun k Γ1 => ∃ ds, akS Γ1 k = some ds ∧ QS (cbD ds r) Γ1) (still : c.calm = true := by rfl) : SrcD c v S tg (.Call (.Name "combinations" p) [a, .Constant (.int n) jj p3] [] pos) Γ QS := fun σ H R rr kk => by
  refine ⟨_, fun i => (show PI (mkX c (v i)) tg _ (iCbS c.K (wE c v a) r) from pi_cbS hr hn (hg i) hm still (wE.pe i) (hs i) (hs2 i) (hpl i)), ?_⟩
  refine h σ H _ rr fun x H1 k Γ1 ⟨ds, ed, q⟩ r1 hk s => ?_
  obtain ⟨p, xs, rfl, hq, hx⟩ := akS_of ed r1 hk
  exact ⟨p, xs, rfl, hq, kk _ _ _ _ q r1 s (walk_cb hx)⟩
end
end DL

namespace DL
open PySem PySem.Spec
open PyProof.Rows L2
section
variable {c : Core} {ι : Type} {v : ι → Var} {x : Str} {i : Nat}
def visB (sc : Scope) (x : Str) : Bool := match sc.names.lookup x with
  | some .local => true
  | some .cell => true
  | some .free => true
  | _ => false
def locB (sc : Scope) (x : Str) : Bool := match sc.names.lookup x with
  | some .local => true
  | some .cell => true
  | _ => false
theorem vis_of {sc : Scope} (h : visB sc x = true) : Vis sc x := by
  unfold visB at h
  split at h
  · rename_i e; exact .inl e
  · rename_i e; exact .inr (.inl e)
  · rename_i e; exact .inr (.inr e)
  · cases h
theorem loc_of {sc : Scope} (h : locB sc x = true) : Loc sc x := by
  unfold locB at h
  split at h
  · rename_i e; exact .inl e
  · rename_i e; exact .inr e
  · cases h
theorem at_of (h1 : c.N[i]? = some x) (h : ∀ k, visB (v k).env.scope x = true) (d1 : (x == ("__debug__" : Str)) = false) (d2 : (x == ("__classdict__" : Str)) = false) : At c v x i := ⟨h1, fun k => vis_of (h k), d1, d2⟩
def hfB (w : Var) (x : Str) : Bool := w.fn x || (match w.env.scope.names.lookup x with
  | some .local => true
  | _ => false)
theorem ats_of (nd : c.N.Nodup) (h1 : c.N[i]? = some x) (h : ∀ k, locB (v k).env.scope x = true) (h2 : ∀ k, hfB (v k) x = true) : AtS c v x i := ⟨nd, h1, fun k => loc_of (h k), fun k => by
  have := h2 k
  unfold hfB at this
  rcases Bool.or_eq_true _ _ ▸ this with z | z
  · exact .inl z
  · split at z
    · rename_i e; exact .inr e
    · cases z⟩
end
theorem nls {as : List AV} {vs : List V} {is : List Nat} (h : (is.all fun i => match as[i]? with | some (AV.ow _) => false | _ => true) = true) : ∀ i ∈ is, ∀ p, (i, p) ∉ lentOf as vs := fun i hi => nl (List.all_eq_true.mp h i hi)
/-! ### kinds -/
def isI : Dt → Bool
  | .int _ => true
  | .bl _ => true
  | _ => false
def isB : Dt → Bool
  | .bl _ => true
  | _ => false
def isT : Dt → Bool
  | .tup _ => true
  | _ => false
theorem ty_int {d : Dt} {t : String} (h : d.ty = some t) : kitB t "int" = some (isI d) := by
  unfold Dt.ty at h; split at h <;> first | cases h | skip
  all_goals first | (show _ = some true; decide +kernel) | (show _ = some false; decide +kernel)
theorem ty_bool {d : Dt} {t : String} (h : d.ty = some t) : kitB t "bool" = some (isB d) := by
  unfold Dt.ty at h; split at h <;> first | cases h | skip
  all_goals first | (show _ = some true; decide +kernel) | (show _ = some false; decide +kernel)
theorem ty_tuple {d : Dt} {t : String} (h : d.ty = some t) : kitB t "tuple" = some (isT d) := by
  unfold Dt.ty at h; split at h <;> first | cases h | skip
  all_goals first | (show _ = some true; decide +kernel) | (show _ = some false; decide +kernel)
end DL

/-! a list against the empty one -/
namespace DL
open PySem PySem.Spec
open PyProof.Rows L2
def rNeE (K : PySem.W.Frag) : R2 := fun x y H Q => ∃ p q xs, x = .ref p ∧ y = .ref q ∧ SqL K H p xs ∧ SqL K H q [] ∧ Q (.bl (!xs.isEmpty)) H
theorem op_neE {X : Cx} (hu : X.A.units < cLine) : OpR X (compareOp .NotEq) (rNeE X.K) := by
  intro pins s σ H x y v u Q I rx ry h; obtain ⟨p, q, xs, rfl, rfl, hp, hq, hQ⟩ := h
  obtain rfl : v = .ref p := rx
  obtain rfl : u = .ref q := ry
  obtain ⟨its, rv, pl, hz⟩ := I.list hp; obtain ⟨its2, rv2, pl2, hz2⟩ := I.list hq
  have l1 := rv.length
  have l2 := rv2.length
  cases xs with
  | nil =>
    have := PySem.SeqAt.RcNeAt.lists (e := fun _ => true) pl.isList pl2.isList (by rw [List.size_toArray, List.size_toArray, ← l1, ← l2]) hu (fun j h1 h2 => by
      rw [List.size_toArray, ← l1] at h1
      exact absurd h1 (Nat.not_lt_zero _))
    refine this X.prog X.w X.xe _ ?_
    refine ⟨.bl false, H, I, ?_, hQ⟩
    have e : its.length = 0 := l1.symm
    show Value.bool _ = Value.bool _
    rw [List.size_toArray, e]
    rfl
  | cons a b =>
    have := PySem.SeqAt.RcNeAt.lists_lengths (s := s) pl.isList pl2.isList (by
      rw [List.size_toArray, List.size_toArray, ← l1, ← l2]
      rfl) hu
    exact this X.prog X.w X.xe _ ⟨.bl true, H, I, rfl, hQ⟩
def rStr (g : Bool → Bool) : R2 := fun x y H Q => ∃ a b, x = .str a ∧ y = .str b ∧ Q (.bl (g (a == b))) H
theorem op_eqS {X : Cx} : OpR X (compareOp .Eq) (rStr id) := by
  intro pins s σ H x y v u Q I rx ry h; obtain ⟨a, b, rfl, rfl, hQ⟩ := h
  obtain ⟨t, rfl⟩ := rx
  obtain ⟨t', rfl⟩ := ry
  exact PySem.SeqAt.RcAt.str_str a t b t' X.prog X.w X.xe _ ⟨.bl _, H, I, rfl, hQ⟩
theorem op_neS {X : Cx} : OpR X (compareOp .NotEq) (rStr not) := by
  intro pins s σ H x y v u Q I rx ry h; obtain ⟨a, b, rfl, rfl, hQ⟩ := h
  obtain ⟨t, rfl⟩ := rx
  obtain ⟨t', rfl⟩ := ry
  exact PySem.SeqAt.RcNeAt.str_str a t b t' X.prog X.w X.xe _ ⟨.bl _, H, I, rfl, hQ⟩
section
variable {c : Core} {ι : Type} {v : ι → Var} {S : Ent} {Γ : List AV} {QB : Bool → List AV → Prop} {a : Expr} {pos p : Pos}
theorem td_neE (hu : c.A.units + 64 < cLine) (h : EK c v S a Γ fun k Γ1 => EK c v S (.List [] p) Γ1 fun l Γ2 => ∃ ds, akL Γ2 k = some ds ∧ akL Γ2 l = some [] ∧ QB (!ds.isEmpty) Γ2) : TD c v S (.Compare a [.NotEq] [.List [] p] pos) Γ QB := fun σ H R r kc =>
  ⟨_, fun i => pt_cmpR (show OpR (mkX c (v i)) (compareOp .NotEq) (rNeE c.K) from op_neE (show c.A.units < cLine by omega)) (wE.pe i) (wE.pe i) (nomark _), EK.two h r fun x y H' k l Γ' ⟨ds, e1, e2, q⟩ r' hk hl s => by
    obtain ⟨p1, xs, rfl, h1, r1⟩ := akL_of e1 r' hk
    obtain ⟨p2, ys, rfl, h2, r2⟩ := akL_of e2 r' hl
    cases r2
    refine ⟨p1, p2, xs, rfl, rfl, h1, h2, _, rfl, ?_⟩
    have : xs.isEmpty = ds.isEmpty := by
      cases r1 <;> rfl
    rw [this]
    exact kc _ _ _ q r' s⟩
/-- xs.count(e), xs a slot's own list of ints -/
theorem ed_count {x : Str} {e : Expr} {apos cpos : Pos} {Q : AV → List AV → Prop} (i : Nat) {ns : List Int} (hx : At c v x i) (g : Γ[i]? = some (.ow (ns.map .int))) (hb : Base0 v (.Name x p) "count") (hf : FewArgs v cpos e []) (hl : (apos.endLine == cpos.line) = true) (hs : NoStar v e [])
    (h : EK c v S e Γ fun k Γ1 => ∃ n, Γ1[i]? = some (.ow (ns.map .int)) ∧ akD Γ1 k = some (.int n) ∧ Q (.dt (.int (ns.count n : Nat))) Γ1) : ED c v S (.Call (.Attribute (.Name x p) "count" apos) [e] [] cpos) Γ Q := fun σ H R r kk => by
  obtain ⟨q0, xs0, e0, h0, w0⟩ := r.slots i _ g
  refine ⟨tBM c.K "list" (rCntI c.K) (tVar i) (tCons (wE c v e) tNil), fun k => pe_bm PySem.F.plainAttrs_list PySem.F.slot_list_count PySem.F.type_list_count (show MtR (mkX c (v k)) "list.count" (rCntI c.K) from mt_lcount) (hx.pe k) (pa_cons (wE.pe k) pa_nil (hs k)) (hb k) (hf k) hl (hs k) rfl, ?_⟩
  refine ⟨_, e0, .inl ⟨rfl, _, .of h0⟩, ?_⟩
  refine h σ H _ r fun y H1 k Γ1 ⟨n, g1, ed, q⟩ r1 hk s => ?_
  obtain ⟨q1, xs1, e1, h1, w1⟩ := r1.slots i _ g1
  rw [e0] at e1
  cases e1
  cases akD_of ed hk
  rw [w1.ints] at h1
  exact ⟨q0, ns, n, rfl, rfl, .of h1, kk _ _ _ _ q ⟨r1, .int _⟩ s trivial⟩
def StrR (g : Bool → Bool) (Q : AV → List AV → Prop) (k l : AK) (Γ : List AV) : Prop := ∃ a b, akD Γ k = some (.str a) ∧ akD Γ l = some (.str b) ∧ Q (.dt (.bl (g (a == b)))) Γ
def StrT (g : Bool → Bool) (Q : Bool → List AV → Prop) (k l : AK) (Γ : List AV) : Prop := ∃ a b, akD Γ k = some (.str a) ∧ akD Γ l = some (.str b) ∧ Q (g (a == b)) Γ
theorem ed_eqS {b : Expr} {Q : AV → List AV → Prop} (h : EK c v S a Γ fun k Γ1 => EK c v S b Γ1 fun l Γ2 => StrR id Q k l Γ2) : ED c v S (.Compare a [.Eq] [b] pos) Γ Q := fun σ H R r kk =>
  ⟨_, fun i => pe_cmpR (show OpR (mkX c (v i)) (compareOp .Eq) (rStr id) from op_eqS) (wE.pe i) (wE.pe i) (nomark _), EK.two h r fun x y H' k l Γ' ⟨s1, s2, e1, e2, q⟩ r' hk hl s => by
    cases akD_of e1 hk
    cases akD_of e2 hl
    exact ⟨s1, s2, rfl, rfl, kk _ _ _ _ q ⟨r', .bl _⟩ s trivial⟩⟩
theorem td_neS {b : Expr} (h : EK c v S a Γ fun k Γ1 => EK c v S b Γ1 fun l Γ2 => StrT not QB k l Γ2) : TD c v S (.Compare a [.NotEq] [b] pos) Γ QB := fun σ H R r kk =>
  ⟨_, fun i => pt_cmpR (show OpR (mkX c (v i)) (compareOp .NotEq) (rStr not) from op_neS) (wE.pe i) (wE.pe i) (nomark _), EK.two h r fun x y H' k l Γ' ⟨s1, s2, e1, e2, q⟩ r' hk hl s => by
    cases akD_of e1 hk
    cases akD_of e2 hl
    exact ⟨s1, s2, rfl, rfl, _, rfl, kk _ _ _ q r' s⟩⟩
end
end DL

/-! a tuple turned round; an empty dict -/
namespace DL
open PySem PySem.Spec
open PyProof.Rows L2
/-- what xs[::-1] takes: from the last place down to the first -/
theorem back_bounds (n : Nat) : Builtin.Slice.sliceAdjust none none (-1) (n : Int) = ((n : Int) - 1, -1) ∧ Builtin.Slice.slicePlaces ((n : Int) - 1) (-1) (-1) = n := by
  refine ⟨by simp [Builtin.Slice.sliceAdjust], ?_⟩
  simp [Builtin.Slice.slicePlaces]; omega
theorem fm_congr {α β : Type} {f g : α → Option β} : ∀ {l : List α}, (∀ m ∈ l, f m = g m) → l.filterMap f = l.filterMap g
  | [], _ => rfl
  | a :: t, h => by rw [List.filterMap_cons, List.filterMap_cons, h a List.mem_cons_self, fm_congr fun m hm => h m (List.mem_cons_of_mem _ hm)]
theorem back_items (xs : Array Value) : ((List.range xs.size).filterMap fun (m : Nat) => xs[((xs.size : Int) - 1 + (m : Int) * (-1)).toNat]?).toArray = xs.toList.reverse.toArray := by
  congr 1
  have each : ∀ m ∈ List.range xs.size, (fun (m : Nat) => xs[((xs.size : Int) - 1 + (m : Int) * (-1)).toNat]?) m = some (xs.toList.reverse.getD m .none) := fun m below => by
    replace below := List.mem_range.mp below
    show xs[((xs.size : Int) - 1 + (m : Int) * (-1)).toNat]? = _
    rw [show ((xs.size : Int) - 1 + (m : Int) * (-1)).toNat = xs.size - 1 - m by omega, List.getD, List.getElem?_reverse (by simpa using below), Array.length_toList, Array.getElem?_toList, Array.getElem?_eq_getElem (by omega)]
    rfl
  rw [fm_congr each, show (fun m => some (xs.toList.reverse.getD m Value.none)) = some ∘ (fun m => xs.toList.reverse.getD m Value.none) from rfl, List.filterMap_eq_map]
  apply List.ext_getElem?
  intro i
  by_cases inside : i < xs.size
  · rw [List.getElem?_map, List.getElem?_range inside, Option.map_some, List.getD, List.getElem?_eq_getElem (by simpa using inside)]
    rfl
  · rw [List.getElem?_eq_none (by simpa using inside), List.getElem?_eq_none (by simpa using inside)]
section
variable {prog : Program}
variable {w : World}
variable {A : Around}
variable {s : Shared} {E : Value → Shared → Prop}
/-- the cut of a tuple by a slice with the step -1 and no ends -/
theorem tuple_back {t sl : Addr} {items : Array Value} {lo up st : Value} {Q : Value → Shared → Prop} (tup : IsTup s.heap t items) (cut : s.heap.IsSliceOf sl lo up st) (plo : IsPart lo none) (pup : IsPart up none) (pst : IsPart st (some (-1))) (few : items.size ≤ sizeLine)
    (got : Q (.ref s.heap.objs.size) { s with heap := s.heap.push { cls := .type "tuple", data := .seq items.toList.reverse.toArray } }) : wpAny (model prog w) A (getItem (.ref t) (.ref sl)) Q E s := by
  obtain ⟨o, at_sl, cls_sl, data_sl⟩ := id cut
  have bounds : ∀ {A' : Around} {E' : Value → Shared → Prop} {R : Int × Int × Nat → Shared → Prop}, R ((items.size : Int) - 1, -1, items.size) s → wpAny (model prog w) A' (Builtin.Slice.sliceApplied (.ref sl) (pure (items.size : Int))) R E' s := fun {A' E' R} fin => by
    simp only [Builtin.Slice.sliceApplied, Builtin.Slice.sliceFields]
    refine wpAny_bind (wpAny_bind (wpAny_field at_sl data_sl (x := lo) rfl (wpAny_bind (wpAny_field at_sl data_sl (x := up) rfl (wpAny_bind (wpAny_field at_sl data_sl (x := st) rfl (wpAny_pure (wpAny_bind (HT.slicePart_ pst ?_)))))))))
    show wpAny _ _ (if ((-1 : Int) == 0) = true then _ else _) _ _ s
    refine (if_neg (show ¬ ((-1 : Int) == 0) = true by decide)).symm ▸ wpAny_bind (HT.slicePart_ plo (wpAny_bind (HT.slicePart_ pup (wpAny_bind (wpAny_pure ?_)))))
    show wpAny _ _ (match Builtin.Slice.sliceAdjust none none (-1) (items.size : Int) with | (lo, hi) => pure (lo, (-1 : Int), Builtin.Slice.slicePlaces lo hi (-1))) _ _ s
    rw [(back_bounds items.size).1]
    refine wpAny_pure ?_
    rw [(back_bounds items.size).2]
    exact fin
  have whole : ¬ ((((items.size : Int) - 1) == 0 && (-1 : Int) == 1 && items.size == items.size) = true) := by simp [show ((-1 : Int) == 1) = false by decide]
  have fits : sizeOk (.seq items.toList.reverse.toArray) := show items.toList.reverse.toArray.size ≤ sizeLine by rwa [List.size_toArray, List.length_reverse, Array.length_toList]
  have isl : s.TypeIs (.ref sl) "slice" := ⟨o, at_sl, cls_sl⟩
  unfold getItem
  try with_reducible refine wpAny_holding ?_; refine wpAny_bind (wpAny_sequenceKey tup.typeIs (by decide) (wpAny_bind (wpAny_callSpecial?_slot (name := Str.ofString "__getitem__") tup.typeIs PyProof.Rows.slot_tuple_getitem (wpAny_call_entry PyProof.Rows.slot_tuple_getitem tup.typeIs entry_tuple_getitem ?_ (args_tuple_getitem _ _)))))
  show wpAny _ _ (Builtin.Tuple.tupleItemsOf (.ref t) >>= fun _ => _) _ _ s
  refine wpAny_bind (tupleItemsOf_ tup (wpAny_bind (wpAny_typeOf isl ?_)))
  rw [if_pos (by decide)]
  refine wpAny_bind (bounds ?_)
  show wpAny _ _ (if (((items.size : Int) - 1) == 0 && (-1 : Int) == 1 && items.size == items.size) = true then _ else _) _ _ s
  rw [if_neg whole, back_items]
  first
    | exact wpAny_bind (m := Builtin.Tuple.tupleExact _) (wpAny_newObj_type (wpAny_pure ⟨_, rfl, wpAny_pure got⟩) fits)
    | exact wpAny_bind (m := Builtin.Tuple.tupleExact _) (wpAny_newObj_type (wpAny_bind (wpAny_pure (wpAny_pure ⟨_, rfl, wpAny_pure got⟩))) fits)
    | exact wpAny_bind (wpAny_bind (m := Builtin.Tuple.tupleExact _) (wpAny_newObj_type (wpAny_pure (wpAny_pure ⟨_, rfl, wpAny_pure got⟩)) fits))
    | exact wpAny_bind (wpAny_bind (m := Builtin.Tuple.tupleExact _) (wpAny_newObj_type (wpAny_pure ⟨_, rfl, wpAny_pure got⟩) fits))
end
abbrev backSl (k : Nat) (p1 p2 p3 : Pos) : Expr := .Slice none none (some (.UnaryOp .USub (.Constant (.int 1) k p1) p2)) p3
/-- the slice [::-1] itself -/
theorem eval_back {X : Cx} {pins : List (Addr × Obj)} {s : Shared} {σ : Sg} {H : Hp} {k : Nat} {p1 p2 p3 : Pos} {R : Value → Shared → Prop} (I : Inv X pins σ H s)
    (go : ∀ (s' : Shared) (sl : Addr) (lo up st : Value), Inv X pins σ H s' → s'.heap.IsSliceOf sl lo up st → IsPart lo none ∧ IsPart up none ∧ IsPart st (some (-1)) → R (.ref sl) s') : wpAny (model X.prog X.w) X.A (eval (backSl k p1 p2 p3) X.env) R X.xe s := by
  refine wpAny_Slice (thn (po_none.run pins s σ H (fun o G => o = none ∧ G = H) I ⟨rfl, rfl⟩) fun lo s1 ⟨_, _, I1, plo, rfl, rfl⟩ => ?_)
  refine thn (po_none.run pins s1 σ _ (fun o G => o = none ∧ G = _) I1 ⟨rfl, rfl⟩) fun up s2 ⟨_, _, I2, pup, rfl, rfl⟩ => ?_
  have minus : PO X (some (.UnaryOp .USub (.Constant (.int 1) k p1) p2)) (tPart (tUn (rU fun i => .int (-i)) (tC (.int 1)))) := po_some (pe_un un_neg pe_int)
  refine thn (minus.run pins s2 σ _ (fun o G => o = some (-1) ∧ G = _) I2 ⟨1, rfl, -1, rfl, rfl, rfl⟩) fun st s3 ⟨_, _, I3, pst, rfl, rfl⟩ => ?_
  exact go _ _ _ _ _ (I3.kept (t' := s3.toks) fun _ _ z => Heap.get?_push_of_some _ z) (Heap.IsSliceOf.new _ lo up st) ⟨plo, pup, pst⟩
def tRevT (K : PySem.W.Frag) (te : TE) : TE := fun σ H Q => te σ H fun x G => ∃ t ys, x = .ref t ∧ SqT K G t ys ∧ ∀ p, G p = none → Q (.ref p) (upd G p (.tup ys.reverse))
theorem pe_revT {X : Cx} {a : Expr} {te : TE} {k : Nat} {p1 p2 p3 pos : Pos} (he : PE X a te) : PE X (.Subscript a (backSl k p1 p2 p3) pos) (tRevT X.K te) where
  run pins s σ H Q I given := by
    refine Subscript_ (thn (he.run pins s σ H _ I given) fun v s1 got => ?_)
    obtain ⟨_, G, I1, rel, t, ys, rfl, at_ys, fin⟩ := got
    cases rel
    refine eval_back I1 fun s2 sl lo up st I2 cut parts => ?_
    obtain ⟨plo, pup, pst⟩ := parts
    obtain ⟨items, related, tup, few⟩ := I2.tuple at_ys
    refine tail_any (ops := [.ref t, .ref sl]) tup.typeIs (PyProof.Rows.slot_tuple_getitem.lookup) (tuple_back tup cut plo pup pst (by rw [List.size_toArray, ← related.length]; exact few) ?_) (by with_unfolding_all rfl)
    exact ⟨.ref _, _, I2.laid (t' := s2.toks) (o := .tup ys.reverse) (fun _ _ z => Heap.get?_push_of_some _ z) (Nat.le_refl _) ⟨by rw [List.length_reverse]; exact few, _, related.reverse, IsTup.new _ _⟩, rfl, fin _ (I2.hok.fresh (Nat.le_refl _))⟩
theorem Res.newD {K : PySem.W.Frag} {S : Ent} {Γ : List AV} {σ : Sg} {H : Hp} {p : Addr} (r : RS K S DL.no Γ σ H) (h : H p = none) : Res K S Γ σ (upd H p (.dK [])) (.ref p) (.dt (.dct [] [])) := by
  have n := r.new h
  refine ⟨(r.alloc h).no, .dct0 upd_same ?_⟩
  rintro (z | z | z)
  · exact n.1 z
  · exact n.2.1 z
  · exact z
section
variable {c : Core} {ι : Type} {v : ι → Var} {S : Ent} {Γ : List AV}
variable {Q : AV → List AV → Prop} {a : Expr} {pos p1 p2 p3 : Pos} {k : Nat}
theorem ed_revT (h : EK c v S a Γ fun k Γ1 => ∃ ds, akT Γ1 k = some ds ∧ Q (.dt (.tup ds.reverse)) Γ1) : ED c v S (.Subscript a (.Slice none none (some (.UnaryOp .USub (.Constant (.int 1) k p1) p2)) p3) pos) Γ Q := fun σ H R r kk =>
  ⟨_, fun i => (show PE (mkX c (v i)) (.Subscript a (.Slice none none (some (.UnaryOp .USub (.Constant (.int 1) k p1) p2)) p3) pos) (tRevT c.K (wE c v a)) from pe_revT (wE.pe i)), h σ H _ r fun x H1 k Γ1 ⟨ds, e, q⟩ r1 hk s => by
    obtain ⟨p, xs, rfl, hs, hx⟩ := akT_of e hk
    exact ⟨p, xs, rfl, .of hs, fun p hn => kk _ _ _ _ q (Res.newT r1 hn hx.rev) (s.alloc hn) trivial⟩⟩
theorem ed_dict0 (q : Q (.dt (.dct [] [])) Γ) : ED c v S (.Dict [] [] pos) Γ Q := fun σ H R r kk =>
  ⟨_, fun _ => pe_dnewK, fun p hn => kk _ _ _ _ q (Res.newD r hn) (Step.refl.alloc hn) trivial⟩
end
end DL

/-! which data can be shown: by parts -/
namespace DL
open PySem PySem.Spec
open PyProof.Rows L2
/-- d can be shown: at most b parts, q deep, with a dict only if D -/
def Sh (b q : Nat) (D : Bool) (d : Dt) : Prop := ∃ pd, d.py = some pd ∧ pd.showable = true ∧ pd.leavesShort 1921 = true ∧ pd.bulk ≤ b ∧ pd.depth ≤ q ∧ (pd.hasDict = true → D = true)
theorem Sh.mono {b q b' q' : Nat} {D D' : Bool} {d : Dt} (h : Sh b q D d) (hb : b ≤ b') (hq : q ≤ q') (hD : D = true → D' = true) : Sh b' q' D' d := by
  obtain ⟨pd, h1, h2, h3, h4, h5, h6⟩ := h
  exact ⟨pd, h1, h2, h3, by omega, by omega, fun z => hD (h6 z)⟩
theorem Sh.shows {b q : Nat} {D : Bool} {d : Dt} (h : Sh b q D d) (hb : b ≤ 5000) (hq : q ≤ 60) (hD : D = true → d.noL = true) : ∃ pd, Shows d pd := by
  obtain ⟨pd, h1, h2, h3, h4, h5, h6⟩ := h
  exact ⟨pd, h1, h2, h3, by omega, by omega, fun z => hD (h6 z)⟩
theorem sh_non : Sh 0 0 false .non := ⟨_, rfl, rfl, rfl, Nat.le_refl _, Nat.le_refl _, fun h => h⟩
theorem sh_bl (k : Bool) : Sh 0 0 false (.bl k) := ⟨_, rfl, rfl, rfl, Nat.le_refl _, Nat.le_refl _, fun h => h⟩
theorem sh_int {v : Int} (h : v.natAbs < 10 ^ 45) : Sh 0 0 false (.int v) := by
  refine ⟨_, rfl, ?_, ?_, Nat.le_refl _, Nat.le_refl _, fun h => h⟩
  · show decide (v.natAbs.log2 < 1920) = true
    have : v.natAbs < 2 ^ 200 := by
      have e : (2 : Nat) ^ 200 = 1606938044258990275541962092341162602522202993782792835301376 := by decide
      omega
    have := PySem.Flt.log2_lt_of (by decide) this
    exact (decide_eq_true (by omega))
  · have e := int_text_length_le10 (k := 45) (by decide) h
    show decide ((PyData.shown (.int v)).length ≤ 1921) = true
    refine decide_eq_true ?_
    show (Str.ofString (toString v)).length ≤ 1921
    rw [PySem.ofString_length]
    omega
theorem sh_str {x : Str} (h : (x.cps.toList.all fun c => decide (c < 16 ^ 8)) = true) : Sh x.cps.size 0 false (.str x) := ⟨_, rfl, rfl, h, Nat.le_refl _, Nat.le_refl _, fun h => h⟩
theorem sh_dct : Sh 0 1 true (.dct [] []) := ⟨_, rfl, rfl, rfl, Nat.le_refl _, le1 rfl, fun _ => rfl⟩
/-- the parts' texts -/
theorem sh_all {b q : Nat} {D : Bool} : ∀ {ds : List Dt}, (∀ e ∈ ds, Sh b q D e) → ∃ pds, Dt.pyAll ds = some pds ∧ PyData.showableAll pds = true ∧ PyData.leavesShortAll 1921 pds = true ∧ PyData.bulkAll pds ≤ ds.length * (b + 1) ∧ PyData.depthAll pds ≤ q ∧ (PyData.hasDictAll pds = true → D = true)
  | [], _ => ⟨[], rfl, rfl, rfl, by simp [PyData.bulkAll], Nat.zero_le _, fun h => by cases h⟩
  | e :: t, h => by
    obtain ⟨pd, h1, h2, h3, h4, h5, h6⟩ := h e List.mem_cons_self
    obtain ⟨pds, g1, g2, g3, g4, g5, g6⟩ := sh_all (ds := t) fun x hx => h x (List.mem_cons_of_mem _ hx)
    refine ⟨pd :: pds, ?_, ?_, ?_, ?_, ?_, fun z => ?_⟩
    · show (match e.py, Dt.pyAll t with
        | some x, some xs => some (x :: xs)
        | _, _ => none) = _
      rw [h1, g1]
    · show (pd.showable && PyData.showableAll pds) = true
      rw [h2, g2]
      rfl
    · show (pd.leavesShort 1921 && PyData.leavesShortAll 1921 pds) = true
      rw [h3, g3]
      rfl
    · show pd.bulk + 1 + PyData.bulkAll pds ≤ (t.length + 1) * (b + 1)
      rw [Nat.add_mul, Nat.one_mul]
      omega
    · show max pd.depth (PyData.depthAll pds) ≤ q
      omega
    · have z : (pd.hasDict || PyData.hasDictAll pds) = true := z
      rcases Bool.or_eq_true _ _ ▸ z with y | y
      · exact h6 y
      · exact g6 y
theorem sh_tup {b q : Nat} {D : Bool} {ds : List Dt} (h : ∀ e ∈ ds, Sh b q D e) : Sh (ds.length * (b + 1)) (q + 1) D (.tup ds) := by
  obtain ⟨pds, g1, g2, g3, g4, g5, g6⟩ := sh_all h
  refine ⟨.tuple pds, ?_, g2, g3, g4, ?_, g6⟩
  · show (Dt.pyAll ds).map PyData.tuple = _
    rw [g1]
    rfl
  · show PyData.depthAll pds + 1 ≤ q + 1
    omega
theorem sh_lst {b q : Nat} {D : Bool} {ds : List Dt} (h : ∀ e ∈ ds, Sh b q D e) : Sh (ds.length * (b + 1)) (q + 1) D (.lst ds) := by
  obtain ⟨pds, g1, g2, g3, g4, g5, g6⟩ := sh_all h
  refine ⟨.list pds, ?_, g2, g3, g4, ?_, g6⟩
  · show (Dt.pyAll ds).map PyData.list = _
    rw [g1]
    rfl
  · show PyData.depthAll pds + 1 ≤ q + 1
    omega
theorem noL_tup {ds : List Dt} (h : ∀ e ∈ ds, e.noL = true) : (Dt.tup ds).noL = true := by
  show Dt.noLAll ds = true
  induction ds with
  | nil => rfl
  | cons a t ih =>
    show (a.noL && Dt.noLAll t) = true
    rw [h a List.mem_cons_self, ih fun e he => h e (List.mem_cons_of_mem _ he)]
    rfl
end DL

/-! a law's call -/
namespace DL
open PySem PySem.Spec
open PyProof.Rows L2
/-- the script alone, where it is no object of the module -/
def hpS (K : PySem.W.Frag) (a : Addr) (vs : List Value) (ns : List Int) : Hp := fun b => if b = a ∧ K.lookup a = none then some (.frz { cls := .type "list", data := .seq vs.toArray } (.lst (ns.map V.int))) else none
section
variable {P : Program} {w : World} {K : PySem.W.Frag} {mg mb : Str → Option Value} {k : Nat} {fa a b : Addr} {fd : FuncData} {x : Str} {s₁ : Shared} {vs : List Value} {ns : List Int} {u : HO}
theorem hpS_some (h : hpS K a vs ns b = some u) : b = a ∧ K.lookup a = none ∧ u = .frz { cls := .type "list", data := .seq vs.toArray } (.lst (ns.map V.int)) := by
  unfold hpS at h
  split at h
  · rename_i z
    cases h
    exact ⟨z.1, z.2, rfl⟩
  · cases h
theorem hpS_none (h : b ≠ a) : hpS K a vs ns b = none := if_neg fun z => h z.1
theorem hpS_in (e : K.lookup a ≠ none) : hpS K a vs ns b = none := if_neg fun z => e z.2
theorem lawG {DS : DSp} (KX : K.In s₁.heap) (hns : s₁.heap.Ns mainGlobals mg) (hb : s₁.heap.Ns builtinsNs mb) (hbb : ∀ x : Str, x ≠ "__name__" → mb x = bootBuiltins x) (hlim : s₁.heap.NoLimit) (hg : s₁.gens = #[])
    (ha : s₁.heap.get? a = some { cls := .type "list", data := .seq vs.toArray }) 
    (hi : IntsAre vs ns) (hl : ns.length ≤ sizeLine) (hr : Room k callerA)
    (F : ∀ base : Heap, K.In base → base.Ns mainGlobals mg → FnG P w K mg base k fa fd [x] (spD K DS)) (hbind : ∀ (s : Shared) (u : Value), BindsTo s fd ⟨[u], []⟩ [(x, u)])
    (hD : DS [.dt (.scr ns)] fun r _ => r = .dt (.bl true)) :
    codeAny (model P w) callerA (.call (.ref fa) ⟨[.ref a], []⟩)
      (fun r s' => r = .ok (.ret (.bool true)) ∧ OldK s₁.heap s'.heap ∧ s'.os = s₁.os ∧ AllBare s'.gens) s₁ := by
  have rv := vals_ints hi
  have seen : ∀ {c : Addr} {o : Obj}, s₁.heap.get? c = some o → hpS K a vs ns c = none → (hidT s₁.heap (hpS K a vs ns)).get? c = some o := fun e n => hidT_get e n
  have dicts : ∀ {c : Addr} {m : Str → Option Value}, s₁.heap.Ns c m → (hidT s₁.heap (hpS K a vs ns)).Ns c m := by
    rintro c m ⟨o, es, ep, e, d, r⟩
    refine ⟨o, es, ep, seen e (hpS_none fun z => ?_), d, r⟩
    rw [z, ha] at e
    cases e
    exact nomatch (show Data.seq vs.toArray _ = Data.dict es ep from d)
  have inB : K.In (hidT s₁.heap (hpS K a vs ns)) := fun c o e => seen (KX c o e) (by
    by_cases z : c = a
    · subst z
      exact hpS_in (by rw [e]; exact fun y => nomatch y)
    · exact hpS_none z)
  have okH : HOk P w (hpS K a vs ns) s₁.heap := fun c v z => by
    obtain ⟨rfl, _, rfl⟩ := hpS_some z
    exact (⟨ha, by rw [List.length_map]; exact hl, vs, _, rv, ha⟩)
  have ent : Env0 P w K mg (hidT s₁.heap (hpS K a vs ns)) callerA [] s₁ (hpS K a vs ns) :=
    ⟨rfl, ⟨inB, dicts hns, ⟨mb, dicts hb, hbb⟩, hlim.elim fun mc h => ⟨mc, dicts h.1, h.2⟩⟩, fun c o e => of_hidT e, Nat.le_of_eq (hidT_size _ _), trivial, fun c hc => (nomatch (show c ∈ ([] : List Addr) from hc)), okH, .of_eq hg⟩
  have noOwn : ∀ (σ : Sg) (p : Addr), ¬ Own [AV.dt (.scr ns)] σ p := fun σ p ⟨j, es, e, _⟩ => by
    cases j with
    | zero => cases e
    | succ j => cases e
  have rp : ∀ ex : AP, (∀ p, ¬ ex p) → Rp K (hpS K a vs ns) ex (.ref a) (.scr ns) := fun ex hx => by
    cases hk : K.lookup a with
    | none => exact .scrF (if_pos ⟨rfl, hk⟩) (hx a)
    | some o =>
      have e := KX a o hk
      rw [ha] at e
      cases e
      exact .scrK ⟨_, vs.toArray, _, hk, rfl, rfl, rfl, by rw [List.size_toArray, hi.length]; exact hl, by simpa using rv⟩
  have rs : RS K (Ent.call (hpS K a vs ns) [AV.dt (.scr ns)] [.ref a] no 1) no [AV.dt (.scr ns)] [some (.ref a)] (hpS K a vs ns) := by
    have nx : ∀ p, ¬ Ent.x (Ent.call (hpS K a vs ns) [AV.dt (.scr ns)] [.ref a] no 1) p := fun p ⟨i, hm⟩ => by
      obtain ⟨ds, e, _⟩ := lent_mem.mp hm
      cases i with
      | zero => cases e
      | succ i => cases e
    refine ⟨fun i v e => ?_, fun i j ds es p e => ?_, fun b o e _ => e, fun p o => (noOwn _ p o).elim, fun i p hm => ((nx p) ⟨i, hm⟩).elim, fun p o => (noOwn _ p o).elim, fun p o => (noOwn _ p o).elim, fun p z => z.elim, fun p z => (nx p z).elim, fun b o z => z.elim, rfl, rfl⟩
    · cases i with
      | zero =>
        cases e
        refine ⟨.ref a, rfl, rp _ fun p z => ?_⟩
        rcases z with z | z | z
        · exact noOwn _ p z
        · exact z
        · exact z
      | succ i => cases e
    · cases i with
      | zero => cases e
      | succ i => cases e
  refine codeAny_mono ((F _ inB (dicts hns)).run callerA [] s₁ (hpS K a vs ns) ⟨[.ref a], []⟩ [.ref a] [.ref a] (fun v _ => v = .bl true) hr rfl ent (hbind s₁ (.ref a)) (.cons rfl .nil) ⟨_, no, _, hD, rs, fun z H' r as' hp hres => ?_⟩) fun r s' h => ?_
  · subst hp
    obtain ⟨_, z⟩ := hres
    cases z
    rfl
  · cases r with
    | error e => exact h.elim
    | ok fl =>
      cases fl with
      | ret y =>
        obtain ⟨v, H', os, bare, un, ok', ry, rfl⟩ := h
        obtain rfl : y = Value.bool true := ry
        refine ⟨rfl, OldK.of_keep fun c o e => ?_, os, bare⟩
        cases q : hpS K a vs ns c with
        | none => exact un.keep c o e q (by intro z; cases z) (by simp)
        | some u =>
          obtain ⟨rfl, hk, rfl⟩ := hpS_some q
          obtain ⟨e1, _⟩ := okH c _ q
          obtain ⟨e2, _⟩ := ok' c _ (un.frzs c _ _ q)
          rw [e] at e1
          cases e1
          exact e2
      | _ => exact False.elim h
end
/-- the head's goal, from the promise of the law's def -/
theorem walkG {l : PySem.W.OpenLaw} {n k : Nat} {q : Program} {loose : List Str} {XP : (Str → Option Value) → Heap → Prop} {YP : World → Heap → Prop} {d : DefRec} {K : Params → PySem.W.Frag} {DS : DSp} {x : Str}
    (most : l.most = some n) (fits : n ≤ sizeLine) (dfl : d.params.defaults = []) (room : Room k callerA) (part : ∀ (w : World) (h : Heap), YP w h → (K w.params).In h)
    (law : ∀ (w : World) (mg : Str → Option Value) (fa : Addr) (h : Heap), (K w.params).In h → h.Ns mainGlobals mg → mg d.name = some (.ref fa) → ∃ fd : FuncData, (∀ (s : Shared) (u : Value), BindsTo s fd ⟨[u], []⟩ [(x, u)]) ∧
      ∀ base : Heap, (K w.params).In base → base.Ns mainGlobals mg → FnG l.prog w (K w.params) mg base k fa fd [x] (spD (K w.params) DS))
    (prom : ∀ ns : List Int, ns.length ≤ n → DS [.dt (.scr ns)] fun r _ => r = .dt (.bl true)) : PySem.W.WalkO q loose XP YP l.row.toRowW d [] (fun f vs => PySem.call f vs) := by
  refine Att.attach_call most dfl fun w _ s₁ mg mb fa _ _ _ _ a vs ns G Y _ _ _ hmg hobj hints hlen hg => ?_
  obtain ⟨fd, bd, okF⟩ := law w mg fa _ (part w _ Y) G.T.g hmg
  exact lawG (part w _ Y) G.T.g G.T.b G.T.builtins G.T.nolimit hg hobj hints (Nat.le_trans hlen fits) room okF bd (prom ns hlen)
end DL

/-! exceptions: raised, let through by a call, caught -/
namespace DL
open PySem PySem.Spec
open PyProof.Rows L2
/-- what is wished of an exception: its class, and what the slots are then -/
abbrev XD := Value → List AV → Prop
def wX (K : PySem.W.Frag) (S : Ent) (X : XD) : WX := fun cls d σ H => d = none ∧ ∃ Γ, X cls Γ ∧ RS K S no Γ σ H
/-- the context takes such exceptions -/
def TX (c : Core) {ι : Type} (v : ι → Var) (S : Ent) (X : XD) : Prop := ∀ i, L2N.Takes (mkX c (v i)) (wX c.K S X)
/-- a promise about a call that may raise -/
abbrev DXp := List AV → (AV → List AV → Prop) → XD → Prop
def spX (K : PySem.W.Frag) (DS : DXp) : Sp := fun vs H Q E => ∃ (as : List AV) (fo : AP) (post : AV → List AV → Prop) (out : XD), DS as post out ∧ RS K (Ent.call H as vs fo as.length) no as (vs.map some) H ∧
  (∀ x H' a as', post a as' → Res K (Ent.call H as vs fo as.length) as' (vs.map some) H' x a → Q x H') ∧ ∀ cls H' as', out cls as' → RS K (Ent.call H as vs fo as.length) no as' (vs.map some) H' → E cls none H'
theorem spX_len {K : PySem.W.Frag} {DS : DXp} {vs : List V} {H : Hp} {Q : VK} {E : XK} {n : Nat} (hn : ∀ as post out, DS as post out → as.length = n) (h : spX K DS vs H Q E) : vs.length = n := by
  obtain ⟨as, fo, post, out, h1, h2, _⟩ := h
  have := h2.len
  rw [List.length_map] at this
  exact this.trans (hn as post out h1)
structure FnX (P : Program) (w : World) (K : PySem.W.Frag) (mg : Str → Option Value) (base : Heap) (k : Nat) (f : Addr) (fd : FuncData) (ps : List Str) (sp : Sp) : Prop where
  len : ∀ as G Q E, sp as G Q E → as.length = ps.length
  run : ∀ (A : Around) (outer : List Env) (s : Shared) (H : Hp) (args : Args) (us : List Value) (vs : List V) (Q : VK) (E : XK), Room k A → A.guards = some [] → Env0 P w K mg base A outer s H → BindsTo s fd args (ps.zip us) → Vals vs us → sp vs H Q E →
    codeAny (model P w) A (.call (.ref f) args) (CR (L2N.CX P w) outer P w H s Q E) s
theorem FnX.mono {P : Program} {w : World} {K : PySem.W.Frag} {mg : Str → Option Value} {base : Heap} {j k : Nat} {f : Addr} {fd : FuncData} {ps : List Str} {sp : Sp} (F : FnX P w K mg base j f fd ps sp) (h : j ≤ k) : FnX P w K mg base k f fd ps sp :=
  ⟨F.len, fun A outer s H args us vs Q E hr => F.run A outer s H args us vs Q E (hr.mono h)⟩
abbrev varX (s : Shared) (H : Hp) (env : Env) (outer : List Env) (xe : Value → Shared → Prop) : Unit → Var := fun _ => ⟨s, H, env, outer, [], fun _ => true, [], xe⟩
/-- a def's body, exceptions taken -/
theorem FnX.of {P : Program} {w : World} {K : PySem.W.Frag} {mg : Str → Option Value} {base : Heap} {x qual : Str} {st : Stmt} {f : Addr} {fd : FuncData} {N ps : List Str} {k : Nat} {DS : DXp} (F : Fun K x qual st f fd) (SC : FnScope N ps (defScope st)) (hn : ∀ as post out, DS as post out → as.length = ps.length)
    (body : ∀ (cdv : Value) (A : Around) (outer : List Env) (s : Shared) (H : Hp) (vs : List V) (fo : AP) (as : List AV) (post : AV → List AV → Prop) (out : XD) (xe : Value → Shared → Prop), Room k (A.deeper (envOfC qual (defScope st) s.heap.objs.size f cdv)) → A.guards = some [] → DS as post out →
      TX (coreOf P w K mg base (A.deeper (envOfC qual (defScope st) s.heap.objs.size f cdv)) N (envOfC qual (defScope st) s.heap.objs.size f cdv :: outer)) (varX s H (envOfC qual (defScope st) s.heap.objs.size f cdv) outer xe) (Ent.call H as vs fo N.length) (fun cls Γ => out cls (outsA as Γ)) →
      PassesOwn (model P w) (A.deeper (envOfC qual (defScope st) s.heap.objs.size f cdv)) (envOfC qual (defScope st) s.heap.objs.size f cdv) xe →
      BD (coreOf P w K mg base (A.deeper (envOfC qual (defScope st) s.heap.objs.size f cdv)) N (envOfC qual (defScope st) s.heap.objs.size f cdv :: outer)) (varX s H (envOfC qual (defScope st) s.heap.objs.size f cdv) outer xe) (Ent.call H as vs fo N.length) (defBody st)
        { nx := fun Γ => post (.dt .non) (outsA as Γ), rt := fun a Γ => post a (outsA as Γ) } (as ++ List.replicate (N.length - as.length) .un)) : FnX P w K mg base (k + 1) f fd ps (spX K DS) := by
  obtain ⟨oc, od, kV, doc, pm, an, cdv, ct, osl, rfl, lk, code⟩ := F.ex
  refine ⟨fun vs H Q E h => spX_len hn h, fun A outer s H args us vs Q E hr hgu e0 hb rv h => ?_⟩
  have ln : vs.length = ps.length := spX_len hn h
  have inK : K.In s.heap := e0.mod.kin.keeps fun b o z => (e0.bs b o z).1
  have nolim : s.heap.NoLimit := e0.mod.nolimit.keeps fun b o z => (e0.bs b o z).1
  have kinds : ∀ y ∈ ps.zip us, (defScope st).names.lookup y.1 = some .local ∨ ((defScope st).names.lookup y.1 = some .cell ∧ ((cellsFrom (s.heap.objs.size + 1) (defScope st).names []).lookup y.1).isSome = true) := fun y hy =>
    (SC.par y.1 (List.of_mem_zip hy).1).imp id fun z => ⟨z, PySem.W.cellsFrom_some _ _ _ (.inl z)⟩
  refine codeAny_call_function hr.depth (inK _ _ lk) rfl SC.co SC.gen rfl (PySem.W.codeRec_of inK code) (hb _ _ _ _ (wpAny_newFunctionEnv_cells SC.kind kinds fun env henv s1 ic => ?_))
  subst henv
  refine ⟨nolim.keeps ic.toInCall.keep, codeAny_func ?_⟩
  obtain ⟨as, fo, post, out, hD, rs, back, thrown⟩ := h
  have la : as.length = ps.length := hn as post out hD
  have hNl : ps.length ≤ N.length := by
    have := congrArg List.length SC.pre
    rw [List.length_take] at this
    omega
  have I0 : Inv (cxOf (L2N.CX P w) P w K mg base N qual (defScope st) f cdv A outer s H E) [] (start N vs) H s1 := inv_start SC hr.hd e0 ln rv ic
  have takes := L2N.takes_of (X := cxOf (L2N.CX P w) P w K mg base N qual (defScope st) f cdv A outer s H E) (E := E) rfl rfl rfl rfl
  have passes := passes_of (X := cxOf (L2N.CX P w) P w K mg base N qual (defScope st) f cdv A outer s H E) (K := fun e s'' => L2N.CX P w outer H s E e s'') rfl
  have bd := body cdv A outer s H vs fo as post out (cxOf (L2N.CX P w) P w K mg base N qual (defScope st) f cdv A outer s H E).xe (hr.deeper _) hgu hD
    (fun _ => takes.imp fun cls d σ G ⟨nod, Γ, o, r⟩ => by
      subst nod
      exact thrown cls G _ o (outs_res (z := V.non) (a := .un) rs (by omega) r)) passes
  obtain ⟨t, ht, hq⟩ := bd { nx := fun _ G => Q .non G, rt := Q } (start N vs) H ⟨fun Γ σ' G hp hr => back .non G (.dt .non) _ hp (outs_res rs (by omega) ⟨hr, .non⟩), fun a Γ σ' G z hp hr => back z G a _ hp (outs_res rs (by omega) hr), fun _ _ _ z => z.elim, fun _ _ _ z => z.elim⟩ (entry_rs rs la ln hNl)
  refine wpAny_mono ((ht ()).run [] s1 (start N vs) H _ I0 hq) (fun fl s' hs => ?_) fun e s' hs => hs
  match fl, hs with
  | .ret u, ⟨z, σ', G, J, rel, q⟩ => exact ⟨z, G, J.os, J.bare, J.base, J.hok, rel, q⟩
  | .next, ⟨σ', G, J, q⟩ => exact ⟨.non, G, J.os, J.bare, J.base, J.hok, rfl, q⟩
  | .brk, ⟨_, _, _, no⟩ => exact no.elim
  | .cont, ⟨_, _, _, no⟩ => exact no.elim
end DL

/-! exceptions in statements: raise, a call that may raise, try -/
namespace DL
open PySem PySem.Spec
open PyProof.Rows L2
abbrev veRow : List Value := [.type "ValueError", .type "Exception", .type "BaseException", .type "object"]
/-- x names the class C of the module, an exception class without an own __init__ -/
structure OwnExc (K : PySem.W.Frag) (mg : Str → Option Value) (x : Str) (C : Addr) : Prop where
  named : mg x = some (.ref C)
  kept : PySem.W.keepIn K (.ref C) = true
  made : PySem.W.excIn K C veRow "ValueError.__new__" = true
  sub : PySem.W.subIn K (.ref C) (.type "BaseException") = some true
  ty : PySem.W.typeIn K (.ref C) = some (.type "type")
section
variable {c : Core} {ι : Type} {v : ι → Var} {S : Ent} {Γ : List AV} {D : DE}
variable {Q : AV → List AV → Prop} {e : Expr} {es : List Expr} {pos p : Pos} {x : Str} {k : Nat} {f : Addr} {fd : FuncData} {ps : List Str} {DS : DXp} {X : XD}
theorem TX.never (c : Core) {ι : Type} (v : ι → Var) (S : Ent) : TX c v S fun _ _ => False := fun i u s' ⟨_, _, _, _, _, _, _, _, _, _, _, _, _, _, _, _, _, _, no, _⟩ => no.elim
theorem TX.imp {Y : XD} (t : TX c v S X) (h : ∀ cls Γ, Y cls Γ → X cls Γ) : TX c v S Y := fun i => (t i).imp fun _ _ _ _ ⟨d, Γ, y, r⟩ => ⟨d, Γ, h _ _ y, r⟩
/-- C() -/
theorem pmk_none {Y : Cx} {C : Addr} (O : OwnExc Y.K Y.mg x C) (hg : Gl Y x) (hdb : (x == ("__debug__" : Str)) = false) : L2N.PMk Y (.Call (.Name x p) [] [] pos) (fun _ H R => R (.ref C) none H) := fun pins s σ H R I h => by
  refine wpAny_Call_Name_kw (ld_glob I hg O.named (PySem.W.callWith_K0 I.kIn O.kept ?_) hdb)
  obtain ⟨bm, N, nm, qn, bs, hdct, sn, sub, ab, col, dd, k0, k1, k2, k3, k5, mN, hC, hN, hni, T⟩ := exc_obj I.kIn O.made
  show wpAny _ _ (call (.ref C) []) _ _ _
  exact wpAny_call_exc_subT PySem.F.excBase_ValueError T hC hN hni (fun h' a made => L2N.mk_of I made (raises_own O.sub O.ty) h (I.hok.gone made.new)) (Nat.zero_le _)
/-- raise C() -/
theorem sd_raise {C : Addr} (tk : TX c v S X) (O : OwnExc c.K c.mg x C) (hg : ∀ i, Gl (mkX c (v i)) x) (hdb : (x == ("__debug__" : Str)) = false) (q : X (.ref C) Γ) (still : c.calm = true := by rfl) {pos2 : Pos} : SD c v S (.Raise (some (.Call (.Name x p) [] [] pos)) none pos2) D Γ := fun E σ H L r =>
  ⟨_, fun i => L2N.ps_raise (X := mkX c (v i)) still (tk i) (pmk_none (Y := mkX c (v i)) O (hg i) hdb), rfl, Γ, q, r⟩
theorem runX {Y : Cx} {W : WX} {sp : Sp} {pins : List (Addr × Obj)} {σ : Sg} {H : Hp} {s : Shared} {R : VK} {args : Args} {us : List Value} {vs : List V} (F : FnX Y.prog Y.w Y.K Y.mg Y.base k f fd ps sp) (hr : Room k Y.A) (hgu : Y.A.guards = some []) (tk : L2N.Takes Y W)
    (hb : BindsTo s fd args (ps.zip us)) (I : Inv Y pins σ H s) (r : Vals vs us) (h : sp vs H R fun cls d G => W cls d σ G) : codeAny (model Y.prog Y.w) Y.A (.call (.ref f) args) (fun res s' => match res with
      | .ok (.ret u) => EP Y pins σ R u s'
      | .ok _ => False
      | .error e => Y.xe e s') s :=
  codeAny_mono (F.run Y.A Y.stack s H args us vs R (fun cls d G => W cls d σ G) hr hgu I.env0 hb r h) fun res s' done => match res, done with
    | .ok (.ret _), done => I.after done
    | .ok .next, no => no.elim
    | .ok .brk, no => no.elim
    | .ok .cont, no => no.elim
    | .error e, out => tk e s' (L2N.XE.of_call I (fun _ _ _ z => z) out)
theorem pe_callX {Y : Cx} {W : WX} {sp : Sp} {t : TA} (F : FnX Y.prog Y.w Y.K Y.mg Y.base k f fd ps sp) (hr : Room k Y.A) (hgu : Y.A.guards = some []) (tk : L2N.Takes Y W) (hg : Gl Y x) (hm : Y.mg x = some (.ref f)) (hk : PySem.W.keepIn Y.K (.ref f) = true) (hb : Binds Y.K fd ps [])
    (ha : PA Y (e :: es) t) (hdb : (x == ("__debug__" : Str)) = false) (he : starEach (e :: es) Y.env = (false, eval e Y.env) :: starEach es Y.env) (hpl : (backTo pos (starEach es Y.env)).any (·.1) = false) :
    PE Y (.Call (.Name x p) (e :: es) [] pos) (fun σ H R => t σ H fun vs H1 => sp vs H1 R fun cls d G => W cls d σ G) where
  run pins s σ H R I given := by
    refine wpAny_Call_Name_kw (ld_glob I hg hm (PySem.W.callWith_K (h₀ := Y.base) I.ok.mod.kin hk (thn (ha.run pos pins s σ H _ I given) fun us s1 got => ?_) he hpl) hdb)
    obtain ⟨vs, H1, I1, rel, q⟩ := got
    refine ⟨I1.kIn, ?_⟩
    have many : (us ++ ([] : List Value)).length = ps.length := by rw [List.append_nil, ← rel.length]; exact F.len _ _ _ _ q
    have bound := hb s1 us I1.kIn many
    rw [List.append_nil] at bound
    exact wpAny_call (codeAny_mono (runX F hr hgu tk bound I1 rel q) fun res s' done => match res, done with
      | .ok (.ret _), done => done
      | .ok .next, no => no.elim
      | .ok .brk, no => no.elim
      | .ok .cont, no => no.elim
      | .error _, out => out)
/-- f(e, ..), f may raise -/
theorem ed_callX (F : FnX c.prog c.w c.K c.mg c.base k f fd ps (spX c.K DS)) (hr : Room k c.A) (hgu : c.A.guards = some []) (tk : TX c v S X) (hg : ∀ i, Gl (mkX c (v i)) x) (hm : c.mg x = some (.ref f)) (hk : PySem.W.keepIn c.K (.ref f) = true) (hb : Binds c.K fd ps [])
    (hdb : (x == ("__debug__" : Str)) = false) (he : NoStar v e es) (hpl : NoStarL v pos es)
    (h : EA c v S (e :: es) Γ fun as Γ1 => ∃ avs, argsA Γ1 as = some avs ∧ lnsOk as = true ∧ DS avs (fun a avs' => avs'.length = avs.length → Q a (backA Γ1 as avs')) fun cls avs' => avs'.length = avs.length → X cls (backA Γ1 as avs')) : ED c v S (.Call (.Name x p) (e :: es) [] pos) Γ Q := fun σ H R r kk => by
  refine ⟨_, fun i => pe_callX (Y := mkX c (v i)) F hr hgu (tk i) (hg i) hm hk hb (wA.pa i) hdb (he i) (hpl i), ?_⟩
  refine h σ H _ r fun xs H1 as Γ1 ⟨avs, ea, ho, hD⟩ r1 hx s => ?_
  refine ⟨avs, _, _, _, hD, call_in r1 hx ea ho, fun y H2 a as' q hres => ?_, fun cls H2 as' q rs2 => ?_⟩
  · obtain ⟨z1, z2, z3⟩ := call_out r1 hx ea ho hres
    exact kk _ _ _ _ (q hres.rs.lenΓ) z1 (s.trans z2) (z3.back s)
  · exact ⟨rfl, _, q rs2.lenΓ, (call_out (x := V.non) (a := .un) r1 hx ea ho rs2).1⟩

/-! ### keywords in any order -/
/-- the places of the parameters among the keywords -/
def pick {α : Type} (ord : List Nat) (xs : List α) : List α := ord.filterMap fun i => xs[i]?
/-- a call with keywords alone: ord tells for each parameter which keyword gives it -/
def KwP (K : PySem.W.Frag) (fd : FuncData) (ps ks : List Str) (ord : List Nat) : Prop := ∀ (s : Shared) (given : List Value), K.In s.heap → given.length = ks.length → BindsTo s fd ⟨[], ks.zip given⟩ (ps.zip (pick ord given))
theorem KwP.mk {K : PySem.W.Frag} {qual x : Str} {st : Stmt} (F : Fun K x qual st f fd) {ks : List Str} {ord : List Nat} (h : ∀ (kV doc pm : Value) (an : Option Addr) (cdv ct : Value) (given : List Value), given.length = ks.length → bindArgs (PySem.W.fnOf x qual (defArgs st) (defBody st) (defScope st) .none kV doc pm an cdv ct) ⟨[], ks.zip given⟩ = pure (ps.zip (pick ord given))) : KwP K fd ps ks ord := by
  obtain ⟨_, _, kV, doc, pm, an, cdv, ct, _, rfl, _, _⟩ := F.ex
  exact fun s given _ few => BindsTo.of_eq (h kV doc pm an cdv ct given few)
theorem vals_get {vs : List V} {us : List Value} (r : Vals vs us) : ∀ i : Nat, (vs[i]? = none ∧ us[i]? = none) ∨ ∃ a u, vs[i]? = some a ∧ us[i]? = some u ∧ RelV a u := by
  induction r with
  | nil => exact fun i => .inl ⟨by simp, by simp⟩
  | cons r _ ih => exact fun i => match i with
    | 0 => .inr ⟨_, _, rfl, rfl, r⟩
    | i + 1 => by simpa using ih i
theorem Vals.pick {vs : List V} {us : List Value} (r : Vals vs us) : ∀ ord : List Nat, Vals (pick ord vs) (pick ord us)
  | [] => .nil
  | i :: ord => by
    show Vals (List.filterMap _ (i :: ord)) (List.filterMap _ (i :: ord))
    rw [List.filterMap_cons, List.filterMap_cons]
    rcases vals_get r i with ⟨e1, e2⟩ | ⟨a, u, e1, e2, q⟩
    · rw [e1, e2]; exact Vals.pick r ord
    · rw [e1, e2]; exact .cons q (Vals.pick r ord)
theorem RpKL.pick {K : PySem.W.Frag} {H : Hp} {ex : AP} {σ : Sg} {xs : List V} {as : List AK} (q : RpKL K H ex σ xs as) : ∀ ord : List Nat, RpKL K H ex σ (pick ord xs) (pick ord as)
  | [] => trivial
  | i :: ord => by
    show RpKL K H ex σ (List.filterMap _ (i :: ord)) (List.filterMap _ (i :: ord))
    rw [List.filterMap_cons, List.filterMap_cons]
    cases e : as[i]? with
    | none =>
      have e2 : xs[i]? = none := List.getElem?_eq_none (by rw [q.len]; exact List.getElem?_eq_none_iff.mp e)
      rw [e2]; exact RpKL.pick q ord
    | some k =>
      obtain ⟨y, e2, z⟩ := q.get e
      rw [e2]; exact ⟨z, RpKL.pick q ord⟩
theorem pe_callKX {Y : Cx} {W : WX} {sp : Sp} {t : TA} {kws : List Keyword} {ks : List Str} {ord : List Nat} (F : FnX Y.prog Y.w Y.K Y.mg Y.base k f fd ps sp) (hr : Room k Y.A) (hgu : Y.A.guards = some []) (tk : L2N.Takes Y W) (hg : Gl Y x) (hm : Y.mg x = some (.ref f)) (hk : PySem.W.keepIn Y.K (.ref f) = true)
    (kwp : KwP Y.K fd ps ks ord) (vals : PK Y kws t) (named : (backToKw pos (keywordEach kws Y.env)).all (·.1.isSome) = true) (these : (backToKw pos (keywordEach kws Y.env)).filterMap (·.1) = ks) (nodbg : (x == ("__debug__" : Str)) = false)
    (nostar : ((backTo pos (starEach [] Y.env)).any (·.1) || (backToKw pos (keywordEach kws Y.env)).any (·.1.isNone)) = false) :
    PE Y (.Call (.Name x p) [] kws pos) (fun σ H R => t σ H fun zs H1 => zs.length = ks.length ∧ sp (pick ord zs) H1 R fun cls d G => W cls d σ G) where
  run pins s σ H R I given := by
    refine wpAny_Call_Name_kw (ld_glob I hg hm (PySem.W.callWith_KW0 (h₀ := Y.base) I.ok.mod.kin hk named (thn (vals.run pos pins s σ H _ I given) fun ws s1 got => ?_) nostar) nodbg)
    obtain ⟨zs, H1, I1, rel, len, q⟩ := got
    refine ⟨I1.kIn, ?_⟩
    rw [these]
    exact wpAny_call (codeAny_mono (runX F hr hgu tk (kwp s1 ws I1.kIn (rel.length ▸ len)) I1 (Vals.pick rel ord) q) fun res s' done => match res, done with
      | .ok (.ret _), done => done
      | .ok .next, no => no.elim
      | .ok .brk, no => no.elim
      | .ok .cont, no => no.elim
      | .error _, out => out)
end
section
variable (c : Core) {ι : Type} (v : ι → Var) (S : Ent)
/-- the keywords' values, from the left -/
def EKw (kws : List Keyword) (Γ : List AV) (Q : List AK → List AV → Prop) : Prop := ∀ (σ : Sg) (H : Hp) (R : List V → Hp → Prop), RS c.K S no Γ σ H →
  (∀ xs H' as Γ', Q as Γ' → RS c.K S no Γ' σ H' → RpKL c.K H' (Exc S Γ' σ no) σ xs as → as.length = kws.length → Step Γ Γ' σ H H' → R xs H') → wK c v kws σ H R
end
section
variable {c : Core} {ι : Type} {v : ι → Var} {S : Ent} {Γ : List AV}
variable {Q : AV → List AV → Prop} {QA : List AK → List AV → Prop} {e : Expr} {kws : List Keyword} {pos p : Pos} {x : Str} {k : Nat} {f : Addr} {fd : FuncData} {ps ks : List Str} {DS : DXp} {X : XD} {ord : List Nat}
theorem ekw_nil (q : QA [] Γ) : EKw c v S [] Γ QA := fun σ H R r kk => ⟨_, fun _ => pk_nil, kk _ _ _ _ q r trivial rfl .refl⟩
theorem ekw_cons {n : Option Str} {kp : Pos} (h : EK c v S e Γ fun a Γ1 => EKw c v S kws Γ1 fun as Γ2 => QA (a :: as) Γ2) : EKw c v S (⟨n, e, kp⟩ :: kws) Γ QA := fun σ H R r kk => by
  refine ⟨_, fun i => pk_cons (wE.pe i) (wK.pk i), h σ H _ r fun y H1 a Γ1 next r1 ra s1 => ?_⟩
  exact next σ H1 _ r1 fun ys H2 as Γ2 q r2 rs len s2 => kk _ _ _ _ q r2 ⟨ra.mono s2.keeps, rs⟩ (congrArg (· + 1) len) (s1.trans s2)
/-- f(k = e, ..), f may raise -/
theorem ed_callKX (F : FnX c.prog c.w c.K c.mg c.base k f fd ps (spX c.K DS)) (hr : Room k c.A) (hgu : c.A.guards = some []) (tk : TX c v S X) (hg : ∀ i, Gl (mkX c (v i)) x) (hm : c.mg x = some (.ref f)) (hk : PySem.W.keepIn c.K (.ref f) = true) (kwp : KwP c.K fd ps ks ord) (hdb : (x == ("__debug__" : Str)) = false)
    (named : ∀ i, (backToKw pos (keywordEach kws (v i).env)).all (·.1.isSome) = true) (these : ∀ i, (backToKw pos (keywordEach kws (v i).env)).filterMap (·.1) = ks) (lenk : kws.length = ks.length) (nostar : ∀ i, ((backTo pos (starEach [] (v i).env)).any (·.1) || (backToKw pos (keywordEach kws (v i).env)).any (·.1.isNone)) = false)
    (h : EKw c v S kws Γ fun as Γ1 => ∃ avs, argsA Γ1 (pick ord as) = some avs ∧ lnsOk (pick ord as) = true ∧ DS avs (fun a avs' => avs'.length = avs.length → Q a (backA Γ1 (pick ord as) avs')) fun cls avs' => avs'.length = avs.length → X cls (backA Γ1 (pick ord as) avs')) :
    ED c v S (.Call (.Name x p) [] kws pos) Γ Q := fun σ H R r kk => by
  refine ⟨_, fun i => pe_callKX (Y := mkX c (v i)) F hr hgu (tk i) (hg i) hm hk kwp (wK.pk i) (named i) (these i) hdb (nostar i), ?_⟩
  refine h σ H _ r fun xs H1 as Γ1 ⟨avs, ea, ho, hD⟩ r1 hx len s => ⟨by rw [hx.len, len, lenk], ?_⟩
  refine ⟨avs, _, _, _, hD, call_in r1 (hx.pick ord) ea ho, fun y H2 a as' q hres => ?_, fun cls H2 as' q rs2 => ?_⟩
  · obtain ⟨z1, z2, z3⟩ := call_out r1 (hx.pick ord) ea ho hres
    exact kk _ _ _ _ (q hres.rs.lenΓ) z1 (s.trans z2) (z3.back s)
  · exact ⟨rfl, _, q rs2.lenΓ, (call_out (x := V.non) (a := .un) r1 (hx.pick ord) ea ho rs2).1⟩
end
end DL

/-! the caught exception as an object that is tracked -/
namespace DL
open PySem PySem.Spec
open PyProof.Rows L2
/-- an exception of the class cls that was raised and caught, its context None -/
def ExK (cls : Value) (a : Addr) : HO := .ext fun h => ∃ (o : Obj) (vs : Array Value), h.get? a = some o ∧ o.cls = cls ∧ o.dict = none ∧ o.data = .fields vs ∧ vs[2]? = some .none
theorem exK_ok {P : Program} {w : World} {H : Hp} {h : Heap} {a : Addr} {cls : Value} {o : Obj} {vs : Array Value} (e : h.get? a = some o) (z : L2N.Zn cls none o) (d : o.data = .fields vs) : ObjOk P w H h a (ExK cls a) :=
  ⟨⟨o, vs, e, z.1, z.2.1, d, z.2.2 vs d⟩, ⟨o, e⟩, fun _ _ ⟨u, v, q, r⟩ k => ⟨u, v, k u q, r⟩⟩
section
variable {X : Cx} {pins : List (Addr × Obj)} {σ : Sg} {H : Hp} {s : Shared} {a : Addr} {o : HO}
/-- an object of ours that is young and not tracked yet, tracked from here on -/
theorem Inv.track (I : Inv X pins σ H s) (young : X.s_0.heap.get? a = none) (na : H a = none) (new : ObjOk X.prog X.w (upd H a o) s.heap a o) (nL : a ≠ X.env.locals) (nC : ∀ x c, X.env.cells.lookup x = some c → c ≠ a) (nP : ∀ p ∈ X.pn ++ pins, p.1 ≠ a) : Inv X pins σ (upd H a o) s := by
  have nh : ∀ {b : Addr} {u : HO}, H b = some u → b ≠ a := fun e z => by rw [z, na] at e; cases e
  refine ⟨I.ok, I.os, I.bare, ⟨I.base.keep, I.base.slot, fun b u e n q => ?_, I.base.there, fun b xs e => ?_, fun b u v e => ?_, fun b ps e => ?_⟩, I.loc, I.cell, ?_, fun x c e => ?_, fun p hp => ?_, fun b u e => ?_, I.len⟩
  · rw [upd_ne fun z => by rw [z, young] at e; cases e]
    exact I.base.free b u e n q
  · have old := I.base.tups b xs e
    rw [upd_ne (nh old)]; exact old
  · have old := I.base.frzs b u v e
    rw [upd_ne (nh old)]; exact old
  · obtain ⟨more, old⟩ := I.base.tbls b ps e
    exact ⟨more, by rw [upd_ne (nh old)]; exact old⟩
  · rw [upd_ne (Ne.symm nL)]; exact I.free
  · rw [upd_ne (nC x c e)]; exact I.freeC x c e
  · obtain ⟨e, n, r⟩ := I.pin p hp; exact ⟨e, by rw [upd_ne (nP p hp)]; exact n, r⟩
  · by_cases z : b = a
    · subst z
      rw [upd_same] at e
      cases e
      exact new
    · rw [upd_ne z] at e
      refine (I.hok b u e).stay (fun _ _ _ q => q) (fun c q => ?_) fun c xs q => ?_
      · rw [upd_ne (nh q)]; exact q
      · rw [upd_ne (nh q)]; exact q
end
/-- the context of a suite that handles the exception at a -/
abbrev heldX (X : Cx) (a : Addr) : Cx := { X with A := X.A.mark (some (.ref a)), calm := false, xe := fun _ _ => False }
/-- what 'except x as n' wishes of an exception of the body, n in slot i -/
def wHeld (K : PySem.W.Frag) (c : Value) (i : Nat) (ts : Addr → Value → TS) (Wout : WX) (D : Ends) : WX := fun cls d σ H => d = none ∧
  ∃ b, PySem.W.exmOne K cls c = some b ∧ (b = true → ∀ a, H a = none → ts a cls { nx := fun σ' G => D.nx (σ'.set i none) G, rt := D.rt, bk := fun σ' G => D.bk (σ'.set i none) G, ct := fun σ' G => D.ct (σ'.set i none) G } (σ.set i (some (.ref a))) (upd H a (ExK cls a))) ∧ (b = false → Wout cls d σ H)
section
variable {X : Cx} {x n : Str} {c : Value} {i : Nat} {body suite : List Stmt} {first : Stmt} {np pos pos' : Pos} {tb : WX → TS} {ts : Addr → Value → TS} {Wout : WX}
theorem Held.ok {a : Addr} (ok : X.Ok) : (heldX X a).Ok :=
  ⟨ok.mod,
    ok.kind, ok.glob, ok.blt, ok.above, ok.inj, ok.has, ok.cab, (fun z => absurd (show false = true from z) Bool.false_ne_true), ok.frames, ok.stk, ok.exf, ok.bs, ok.bsz, ok.noex, ok.exfs, ok.funs, ok.frf⟩
theorem Held.inv {a : Addr} {pins : List (Addr × Obj)} {σ : Sg} {H : Hp} {s : Shared} (I : Inv X pins σ H s) : Inv (heldX X a) pins σ H s := ⟨Held.ok I.ok, I.os, I.bare, I.base, I.loc, I.cell, I.free, I.freeC, I.pin, I.hok, I.len⟩
theorem Held.back {a : Addr} {pins : List (Addr × Obj)} {σ : Sg} {H : Hp} {s : Shared} (I : Inv (heldX X a) pins σ H s) (ok : X.Ok) : Inv X pins σ H s := ⟨ok, I.os, I.bare, I.base, I.loc, I.cell, I.free, I.freeC, I.pin, I.hok, I.len⟩
theorem ps_try_held (hs : X.stack = X.env :: X.outer) (hf : X.env.frame = some X.env.locals) (hex : X.ex = []) (hN : X.N.Nodup) (hi : X.N[i]? = some n) (loc : X.env.kindOf n = some .local) (hc : Names X x c) (tk : L2N.Takes X Wout)
    (hb : ∀ (W : WX) (pn : List (Addr × Obj)) (xe : Value → Shared → Prop), L2N.Takes (X.tr pn xe) W → PassesOwn (model X.prog X.w) X.A X.env xe → PSs (X.tr pn xe) body (tb W))
    (hsu : ∀ (a : Addr) (cls : Value), PSs (heldX X a) (first :: suite) (ts a cls)) :
    PS X (.Try body [.ExceptHandler (some (.Name x np)) (some n) (first :: suite) pos'] [] [] pos) (fun D σ H => tb (wHeld X.K c i ts Wout D) D σ H) where
  run pins s σ H D I given := by
    have ok := I.ok
    have frames : X.A.frames = some (X.env :: X.outer) := by rw [ok.frames, hs]
    refine wpAny_Try_except (wpAny_mono ((hb (wHeld X.K c i ts Wout D) (X.pn ++ pins) (fun e s₁ => wpAny (model X.prog X.w) X.A (noteFrame e X.env) (fun _ s₂ => wpAny (model X.prog X.w) X.A (setFlight e none) (fun _ s₃ =>
      wpAny (model X.prog X.w) X.A (handleBy e X.env [.ExceptHandler (some (.Name x np)) (some n) (first :: suite) pos']) (SP X pins D) X.xe s₃) X.xe s₂) X.xe s₁) (fun u s' air => ?_) PassesOwn.looking).run [] s σ H D (I.toTry _) given) (fun fl s1 ended => ?_) fun _ _ out => out)
    · obtain ⟨a, B, sI, pins', τ, G, cls, d, rfl, J0, ground, up, sky, na, os, bare, nod, b, matched, yes, no⟩ := air
      subst nod
      have J := J0.ofTry ok
      rw [hs] at sky
      show wpAny (model X.prog X.w) X.A (noteFrame (.ref a) (X.env)) _ _ _
      refine L2N.Sky.land L2N.Zn.steady frames hf sky fun h3 fl3 up3 => ?_
      have J3 : Inv X pins τ G { s' with heap := h3 } := J.landed ground fl3.1 (up.trans up3) os bare
      have apart : ∀ {h : Heap} {o : Obj} {vs : Array Value}, h.FunFrames B (X.env :: X.outer) → h.get? a = some o → o.data = .fields vs → a ∉ frs (X.env :: X.outer) := fun {h o vs} ff at_a shape m => by
        obtain ⟨_, o', at_a', nof⟩ := ff.mem m
        cases at_a.symm.trans at_a'
        exact nof _ shape
      have nofr : a ∉ frs (X.env :: X.outer) := by
        obtain ⟨_, _, at_a, _, shape⟩ := fl3.there
        exact apart fl3.2.2.1 at_a shape
      have nL : a ≠ X.env.locals := fun z => nofr (List.mem_filterMap.mpr ⟨X.env, List.mem_cons_self, by rw [hf, z]⟩)
      -- the object is younger than the state without it
      have noI : sI.heap.get? a = none := by
        cases q : sI.heap.get? a with
        | none => rfl
        | some o => exact absurd ((ground a o q (by rw [hs]; exact nofr)).symm.trans fl3.2.1) (fun z => nomatch z)
      have young : X.s_0.heap.get? a = none := by
        cases q : X.s_0.heap.get? a with
        | none => rfl
        | some o =>
          obtain ⟨o', z⟩ := J.base.there a o q (by rw [hex]; exact fun z => nomatch z)
          rw [noI] at z; cases z
      have nC : ∀ y k, X.env.cells.lookup y = some k → k ≠ a := fun y k e z => by
        obtain ⟨_, o, at_k, _⟩ := J.cell y k e
        rw [z, noI] at at_k; cases at_k
      have nP : ∀ p ∈ X.pn ++ pins, p.1 ≠ a := fun p hp z => by
        have := (J.pin p hp).1
        rw [z, noI] at this; cases this
      have tracked : ∀ {h : Heap}, Inv X pins τ G { s' with heap := h } → (∃ o vs, h.get? a = some o ∧ L2N.Zn cls none o ∧ o.data = .fields vs) → Inv X pins τ (upd G a (ExK cls a)) { s' with heap := h } := fun {h} K ⟨o, vs, at_a, z, shape⟩ =>
        Inv.track K young na (exK_ok at_a z shape) nL nC nP
      have I3 := Held.inv (a := a) (tracked J3 fl3.there)
      refine (wpAny_handleBy_cons (codeAny_handlers_test ?_) (by intro q; cases q))
      obtain ⟨oe, _, at_e, kind, _⟩ := fl3.there
      have typ : PySem.W.Looks (model X.prog X.w) h3 (typeOf (.ref a)) cls := fun A Q E s k q => wpAny_typeOf_ref (k _ _ at_e) (by rw [kind.1]; exact q)
      have asks : ∀ {Q E : Value → Shared → Prop}, Q c { s' with heap := h3 } → wpAny (model X.prog X.w) (X.A.mark (some (.ref a))) (eval (.Name x np) X.env) Q E { s' with heap := h3 } := fun {Q E} q => by
        obtain ⟨g, dbg, m | ⟨m, bt, nn⟩⟩ := hc
        · exact ld_glob (X := heldX X a) I3 g m q dbg
        · exact ld_blt (X := heldX X a) I3 g m bt q nn dbg
      refine asks ((PySem.W.exm_one (M := model X.prog X.w) J3.kIn typ matched).here ?_)
      cases b with
      | true =>
        refine codeAny_handlers_suite_as (HandSPX.lands_againZ fl3 fun h4 fl4 up4 => ?_)
        have J4 : Inv X pins τ G { s' with heap := h4 } := J.landed ground fl4.1 ((up.trans up3).trans up4) os bare
        refine store_ok (X := heldX X a) (v := .ref a) (Held.inv (tracked J4 fl4.there)) hN hi (.inl loc) rfl (fun s5 I5 => ?_) (.inr loc)
        refine wpAny_mono ((hsu a cls).run pins s5 _ _ _ I5 (yes rfl a na)) (fun fl s6 ended => ?_) fun _ _ no => no.elim
        have close : ∀ {τ6 : Sg} {G6 : Hp} {Q : Shared → Prop}, Inv (heldX X a) pins τ6 G6 s6 → (∀ s7, Inv X pins (τ6.set i none) G6 s7 → Q s7) → wpAny (model X.prog X.w) X.A (do bindName X.env n .none; unbindBehindTheSuite X.env n pos') (fun _ s7 => Q s7) X.xe s6 := fun I6 q => gone_ok (Held.back I6 ok) hN hi loc q
        match fl, ended with
        | .next, ⟨τ6, G6, I6, q⟩ => exact close I6 fun s7 I7 => ⟨_, _, I7, q⟩
        | .brk, ⟨τ6, G6, I6, q⟩ => exact close I6 fun s7 I7 => ⟨_, _, I7, q⟩
        | .cont, ⟨τ6, G6, I6, q⟩ => exact close I6 fun s7 I7 => ⟨_, _, I7, q⟩
        | .ret u, ⟨v6, τ6, G6, I6, r6, q⟩ => exact close I6 fun s7 I7 => ⟨_, _, _, I7, r6, q⟩
      | false =>
        show wpAny _ X.A (handleBy (.ref a) (X.env) []) _ _ _
        refine wpAny_handleBy_nil ?_
        obtain ⟨_, _, _, o, vs, T, _, _, at_a, _, shape, tb1, _⟩ := id fl3
        have on : wpAny (model X.prog X.w) X.A (setFlight (.ref a) X.env.frame) (fun _ s4 => wpAny (model X.prog X.w) X.A (throw (.ref a) : Sem Flow) (SP X pins D) X.xe s4) X.xe { s' with heap := h3 } := by
          rw [hf]
          exact HandSPX.setFlight_upZ fl3 fun h4 held up4 => wpAny_throw (tk _ _ ⟨a, B, sI, pins, τ, G, cls, none, rfl, J, ground, (up.trans up3).trans up4, .inr (.inr (by rw [hs]; exact held)), na, os, bare, no rfl⟩)
        unfold PySem.passOn
        refine wpAny_bind (wpAny_field at_a shape tb1 ?_)
        rw [if_neg (show ¬ ((Value.ref T == Value.none) = true) by simp)]
        first
          | exact wpAny_bind (wpAny_pure (wpAny_bind on))
          | exact wpAny_bind on
    · match fl, ended with
      | .next, ⟨τ, G, J, q⟩ => exact wpAny_execs_nil ⟨τ, G, J.ofTry ok, q⟩
      | .brk, ⟨τ, G, J, q⟩ => exact ⟨τ, G, J.ofTry ok, q⟩
      | .cont, ⟨τ, G, J, q⟩ => exact ⟨τ, G, J.ofTry ok, q⟩
      | .ret u, ⟨v, τ, G, J, r, q⟩ => exact ⟨v, τ, G, J.ofTry ok, r, q⟩
end
end DL

/-! try .. except in the layer; calls where an exception is handled -/
namespace DL
open PySem PySem.Spec
open PyProof.Rows L2
/-- a try's body: any wish that takes the body's exceptions -/
def TryI (c : Core) {ι : Type} (v : ι → Var) (W : WX) : Type := { q : ι × List (Addr × Obj) × (Value → Shared → Prop) // L2N.Takes (mkX c { v q.1 with pn := q.2.1, xe := q.2.2 }) W ∧ PassesOwn (model c.prog c.w) c.A (v q.1).env q.2.2 }
abbrev tryV (c : Core) {ι : Type} (v : ι → Var) (W : WX) : TryI c v W → Var := fun q => { v q.1.1 with pn := q.1.2.1, xe := q.1.2.2 }
/-- a suite that handles the exception at a -/
abbrev heldC (c : Core) (a : Addr) : Core := { c with A := c.A.mark (some (.ref a)), calm := false }
abbrev heldV {ι : Type} (v : ι → Var) : ι → Var := fun i => { v i with xe := fun _ _ => False }
section
variable {c : Core} {ι : Type} {v : ι → Var} {S : Ent} {Γ : List AV} {D : DE}
theorem At.tr {x : Str} {i : Nat} {W : WX} (h : At c v x i) : At c (tryV c v W) x i := ⟨h.ix, fun k => h.vis k.1.1, h.d1, h.d2⟩
theorem AtS.tr {x : Str} {i : Nat} {W : WX} (h : AtS c v x i) : AtS c (tryV c v W) x i := ⟨h.nd, h.ix, fun k => h.loc k.1.1, fun k => h.hf k.1.1⟩
theorem At.held {x : Str} {i : Nat} {a : Addr} (h : At c v x i) : At (heldC c a) (heldV v) x i := ⟨h.ix, fun k => h.vis k, h.d1, h.d2⟩
theorem AtS.held {x : Str} {i : Nat} {a : Addr} (h : AtS c v x i) : AtS (heldC c a) (heldV v) x i := ⟨h.nd, h.ix, fun k => h.loc k, fun k => h.hf k⟩
/-- the ends of a suite whose name stands in slot i -/
def HeldD (i : Nat) (D : DE) : DE := { nx := fun Γ => D.nx (wipeD Γ [i]), rt := D.rt, bk := fun Γ => D.bk (wipeD Γ [i]), ct := fun Γ => D.ct (wipeD Γ [i]) }
/-- the handled exception stays where it is -/
abbrev heldS (S : Ent) (a : Addr) (cls : Value) : Ent := S.pin fun b o => b = a ∧ o = ExK cls a
/-- what try: body / except x as n: suite makes of the body's exceptions -/
def TryX (c : Core) {ι : Type} (v : ι → Var) (S : Ent) (cV : Value) (i : Nat) (suite : List Stmt) (D : DE) (X : XD) : XD := fun cls Γ =>
  ∃ b, PySem.W.exmOne c.K cls cV = some b ∧ (b = true → ∀ a, BD (heldC c a) (heldV v) (heldS S a cls) suite (HeldD i D) (Γ.set i (.dt (.obj (ExK cls))))) ∧ (b = false → X cls Γ)
theorem set_wipe (i : Nat) (σ : Sg) : σ.set i none = L2.wipe σ [i] := rfl
theorem sd_try {body suite : List Stmt} {first : Stmt} {x n : Str} {np pos pos' : Pos} {cV : Value} {X : XD} (i : Nat) (stack : ∀ k, c.stack = (v k).env :: (v k).outer) (frame : ∀ k, (v k).env.frame = some (v k).env.locals) (noex : ∀ k, (v k).ex = []) (hN : c.N.Nodup) (hi : c.N[i]? = some n) (loc : ∀ k, (v k).env.kindOf n = some .local)
    (few : i < S.n) (notlent : ∀ p, (i, p) ∉ S.lent) (names : ∀ k, Names (mkX c (v k)) x cV) (tk : TX c v S X)
    (run : ∀ W, TX c (tryV c v W) S (TryX c v S cV i (first :: suite) D X) → PassOwn c (tryV c v W) → BD c (tryV c v W) S body D Γ) :
    SD c v S (.Try body [.ExceptHandler (some (.Name x np)) (some n) (first :: suite) pos'] [] [] pos) D Γ := fun E σ H L r => by
  refine ⟨fun D σ H => wB c (tryV c v (wHeld c.K cV i (fun a cls => wB (heldC c a) (heldV v) (first :: suite)) (wX c.K S X) D)) body D σ H, fun k => ps_try_held (X := mkX c (v k)) (i := i) (Wout := wX c.K S X) (tb := fun W => wB c (tryV c v W) body) (ts := fun a cls => wB (heldC c a) (heldV v) (first :: suite)) (stack k) (frame k) (noex k) hN hi (loc k) (names k) (tk k)
    (fun W pn xe takes passes => ⟨fun pins s σ H D I ⟨t, all, q⟩ => (all ⟨(k, pn, xe), takes, passes⟩).run pins s σ H D I q⟩) (fun a cls => ⟨fun pins s σ H D I ⟨t, all, q⟩ => (all k).run pins s σ H D I q⟩), ?_⟩
  refine run (wHeld c.K cV i (fun a cls => wB (heldC c a) (heldV v) (first :: suite)) (wX c.K S X) E) (fun q => q.2.1.imp fun cls d τ G ⟨nod, Γ', ⟨b, matched, yes, past⟩, r'⟩ => ⟨nod, b, matched, fun hb a free => ?_, fun hb => ⟨nod, Γ', past hb, r'⟩⟩) (fun q => q.2.2) E σ H L r
  have new := r'.new free
  have tracked : Res c.K S Γ' τ (upd G a (ExK cls a)) (.ref a) (.dt (.obj (ExK cls))) := by
    refine ⟨(r'.alloc free).no, .obj upd_same ?_⟩
    rintro (z | z | z)
    · exact new.1 z
    · exact new.2.1 z
    · exact z
  have clear : ∀ {Γ2 : List AV} {τ2 : Sg} {G2 : Hp}, RS c.K S no Γ2 τ2 G2 → RS c.K S no (wipeD Γ2 [i]) (τ2.set i none) G2 := fun r2 => by
    rw [set_wipe]
    exact r2.wipe fun j hj p => by rw [List.mem_singleton.mp hj]; exact notlent p
  have there := (RS.store tracked few notlent).dopin (f := fun b o => b = a ∧ o = ExK cls a) fun b o z => by
    obtain ⟨rfl, rfl⟩ := z
    refine ⟨upd_same, fun own => ?_, id⟩
    obtain ⟨ys, e⟩ := (RS.store tracked few notlent).own_tr own
    rw [upd_same] at e
    cases e
  exact yes hb a _ _ _ ⟨fun Γ2 τ2 G2 q r2 => L.nx _ _ _ q (clear r2.unpin), fun u Γ2 τ2 G2 y q r2 => L.rt _ _ _ _ _ q r2.unpin, fun Γ2 τ2 G2 q r2 => L.bk _ _ _ q (clear r2.unpin), fun Γ2 τ2 G2 q r2 => L.ct _ _ _ q (clear r2.unpin)⟩ there
end
end DL

/-! walks and unpacked tuples where an exception may be handled -/
namespace DL
open PySem PySem.Spec
open PyProof.Rows L2
/-- nothing is handled, or an exception that has no context -/
def MildAt (A : Around) (h : Heap) : Prop := A.handled = none ∨ ∃ a, HotX.HotAt A a h
section
variable {prog : Program}
variable {w : World} {A : Around}
variable {s : Shared} {E : Value → Shared → Prop}
theorem MildAt.kept {h h' : Heap} (m : MildAt A h) (k : ∀ b o, h.get? b = some o → h'.get? b = some o) : MildAt A h' := m.imp id fun ⟨a, hh, o, vs, e, d, n⟩ => ⟨a, hh, o, vs, k a o e, d, n⟩
/-- a walk's end is told by an exception that no one sees -/
theorem told_end {α : Type} {Q : α → Shared → Prop} (mild : MildAt A s.heap) (out : ∀ h' e, (∀ b o, s.heap.get? b = some o → h'.get? b = some o) → (∃ o, h'.get? e = some o ∧ o.cls = .type "StopIteration") → E (.ref e) { s with heap := h' }) :
    wpAny (model prog w) A (newExc (.type "StopIteration") [] >>= fun e => raiseNew e : Sem α) Q E s := by
  have first : firstArgMember (.type "StopIteration") [] = pure Value.none := by
    first | rfl | simp only [firstArgMember]
  simp only [newExc, newTuple]
  refine wpAny_bind (wpAny_bind (wpAny_newObj_type (wpAny_bind (wpAny_of_eq first (wpAny_newObj_type ?_ (by size_fits)))) (by size_fits)))
  rcases mild with none | ⟨a, hh, o, vs, at_a, shape, nocx⟩
  · simp only [raiseNew]
    refine wpAny_bind (wpAny_handled ?_); rw [none]
    exact wpAny_bind (wpAny_pure (wpAny_throw (out _ _ (fun b o z => Heap.get?_push_of_some _ (Heap.get?_push_of_some _ z)) ⟨_, Heap.get?_push_size _ rfl, rfl⟩)))
  · have at2 := Heap.get?_push_of_some { cls := .type "StopIteration", data := .fields (#[Value.ref s.heap.objs.size, .none, .none, .none, .bool false, .none]) } (Heap.get?_push_of_some { cls := .type "tuple", data := .seq ([] : List Value).toArray } at_a)
    refine HotX.raiseNew_hot ⟨hh, o, vs, Heap.get?_push_of_some _ (Heap.get?_push_of_some _ at_a), shape, nocx⟩ (Nat.ne_of_lt (Heap.lt_size (Heap.get?_push_of_some _ at_a))) (Heap.get?_push_size _ rfl) rfl (by first | (simp; done) | (simp; omega) | (simp only [Array.size_append]; simp; omega)) ?_
    refine out _ _ (fun b u z => ?_) ⟨_, Heap.get?_update_self _ (Heap.get?_push_size _ rfl) rfl, rfl⟩
    rw [Heap.get?_update_other _ _ (Nat.ne_of_gt (Heap.lt_size (Heap.get?_push_of_some _ z)))]
    exact Heap.get?_push_of_some _ (Heap.get?_push_of_some _ z)
theorem seen_end {e : Addr} {Q : Option Value → Shared → Prop} (z : ∃ o, s.heap.get? e = some o ∧ o.cls = .type "StopIteration") (q : Q none s) : wpAny (model prog w) A (do if ← isInstance (.ref e) (.type "StopIteration") then pure none else throw (.ref e)) Q E s :=
  wpAny_bind (wpAny_isInstance (T := "StopIteration") (b := true) z isSubtype_stop (wpAny_pure q))
/-- a list's walk ends -/
theorem list_over {it l : Addr} {i : Nat} {items : Array Value} {Q : Option Value → Shared → Prop} (mild : MildAt A s.heap) (other : ∀ a, A.handled = some (.ref a) → a ≠ it) (hit : s.heap.IsListIter it l i) (hl : s.heap.IsList l items) (last : items[i]? = none)
    (q : ∀ h', Heap.ExtBut it s.heap h' → Q none { s with heap := h' }) : wpAny (model prog w) A (pyNext (.ref it)) Q E s := by
  obtain ⟨u, at_it, cls_it, shape⟩ := id hit
  obtain ⟨v, at_l, _, n, items_l⟩ := hl
  unfold pyNext
  refine wpAny_bind (wpAny_attempt (wpAny_callSpecial?_slot (name := Str.ofString "__next__") hit.typeIs slot_listiter_next (wpAny_call_entry slot_listiter_next hit.typeIs entry_listiter_next ?_ (args_listiter_next _))))
  show wpAny _ _ (field (.ref it) 0 >>= fun _ => _) _ _ s
  refine wpAny_bind (wpAny_field at_it shape (x := .ref l) rfl ?_)
  show wpAny _ _ (if (Value.ref l == Value.none) = true then _ else _) _ _ _
  refine (if_neg (show ¬ (Value.ref l == Value.none) = true from Bool.false_ne_true)).symm ▸ ?_
  show wpAny _ _ (field (.ref it) 1 >>= fun _ => _) _ _ s
  refine wpAny_bind (wpAny_field at_it shape (x := .int i 0) rfl ?_)
  show wpAny _ _ (seqItems? (.ref l) >>= fun _ => _) _ _ s
  refine wpAny_bind (wpAny_seqItems at_l items_l ?_)
  simp only [Int.toNat_natCast, last]
  refine wpAny_bind (wpAny_rule (wpAny_bind (wpAny_setField at_it shape (by simp) ?_)))
  have upd := Heap.SameBut.update s.heap it (Obj.mapFields fun x => x.setIfInBounds 0 .none)
  refine told_end (mild.imp id fun ⟨a, hh, o, vs, e, d, nc⟩ => ⟨a, hh, o, vs, (upd.2 a (other a hh)).trans e, d, nc⟩) fun h2 e keep stop => seen_end (s := { s with heap := h2 }) stop (q h2 fun b o nb z => keep b o ((upd.2 b nb).trans z))
/-- a tuple's walk ends -/
theorem tup_over {it t : Addr} {i : Nat} {items : Array Value} {Q : Option Value → Shared → Prop} (mild : MildAt A s.heap) (other : ∀ a, A.handled = some (.ref a) → a ≠ it) (hit : IsTupIter s.heap it t i) (ht : IsTup s.heap t items) (last : items[i]? = none)
    (q : ∀ h', Heap.ExtBut it s.heap h' → Q none { s with heap := h' }) : wpAny (model prog w) A (pyNext (.ref it)) Q E s := by
  obtain ⟨u, at_it, cls_it, shape⟩ := id hit
  obtain ⟨v, at_t, _, n, items_t⟩ := ht
  unfold pyNext
  refine wpAny_bind (wpAny_attempt (wpAny_callSpecial?_slot (name := Str.ofString "__next__") hit.typeIs slot_tupleiter_next (wpAny_call_entry slot_tupleiter_next hit.typeIs entry_tupleiter_next ?_ (args_tupleiter_next _))))
  show wpAny _ _ (field (.ref it) 0 >>= fun _ => _) _ _ s
  refine wpAny_bind (wpAny_field at_it shape (x := .ref t) rfl ?_)
  show wpAny _ _ (if (Value.ref t == Value.none) = true then _ else _) _ _ _
  refine (if_neg (show ¬ (Value.ref t == Value.none) = true from Bool.false_ne_true)).symm ▸ ?_
  show wpAny _ _ (field (.ref it) 1 >>= fun _ => _) _ _ s
  refine wpAny_bind (wpAny_field at_it shape (x := .int i 0) rfl ?_)
  show wpAny _ _ (seqItems? (.ref t) >>= fun _ => _) _ _ s
  refine wpAny_bind (wpAny_seqItems at_t items_t ?_)
  simp only [Int.toNat_natCast, last]
  refine wpAny_bind (wpAny_rule (wpAny_bind (wpAny_setField at_it shape (by simp) ?_)))
  have upd := Heap.SameBut.update s.heap it (Obj.mapFields fun x => x.setIfInBounds 0 .none)
  refine told_end (mild.imp id fun ⟨a, hh, o, vs, e, d, nc⟩ => ⟨a, hh, o, vs, (upd.2 a (other a hh)).trans e, d, nc⟩) fun h2 e keep stop => seen_end (s := { s with heap := h2 }) stop (q h2 fun b o nb z => keep b o ((upd.2 b nb).trans z))
/-- a, b, .. = a tuple -/
theorem unpack_mild {env : Env} {elts : List Expr} {k : Nat} {pos : Pos} {t : Addr} {items : Array Value} {Q : Unit → Shared → Prop} (mild : MildAt A s.heap) (alive : ∀ a, A.handled = some (.ref a) → a < s.heap.objs.size) (ht : IsTup s.heap t items) (many : (assignEach elts env).length = items.size) (nostar : (assignEach elts env).findIdx? (·.1) = none)
    (q : ∀ h', Heap.ExtBut s.heap.objs.size s.heap h' → wpAny (model prog w) A (assignInOrder ((assignEach elts env).map (·.2)) items.toList) Q E { s with heap := h' }) : wpAny (model prog w) A (assign (.Tuple elts k pos) env (.ref t)) Q E s := by
  have below : t ≠ s.heap.objs.size := ht.elim fun _ z => Nat.ne_of_lt (Heap.lt_size z.1)
  rw [PyProof.Rows.assign_Tuple]; refine wpAny_bind (wpAny_standAt ?_)
  unfold unpack
  rw [many, nostar]
  refine wpAny_bind (wpAny_holding (wpAny_bind ?_))
  unfold notIterableAtAll
  refine wpAny_bind (wpAny_specialOf ht.typeIs slot_tuple_iter.lookup (wpAny_pure ?_))
  simp only [Bool.false_eq_true, if_false]; refine wpAny_bind (wpAny_holding (PyProof.Rows.iter_tuple ht (wpAny_bind (wpAny_holding (PyProof.Rows.draw_tuple below items.size 0 _ _ ⟨_, Heap.get?_push_size _ rfl, rfl, rfl⟩ (ht.push _) (by omega) fun h1 it1 same1 => ?_)))))
  have all : List.take items.size (List.drop 0 items.toList) = items.toList := by rw [List.drop_zero]; exact List.take_of_length_le (by simp)
  rw [all, if_neg (by simp)]
  have keep1 : ∀ b o, b ≠ s.heap.objs.size → s.heap.get? b = some o → h1.get? b = some o := fun b o nb z => same1.extBut b o nb (Heap.get?_push_of_some _ z)
  have mild1 : MildAt A h1 := mild.imp id fun ⟨a, hh, o, vs, e, d, nc⟩ => ⟨a, hh, o, vs, keep1 a o (Nat.ne_of_lt (alive a hh)) e, d, nc⟩
  refine wpAny_bind (wpAny_holding (tup_over mild1 (fun a hh => Nat.ne_of_lt (alive a hh)) it1 ((ht.push _).extBut same1.extBut below) (by simp) fun h2 ext => ?_))
  simp only [Option.isSome_none, Bool.false_eq_true, if_false]; exact wpAny_pure (q h2 fun b o nb z => ext b o nb (keep1 b o nb z))
end
end DL

/-! calls where an exception may be handled -/
namespace DL
open PySem PySem.Spec
open PyProof.Rows L2
/-- nothing is handled, or a tracked exception -/
def Mild (A : Around) (H : Hp) : Prop := A.handled = none ∨ ∃ a cls, A.handled = some (.ref a) ∧ H a = some (ExK cls a)
theorem Mild.hot {P : Program} {w : World} {A : Around} {H : Hp} {h : Heap} (m : Mild A H) (ok : HOk P w H h) : MildAt A h := m.imp id fun ⟨a, cls, hh, e⟩ => by
  obtain ⟨⟨o, vs, at_a, _, _, shape, nc⟩, _⟩ := ok a _ e
  exact ⟨a, hh, o, vs, at_a, shape, nc⟩
theorem Mild.alive {P : Program} {w : World} {A : Around} {H : Hp} {h : Heap} (m : Mild A H) (ok : HOk P w H h) : ∀ a, A.handled = some (.ref a) → a < h.objs.size := fun a hh => by
  rcases m with z | ⟨b, cls, hb, e⟩
  · rw [z] at hh; cases hh
  · cases hb.symm.trans hh
    exact (ok _ _ e).lt
theorem Mild.not {A : Around} {H : Hp} (m : Mild A H) {b : Addr} (free : H b = none) : ∀ a, A.handled = some (.ref a) → a ≠ b := fun a hh z => by
  rcases m with y | ⟨d, cls, hb, e⟩
  · rw [y] at hh; cases hh
  · cases hb.symm.trans hh
    rw [z, free] at e; cases e
/-- what every state of a def knows of the exception that is handled -/
def Easy (c : Core) (S : Ent) : Prop := c.A.handled = none ∨ ∃ a cls, c.A.handled = some (.ref a) ∧ ((S.H a = some (ExK cls a) ∧ ¬ S.x a) ∨ S.pn a (ExK cls a))
theorem Easy.mild {c : Core} {S : Ent} {ex : AP} {Γ : List AV} {σ : Sg} {H : Hp} (e : Easy c S) (r : RS c.K S ex Γ σ H) : Mild c.A H := e.imp id fun ⟨a, cls, hh, z⟩ => ⟨a, cls, hh, z.elim (fun z => r.fr a _ z.1 z.2) fun z => (r.pin a _ z).1⟩
theorem Easy.pin {c : Core} {S : Ent} {f : Addr → HO → Prop} (e : Easy c S) : Easy c (S.pin f) := e.imp id fun ⟨a, cls, hh, z⟩ => ⟨a, cls, hh, z.imp id .inl⟩
theorem Easy.held (c : Core) (S : Ent) (a : Addr) (cls : Value) : Easy (heldC c a) (heldS S a cls) := .inr ⟨a, cls, rfl, .inr (.inr ⟨rfl, rfl⟩)⟩
/-- a def that keeps a promise also where an exception is handled -/
structure FnE (P : Program) (w : World) (K : PySem.W.Frag) (mg : Str → Option Value) (base : Heap) (k : Nat) (f : Addr) (fd : FuncData) (ps : List Str) (sp : Sp) : Prop where
  len : ∀ as G Q E, sp as G Q E → as.length = ps.length
  run : ∀ (A : Around) (outer : List Env) (s : Shared) (H : Hp) (args : Args) (us : List Value) (vs : List V) (Q : VK), L2H.RoomH k A → A.guards = some [] → Mild A H → Env0 P w K mg base A outer s H → BindsTo s fd args (ps.zip us) → Vals vs us → sp vs H Q E0 →
    codeAny (model P w) A (.call (.ref f) args) (CR CX0 outer P w H s Q E0) s
theorem FnE.mono {P : Program} {w : World} {K : PySem.W.Frag} {mg : Str → Option Value} {base : Heap} {j k : Nat} {f : Addr} {fd : FuncData} {ps : List Str} {sp : Sp} (F : FnE P w K mg base j f fd ps sp) (h : j ≤ k) : FnE P w K mg base k f fd ps sp :=
  ⟨F.len, fun A outer s H args us vs Q hr => F.run A outer s H args us vs Q (hr.mono h)⟩
/-- such a promise is one where nothing is handled -/
theorem FnE.calm {P : Program} {w : World} {K : PySem.W.Frag} {mg : Str → Option Value} {base : Heap} {k : Nat} {f : Addr} {fd : FuncData} {ps : List Str} {sp : Sp} (F : FnE P w K mg base k f fd ps sp) : FnG P w K mg base k f fd ps sp :=
  ⟨F.len, fun A outer s H args us vs Q hr hgu => F.run A outer s H args us vs Q (L2H.roomH_of hr) hgu (.inl hr.hd)⟩
abbrev coreE (P : Program) (w : World) (K : PySem.W.Frag) (mg : Str → Option Value) (base : Heap) (A : Around) (N : List Str) (stack : List Env) : Core := ⟨P, w, K, mg, base, A, N, stack, false⟩
theorem FnE.of {P : Program} {w : World} {K : PySem.W.Frag} {mg : Str → Option Value} {base : Heap} {x qual : Str} {st : Stmt} {f : Addr} {fd : FuncData} {N ps : List Str} {k : Nat} {DS : DSp} (F : Fun K x qual st f fd) (SC : FnScope N ps (defScope st)) (hn : ∀ as post, DS as post → as.length = ps.length)
    (body : ∀ (cdv : Value) (A : Around) (outer : List Env) (s : Shared) (H : Hp) (vs : List V) (fo : AP) (as : List AV) (post : AV → List AV → Prop), L2H.RoomH k (A.deeper (envOfC qual (defScope st) s.heap.objs.size f cdv)) → A.guards = some [] → DS as post →
      Easy (coreE P w K mg base (A.deeper (envOfC qual (defScope st) s.heap.objs.size f cdv)) N (envOfC qual (defScope st) s.heap.objs.size f cdv :: outer)) (Ent.call H as vs fo N.length) →
      BD (coreE P w K mg base (A.deeper (envOfC qual (defScope st) s.heap.objs.size f cdv)) N (envOfC qual (defScope st) s.heap.objs.size f cdv :: outer)) (varOf s H (envOfC qual (defScope st) s.heap.objs.size f cdv) outer) (Ent.call H as vs fo N.length) (defBody st)
        { nx := fun Γ => post (.dt .non) (outsA as Γ), rt := fun a Γ => post a (outsA as Γ) } (as ++ List.replicate (N.length - as.length) .un)) : FnE P w K mg base (k + 1) f fd ps (spD K DS) := by
  obtain ⟨oc, od, kV, doc, pm, an, cdv, ct, osl, rfl, lk, code⟩ := F.ex
  refine ⟨fun vs H Q E h => spD_len hn h, fun A outer s H args us vs Q hr hgu mild e0 hb rv h => ?_⟩
  have ln : vs.length = ps.length := spD_len hn h
  have inB : ∀ b o, K.lookup b = some o → base.get? b = some o := fun b o z => e0.mod.kin b o z
  have inK : K.In s.heap := e0.mod.kin.keeps fun b o z => (e0.bs b o z).1
  have nolim : s.heap.NoLimit := e0.mod.nolimit.keeps fun b o z => (e0.bs b o z).1
  have kinds : ∀ y ∈ ps.zip us, (defScope st).names.lookup y.1 = some .local ∨ ((defScope st).names.lookup y.1 = some .cell ∧ ((cellsFrom (s.heap.objs.size + 1) (defScope st).names []).lookup y.1).isSome = true) := fun y hy =>
    (SC.par y.1 (List.of_mem_zip hy).1).imp id fun z => ⟨z, PySem.W.cellsFrom_some _ _ _ (.inl z)⟩
  refine codeAny_call_function hr.depth (inK _ _ lk) rfl SC.co SC.gen rfl (PySem.W.codeRec_of inK code) (hb _ _ _ _ (wpAny_newFunctionEnv_cells SC.kind kinds fun env henv s1 ic => ?_))
  subst henv
  refine ⟨nolim.keeps ic.toInCall.keep, codeAny_func ?_⟩
  obtain ⟨as, fo, post, hD, rs, back⟩ := h
  have la : as.length = ps.length := hn as post hD
  have hNl : ps.length ≤ N.length := by
    have := congrArg List.length SC.pre
    rw [List.length_take] at this
    omega
  -- the def itself is pinned for the start alone
  have nofr : f ∉ frs outer := fun m => by
    have := (e0.funs.mem m).1
    rw [inB _ _ lk] at this
    cases this
  have pinned : L2H.PinOk outer H s (f, _) := { get := inK _ _ lk, free := (e0.bs _ _ (inB _ _ lk)).2, nofs := nofr, nocell := fun _ z => by cases z }
  have I0 : Inv (L2H.cxH CX0 P w K mg base N qual (defScope st) f cdv A outer s H E0 (f, _)) [] (start N vs) H s1 := L2H.inv_startH SC pinned e0 ln rv ic
  have I1 : Inv (mkX (coreE P w K mg base (A.deeper (envOfC qual (defScope st) s.heap.objs.size f cdv)) N (envOfC qual (defScope st) s.heap.objs.size f cdv :: outer)) (varOf s H (envOfC qual (defScope st) s.heap.objs.size f cdv) outer ())) [] (start N vs) H s1 :=
    ⟨⟨I0.ok.mod, I0.ok.kind, I0.ok.glob, I0.ok.blt, I0.ok.above, I0.ok.inj, I0.ok.has, I0.ok.cab, I0.ok.hd, I0.ok.frames, I0.ok.stk, I0.ok.exf, I0.ok.bs, I0.ok.bsz, I0.ok.noex, I0.ok.exfs, I0.ok.funs, I0.ok.frf⟩, I0.os, I0.bare, I0.base, I0.loc, I0.cell, I0.free, I0.freeC, fun p hp => (nomatch (show p ∈ ([] : List (Addr × Obj)) from hp)), I0.hok, I0.len⟩
  have rs0 := entry_rs rs la ln hNl
  have easy : Easy (coreE P w K mg base (A.deeper (envOfC qual (defScope st) s.heap.objs.size f cdv)) N (envOfC qual (defScope st) s.heap.objs.size f cdv :: outer)) (Ent.call H as vs fo N.length) := mild.imp id fun ⟨a, cls, hh, e⟩ => ⟨a, cls, hh, .inl ⟨e, fun ⟨i, l⟩ => by
    obtain ⟨ds, ow, at_v⟩ := lent_mem.mp l
    obtain ⟨q, xs, e1, e2, _⟩ := rs.slots i _ ow
    rw [List.getElem?_map, at_v] at e1
    cases e1
    rw [e2] at e
    cases e⟩⟩
  obtain ⟨t, ht, hq⟩ := body cdv A outer s H vs fo as post (hr.deeper _) hgu hD easy { nx := fun _ G => Q .non G, rt := Q } (start N vs) H ⟨fun Γ σ' G hp hr => back .non G (.dt .non) _ hp (outs_res rs (by omega) ⟨hr, .non⟩), fun a Γ σ' G z hp hr => back z G a _ hp (outs_res rs (by omega) hr), fun _ _ _ z => z.elim, fun _ _ _ z => z.elim⟩ rs0
  refine wpAny_mono ((ht ()).run [] s1 (start N vs) H _ I1 hq) (fun fl s' hs => ?_) fun e s' no => no.elim
  match fl, hs with
  | .ret u, ⟨z, σ', G, J, rel, q⟩ => exact ⟨z, G, J.os, J.bare, J.base, J.hok, rel, q⟩
  | .next, ⟨σ', G, J, q⟩ => exact ⟨.non, G, J.os, J.bare, J.base, J.hok, rfl, q⟩
  | .brk, ⟨_, _, _, no⟩ => exact no.elim
  | .cont, ⟨_, _, _, no⟩ => exact no.elim
section
variable {k : Nat} {f : Addr} {fd : FuncData} {ps : List Str} {x : Str} {p pos : Pos} {e : Expr} {es : List Expr}
theorem pe_callE {Y : Cx} {sp : Sp} {t : TA} (F : FnE Y.prog Y.w Y.K Y.mg Y.base k f fd ps sp) (hr : L2H.RoomH k Y.A) (hgu : Y.A.guards = some []) (hg : Gl Y x) (hm : Y.mg x = some (.ref f)) (hk : PySem.W.keepIn Y.K (.ref f) = true) (hb : Binds Y.K fd ps [])
    (ha : PA Y (e :: es) t) (hdb : (x == ("__debug__" : Str)) = false) (he : starEach (e :: es) Y.env = (false, eval e Y.env) :: starEach es Y.env) (hpl : (backTo pos (starEach es Y.env)).any (·.1) = false) :
    PE Y (.Call (.Name x p) (e :: es) [] pos) (fun σ H R => t σ H fun vs H1 => Mild Y.A H1 ∧ sp vs H1 R E0) where
  run pins s σ H R I given := by
    refine wpAny_Call_Name_kw (ld_glob I hg hm (PySem.W.callWith_K (h₀ := Y.base) I.ok.mod.kin hk (thn (ha.run pos pins s σ H _ I given) fun us s1 got => ?_) he hpl) hdb)
    obtain ⟨vs, H1, I1, rel, mild, q⟩ := got
    refine ⟨I1.kIn, ?_⟩
    have many : (us ++ ([] : List Value)).length = ps.length := by rw [List.append_nil, ← rel.length]; exact F.len _ _ _ _ q
    have bound := hb s1 us I1.kIn many
    rw [List.append_nil] at bound
    exact wpAny_call (codeAny_mono (F.run Y.A Y.stack s1 H1 ⟨us, []⟩ us vs R hr hgu mild I1.env0 bound rel q) fun res s' done => match res, done with
      | .ok (.ret _), done => I1.after done
      | .ok .next, no => no.elim
      | .ok .brk, no => no.elim
      | .ok .cont, no => no.elim
      | .error _, no => no.elim)
variable {c : Core} {ι : Type} {v : ι → Var} {S : Ent} {Γ : List AV} {Q : AV → List AV → Prop} {DS : DSp}
/-- f(e, ..), also where an exception is handled -/
theorem ed_callE (F : FnE c.prog c.w c.K c.mg c.base k f fd ps (spD c.K DS)) (hr : L2H.RoomH k c.A) (hgu : c.A.guards = some []) (easy : Easy c S) (hg : ∀ i, Gl (mkX c (v i)) x) (hm : c.mg x = some (.ref f)) (hk : PySem.W.keepIn c.K (.ref f) = true) (hb : Binds c.K fd ps [])
    (hdb : (x == ("__debug__" : Str)) = false) (he : NoStar v e es) (hpl : NoStarL v pos es)
    (h : EA c v S (e :: es) Γ fun as Γ1 => ∃ avs, argsA Γ1 as = some avs ∧ lnsOk as = true ∧ DS avs fun a avs' => avs'.length = avs.length → Q a (backA Γ1 as avs')) : ED c v S (.Call (.Name x p) (e :: es) [] pos) Γ Q := fun σ H R r kk => by
  refine ⟨fun σ H R => wA c v (e :: es) σ H fun vs H1 => Mild c.A H1 ∧ spD c.K DS vs H1 R E0, fun i => pe_callE (Y := mkX c (v i)) F hr hgu (hg i) hm hk hb (wA.pa i) hdb (he i) (hpl i), ?_⟩
  refine h σ H _ r fun xs H1 as Γ1 ⟨avs, ea, ho, hD⟩ r1 hx s => ⟨easy.mild r1, avs, _, _, hD, call_in r1 hx ea ho, fun y H2 a as' q hres => ?_⟩
  obtain ⟨z1, z2, z3⟩ := call_out r1 hx ea ho hres
  exact kk _ _ _ _ (q hres.rs.lenΓ) z1 (s.trans z2) (z3.back s)
end
end DL

/-! list comprehensions with any number of clauses, also where an exception is handled -/
namespace DL
open PySem PySem.Spec
open PyProof.Rows L2
section
variable {elt tg iter tg1 iter1 : Expr} {ifs ifs1 : List Expr} {gens : List Comprehension} {scope : Scope} {pos : Pos} {k : Nat} {it acc : Value} {env : Env}
theorem turn_last (hk : gens[k]? = some ⟨tg, iter, ifs, 0⟩) (h1 : gens[k + 1]? = none) : compTurn (.ListComp elt gens scope pos) k it acc env = (do
      standAt iter.pos
      match ← pyNext it with
      | none => pure (.done .next)
      | some v =>
        letOwnedTupleGo tg it v
        assign tg env v
        let mut ok := true
        for c in ifs do
          if ok then ok ← (isTrue c env (eval c env))
        if ok then
          (do let _ ← call (.builtin "list.append") [acc, ← (eval elt env)])
        again (.compLoop (.ListComp elt gens scope pos) k it acc env)) := by
  unfold compTurn
  simp only [hk, h1]
  rfl
theorem turn_mid (hk : gens[k]? = some ⟨tg, iter, ifs, 0⟩) (h1 : gens[k + 1]? = some ⟨tg1, iter1, ifs1, 0⟩) : compTurn (.ListComp elt gens scope pos) k it acc env = (do
      standAt iter.pos
      match ← pyNext it with
      | none => pure (.done .next)
      | some v =>
        letOwnedTupleGo tg it v
        assign tg env v
        let mut ok := true
        for c in ifs do
          if ok then ok ← (isTrue c env (eval c env))
        if ok then
          let x ← eval iter1 env
          standAt iter1.pos
          let x ← foldedSetIterable iter1 env x
          let _ ← runOwn (.compStart (.ListComp elt gens scope pos) (k + 1) (← holding [x] (pyIter x)) acc env) env
        again (.compLoop (.ListComp elt gens scope pos) k it acc env)) := by
  unfold compTurn
  simp only [hk, h1]
  rfl
end
/-- a walk's turns, under the condition Cd -/
structure TurnC (Cd : Cx → Hp → Prop) (P : Program) (w : World) (K : PySem.W.Frag) (tg : Expr) (J : It) (fp : List Addr) (it : Addr) (tn : Nat → Heap → Prop) : Prop where
  mem : it ∈ fp
  obj : ∀ i hh, tn i hh → ∀ b ∈ fp, ∃ o, hh.get? b = some o ∧ ∀ v, o.data ≠ .cell v
  keep : ∀ i h1 h2, tn i h1 → (∀ b ∈ fp, ∀ o, h1.get? b = some o → h2.get? b = some o) → tn i h2
  item : ∀ (X : Cx), X.prog = P → X.w = w → X.K = K → ∀ (i : Nat) (pins : List (Addr × Obj)) (s : Shared) (σ : Sg) (H : Hp) (E : Value → Shared → Prop), Cd X H → Inv X pins σ H s → (∀ b ∈ fp, FpOk X pins H b) → tn i s.heap → J.go i H →
    wpAny (model P w) X.A (pyNext (.ref it)) (fun r s1 => ∃ u, r = some u ∧ wpAny (model P w) X.A (letOwnedTupleGo tg (.ref it) u) (fun _ s2 => ∃ x H', Inv X pins σ H' s2 ∧ RelV x u ∧ J.yld i H x H' ∧ tn (i + 1) s2.heap ∧ ∀ b ∈ fp, H' b = none) E s1) E s
  done : ∀ (X : Cx), X.prog = P → X.w = w → X.K = K → ∀ (i : Nat) (pins : List (Addr × Obj)) (s : Shared) (σ : Sg) (H : Hp) (E : Value → Shared → Prop), Cd X H → Inv X pins σ H s → (∀ b ∈ fp, FpOk X pins H b) → tn i s.heap → J.stop i H →
    wpAny (model P w) X.A (pyNext (.ref it)) (fun res s1 => res = none ∧ Inv X pins σ H s1) E s
  self : ∀ (A : Around) (n : Nat) (s : Shared) (Q : Value → Shared → Prop) (E : Value → Shared → Prop), tn n s.heap → Q (.ref it) s → wpAny (model P w) A (pyIter (.ref it)) Q E s
abbrev CalmC : Cx → Hp → Prop := fun X _ => X.calm = true
abbrev MildC : Cx → Hp → Prop := fun X H => Mild X.A H
theorem TurnC.of {P : Program} {w : World} {K : PySem.W.Frag} {tg : Expr} {J : It} {fp : List Addr} {it : Addr} {tn : Nat → Heap → Prop} (T : Turn P w K tg J fp it tn) : TurnC CalmC P w K tg J fp it tn :=
  ⟨T.mem, T.obj, T.keep, fun X e1 e2 e3 i pins s σ H E c => T.item X e1 e2 e3 c i pins s σ H E, fun X e1 e2 e3 i pins s σ H E c => T.done X e1 e2 e3 c i pins s σ H E, T.self⟩
def PIEC (Cd : Cx → Hp → Prop) (X : Cx) (pins : List (Addr × Obj)) (σ : Sg) (tg : Expr) (R : It → Hp → Prop) (itv : Value) (s2 : Shared) : Prop :=
  ∃ (it : Addr) (fp : List Addr) (tn : Nat → Heap → Prop) (J : It) (H' : Hp), itv = .ref it ∧ Inv X pins σ H' s2 ∧ TurnC Cd X.prog X.w X.K tg J fp it tn ∧ tn 0 s2.heap ∧ (∀ b ∈ fp, FpOk X pins H' b) ∧ R J H'
/-- what is walked over -/
structure PIC (Cd : Cx → Hp → Prop) (X : Cx) (tg iter : Expr) (wi : TI) : Prop where
  run : ∀ (pins : List (Addr × Obj)) (s : Shared) (σ : Sg) (H : Hp) (R : It → Hp → Prop), Inv X pins σ H s → wi σ H R →
    wpAny (model X.prog X.w) X.A (eval iter X.env) (fun v s1 => wpAny (model X.prog X.w) X.A (pyIter v) (PIEC Cd X pins σ tg R) X.xe s1) X.xe s
theorem PIC.of {X : Cx} {tg iter : Expr} {wi : TI} (p : PI X tg iter wi) : PIC CalmC X tg iter wi := ⟨fun pins s σ H R I h => thn (p.run pins s σ H R I h) fun v s1 h1 => thn h1 fun itv s2 ⟨it, fp, tn, J, H', e, I', T, st, f, q⟩ => ⟨it, fp, tn, J, H', e, I', .of T, st, f, q⟩⟩
/-- a clause and its readings; vs: the slots of the names that it and the clauses behind it bind -/
structure Cla where
  tg : Expr
  iter : Expr
  ifs : List Expr
  wi : TI
  g : TG
  tt : TT
  vs : List Nat
abbrev Cla.comp (c : Cla) : Comprehension := ⟨c.tg, c.iter, c.ifs, 0⟩
abbrev Emit := Sg → Hp → (Hp → Prop) → Prop
/-- a clause's loop from its iterator J on -/
def tLoop (C : Hp → Prop) (J : It) (c : Cla) (next : Emit) : Emit := fun σ H1 Nx => ∃ W : Nat → Nat → Hp → Prop, (∃ m, W 0 m H1) ∧ ∀ i m H, W i m H → C H ∧ ((J.stop i H ∧ Nx H) ∨ (J.go i H ∧ ∃ N : Hp → Prop, (∀ H', N H' → ∃ m', m' < m ∧ W (i + 1) m' H') ∧
  ∀ x H', J.yld i H x H' → c.g x (wipe σ c.vs) H' fun σ2 H2 => wipe σ2 c.vs = wipe σ c.vs ∧ c.tt σ2 H2 fun b H3 => if b = true then next σ2 H3 N else N H3))
def tCls (C : Hp → Prop) (fin : Emit) : List Cla → Emit
  | [] => fin
  | c :: cs => fun σ H Nx => c.wi σ H fun J H1 => tLoop C J c (tCls C fin cs) σ H1 Nx
def vsOf : List Cla → List Nat
  | [] => []
  | c :: _ => c.vs
/-- the clauses in the block's context -/
structure ClaOk (Cd : Cx → Hp → Prop) (B : Cx) (c : Cla) : Prop where
  pg : PG B c.tg c.g
  pt : PTs B c.ifs c.tt
structure InnerOk (Cd : Cx → Hp → Prop) (B : Cx) (c : Cla) (before : List Nat) : Prop where
  pi : PIC Cd B c.tg c.iter c.wi
  nofold : ∀ x, foldedSetIterable c.iter B.env x = pure x
  sub : ∀ i ∈ c.vs, i ∈ before
def ClasOk (Cd : Cx → Hp → Prop) (B : Cx) : List Nat → List Cla → Prop
  | _, [] => True
  | before, c :: cs => InnerOk Cd B c before ∧ ClaOk Cd B c ∧ ClasOk Cd B c.vs cs
section
variable {Cd : Cx → Hp → Prop} {C : Hp → Prop} {B : Cx} {elt : Expr} {gens : List Comprehension} {scope : Scope} {pos : Pos} {acc : Value} {fin : Emit}
theorem wipe_sub {σ : Sg} {us vs : List Nat} (h : ∀ i ∈ us, i ∈ vs) {j : Nat} {v : V} (e : (wipe σ vs)[j]? = some (some v)) : (wipe σ us)[j]? = some (some v) := by
  obtain ⟨e1, e2⟩ := wipe_some e; rw [wipe_out fun z => e2 (h j z)]
  exact e1
/-- what stands behind a clause's tests -/
def Behind (B : Cx) (elt : Expr) (gens : List Comprehension) (scope : Scope) (pos : Pos) (acc : Value) (k : Nat) (Q : Shared → Prop) (s : Shared) : Prop := match gens[k]? with
  | none => wpAny (model B.prog B.w) B.A (eval elt B.env) (fun x s1 => wpAny (model B.prog B.w) B.A (call (.builtin "list.append") [acc, x]) (fun _ s2 => Q s2) (fun _ _ => False) s1) (fun _ _ => False) s
  | some g => g.is_async = 0 ∧ (∀ x, foldedSetIterable g.iter B.env x = pure x) ∧ wpAny (model B.prog B.w) B.A (eval g.iter B.env) (fun x s1 => wpAny (model B.prog B.w) B.A (pyIter x) (fun it s2 =>
      codeAny (model B.prog B.w) B.A (.compStart (.ListComp elt gens scope pos) k it acc B.env) (fun r s' => match r with
        | .ok _ => Q s'
        | .error _ => False) s2) (fun _ _ => False) s1) (fun _ _ => False) s
/-- one turn -/
theorem turn_wp {tg iter : Expr} {ifs : List Expr} {k : Nat} {it : Value} {Q R : Shared → Prop} {E : Value → Shared → Prop} {s : Shared} (at_k : gens[k]? = some ⟨tg, iter, ifs, 0⟩) (sync : ∀ g ∈ gens, g.is_async = 0)
    (h : wpAny (model B.prog B.w) B.A (pyNext it) (fun r s1 => match r with
      | none => R s1
      | some v => wpAny (model B.prog B.w) B.A (letOwnedTupleGo tg it v) (fun _ s2 => wpAny (model B.prog B.w) B.A (assign tg B.env v) (fun _ s3 =>
          wpAny (model B.prog B.w) B.A (forIn ifs true fun c r => if r = true then do let ok ← isTrue c B.env (eval c B.env); pure (ForInStep.yield ok) else pure (ForInStep.yield r)) (fun ok s4 =>
            if ok = true then Behind B elt gens scope pos acc (k + 1) Q s4 else Q s4) (fun _ _ => False) s3) (fun _ _ => False) s2) (fun _ _ => False) s1) (fun _ _ => False) s) :
    wpAny (model B.prog B.w) B.A (compTurn (.ListComp elt gens scope pos) k it acc B.env) (fun fin s' => match fin with
      | .done f => f = .next ∧ R s'
      | .again c' => c' = .compLoop (.ListComp elt gens scope pos) k it acc B.env ∧ Q s') E s := by
  cases nx : gens[k + 1]? with
  | none =>
    rw [turn_last at_k nx]
    refine wpAny_bind (wpAny_standAt (wpAny_bind (thnF h fun r s1 h1 => ?_)))
    cases r with
    | none => exact wpAny_pure ⟨rfl, h1⟩
    | some v =>
      refine wpAny_bind (thnF h1 fun _ s2 h2 => wpAny_bind (thnF h2 fun _ s3 h3 => wpAny_bind (thnF h3 fun ok s4 h4 => ?_)))
      cases ok with
      | false => exact wpAny_pure ⟨rfl, h4⟩
      | true =>
        have h4 : Behind B elt gens scope pos acc (k + 1) Q s4 := h4
        unfold Behind at h4
        rw [nx] at h4
        exact wpAny_bind (wpAny_bind (thnF h4 fun x s5 h5 => wpAny_bind (thnF h5 fun _ s6 h6 => wpAny_pure (wpAny_pure ⟨rfl, h6⟩))))
  | some g =>
    obtain ⟨t1, i1, f1, a1⟩ := g
    obtain rfl : a1 = 0 := sync _ (List.mem_of_getElem? nx)
    rw [turn_mid at_k nx]
    refine wpAny_bind (wpAny_standAt (wpAny_bind (thnF h fun r s1 h1 => ?_)))
    cases r with
    | none => exact wpAny_pure ⟨rfl, h1⟩
    | some v =>
      refine wpAny_bind (thnF h1 fun _ s2 h2 => wpAny_bind (thnF h2 fun _ s3 h3 => wpAny_bind (thnF h3 fun ok s4 h4 => ?_)))
      cases ok with
      | false => exact wpAny_pure ⟨rfl, h4⟩
      | true =>
        have h4 : Behind B elt gens scope pos acc (k + 1) Q s4 := h4
        unfold Behind at h4
        rw [nx] at h4
        obtain ⟨_, plain, h4⟩ := h4
        refine wpAny_bind (thnF h4 fun x s5 h5 => wpAny_bind (wpAny_standAt (wpAny_bind (wpAny_of_eq (plain x) (wpAny_bind (wpAny_holding (thnF h5 fun it1 s6 h6 => wpAny_bind (wpAny_runOwn ?_))))))))
        rw [Around.mark_none]
        refine codeAny_mono h6 fun res s' done => match res, done with
          | .ok f, done => ?_
          | .error _, no => no.elim
        first
          | exact wpAny_pure ⟨rfl, done⟩
          | exact wpAny_bind (wpAny_pure (wpAny_pure ⟨rfl, done⟩))
/-- one clause's loop -/
theorem loop_run {c : Cla} {next : Emit} {k : Nat} {it : Addr} {fp : List Addr} {tn : Nat → Heap → Prop} {J : It} {pins : List (Addr × Obj)} {σ : Sg} {H : Hp} {s : Shared} {Nx : Hp → Prop} {us : List Nat} (cd : ∀ H, C H → Cd B H) (at_k : gens[k]? = some c.comp) (sync : ∀ g ∈ gens, g.is_async = 0) (noxe : B.xe = fun _ _ => False) (ok : ClaOk Cd B c) (sub : ∀ i ∈ us, i ∈ c.vs)
    (T : TurnC Cd B.prog B.w B.K c.tg J fp it tn) (st : tn 0 s.heap) (fr : ∀ b ∈ fp, FpOk B pins H b) (I : Inv B pins σ H s) (h : tLoop C J c next σ H Nx)
    (rest : ∀ (pins : List (Addr × Obj)) (σ : Sg) (H : Hp) (s : Shared) (N : Hp → Prop), Inv B pins σ H s → next σ H N → Behind B elt gens scope pos acc (k + 1) (fun s' => ∃ H', Inv B pins (wipe σ us) H' s' ∧ N H') s) :
    codeAny (model B.prog B.w) B.A (.compLoop (.ListComp elt gens scope pos) k (.ref it) acc B.env) (fun r s' => match r with
      | .ok _ => ∃ H', Inv B pins (wipe σ c.vs) H' s' ∧ Nx H'
      | .error _ => False) s := by
  obtain ⟨W, ⟨m0, w0⟩, turn⟩ := h; have stay : ∀ {H' : Hp}, (∀ b ∈ fp, H' b = none) → ∀ b ∈ fp, FpOk B pins H' b := fun free b hb => ⟨free b hb, (fr b hb).2⟩
  refine codeAny_loop rfl (fun n s' => ∃ i H', Inv B pins (wipe σ c.vs) H' s' ∧ tn i s'.heap ∧ (∀ b ∈ fp, H' b = none) ∧ W i n H') (fun n s1 inv => ?_) m0 ⟨0, H, I.weak (wipe_length _ _) fun j v e => (wipe_some e).1, st, fun b hb => (fr b hb).1, w0⟩
  obtain ⟨i, H1, I1, st1, free1, w1⟩ := inv
  show wpAny _ B.A ((compTurn (.ListComp elt gens scope pos) k (.ref it) acc B.env).onRaise (fun x => do noteFrame x B.env; theTreesLotGoes x)) _ _ s1
  refine wpAny_noted (wpAny_mono (turn_wp (R := fun s' => ∃ H', Inv B pins (wipe σ c.vs) H' s' ∧ Nx H') (Q := fun s' => ∃ m, m < n ∧ ∃ i H', Inv B pins (wipe σ c.vs) H' s' ∧ tn i s'.heap ∧ (∀ b ∈ fp, H' b = none) ∧ W i m H') at_k sync ?_) (fun fin s' z => ?_) fun _ _ z => z)
  · obtain ⟨cH, stop | go⟩ := turn i n H1 w1
    · exact thnF (T.done B rfl rfl rfl i pins s1 _ H1 (fun _ _ => False) (cd H1 cH) I1 (stay free1) st1 stop.1) fun r s2 ⟨e, I2⟩ => by
        subst e
        exact ⟨H1, I2, stop.2⟩
    · obtain ⟨go, N, less, step⟩ := go
      refine thnF (T.item B rfl rfl rfl i pins s1 _ H1 (fun _ _ => False) (cd H1 cH) I1 (stay free1) st1 go) fun r s2 ⟨u, e, h2⟩ => ?_
      subst e
      refine thnF h2 fun _ s3 ⟨x, H3, I3, rx, y3, st3, free3⟩ => ?_
      have P3 := I3.pinned (stay free3) (T.obj _ _ st3)
      have still : ∀ {τ : Sg} {s' : Shared} {H' : Hp}, Inv B (pins ++ pinsAt fp s3.heap) τ H' s' → (∀ (j : Nat) v, (wipe σ c.vs)[j]? = some (some v) → τ[j]? = some (some v)) → τ.length = σ.length → N H' → ∃ m, m < n ∧ ∃ i H', Inv B pins (wipe σ c.vs) H' s' ∧ tn i s'.heap ∧ (∀ b ∈ fp, H' b = none) ∧ W i m H' := fun {τ s' H'} I' know len nx => by
        obtain ⟨m', lt, w'⟩ := less H' nx
        have there : ∀ b ∈ fp, ∀ o, s3.heap.get? b = some o → s'.heap.get? b = some o ∧ H' b = none := fun b hb o e =>
          have z := I'.pin (b, o) (List.mem_append_right _ (List.mem_append_right _ (mem_pinsAt hb e)))
          ⟨z.1, z.2.1⟩
        refine ⟨m', lt, i + 1, H', (I'.unpinned).weak (by rw [wipe_length, len]) know, T.keep _ _ _ st3 fun b hb o e => (there b hb o e).1, fun b hb => ?_, w'⟩
        obtain ⟨o, e, _⟩ := T.obj _ _ st3 b hb
        exact (there b hb o e).2
      have nox : ∀ {α : Type} {t : Sem α} {Q : α → Shared → Prop} {s' : Shared}, wpAny (model B.prog B.w) B.A t Q B.xe s' → wpAny (model B.prog B.w) B.A t Q (fun _ _ => False) s' := fun z => by rw [noxe] at z; exact z
      refine thnF (nox (ok.pg.run _ s3 _ H3 x u _ P3 rx (step x H3 y3))) fun _ s4 ⟨σ4, H4, I4, same, q4⟩ => ?_
      refine thnF (nox (ok.pt.run _ s4 σ4 H4 _ I4 q4)) fun b s5 ⟨H5, I5, q5⟩ => ?_
      have len4 : σ4.length = σ.length := by
        have := congrArg List.length same
        rw [wipe_length, wipe_length] at this
        exact this
      have know4 : ∀ (j : Nat) v, (wipe σ c.vs)[j]? = some (some v) → σ4[j]? = some (some v) := fun j v e => by
        rw [← same] at e
        exact (wipe_some e).1
      cases b with
      | false =>
        simp only [Bool.false_eq_true, if_false] at q5 ⊢
        exact still I5 know4 len4 q5
      | true =>
        simp only [if_true] at q5 ⊢
        have be := rest _ σ4 H5 s5 N I5 q5
        have up : ∀ s', (∃ H', Inv B (pins ++ pinsAt fp s3.heap) (wipe σ4 us) H' s' ∧ N H') → ∃ m, m < n ∧ ∃ i H', Inv B pins (wipe σ c.vs) H' s' ∧ tn i s'.heap ∧ (∀ b ∈ fp, H' b = none) ∧ W i m H' := fun s' ⟨H', I', q⟩ =>
          still I' (fun j v e => by rw [← same] at e; exact wipe_sub sub e) (by rw [wipe_length, len4]) q
        unfold Behind at be ⊢
        cases nx : gens[k + 1]? with
        | none =>
          rw [nx] at be
          exact thnF be fun x s6 h6 => thnF h6 fun _ s7 z => up s7 z
        | some g =>
          rw [nx] at be
          exact ⟨be.1, be.2.1, thnF be.2.2 fun x s6 h6 => thnF h6 fun it1 s7 h7 => codeAny_mono h7 fun res s' z => match res, z with
            | .ok _, z => up s' z
            | .error _, z => z.elim⟩
  · match fin, z with
    | .done f, ⟨e, z⟩ => subst e; exact z
    | .again c', ⟨e, z⟩ => exact ⟨e, z⟩
/-- a clause's start -/
theorem starts {k : Nat} {c : Comprehension} {it : Value} {R : Result → Shared → Prop} {s : Shared} {prog : Program} {w : World} {A : Around} {env : Env} (at_k : gens[k]? = some c) (sync : c.is_async = 0) (go : codeAny (model prog w) A (.compLoop (.ListComp elt gens scope pos) k it acc env) R s)
    (again : ∀ E : Value → Shared → Prop, wpAny (model prog w) A (pyIter it) (fun it' s' => codeAny (model prog w) A (.compLoop (.ListComp elt gens scope pos) k it' acc env) R s') E s) : codeAny (model prog w) A (.compStart (.ListComp elt gens scope pos) k it acc env) R s := by
  refine codeAny_of_tree ?_
  show wpAny _ _ ((compStart (.ListComp elt gens scope pos) k it acc env).onRaise (fun x => do noteFrame x env; standAt theWindowsPlace)) _ _ s
  refine wpAny_notedAt ?_
  unfold compStart
  have cl : clausesOf (.ListComp elt gens scope pos) = gens := rfl
  simp only [cl, at_k, sync, Option.elim_some]
  show wpAny _ _ (ask >>= fun _ => _) _ _ s
  refine (wpAny_bind (wpAny_askSetting (wpAny_ite ?_)))
  split
  · first
      | exact wpAny_bind (wpAny_pure (wpAny_pure (And.intro rfl go)))
      | exact wpAny_pure (And.intro rfl go)
  · first
      | exact wpAny_bind (wpAny_rule (wpAny_bind (wpAny_standAt (wpAny_bind (wpAny_mono (again _) (fun it' s' z => wpAny_pure (And.intro rfl z)) fun _ _ x => x)))))
      | (refine wpAny_bind (wpAny_rule ?_); show wpAny _ _ (standAt c.iter.pos >>= fun _ => _) _ _ s; exact wpAny_bind (wpAny_standAt (wpAny_bind (wpAny_mono (again _) (fun it' s' z => wpAny_pure (And.intro rfl z)) fun _ _ x => x))))
/-- an item appended to the list at D -/
def emitL (te : TE) (D : Addr) : Emit := fun σ H Nx => te σ H fun y H1 => ∃ xs, H1 D = some (.lst xs) ∧ xs.length < sizeLine ∧ Nx (upd H1 D (.lst (xs ++ [y])))
/-- the clauses behind a clause -/
theorem rest_run {te : TE} {D : Addr} (cd : ∀ H, C H → Cd B H) (sync : ∀ g ∈ gens, g.is_async = 0) (noxe : B.xe = fun _ _ => False) (pe : PE B elt te) : ∀ (cs : List Cla) (before : List Nat) (k : Nat), (∀ j, gens[k + j]? = (cs[j]?).map Cla.comp) → ClasOk Cd B before cs →
    ∀ (pins : List (Addr × Obj)) (σ : Sg) (H : Hp) (s : Shared) (N : Hp → Prop), Inv B pins σ H s → tCls C (emitL te D) cs σ H N → Behind B elt gens scope pos (.ref D) k (fun s' => ∃ H', Inv B pins (wipe σ (vsOf cs)) H' s' ∧ N H') s
  | [], before, k, at_k, _ => fun pins σ H s N I h => by
    have last : gens[k]? = none := at_k 0
    unfold Behind
    rw [last]
    have nox := pe.run pins s σ H _ I h
    rw [noxe] at nox
    refine thnF nox fun x s1 ⟨y, H1, I1, ry, xs, at_D, few, q⟩ => ?_
    exact app_ok (X := B) I1 at_D few ry fun s2 I2 => ⟨_, I2, q⟩
  | c :: cs, before, k, at_k, ok => fun pins σ H s N I h => by
    have here : gens[k]? = some c.comp := at_k 0
    obtain ⟨inner, ck, okr⟩ := ok
    have nox := inner.pi.run pins s σ H _ I h
    rw [noxe] at nox
    unfold Behind
    rw [here]
    refine ⟨rfl, inner.nofold, thnF nox fun xv s1 h1 => thnF h1 fun itv s2 ⟨it, fp, tn, J, H2, e, I2, T, st2, f2, q2⟩ => ?_⟩
    subst e
    have loop := fun (s' : Shared) (I' : Inv B pins σ H2 s') (st' : tn 0 s'.heap) => loop_run (elt := elt) (scope := scope) (pos := pos) (acc := .ref D) (us := vsOf cs) cd here sync noxe ck (fun i hi => ?_) T st' f2 I' q2
      (rest_run cd sync noxe pe cs c.vs (k + 1) (fun j => by have := at_k (j + 1); rw [show k + 1 + j = k + (j + 1) by omega, this, List.getElem?_cons_succ]) okr)
    · exact starts here rfl (loop s2 I2 st2) fun E => T.self B.A 0 s2 _ E st2 (loop s2 I2 st2)
    · cases cs with
      | nil => exact nomatch hi
      | cons d ds => exact okr.1.sub i hi
/-- [elt for .. if .. for .. if ..]: D the new list -/
def tLcs (C : Hp → Prop) (c0 : Cla) (cs : List Cla) (te : TE) : TE := fun σ H Q => c0.wi σ H fun J H1 => ∀ D, H1 D = none → tLoop C J c0 (tCls C (emitL te D) cs) (wipe σ c0.vs) (upd H1 D (.lst [])) fun G => Q (.ref D) G
theorem lcs_core {X : Cx} {pins : List (Addr × Obj)} {s : Shared} {σ : Sg} {H : Hp} {Q : VK} {pos' : Pos} {use : Option (Value → Sem Unit)} {Qf : Value → Shared → Prop} {c0 : Cla} {cs : List Cla} {te : TE} {own : List (Str × Nat)} (cd : ∀ (B : Cx) H, B.A = X.A → B.calm = X.calm → C H → Cd B H) (hN : X.N.Nodup) (pi : PIC Cd X c0.tg c0.iter c0.wi) (ok : BlkOk X.N X.env.scope scope own) (vs : c0.vs = own.map (·.2)) (nofold : ∀ x, foldedSetIterable c0.iter X.env x = pure x)
    (blocks : ∀ (s : Shared) (H : Hp) (a : Addr) (cl : List (Str × Addr)) (fp : List Addr), ClaOk Cd (X.blk s H scope (compEnvC scope cl a X.env) fp) c0 ∧ ClasOk Cd (X.blk s H scope (compEnvC scope cl a X.env) fp) c0.vs cs ∧ PE (X.blk s H scope (compEnvC scope cl a X.env) fp) elt te)
    (I : Inv X pins σ H s) (given : tLcs C c0 cs te σ H Q) (out : ∀ D L s' m H', Inv X pins σ H' s' → Q (.ref D) H' → s'.heap.Ns L m → FpOk X pins H' L → compPost (model X.prog X.w) X.A X.xe use Qf (.ref D) L (.ok .next) s') :
    wpAny (model X.prog X.w) X.A (comprehension (.ListComp elt (c0.comp :: cs.map Cla.comp) scope pos) scope X.env pos' (newList []) false (eval c0.iter X.env) use) Qf X.xe s := by
  have closed : ∀ y ∈ scope.names, y.2 = .free → ∃ a, X.env.cells.lookup y.1 = some a := fun y hy e => I.ok.has _ (ok.free y hy e)
  refine wpAny_comprehension_free (use := use) rfl nofold (closure_ok closed) ok.kind (fun y hy e => by rw [ok.uniq y hy, e]) (thn (pi.run pins s σ H _ I given) fun xv s1 h1 => thn h1 fun itv s2 got => ?_)
  obtain ⟨it, fp, tn, J, H2, e, I2, T, st2, f2, q⟩ := got
  subst e; refine wpAny_newObj_type (newEnv_comp ?_) (by show 0 ≤ sizeLine; decide)
  generalize dd : s2.heap.objs.size = D
  have freeD : H2 D = none := I2.hok.fresh (Nat.le_of_eq dd)
  have loop0 := q D freeD
  -- the new list
  have at_D : (s2.heap.push { cls := .type "list", data := .seq ([] : List Value).toArray }).get? D = some { cls := .type "list", data := .seq ([] : List Value).toArray } := by
    rw [← dd]; exact Heap.get?_push_size _ rfl
  generalize laid : ({ s2 with heap := s2.heap.push { cls := .type "list", data := .seq ([] : List Value).toArray } } : Shared) = s3
  have heap3 : s3.heap = s2.heap.push { cls := .type "list", data := .seq ([] : List Value).toArray } := by rw [← laid]
  have keep3 : ∀ b o, s2.heap.get? b = some o → s3.heap.get? b = some o := fun b o z => by rw [heap3]; exact Heap.get?_push_of_some _ z
  have I3 : Inv X pins σ (upd H2 D (.lst [])) (s3) := by
    rw [← laid]
    exact I2.laid (t' := s2.toks) (fun b o z => Heap.get?_push_of_some _ z) (Nat.le_of_eq dd) ⟨Nat.zero_le _, [], 0, .nil, at_D⟩
  have below : ∀ b ∈ fp, b < s2.heap.objs.size := fun b hb => (T.obj _ _ st2 b hb).elim fun _ z => Heap.lt_size z.1
  have f3 : ∀ b ∈ fp, FpOk X pins (upd H2 D (.lst [])) b ∧ (b < s3.heap.objs.size) := fun b hb => by
    refine ⟨⟨?_, (f2 b hb).2⟩, by rw [heap3, Heap.size_push]; exact Nat.lt_succ_of_lt (below b hb)⟩
    rw [upd_ne (by rw [← dd]; exact Nat.ne_of_lt (below b hb))]
    exact (f2 b hb).1
  have I4 := block_start I3 ok hN f3; obtain ⟨k0, kr, pe⟩ := blocks s3 (upd H2 D (.lst [])) s3.heap.objs.size (cellsFrom (s3.heap.objs.size + 1) scope.names (cloFrom X.env.cells scope.names [])) fp
  show codeAny _ _ (.compStart (.ListComp elt (c0.comp :: cs.map Cla.comp) scope pos) 0 (.ref it) (.ref D) (compEnvC scope (cellsFrom (s3.heap.objs.size + 1) scope.names (cloFrom X.env.cells scope.names [])) s3.heap.objs.size X.env)) (compPost (model X.prog X.w) X.A X.xe use Qf (.ref D) s3.heap.objs.size) { s3 with heap := pushCells (s3.heap.push { cls := .type "dict", data := .dict #[] }) scope.names }
  generalize hce : compEnvC scope (cellsFrom (s3.heap.objs.size + 1) scope.names (cloFrom X.env.cells scope.names [])) s3.heap.objs.size X.env = ce at I4 k0 kr pe ⊢
  have locals : ce.locals = s3.heap.objs.size := by subst hce; rfl
  have st4 : tn 0 ({ s3 with heap := pushCells (s3.heap.push { cls := .type "dict", data := .dict #[] }) scope.names } : Shared).heap := T.keep _ _ _ st2 fun b _ o z => pushCells_keeps _ _ _ _ (Heap.get?_push_of_some _ (keep3 b o z))
  generalize ({ s3 with heap := pushCells (s3.heap.push { cls := .type "dict", data := .dict #[] }) scope.names } : Shared) = s4 at I4 st4 ⊢
  generalize hB : X.blk s3 (upd H2 D (.lst [])) scope ce fp = B at I4 k0 kr pe
  have eA : B.A = X.A := by subst hB; rfl
  have eE : B.env = ce := by subst hB; rfl
  have fr4 : ∀ b ∈ fp, FpOk B [] (upd H2 D (.lst [])) b := fun b hb => by
    subst hB
    exact ⟨(f3 b hb).1.1, (I4.ok.exf b hb).1, I4.ok.exfs b hb, .inl hb, fun x a z => (I4.ok.exf b hb).2 x a z, fun p hp => (nomatch (show p ∈ ([] : List (Addr × Obj)) ++ [] from hp))⟩
  have sync : ∀ g ∈ c0.comp :: cs.map Cla.comp, g.is_async = 0 := fun g hg => by
    rcases List.mem_cons.mp hg with z | z
    · rw [z]
    · obtain ⟨c, _, z⟩ := List.mem_map.mp z
      rw [← z]
  have turns : TurnC Cd B.prog B.w B.K c0.tg J fp it tn := by subst hB; exact T
  have noxe : B.xe = fun _ _ => False := by subst hB; rfl
  have loop := loop_run (elt := elt) (scope := scope) (pos := pos) (acc := .ref D) (gens := c0.comp :: cs.map Cla.comp) (k := 0) (us := vsOf cs) (C := C) (fun H z => cd B H eA (by subst hB; rfl) z) rfl sync noxe k0 (fun i hi => by
    cases cs with
    | nil => exact nomatch hi
    | cons d ds => exact kr.1.sub i hi) turns st4 fr4 (vs ▸ I4) loop0 (rest_run (fun H z => cd B H eA (by subst hB; rfl) z) sync noxe pe cs c0.vs 1 (fun j => by rw [Nat.add_comm 1 j, List.getElem?_cons_succ, List.getElem?_map]) kr)
  have whole := codeAny_mono loop (R' := compPost (model X.prog X.w) X.A X.xe use Qf (.ref D) s3.heap.objs.size) fun res s5 done => ?_
  · have eP : B.prog = X.prog := by subst hB; rfl
    have ew : B.w = X.w := by subst hB; rfl
    rw [eA, eE, eP, ew] at whole
    exact starts rfl rfl whole fun E => T.self X.A 0 s4 _ E st4 whole
  · match res, done with
    | .error _, no => exact no.elim
    | .ok _, ⟨H5, I5, fin⟩ =>
      subst hB
      have I6 : Inv X pins σ H5 s5 := I3.call' (ch := fp) I5.os I5.base I5.hok I5.bare fun b hb => ⟨(f3 b hb).1.2.2.2.1, (f3 b hb).1.2.1, (f3 b hb).1.2.2.2.2.1, (f3 b hb).1.2.2.2.2.2⟩
      have free5 : H5 s3.heap.objs.size = none := by
        have z : H5 ce.locals = none := I5.free
        rw [locals] at z
        exact z
      obtain ⟨m, ns, _⟩ := I5.loc
      have ns : s5.heap.Ns ce.locals m := ns
      rw [locals] at ns
      obtain ⟨f0, f1, f2', f3', f4, f5⟩ := I3.fpOk (Nat.le_refl _) free5
      have last := out D _ s5 m H5 I6 fin ns ⟨f0, f1, f2', f3', f4, f5⟩
      cases use <;> exact last
theorem pe_lcs {X : Cx} {c0 : Cla} {cs : List Cla} {te : TE} {own : List (Str × Nat)} (cd : ∀ (B : Cx) H, B.A = X.A → B.calm = X.calm → C H → Cd B H) (hN : X.N.Nodup) (pi : PIC Cd X c0.tg c0.iter c0.wi) (ok : BlkOk X.N X.env.scope scope own) (vs : c0.vs = own.map (·.2)) (nofold : ∀ x, foldedSetIterable c0.iter X.env x = pure x)
    (blocks : ∀ (s : Shared) (H : Hp) (a : Addr) (cl : List (Str × Addr)) (fp : List Addr), ClaOk Cd (X.blk s H scope (compEnvC scope cl a X.env) fp) c0 ∧ ClasOk Cd (X.blk s H scope (compEnvC scope cl a X.env) fp) c0.vs cs ∧ PE (X.blk s H scope (compEnvC scope cl a X.env) fp) elt te) :
    PE X (.ListComp elt (c0.comp :: cs.map Cla.comp) scope pos) (tLcs C c0 cs te) where
  run pins s σ H Q I given := by
    rw [eval_ListComp]
    refine lcs_core cd hN pi ok vs nofold blocks I given fun D L s' m H' I' q ns f => ⟨m, ns, fun h' sb => ?_⟩
    obtain ⟨f0, f1, f2, f3, f4, f5⟩ := f; exact ⟨.ref D, H', I'.turned (t' := s'.toks) (fun b o hb z => (sb.2 b hb).trans z) f0 f1 f3 f4 f5, rfl, q⟩
/-- y = [..] on one line -/
theorem ps_setLcs {X : Cx} {i : Nat} {y : Str} {py spos : Pos} {c0 : Cla} {cs : List Cla} {te : TE} {own : List (Str × Nat)} (cd : ∀ (B : Cx) H, B.A = X.A → B.calm = X.calm → C H → Cd B H) (hN : X.N.Nodup) (hy : X.N[i]? = some y) (hyl : X.env.scope.names.lookup y = some .local) (hsw : swapsWith (.ListComp elt (c0.comp :: cs.map Cla.comp) scope pos) (some (.Name y py)) spos.line X.env = pure true) (pi : PIC Cd X c0.tg c0.iter c0.wi) (ok : BlkOk X.N X.env.scope scope own) (vs : c0.vs = own.map (·.2)) (nofold : ∀ x, foldedSetIterable c0.iter X.env x = pure x)
    (blocks : ∀ (s : Shared) (H : Hp) (a : Addr) (cl : List (Str × Addr)) (fp : List Addr), ClaOk Cd (X.blk s H scope (compEnvC scope cl a X.env) fp) c0 ∧ ClasOk Cd (X.blk s H scope (compEnvC scope cl a X.env) fp) c0.vs cs ∧ PE (X.blk s H scope (compEnvC scope cl a X.env) fp) elt te) :
    PS X (.Assign [.Name y py] (.ListComp elt (c0.comp :: cs.map Cla.comp) scope pos) spos) (tAsg (tLcs C c0 cs te) (gName i)) where
  run pins s σ H D I given := by
    rw [exec_Assign_Name_used _ _ _ _ hsw]; refine wpAny_bind (wpAny_standAt (wpAny_bind ?_))
    have there : tLcs C c0 cs te σ H (fun x H1 => gName i x σ H1 D.nx) := given
    refine wpAny_bind (thn (lcs_core (Qf := fun _ s' => SP X pins D .next s') cd hN pi ok vs nofold blocks I there fun L l s' m H' I' q ns f => ?_) fun _ s' done => wpAny_pure (wpAny_pure done))
    refine wpAny_assign_Name (store_ok2 (v := V.ref L) I' hN hy (.inl hyl) rfl (fun s2 I2 ⟨a, sb, at_a⟩ => ?_) (.inr hyl))
    obtain ⟨f0, f1, f2, f3, f4, f5⟩ := f; have apart : l ≠ a := at_a.elim (fun z => by rw [z]; exact f1) fun z e => f4 y a z e.symm
    exact ⟨m, ns.sameBut sb apart, fun h3 sb3 => ⟨_, H', I2.turned (t' := s2.toks) (fun b o hb z => (sb3.2 b hb).trans z) f0 f1 f3 f4 f5, q⟩⟩
end
end DL

/-! walks and comprehensions in the layer, also where an exception is handled -/
namespace DL
open PySem PySem.Spec
open PyProof.Rows L2
/-- a list's turns -/
theorem turnM_list {P : Program} {w : World} {K : PySem.W.Frag} {tg : Expr} (a it : Addr) : TurnC MildC P w K tg (Itl K a) [it] it (fun i h => h.IsListIter it a i) where
  mem := (turn_list (K := K) (w := w) (P := P) (tg := tg) a it).mem
  obj := (turn_list (P := P) (w := w) (K := K) (tg := tg) a it).obj
  keep := (turn_list (P := P) (w := w) (K := K) (tg := tg) a it).keep
  item := fun X eP ew eK i pins s σ H E mild I fr st go => by
    subst eP ew eK
    obtain ⟨xs, x, at_a, at_i⟩ := go
    obtain ⟨items, related, T, _⟩ := I.list at_a
    obtain ⟨u, at_u, ru⟩ := related.get at_i
    obtain ⟨f0, f1, f2, f3, f4, f5⟩ := fr it (List.mem_singleton.mpr rfl)
    refine wpAny_pyNext_list_item st T.isList (x := u) (by simpa using at_u) fun h' st' sb => ?_
    have I1 : Inv X pins σ H { s with heap := h' } := I.turned (t' := s.toks) (fun b o nb z => (sb.2 b nb).trans z) f0 f1 f3 f4 f5
    obtain ⟨o, e, c, d⟩ := id st'
    exact ⟨u, rfl, go_of (s := { s with heap := h' }) e c d (by decide) ⟨x, H, I1, ru, ⟨rfl, fun ys z => by rw [I.list_inj z at_a]; exact at_i⟩, st', fun b hb => (fr b hb).1⟩⟩
  done := fun X eP ew eK i pins s σ H E mild I fr st stop => by
    subst eP ew eK
    obtain ⟨xs, at_a, le⟩ := stop
    obtain ⟨items, related, T, _⟩ := I.list at_a
    obtain ⟨f0, f1, f2, f3, f4, f5⟩ := fr it (List.mem_singleton.mpr rfl)
    have len := related.length
    exact list_over (Mild.hot mild I.hok) (Mild.not mild f0) st T.isList (by simp; omega) fun h' ext => ⟨rfl, I.turned (t' := s.toks) (fun b o nb z => ext b o nb z) f0 f1 f3 f4 f5⟩
  self := (turn_list (P := P) (w := w) (K := K) (tg := tg) a it).self
theorem piM_list {X : Cx} {tg l : Expr} {tl : TE} (hl : PE X l tl) : PIC MildC X tg l (iList X.K tl) where
  run pins s σ H R I given := by
    refine thn (hl.run pins s σ H _ I given) fun v s1 got => ?_
    obtain ⟨_, H1, I1, rel, a, rfl, ⟨xs, at_a⟩, q⟩ := got
    cases rel
    obtain ⟨items, related, T, _⟩ := I1.list at_a
    refine wpAny_pyIter_list T.isList ⟨s1.heap.objs.size, [s1.heap.objs.size], _, _, H1, rfl, I1.kept (t' := s1.toks) fun b o z => Heap.get?_push_of_some _ z, turnM_list a _, ⟨_, Heap.get?_push_size _ rfl, rfl, rfl⟩, fun b hb => ?_, q⟩
    obtain rfl := List.mem_singleton.mp hb
    exact (I1.fpOk (Nat.le_refl _) (I1.hok.fresh (Nat.le_refl _)))
/-- (a, b, ..) = a tuple -/
def gTupM (A : Around) (K : PySem.W.Frag) (n : Nat) (t : TGs) : TG := fun v σ H Q => Mild A H ∧ ∃ a xs, v = .ref a ∧ SqT K H a xs ∧ xs.length = n ∧ t xs σ H Q
theorem pgM_tup {X : Cx} {es : List Expr} {k : Nat} {t : TGs} {n : Nat} {pos : Pos} (h : PGs X es t) (many : (assignEach es X.env).length = n) (nostar : (assignEach es X.env).findIdx? (·.1) = none) : PG X (.Tuple es k pos) (gTupM X.A X.K n t) where
  run pins s σ H v u Q I r given := by
    obtain ⟨mild, a, xs, rfl, at_a, len, q⟩ := given
    cases r
    obtain ⟨items, related, T, _⟩ := I.tuple at_a
    refine unpack_mild (mild.hot I.hok) (mild.alive I.hok) T (by simp [many, ← len, related.length]) nostar fun h' ext => ?_
    exact h.run pins _ σ H xs _ Q (I.kept (t' := s.toks) fun b o z => ext b o (Nat.ne_of_lt (Heap.lt_size z)) z) (by simpa using related) q
section
variable {c : Core} {ι : Type} {v : ι → Var} {S : Ent} {Γ : List AV}
variable {Q : AV → List AV → Prop} {QG : List AV → Prop} {QS : List Dt → List AV → Prop} {e elt tg iter : Expr} {tgs ifs : List Expr} {ds : List Dt} {pos : Pos}
theorem gdM_tup {k : Nat} {W : List Nat} (easy : Easy c S) (hn : ∀ i, (assignEach tgs (v i).env).length = ds.length) (hst : ∀ i, (assignEach tgs (v i).env).findIdx? (·.1) = none) (h : GDs c v S tgs ds W Γ QG) : GD c v S (.Tuple tgs k pos) (.tup ds) W Γ QG := fun σ H y R r hr kk => by
  cases hr with
  | tup e n q => exact ⟨gTupM c.A c.K ds.length (wGs c v tgs), fun i => pgM_tup (X := mkX c (v i)) (wGs.pgs i) (hn i) (hst i), easy.mild r, _, _, rfl, .of e, q.len, h σ H _ _ r q kk⟩
def wIC (Cd : Cx → Hp → Prop) (c : Core) {ι : Type} (v : ι → Var) (tg iter : Expr) : TI := fun σ H R => ∃ t : TI, (∀ i, PIC Cd (mkX c (v i)) tg iter t) ∧ t σ H R
theorem wIC.pi {Cd : Cx → Hp → Prop} (i : ι) : PIC Cd (mkX c (v i)) tg iter (wIC Cd c v tg iter) := ⟨fun pins s σ H R I ⟨_, h, q⟩ => (h i).run pins s σ H R I q⟩
def SrcC (Cd : Cx → Hp → Prop) (c : Core) {ι : Type} (v : ι → Var) (S : Ent) (tg iter : Expr) (Γ : List AV) (Q : List Dt → List AV → Prop) : Prop := ∀ (σ : Sg) (H : Hp) (R : It → Hp → Prop), RS c.K S no Γ σ H →
  (∀ J H1 ds Γ1, Q ds Γ1 → RS c.K S no Γ1 σ H1 → Step Γ Γ1 σ H H1 → Walk c.K J H1 (Own Γ1 σ) (Exc S Γ1 σ no) ds → R J H1) → wIC Cd c v tg iter σ H R
theorem srcM_L (h : EK c v S iter Γ fun k Γ1 => ∃ ds, akL Γ1 k = some ds ∧ noScr k = true ∧ noLn k = true ∧ QS ds Γ1) : SrcC MildC c v S tg iter Γ QS := fun σ H R r kk => by
  refine ⟨_, fun i => (show PIC MildC (mkX c (v i)) tg iter (iList c.K (wE c v iter)) from piM_list (X := mkX c (v i)) (wE.pe i)), ?_⟩
  refine h σ H _ r fun x H1 k Γ1 ⟨ds, ek, n1, n2, q⟩ r1 hk s => ?_
  obtain ⟨a, xs, rfl, ha, hx, na⟩ := akL_data ek n1 n2 r1 hk
  refine ⟨a, rfl, ⟨xs, .of ha⟩, kk _ _ _ _ q r1 s ⟨fun j H' fr hj => ⟨xs, xs[j]'(by rw [hx.len]; exact hj), .of (fr _ _ ha na), List.getElem?_eq_getElem _⟩, fun j H' fr hj => ⟨xs, .of (fr _ _ ha na), by rw [hx.len]; exact hj⟩, fun j H' z H'' fr _ y => ?_⟩⟩
  obtain ⟨d, ed, hd⟩ := hx.get' (y.2 xs (.of (fr _ _ ha na)))
  exact ⟨d, ed, .inl ⟨y.1, hd⟩⟩
theorem Easy.lc {g : AP} {f : Addr → HO → Prop} (e : Easy c S) : Easy c (S.lc g f) := e.imp id fun ⟨a, cls, hh, z⟩ => ⟨a, cls, hh, z.imp id .inl⟩
/-- what such a comprehension's reading asks -/
theorem lcM_read {own : List (Str × Nat)} {scope : Scope} (easy : Easy c S) (hl : ∀ i ∈ own.map (·.2), ∀ p, (i, p) ∉ S.lent)
    (h : SrcC MildC c v S tg iter Γ fun ds Γ1 => ds.length ≤ 1000000 ∧ ∃ P : Nat → List Dt → List AV → Prop, P 0 [] (wipeD Γ1 (own.map (·.2))) ∧
      (∀ j d acc Γ2, ds[j]? = some d → P j acc Γ2 → LcTurn c (blkV c v scope) S (own.map (·.2)) tg ifs elt P j d acc Γ2) ∧ ∀ acc Γ2, P ds.length acc Γ2 → Q (.ow acc) (wipeD Γ2 (own.map (·.2))))
    {σ : Sg} {H : Hp} {R : VK} (r : RS c.K S no Γ σ H) (kk : ∀ x H' a Γ', Q a Γ' → Res c.K S Γ' σ H' x a → Step Γ Γ' σ H H' → New H Γ σ x a → R x H') :
    tLcs (Mild c.A) ⟨tg, iter, ifs, wIC MildC c v tg iter, wG c (blkV c v scope) tg, wTs c (blkV c v scope) ifs, own.map fun x : Str × Nat => x.2⟩ [] (wE c (blkV c v scope) elt) σ H R := by
  generalize own.map (·.2) = is at hl h ⊢
  refine h σ H _ r fun J H1 ds Γ1 ⟨hz, P, p0, step, done⟩ r1 s w => ?_
  intro D hD
  have nD := r1.new hD
  -- the invariant
  let F : Addr → HO → Prop := AllPin H1 Γ1 σ
  refine ⟨fun j m H' => m = ds.length - j ∧ j ≤ ds.length ∧ ∃ acc accV Γ', acc.length ≤ j ∧ P j acc Γ' ∧ (∀ i ∈ is, ∀ a, Γ'[i]? = some a → a = .un) ∧ H' D = some (.lst accV) ∧ RpL c.K H' (Exc (S.lc (· = D) F) Γ' (L2.wipe σ is) no) accV acc ∧
    RS c.K (S.lc (· = D) F) no Γ' (L2.wipe σ is) H' ∧ ∀ p, Own Γ' (L2.wipe σ is) p → Own Γ1 σ p, ⟨_, rfl, Nat.zero_le _, [], [], wipeD Γ1 is, Nat.le_refl _, p0, fun i hi => wipeD_un Γ1 hi, upd_same, .nil, ?_, fun p => own_wipe⟩, ?_⟩
  · have rw' := r1.wipe hl
    have rD := (rw'.alloc (o := .lst []) hD).ex_mono (ex' := (· = D)) fun _ z => .inr z
    have q := RS.to_fo rD fun p e => by
      subst e
      exact ⟨by rw [upd_same]; exact fun z => (nomatch z), fun z => r1.xtr _ z nD.2.2⟩
    refine q.dopin fun b o ⟨z1, z2⟩ => ⟨by rw [upd_ne (ne_of_none z1 hD)]; exact z1, fun z => z2 (own_wipe z), id⟩
  · rintro j m H' ⟨rfl, hj, acc, accV, Γ', ha, pj, hu, hDl, hacc, r', ow⟩
    have fr : ∀ b o, H1 b = some o → ¬ Own Γ1 σ b → H' b = some o := fun b o e n => (r'.pin b o (.inr ⟨e, n⟩)).1
    by_cases hlt : j < ds.length
    · -- a turn
      refine ⟨easy.lc.mild r', .inr ⟨w.go j H' fr hlt, fun H2 => ∃ acc accV Γ', acc.length ≤ j + 1 ∧ P (j + 1) acc Γ' ∧ (∀ i ∈ is, ∀ a, Γ'[i]? = some a → a = .un) ∧ H2 D = some (.lst accV) ∧ RpL c.K H2 (Exc (S.lc (· = D) F) Γ' (L2.wipe σ is) no) accV acc ∧
        RS c.K (S.lc (· = D) F) no Γ' (L2.wipe σ is) H2 ∧ ∀ p, Own Γ' (L2.wipe σ is) p → Own Γ1 σ p, fun H2 h2 => ⟨_, by omega, rfl, hlt, h2⟩, fun x H2 y => ?_⟩⟩
      simp only [L2.wipe_length, wipe_wipe]
      obtain ⟨d, ed, r2, hd, frY⟩ := w.item (S := S) (f := F) (fo' := fun b => S.fo b ∨ b = D) (fun _ _ z => z) (fun b z => z.elim .inl fun z => .inr (by rw [z]; exact hD)) r' hlt y
      obtain ⟨W, hW, step⟩ := step j d acc Γ' ed pj
      have hDl2 : H2 D = some (.lst accV) := frY _ _ hDl
      have hacc2 : RpL c.K H2 (Exc (S.lc (· = D) F) Γ' (L2.wipe σ is) no) accV acc := hacc.mono fun b o e n => ⟨frY b o e, n⟩
      -- the accumulated list is pinned for this turn
      let F2 : Addr → HO → Prop := fun b o => F b o ∨ (H2 b = some o ∧ ¬ Own Γ' (L2.wipe σ is) b)
      have r2' : RS c.K (S.lc (· = D) F2) no Γ' (L2.wipe σ is) H2 :=
        { r2 with pin := fun b o z => z.elim (fun z => r2.pin b o (.inl z)) fun z => z.elim (fun z => r2.pin b o (.inr z)) fun z => ⟨z.1, z.2, id⟩ }
      have r2w : RS c.K (S.lc (· = D) F2) no (wipeD Γ' is) (L2.wipe σ is) H2 := by
        have := r2'.wipe hl
        rw [wipe_wipe] at this
        exact this
      have ow2 : ∀ p, Own (wipeD Γ' is) (L2.wipe σ is) p → Own Γ' (L2.wipe σ is) p := fun p z => by
        rw [← wipe_wipe σ is] at z
        exact own_wipe z
      have hd2 : Rp c.K H2 (Exc (S.lc (· = D) F2) (wipeD Γ' is) (L2.wipe σ is) no) x d := Rp.sub (fun b z => z.elim (fun z => .inl (ow2 b z)) .inr) hd
      refine step (· = D) F2 _ H2 x _ r2w hd2 fun σ3 Γ3 q3 r3 o3 w3 => ?_
      have ew : L2.wipe σ3 is = L2.wipe σ is := by
        rw [wipe_eq (σ := L2.wipe σ is) (by rw [r3.len, r2w.len]) fun i hi => w3 i fun z => hi (hW i z)]
        exact wipe_wipe σ is
      refine ⟨ew, ?_⟩
      have nOwnD : ∀ {Γx : List AV} {σx : Sg} {Hx : Hp}, RS c.K (S.lc (· = D) F2) no Γx σx Hx → ¬ Own Γx σx D := fun rx z => rx.nfo D z (.inr rfl)
      -- the end of a turn, from its last state
      have back : ∀ {Γx : List AV} {Hx : Hp}, RS c.K (S.lc (· = D) F2) no Γx σ3 Hx → (∀ p, Own Γx σ3 p → Own Γ3 σ3 p) → RS c.K (S.lc (· = D) F) no (wipeD Γx is) (L2.wipe σ is) Hx ∧ (∀ p, Own (wipeD Γx is) (L2.wipe σ is) p → Own Γ1 σ p) ∧ Hx D = some (.lst accV) ∧
          (∀ b o, H2 b = some o → ¬ Own Γ' (L2.wipe σ is) b → Hx b = some o) := fun {Γx Hx} rx ox => by
        have z := rx.wipe hl
        rw [ew] at z
        refine ⟨{ z with pin := fun b o y => z.pin b o (y.elim .inl fun y => .inr (.inl y)) }, fun p y => ?_, (rx.pin D _ (.inr (.inr ⟨hDl2, ?_⟩))).1, fun b o e n => (rx.pin b o (.inr (.inr ⟨e, n⟩))).1⟩
        · rw [← ew] at y
          exact ow p (ow2 p (o3 p (ox p (own_wipe y))))
        · exact fun z => r2.nfo D z (.inr rfl)
      refine q3 σ3 H2 _ r3 fun b H4 Γ4 q4 r4 s4 => ?_
      cases b with
      | false =>
        refine iteF ?_
        obtain ⟨z1, z2, z3, z4⟩ := back r4 fun p y => s4.own p y
        refine ⟨acc, accV, wipeD Γ4 is, by omega, q4.2 rfl, fun i hi => wipeD_un Γ4 hi, z3, hacc2.mono fun b o e n => ⟨z4 b o e fun z => n (.inl z), fun z => n ?_⟩, z1, z2⟩
        rcases z with z | z
        · refine .inl (ow2 b (o3 b (s4.own b (own_wipe (is := is) ?_))))
          rw [ew]
          exact z
        · exact .inr z
      | true =>
        refine iteT ?_
        refine q4.1 rfl σ3 H4 _ r4 fun y5 H5 a Γ5 ⟨dy, ey, q5⟩ hr5 s5 _ => ?_
        have r5 := hr5.rs
        obtain ⟨z1, z2, z3, z4⟩ := back r5 fun p y => s4.own p (s5.own p y)
        have oo : ∀ b, Own (wipeD Γ5 is) (L2.wipe σ is) b → Own Γ5 σ3 b := fun b z => by
          rw [← ew] at z
          exact own_wipe z
        have ry : Rp c.K H5 (Exc (S.lc (· = D) F) (wipeD Γ5 is) (L2.wipe σ is) no) y5 dy := Rp.sub (fun b z => z.elim (fun z => .inl (oo b z)) .inr) (akD_of (k := .d a) (σ := σ3) ey hr5.rpa)
        have rac : RpL c.K H5 (Exc (S.lc (· = D) F) (wipeD Γ5 is) (L2.wipe σ is) no) accV acc := hacc2.mono fun b o e n => ⟨z4 b o e fun z => n (.inl z), fun z => n (z.elim (fun z => .inl (ow2 b (o3 b (s4.own b (s5.own b (oo b z)))))) .inr)⟩
        refine ⟨accV, z3, ?_, acc ++ [dy], accV ++ [y5], wipeD Γ5 is, by rw [List.length_append]; exact Nat.add_le_add ha (Nat.le_refl 1), q5, fun i hi => wipeD_un Γ5 hi, upd_same, (rac.append (.cons ry .nil)).write (.inr (.inl (.inr rfl))), ?_, z2⟩
        · rw [hacc2.len]
          have := line1 (n := acc.length + 1) (by omega)
          omega
        · -- the list has grown: nothing else leans on it
          have nD5 : ¬ Own (wipeD Γ5 is) (L2.wipe σ is) D := fun z => nOwnD r5 (oo D z)
          have up : ∀ b o, H5 b = some o → b ≠ D → (upd H5 D (.lst (accV ++ [y5]))) b = some o := fun b o e n => by rw [upd_ne n]; exact e
          exact { z1 with
            slots := fun i a e => (z1.slots i a e).mono (fun b o e n => ⟨up b o e fun z => n (.inr (.inl (.inr z))), n⟩) fun ds p xs ea es ep => up p _ ep fun z => nD5 ⟨i, ds, by rw [← ea]; exact e, by rw [← z]; exact es⟩
            fr := fun b o e n => up b o (z1.fr b o e n) fun z => by rw [z, nD.2.2] at e; cases e
            fo := fun b z => by
              refine ⟨?_, (z1.fo b z).2⟩
              by_cases e : b = D
              · rw [e, upd_same]
                exact fun z => nomatch z
              · rw [upd_ne e]
                exact (z1.fo b z).1
            pin := fun b o z => by
              have nb : b ≠ D := fun e => by
                rcases z with z | z
                · have := (r1.pin b o z).1
                  rw [e, hD] at this
                  cases this
                · have := z.1
                  rw [e, hD] at this
                  cases this
              exact ⟨up b o (z1.pin b o z).1 nb, (z1.pin b o z).2⟩ }
    · -- the end
      have e : j = ds.length := by omega
      subst e
      have z := r'.wipe hl
      rw [wipe_wipe] at z
      obtain ⟨z1, z2⟩ := RS.unwipe z (fun i hi => wipeD_un Γ' hi) hl
      have oo : ∀ p, Own (wipeD Γ' is) σ p → Own Γ' (L2.wipe σ is) p := fun p y => by
        have := z2 p y
        rw [← wipe_wipe σ is] at this
        exact own_wipe this
      have s' : Step Γ (wipeD Γ' is) σ H H' := ⟨fun b o e n => fr b o (s.fr b o e n) fun z => n (s.own b z), fun p y => s.own p (ow p (oo p y))⟩
      refine ⟨easy.lc.mild r', .inl ⟨w.stop _ H' fr (Nat.le_refl _), kk _ _ _ _ (done acc Γ' pj) ⟨D, accV, rfl, ?_, hDl, hacc.sub fun b y => ?_, fun y => nD.2.1 y, nD.2.2⟩ s' ?_⟩⟩
      · exact RS.move_fo (S := S) (f := (· = D)) { z1 with pin := fun b o y => z1.pin b o (.inl y) } fun b o y e => by
          have := (r1.pin b o y).1
          rw [e, hD] at this
          cases this
      · rcases y with y | y | y
        · exact .inl (oo b y)
        · exact .inr (.inl (.inl y))
        · exact .inr (.inl (.inr y))
      · exact New.back (H' := H1) (Γ' := Γ1) ⟨D, rfl, .inl hD⟩ s
/-- [elt for tg in iter if ..], also where an exception is handled -/
theorem edM_lc {own : List (Str × Nat)} {scope : Scope} (easy : Easy c S) (hN : c.N.Nodup) (ok : ∀ i, BlkOk c.N (v i).env.scope scope own) (hs : NoFold v iter) (hl : ∀ i ∈ own.map (·.2), ∀ p, (i, p) ∉ S.lent)
    (h : SrcC MildC c v S tg iter Γ fun ds Γ1 => ds.length ≤ 1000000 ∧ ∃ P : Nat → List Dt → List AV → Prop, P 0 [] (wipeD Γ1 (own.map (·.2))) ∧
      (∀ j d acc Γ2, ds[j]? = some d → P j acc Γ2 → LcTurn c (blkV c v scope) S (own.map (·.2)) tg ifs elt P j d acc Γ2) ∧ ∀ acc Γ2, P ds.length acc Γ2 → Q (.ow acc) (wipeD Γ2 (own.map (·.2)))) :
    ED c v S (.ListComp elt [⟨tg, iter, ifs, 0⟩] scope pos) Γ Q := fun σ H R r kk =>
  ⟨_, fun k => pe_lcs (X := mkX c (v k)) (own := own) (c0 := ⟨tg, iter, ifs, wIC MildC c v tg iter, wG c (blkV c v scope) tg, wTs c (blkV c v scope) ifs, own.map fun x : Str × Nat => x.2⟩) (cs := []) (Cd := MildC) (C := Mild c.A)
    (fun B H eA _ z => by show Mild B.A H; rw [show B.A = c.A from eA]; exact z) hN (wIC.pi k) (ok k) rfl (hs k) fun s H a cl fp =>
    ⟨⟨(wG.pg (c := c) (v := blkV c v scope) (k, s, H, a, cl, fp) : PG (mkX c (blkV c v scope (k, s, H, a, cl, fp))) tg _), (wTs.pts (c := c) (v := blkV c v scope) (k, s, H, a, cl, fp) : PTs (mkX c (blkV c v scope (k, s, H, a, cl, fp))) ifs _)⟩, trivial, (wE.pe (c := c) (v := blkV c v scope) (k, s, H, a, cl, fp) : PE (mkX c (blkV c v scope (k, s, H, a, cl, fp))) elt _)⟩, lcM_read easy hl h r kk⟩
/-- name = [elt for tg in iter if ..] on one line, also where an exception is handled -/
theorem sdM_setLc {D : DE} {spos py : Pos} {y : Str} (i : Nat) {own : List (Str × Nat)} {scope : Scope} (easy : Easy c S) (hy : AtS c v y i) (ly : ∀ k, (v k).env.scope.names.lookup y = some .local) (hsw : ∀ k, swapsWith (.ListComp elt [⟨tg, iter, ifs, 0⟩] scope pos) (some (.Name y py)) spos.line (v k).env = pure true) (hi : i < S.n) (hli : ∀ p, (i, p) ∉ S.lent)
    (ok : ∀ k, BlkOk c.N (v k).env.scope scope own) (hs : NoFold v iter) (hl : ∀ i ∈ own.map (·.2), ∀ p, (i, p) ∉ S.lent)
    (h : SrcC MildC c v S tg iter Γ fun ds Γ1 => ds.length ≤ 1000000 ∧ ∃ P : Nat → List Dt → List AV → Prop, P 0 [] (wipeD Γ1 (own.map (·.2))) ∧
      (∀ j d acc Γ2, ds[j]? = some d → P j acc Γ2 → LcTurn c (blkV c v scope) S (own.map (·.2)) tg ifs elt P j d acc Γ2) ∧ ∀ acc Γ2, P ds.length acc Γ2 → D.nx ((wipeD Γ2 (own.map (·.2))).set i (.ow acc))) :
    SD c v S (.Assign [.Name y py] (.ListComp elt [⟨tg, iter, ifs, 0⟩] scope pos) spos) D Γ := fun E σ H L r =>
  ⟨_, fun k => ps_setLcs (X := mkX c (v k)) (own := own) (c0 := ⟨tg, iter, ifs, wIC MildC c v tg iter, wG c (blkV c v scope) tg, wTs c (blkV c v scope) ifs, own.map fun x : Str × Nat => x.2⟩) (cs := []) (Cd := MildC) (C := Mild c.A)
    (fun B H eA _ z => by show Mild B.A H; rw [show B.A = c.A from eA]; exact z) hy.nd hy.ix (ly k) (hsw k) (wIC.pi k) (ok k) rfl (hs k) fun s H a cl fp =>
    ⟨⟨(wG.pg (c := c) (v := blkV c v scope) (k, s, H, a, cl, fp) : PG (mkX c (blkV c v scope (k, s, H, a, cl, fp))) tg _), (wTs.pts (c := c) (v := blkV c v scope) (k, s, H, a, cl, fp) : PTs (mkX c (blkV c v scope (k, s, H, a, cl, fp))) ifs _)⟩, trivial, (wE.pe (c := c) (v := blkV c v scope) (k, s, H, a, cl, fp) : PE (mkX c (blkV c v scope (k, s, H, a, cl, fp))) elt _)⟩,
    lcM_read (Q := fun a Γ' => D.nx (Γ'.set i a)) easy hl h r fun x H' a Γ' q res _ _ => L.nx _ _ _ q (RS.store res hi hli)⟩
end
end DL

/-! isinstance of an exception that may have a dict -/
namespace DL
open PySem PySem.Spec
open PySem.Calls
open PyProof.Rows L2
section
variable {prog : Program} {w : World} {A : Around} {E : Value → Shared → Prop} {s : Shared} {K : PySem.W.Frag} {x D : Addr} {ox : Obj} {od : Option Obj}
/-- its class is found by a data descriptor, whatever stands in its dict -/
theorem cls_found (C : ExcC K D) : PySem.W.findObj K D od "__class__" = some (.bind (.builtin "getset_descriptor.__get__") (.builtin "object.__class__")) := by
  obtain ⟨cd, known, _⟩ := PySem.W.any_some C.hd
  unfold PySem.W.findObj
  rw [known, Option.bind_some, C.ha, Option.bind_some]
  simp [C.hn, C.ht]
theorem cls_attr {Q : Option Value → Shared → Prop} (C : ExcC K D) (inK : K.In s.heap) (inst : PySem.W.InstAt s.heap x ox D od) (q : Q (some (.ref D)) { s with toks := s.toks + 1 }) : wpAny (model prog w) A (getAttr? (.ref x) "__class__") Q E s := by
  obtain ⟨heap, gens, drawn, tick, os⟩ := s
  have see0 := inst.type (M := model prog w)
  have see1 := PySem.W.looks_findIn (M := model prog w) inK C.hg
  have see2 := PySem.W.looks_find (M := model prog w) inK inst (cls_found (od := od) C)
  have base : PySem.W.Looks (model prog w) heap (isInstance (.ref x) (.type "BaseException")) true := see0.andThen (PySem.W.looks_subIn inK C.hs)
  have other : (onTheHeap (Value.ref D) && Value.builtin "BaseException.__getattribute__" == Value.builtin "object.__getattribute__") = false := by
    rw [show (Value.builtin "BaseException.__getattribute__" == Value.builtin "object.__getattribute__") = false by decide +kernel]
    rfl
  unfold getAttr?
  unfold getAttrBy? getAttrBy
  refine wpAny_bind (wpAny_mkText (wpAny_bind (wpAny_attempt (wpAny_holding (wpAny_bind (see0.at (wpAny_bind (see1.at ?goal))))))))
  show wpAny (model prog w) A (if (onTheHeap (Value.ref D) && Value.builtin "BaseException.__getattribute__" == Value.builtin "object.__getattribute__") = true then _ else _) _ _ ⟨heap, gens, drawn, tick + 1, os⟩
  refine (if_neg (show ¬ (onTheHeap (Value.ref D) && Value.builtin "BaseException.__getattribute__" == Value.builtin "object.__getattribute__") = true by rw [other]; decide)).symm ▸ ?_
  have see3 := PySem.W.looks_findIn (M := model prog w) inK C.hk
  have plain : (false && onTheHeap (Value.builtin "BaseException.__getattribute__")) = false := rfl
  unfold getAttrByItsOwn
  unfold hookBefore
  refine wpAny_bind ((if_pos (show onTheHeap (Value.ref D) = true from rfl)).symm ▸ see3.at (wpAny_bind (wpAny_attempt (wpAny_holding ?_))))
  unfold callGetattribute boundAndCalled
  refine (if_neg (show ¬ (false && onTheHeap (Value.builtin "BaseException.__getattribute__")) = true by rw [plain]; decide)).symm ▸ ?_
  refine (PySem.F.excAttr_ValueError.ga.bind (.ref x)).symm ▸ wpAny_bind (wpAny_pure ?_)
  refine wpAny_call (A := A) (codeAny_call_builtin PySem.F.excAttr_ValueError.ga.plain PySem.F.entry_bexc_ga (PySem.W.check_slot (i := "BaseException.__getattribute__") (owner := "BaseException") (n := "__getattribute__") (by decide +kernel) (by decide +kernel) base (PySem.F.args_bexc_ga (.ref x) (.str "__class__" _)) ?_))
  unfold Builtin.«object.__getattribute__»; refine wpAny_bind (wpAny_of_eq (a := ((Value.ref x : Value), [Value.str "__class__" tick])) (by simp only [slotArgs]; rfl) ?_)
  refine wpAny_bind (wpAny_pure (wpAny_bind (see0.at (wpAny_bind (see2.at ?_)))))
  refine (show wpAny (model prog w) A.in1 (holding [Value.builtin "object.__class__"] (call (.builtin "getset_descriptor.__get__") [.builtin "object.__class__", .ref x, .ref D]) >>= ret) _ _ _ from ?_)
  refine wpAny_bind (wpAny_holding (wpAny_call (PySem.W.class_get (s := ⟨heap, gens, drawn, tick + 1, os⟩) (ox := ox) (od := od) inK inst C.hm (wpAny_pure ?_))))
  have out : (handedOut (.ref D) : Sem Value) = pure (.ref D) := PySem.W.handedOut_of (v := .ref D) rfl
  refine (show wpAny (model prog w) A (handedOut (.ref D)) _ _ _ from ?_)
  rw [out]
  first
    | exact wpAny_pure (wpAny_pure q)
    | exact wpAny_pure q
    | exact wpAny_pure (wpAny_bind (wpAny_pure (wpAny_pure q)))
/-- what isinstance asks of it -/
theorem kitx_exc (C : ExcC K D) : PySem.W.KitX K (.ref x) (.ref D) (fun h => PySem.W.InstAt h x ox D od) :=
  let none_case : PySem.W.KitX K (.ref x) (.ref D) (fun h => PySem.W.InstAt h x ox D none) := PySem.W.handS_kitx_exc C.hg C.hk C.hs C.hd C.ha C.hn C.ht C.hm
  { ty := fun _ _ _ inst => inst.type
    it := fun M h inK inst => by
      obtain ⟨cd, known, _⟩ := PySem.W.any_some C.hd
      unfold PySem.W.clsIn at known
      split at known
      · rename_i c' d' cd' sl' at_D
        intro A' Q' E' s' kept q
        unfold isType loadHead
        exact wpAny_bind (wpAny_loadPart (kept _ _ (inK _ _ at_D)) (wpAny_pure q))
      · cases known
    ne := none_case.ne
    ca := fun inK inst q => cls_attr C inK inst q }
end
end DL

/-! exceptions as objects: what they are, isinstance -/
namespace DL
open PySem PySem.Spec
open PyProof.Rows L2
/-- objects of the kind o are exceptions of the class D, without attributes -/
def ExcOf (D : Addr) (o : Addr → HO) : Prop := ∀ (P : Program) (w : World) (H : Hp) (h : Heap) (b : Addr), ObjOk P w H h b (o b) → ∃ (u : Obj) (vs : Array Value), h.get? b = some u ∧ u.cls = .ref D ∧ u.dict = none ∧ u.data = .fields vs
theorem excOf_K (D : Addr) : ExcOf D (ExK (.ref D)) := fun P w H h b ⟨⟨u, vs, e, c, d, s, _⟩, _⟩ => ⟨u, vs, e, c, d, s⟩
theorem excOf_O (D : Addr) : ExcOf D (ExO (.ref D)) := fun P w H h b ⟨⟨u, vs, e, z, s, _⟩, _⟩ => ⟨u, vs, e, z.1, z.2, s⟩
/-- d is an exception of the class D -/
def ExcD (D : Addr) (d : Dt) : Prop := (∃ o, d = .obj o ∧ ExcOf D o) ∨ ∃ fs, d = .exa D fs
def rIsD (K : PySem.W.Frag) (D : Addr) : List V → Hp → VK → Prop := fun xs H Q => ∃ (a : Addr) (t : V) (tv : Value) (b : Bool), xs = [.ref a, t] ∧ ((∃ o, ExcOf D o ∧ H a = some (o a)) ∨ ∃ d fs, H a = some (exo a D (some d)) ∧ H d = some (exd d fs)) ∧ (∀ u, RelV t u → u = tv) ∧ PySem.W.kitOne K (.ref D) tv = some b ∧ Q (.bl b) H
theorem call_isD {X : Cx} {D : Addr} (C : ExcC X.K D) : CallR X (.builtin "isinstance") (rIsD X.K D) := fun pins s σ H xs us Q I r given => by
  obtain ⟨a, t, tv, b, rfl, here, one, kit, q⟩ := given
  obtain ⟨u1, u2, rfl, r1, r2⟩ := (r.two)
  cases (show (u1 = Value.ref a) from r1)
  cases one _ r2
  have inst : ∃ ob od, PySem.W.InstAt s.heap a ob D od := by
    rcases here with ⟨o, kind, at_a⟩ | ⟨d, fs, at_a, at_d⟩
    · obtain ⟨ob, vs, e, c, d, shape⟩ := kind _ _ _ _ _ (I.hok a _ at_a)
      obtain ⟨oc, od, oda, osl⟩ := ob
      cases c
      cases d
      cases shape
      exact ⟨_, none, e, rfl, rfl, trivial⟩
    · obtain ⟨t1, there⟩ := exo_at I.hok at_a
      obtain ⟨mA, ns, _⟩ := exd_at I.hok at_d
      obtain ⟨od, ho, _⟩ := lookIn_ns ns
      exact ⟨_, some od, there, rfl, rfl, ho⟩
  obtain ⟨ob, od, inst⟩ := inst
  exact PySem.W.kia_one (kitx_exc (ox := ob) (od := od) C) I.kIn inst kit (fun z => nomatch z) fun tk => ⟨.bl b, H, I.tok tk, rfl, q⟩
section
variable {c : Core} {ι : Type} {v : ι → Var} {S : Ent} {Γ : List AV}
variable {Q : AV → List AV → Prop} {QK : AK → List AV → Prop} {a : Expr} {x : Str} {p p2 pos : Pos} {D : Addr} {o : Addr → HO}
/-- a class of the module as a value -/
theorem ek_cls {C : Addr} (hg : ∀ i, Gl (mkX c (v i)) x) (hm : c.mg x = some (.ref C)) (hd : (x == ("__debug__" : Str)) = false) (q : QK (.d (.dt (.raw (.ref C)))) Γ) : EK c v S (.Name x pos) Γ QK := fun σ H R r k =>
  ⟨_, fun i => pe_glob (v := .ref C) (hg i) hm rfl hd, k _ _ _ _ q r (Rp.raw _) .refl⟩
def pIsD (K : PySem.W.Frag) (D : Addr) : List AK → List AV → (AV → List AV → Prop) → Prop := fun as Γ Q => ∃ k e t tv b, as = [k, .d (.dt (.raw t))] ∧ akD Γ k = some e ∧ ExcD D e ∧ (∀ u, RelV t u → u = tv) ∧ PySem.W.kitOne K (.ref D) tv = some b ∧ Q (.dt (.bl b)) Γ
theorem cb_isD : CB c S (rIsD c.K D) (pIsD c.K D) := by
  rintro as Γ Q σ H xs R ⟨k, d, t, tv, b, rfl, e, kind, one, kit, q⟩ r hx kk
  obtain ⟨y, z, rfl, hk, hl⟩ := hx.pair
  have ho := akD_of e hk
  have hz : z = t := by
    have w : Rp c.K H (Exc S Γ σ no) z (.raw t) := hl
    cases w
    rfl
  subst hz
  have fin := kk _ _ _ _ q ⟨r, .bl _⟩ .refl trivial
  rcases kind with ⟨o, rfl, kind⟩ | ⟨fs, rfl⟩
  · cases ho with
    | obj at_a _ => exact ⟨_, _, tv, b, rfl, .inl ⟨o, kind, at_a⟩, one, kit, fin⟩
  · cases ho with
    | exa at_a _ at_d _ => exact ⟨_, _, tv, b, rfl, .inr ⟨_, fs, at_a, at_d⟩, one, kit, fin⟩
/-- isinstance(a, C), a an exception, C a class of the module -/
theorem ed_isC {C : Addr} {T : Str} {de : Dt} (E : ExcC c.K D) (kind : ExcD D de) (hg : ∀ i, Gl (mkX c (v i)) "isinstance") (hm : c.mg "isinstance" = none) (hgT : ∀ i, Gl (mkX c (v i)) T) (hmT : c.mg T = some (.ref C)) (hdT : (T == ("__debug__" : Str)) = false) (he : NoStar v a [.Name T p2]) (he2 : NoStar v (.Name T p2) []) (hp : NoStarL v pos [.Name T p2])
    (h : EK c v S a Γ fun k Γ1 => akD Γ1 k = some de ∧ ∃ b, PySem.W.kitOne c.K (.ref D) (.ref C) = some b ∧ Q (.dt (.bl b)) Γ1) : ED c v S (.Call (.Name "isinstance" p) [a, .Name T p2] [] pos) Γ Q :=
  ed_callB (fun i => (show CallR (mkX c (v i)) (.builtin "isinstance") (rIsD c.K D) from call_isD (X := mkX c (v i)) E)) cb_isD hg hm (by decide +kernel) (by decide) (by decide) he hp (ea2 he he2 fun σ H R r kk => h σ H R r fun x H' k Γ' ⟨e, b, kit, q⟩ => kk x H' k Γ' (ek_cls hgT hmT hdT ⟨k, de, .ref C, .ref C, b, rfl, e, kind, fun _ z => z, kit, q⟩))
/-- isinstance(a, T), T a built-in class -/
theorem ed_isB {u : String} {T : Str} {de : Dt} (E : ExcC c.K D) (kind : ExcD D de) (hg : ∀ i, Gl (mkX c (v i)) "isinstance") (hm : c.mg "isinstance" = none) (hgT : ∀ i, Gl (mkX c (v i)) T) (hmT : c.mg T = none) (hT : bootBuiltins T = some (.type u)) (hnT : T ≠ "__name__") (hdT : (T == ("__debug__" : Str)) = false) (he : NoStar v a [.Name T p2]) (he2 : NoStar v (.Name T p2) []) (hp : NoStarL v pos [.Name T p2])
    (h : EK c v S a Γ fun k Γ1 => akD Γ1 k = some de ∧ ∃ b, PySem.W.kitOne c.K (.ref D) (.type u) = some b ∧ Q (.dt (.bl b)) Γ1) : ED c v S (.Call (.Name "isinstance" p) [a, .Name T p2] [] pos) Γ Q :=
  ed_callB (fun i => (show CallR (mkX c (v i)) (.builtin "isinstance") (rIsD c.K D) from call_isD (X := mkX c (v i)) E)) cb_isD hg hm (by decide +kernel) (by decide) (by decide) he hp (ea2 he he2 fun σ H R r kk => h σ H R r fun x H' k Γ' ⟨e, b, kit, q⟩ => kk x H' k Γ' (ek_type hgT hmT hT hnT hdT ⟨k, de, .ty u, .type u, b, rfl, e, kind, fun _ z => z, kit, q⟩))
end
end DL

/-! a < b < c; *xs in a display; tuple(range(..)) -/
namespace DL
open PySem PySem.Spec
open PyProof.Rows L2
section
variable {c : Core} {ι : Type} {v : ι → Var} {S : Ent} {Γ : List AV}
variable {Q : AV → List AV → Prop} {QA : List AK → List AV → Prop} {a b d e : Expr} {es : List Expr} {pos p p2 pos2 : Pos}
/-- a op b op' d over ints -/
theorem ed_chain {op op' : CmpOp} {g g' : Int → Int → Bool} (ho : ∀ i, OpR (mkX c (v i)) (compareOp op) (rI0 fun i j => .bl (g i j))) (ho' : ∀ i, OpR (mkX c (v i)) (compareOp op') (rI0 fun i j => .bl (g' i j))) (hm : lastMarks [op, op'] [b, d] = false)
    (h : EK c v S a Γ fun k Γ1 => EK c v S b Γ1 fun l Γ2 => ∃ i j, akD Γ2 k = some (.int i) ∧ akD Γ2 l = some (.int j) ∧ (g i j = true → EK c v S d Γ2 fun m Γ3 => ∃ n, akD Γ3 m = some (.int n) ∧ Q (.dt (.bl (g' j n))) Γ3) ∧ (g i j = false → Q (.dt (.bl false)) Γ2)) :
    ED c v S (.Compare a [op, op'] [b, d] pos) Γ Q := fun σ H R r kk => by
  refine ⟨_, fun i => pe_chain (ho i) (ho' i) (wE.pe i) (wE.pe i) (wE.pe i) hm, h σ H _ r fun x H1 k Γ1 next r1 hk s1 => ?_⟩
  refine next σ H1 _ r1 fun y H2 l Γ2 ⟨i, j, e1, e2, yes, no⟩ r2 hl s2 => ?_
  cases akD_of e1 (hk.mono s2.keeps)
  cases akD_of e2 hl
  refine ⟨i, j, rfl, rfl, g i j, rfl, ?_⟩
  cases z : g i j with
  | false => exact kk _ _ _ _ (no z) ⟨r2, .bl _⟩ (s1.trans s2) trivial
  | true =>
    refine yes z σ H2 _ r2 fun w H3 m Γ3 ⟨n, e3, q⟩ r3 hm s3 => ?_
    cases akD_of e3 hm
    exact ⟨j, n, rfl, rfl, kk _ _ _ _ q ⟨r3, .bl _⟩ ((s1.trans s2).trans s3) trivial⟩
/-- *e among the items -/
theorem ea_star (hs : ∀ i, starEach (.Starred e p :: es) (v i).env = (true, eval e (v i).env) :: starEach es (v i).env)
    (h : EK c v S e Γ fun k Γ1 => ∃ ds, akS Γ1 k = some ds ∧ EA c v S es Γ1 fun as Γ2 => QA (ds.map (fun d => AK.d (.dt d)) ++ as) Γ2) : EA c v S (.Starred e p :: es) Γ QA := fun σ H R r kk => by
  refine ⟨StX.tStar c.K (wE c v e) (wA c v es), fun i => StX.pa_star (X := mkX c (v i)) (wE.pe i) (wA.pa i) (hs i), h σ H _ r fun x H1 k Γ1 ⟨ds, ek, next⟩ r1 hk s1 => ?_⟩
  obtain ⟨p, xs, rfl, sq, items⟩ := akS_of ek r1 hk
  refine ⟨p, xs, rfl, sq.symm, next σ H1 _ r1 fun ys H2 as Γ2 q r2 hys s2 => kk _ _ _ _ q r2 ?_ (s1.trans s2)⟩
  have all : ∀ {xs : List V} {ds : List Dt}, RpL c.K H2 (Exc S Γ2 σ no) xs ds → RpKL c.K H2 (Exc S Γ2 σ no) σ (xs ++ ys) (ds.map (fun d => AK.d (.dt d)) ++ as) := fun {xs ds} z => by
    induction ds generalizing xs with
    | nil => cases z; exact hys
    | cons d ds ih => cases z with | cons y ys => exact ⟨y, ih ys⟩
  exact all (items.mono s2.keeps)
theorem rgR {K : PySem.W.Frag} {H : Hp} {ex : AP} (a b : Int) : RpL K H ex (rgV a b) (rngD a (b - a).toNat) := by
  unfold rgV rngD
  have : ∀ l : List Nat, RpL K H ex (l.map fun i => V.int (a + (i : Nat))) (l.map fun i => Dt.int (a + (i : Nat))) := fun l => by
    induction l with
    | nil => exact .nil
    | cons i t ih => exact .cons (.int _) ih
  exact this _
/-- tuple(range(a, b)) -/
theorem ed_tupRg (hgT : ∀ i, Gl (mkX c (v i)) "tuple") (hmT : c.mg "tuple" = none) (hg : ∀ i, Gl (mkX c (v i)) "range") (hm : c.mg "range" = none) (na : NoStar v a [b]) (nb : NoStar v b []) (hp : NoStarL v pos2 [b]) (nr : NoStar v (.Call (.Name "range" p2) [a, b] [] pos2) [])
    (h : EK c v S a Γ fun k Γ1 => EK c v S b Γ1 fun l Γ2 => ∃ i j, akD Γ2 k = some (.int i) ∧ akD Γ2 l = some (.int j) ∧ (0 ≤ i ∧ i ≤ 1000000 ∧ 0 ≤ j ∧ j ≤ 1000000) ∧ Q (.dt (.tup (rngD i (j - i).toNat))) Γ2) (still : c.calm = true := by rfl) :
    ED c v S (.Call (.Name "tuple" p) [.Call (.Name "range" p2) [a, b] [] pos2] [] pos) Γ Q := fun σ H R r kk => by
  refine ⟨_, fun i => pe_tupRg (X := mkX c (v i)) still (hgT i) hmT (prg_2 (hg i) hm (wE.pe i) (wE.pe i) (na i) (nb i) (hp i)) (nr i), h σ H _ r fun x H1 k Γ1 next r1 hk s1 => ?_⟩
  refine next σ H1 _ r1 fun y H2 l Γ2 ⟨i, j, e1, e2, bd, q⟩ r2 hl s2 => ?_
  cases akD_of e1 (hk.mono s2.keeps)
  cases akD_of e2 hl
  refine ⟨i, j, rfl, rfl, ⟨by omega, by omega, by omega, by omega, by omega⟩, fun t free => kk _ _ _ _ q (Res.newT r2 free (rgR i j)) ((s1.trans s2).alloc free) trivial⟩
end
end DL

/-! name = [elt for ..] on one line -/
namespace DL
open PySem PySem.Spec
open PyProof.Rows L2
section
variable {c : Core} {ι : Type} {v : ι → Var} {S : Ent} {Γ : List AV}
variable {Q : AV → List AV → Prop} {D : DE} {elt tg iter : Expr} {ifs : List Expr} {pos spos py : Pos} {y : Str}
/-- what a comprehension's reading asks -/
theorem lc_read {own : List (Str × Nat)} {scope : Scope} (hl : ∀ i ∈ own.map (·.2), ∀ p, (i, p) ∉ S.lent)
    (h : SrcD c v S tg iter Γ fun ds Γ1 => ds.length ≤ 1000000 ∧ ∃ P : Nat → List Dt → List AV → Prop, P 0 [] (wipeD Γ1 (own.map (·.2))) ∧
      (∀ j d acc Γ2, ds[j]? = some d → P j acc Γ2 → LcTurn c (blkV c v scope) S (own.map (·.2)) tg ifs elt P j d acc Γ2) ∧ ∀ acc Γ2, P ds.length acc Γ2 → Q (.ow acc) (wipeD Γ2 (own.map (·.2))))
    {σ : Sg} {H : Hp} {R : VK} (r : RS c.K S no Γ σ H) (kk : ∀ x H' a Γ', Q a Γ' → Res c.K S Γ' σ H' x a → Step Γ Γ' σ H H' → New H Γ σ x a → R x H') :
    tLc (wI c v tg iter) (wG c (blkV c v scope) tg) (wTs c (blkV c v scope) ifs) (wE c (blkV c v scope) elt) (own.map (·.2)) σ H R := by
  generalize own.map (·.2) = is at hl h ⊢
  refine h σ H _ r fun J H1 ds Γ1 ⟨hz, P, p0, step, done⟩ r1 s w => ?_
  intro D hD
  have nD := r1.new hD
  -- the invariant
  let F : Addr → HO → Prop := AllPin H1 Γ1 σ
  refine ⟨fun j m H' => m = ds.length - j ∧ j ≤ ds.length ∧ ∃ acc accV Γ', acc.length ≤ j ∧ P j acc Γ' ∧ (∀ i ∈ is, ∀ a, Γ'[i]? = some a → a = .un) ∧ H' D = some (.lst accV) ∧ RpL c.K H' (Exc (S.lc (· = D) F) Γ' (L2.wipe σ is) no) accV acc ∧
    RS c.K (S.lc (· = D) F) no Γ' (L2.wipe σ is) H' ∧ ∀ p, Own Γ' (L2.wipe σ is) p → Own Γ1 σ p, ⟨_, rfl, Nat.zero_le _, [], [], wipeD Γ1 is, Nat.le_refl _, p0, fun i hi => wipeD_un Γ1 hi, upd_same, .nil, ?_, fun p => own_wipe⟩, ?_⟩
  · have rw' := r1.wipe hl
    have rD := (rw'.alloc (o := .lst []) hD).ex_mono (ex' := (· = D)) fun _ z => .inr z
    have q := RS.to_fo rD fun p e => by
      subst e
      exact ⟨by rw [upd_same]; exact fun z => (nomatch z), fun z => r1.xtr _ z nD.2.2⟩
    refine q.dopin fun b o ⟨z1, z2⟩ => ⟨by rw [upd_ne (ne_of_none z1 hD)]; exact z1, fun z => z2 (own_wipe z), id⟩
  · rintro j m H' ⟨rfl, hj, acc, accV, Γ', ha, pj, hu, hDl, hacc, r', ow⟩
    have fr : ∀ b o, H1 b = some o → ¬ Own Γ1 σ b → H' b = some o := fun b o e n => (r'.pin b o (.inr ⟨e, n⟩)).1
    by_cases hlt : j < ds.length
    · -- a turn
      refine .inr ⟨w.go j H' fr hlt, fun H2 => ∃ acc accV Γ', acc.length ≤ j + 1 ∧ P (j + 1) acc Γ' ∧ (∀ i ∈ is, ∀ a, Γ'[i]? = some a → a = .un) ∧ H2 D = some (.lst accV) ∧ RpL c.K H2 (Exc (S.lc (· = D) F) Γ' (L2.wipe σ is) no) accV acc ∧
        RS c.K (S.lc (· = D) F) no Γ' (L2.wipe σ is) H2 ∧ ∀ p, Own Γ' (L2.wipe σ is) p → Own Γ1 σ p, fun H2 h2 => ⟨_, by omega, rfl, hlt, h2⟩, fun x H2 y => ?_⟩
      obtain ⟨d, ed, r2, hd, frY⟩ := w.item (S := S) (f := F) (fo' := fun b => S.fo b ∨ b = D) (fun _ _ z => z) (fun b z => z.elim .inl fun z => .inr (by rw [z]; exact hD)) r' hlt y
      obtain ⟨W, hW, step⟩ := step j d acc Γ' ed pj
      have hDl2 : H2 D = some (.lst accV) := frY _ _ hDl
      have hacc2 : RpL c.K H2 (Exc (S.lc (· = D) F) Γ' (L2.wipe σ is) no) accV acc := hacc.mono fun b o e n => ⟨frY b o e, n⟩
      -- the accumulated list is pinned for this turn
      let F2 : Addr → HO → Prop := fun b o => F b o ∨ (H2 b = some o ∧ ¬ Own Γ' (L2.wipe σ is) b)
      have r2' : RS c.K (S.lc (· = D) F2) no Γ' (L2.wipe σ is) H2 :=
        { r2 with pin := fun b o z => z.elim (fun z => r2.pin b o (.inl z)) fun z => z.elim (fun z => r2.pin b o (.inr z)) fun z => ⟨z.1, z.2, id⟩ }
      have r2w : RS c.K (S.lc (· = D) F2) no (wipeD Γ' is) (L2.wipe σ is) H2 := by
        have := r2'.wipe hl
        rw [wipe_wipe] at this
        exact this
      have ow2 : ∀ p, Own (wipeD Γ' is) (L2.wipe σ is) p → Own Γ' (L2.wipe σ is) p := fun p z => by
        rw [← wipe_wipe σ is] at z
        exact own_wipe z
      have hd2 : Rp c.K H2 (Exc (S.lc (· = D) F2) (wipeD Γ' is) (L2.wipe σ is) no) x d := Rp.sub (fun b z => z.elim (fun z => .inl (ow2 b z)) .inr) hd
      refine step (· = D) F2 _ H2 x _ r2w hd2 fun σ3 Γ3 q3 r3 o3 w3 => ?_
      have ew : L2.wipe σ3 is = L2.wipe σ is := by
        rw [wipe_eq (σ := L2.wipe σ is) (by rw [r3.len, r2w.len]) fun i hi => w3 i fun z => hi (hW i z)]
        exact wipe_wipe σ is
      refine ⟨ew, ?_⟩
      have nOwnD : ∀ {Γx : List AV} {σx : Sg} {Hx : Hp}, RS c.K (S.lc (· = D) F2) no Γx σx Hx → ¬ Own Γx σx D := fun rx z => rx.nfo D z (.inr rfl)
      -- the end of a turn, from its last state
      have back : ∀ {Γx : List AV} {Hx : Hp}, RS c.K (S.lc (· = D) F2) no Γx σ3 Hx → (∀ p, Own Γx σ3 p → Own Γ3 σ3 p) → RS c.K (S.lc (· = D) F) no (wipeD Γx is) (L2.wipe σ is) Hx ∧ (∀ p, Own (wipeD Γx is) (L2.wipe σ is) p → Own Γ1 σ p) ∧ Hx D = some (.lst accV) ∧
          (∀ b o, H2 b = some o → ¬ Own Γ' (L2.wipe σ is) b → Hx b = some o) := fun {Γx Hx} rx ox => by
        have z := rx.wipe hl
        rw [ew] at z
        refine ⟨{ z with pin := fun b o y => z.pin b o (y.elim .inl fun y => .inr (.inl y)) }, fun p y => ?_, (rx.pin D _ (.inr (.inr ⟨hDl2, ?_⟩))).1, fun b o e n => (rx.pin b o (.inr (.inr ⟨e, n⟩))).1⟩
        · rw [← ew] at y
          exact ow p (ow2 p (o3 p (ox p (own_wipe y))))
        · exact fun z => r2.nfo D z (.inr rfl)
      refine q3 σ3 H2 _ r3 fun b H4 Γ4 q4 r4 s4 => ?_
      cases b with
      | false =>
        refine iteF ?_
        obtain ⟨z1, z2, z3, z4⟩ := back r4 fun p y => s4.own p y
        refine ⟨acc, accV, wipeD Γ4 is, by omega, q4.2 rfl, fun i hi => wipeD_un Γ4 hi, z3, hacc2.mono fun b o e n => ⟨z4 b o e fun z => n (.inl z), fun z => n ?_⟩, z1, z2⟩
        rcases z with z | z
        · refine .inl (ow2 b (o3 b (s4.own b (own_wipe (is := is) ?_))))
          rw [ew]
          exact z
        · exact .inr z
      | true =>
        refine iteT ?_
        refine q4.1 rfl σ3 H4 _ r4 fun y5 H5 a Γ5 ⟨dy, ey, q5⟩ hr5 s5 _ => ?_
        have r5 := hr5.rs
        obtain ⟨z1, z2, z3, z4⟩ := back r5 fun p y => s4.own p (s5.own p y)
        have oo : ∀ b, Own (wipeD Γ5 is) (L2.wipe σ is) b → Own Γ5 σ3 b := fun b z => by
          rw [← ew] at z
          exact own_wipe z
        have ry : Rp c.K H5 (Exc (S.lc (· = D) F) (wipeD Γ5 is) (L2.wipe σ is) no) y5 dy := Rp.sub (fun b z => z.elim (fun z => .inl (oo b z)) .inr) (akD_of (k := .d a) (σ := σ3) ey hr5.rpa)
        have rac : RpL c.K H5 (Exc (S.lc (· = D) F) (wipeD Γ5 is) (L2.wipe σ is) no) accV acc := hacc2.mono fun b o e n => ⟨z4 b o e fun z => n (.inl z), fun z => n (z.elim (fun z => .inl (ow2 b (o3 b (s4.own b (s5.own b (oo b z)))))) .inr)⟩
        refine ⟨accV, z3, ?_, acc ++ [dy], accV ++ [y5], wipeD Γ5 is, by rw [List.length_append]; exact Nat.add_le_add ha (Nat.le_refl 1), q5, fun i hi => wipeD_un Γ5 hi, upd_same, (rac.append (.cons ry .nil)).write (.inr (.inl (.inr rfl))), ?_, z2⟩
        · rw [hacc2.len]
          have := line1 (n := acc.length + 1) (by omega)
          omega
        · -- the list has grown: nothing else leans on it
          have nD5 : ¬ Own (wipeD Γ5 is) (L2.wipe σ is) D := fun z => nOwnD r5 (oo D z)
          have up : ∀ b o, H5 b = some o → b ≠ D → (upd H5 D (.lst (accV ++ [y5]))) b = some o := fun b o e n => by rw [upd_ne n]; exact e
          exact { z1 with
            slots := fun i a e => (z1.slots i a e).mono (fun b o e n => ⟨up b o e fun z => n (.inr (.inl (.inr z))), n⟩) fun ds p xs ea es ep => up p _ ep fun z => nD5 ⟨i, ds, by rw [← ea]; exact e, by rw [← z]; exact es⟩
            fr := fun b o e n => up b o (z1.fr b o e n) fun z => by rw [z, nD.2.2] at e; cases e
            fo := fun b z => by
              refine ⟨?_, (z1.fo b z).2⟩
              by_cases e : b = D
              · rw [e, upd_same]
                exact fun z => nomatch z
              · rw [upd_ne e]
                exact (z1.fo b z).1
            pin := fun b o z => by
              have nb : b ≠ D := fun e => by
                rcases z with z | z
                · have := (r1.pin b o z).1
                  rw [e, hD] at this
                  cases this
                · have := z.1
                  rw [e, hD] at this
                  cases this
              exact ⟨up b o (z1.pin b o z).1 nb, (z1.pin b o z).2⟩ }
    · -- the end
      have e : j = ds.length := by omega
      subst e
      have z := r'.wipe hl
      rw [wipe_wipe] at z
      obtain ⟨z1, z2⟩ := RS.unwipe z (fun i hi => wipeD_un Γ' hi) hl
      have oo : ∀ p, Own (wipeD Γ' is) σ p → Own Γ' (L2.wipe σ is) p := fun p y => by
        have := z2 p y
        rw [← wipe_wipe σ is] at this
        exact own_wipe this
      have s' : Step Γ (wipeD Γ' is) σ H H' := ⟨fun b o e n => fr b o (s.fr b o e n) fun z => n (s.own b z), fun p y => s.own p (ow p (oo p y))⟩
      refine .inl ⟨w.stop _ H' fr (Nat.le_refl _), kk _ _ _ _ (done acc Γ' pj) ⟨D, accV, rfl, ?_, hDl, hacc.sub fun b y => ?_, fun y => nD.2.1 y, nD.2.2⟩ s' ?_⟩
      · exact RS.move_fo (S := S) (f := (· = D)) { z1 with pin := fun b o y => z1.pin b o (.inl y) } fun b o y e => by
          have := (r1.pin b o y).1
          rw [e, hD] at this
          cases this
      · rcases y with y | y | y
        · exact .inl (oo b y)
        · exact .inr (.inl (.inl y))
        · exact .inr (.inl (.inr y))
      · exact New.back (H' := H1) (Γ' := Γ1) ⟨D, rfl, .inl hD⟩ s
/-- name = [elt for tg in iter if ..] -/
theorem sd_setLc (i : Nat) {own : List (Str × Nat)} {scope : Scope} (hy : AtS c v y i) (ly : ∀ k, (v k).env.scope.names.lookup y = some .local) (hsw : ∀ k, swapsWith (.ListComp elt [⟨tg, iter, ifs, 0⟩] scope pos) (some (.Name y py)) spos.line (v k).env = pure true) (hi : i < S.n) (hli : ∀ p, (i, p) ∉ S.lent)
    (ok : ∀ k, BlkOk c.N (v k).env.scope scope own) (hs : NoFold v iter) (hl : ∀ i ∈ own.map (·.2), ∀ p, (i, p) ∉ S.lent)
    (h : SrcD c v S tg iter Γ fun ds Γ1 => ds.length ≤ 1000000 ∧ ∃ P : Nat → List Dt → List AV → Prop, P 0 [] (wipeD Γ1 (own.map (·.2))) ∧
      (∀ j d acc Γ2, ds[j]? = some d → P j acc Γ2 → LcTurn c (blkV c v scope) S (own.map (·.2)) tg ifs elt P j d acc Γ2) ∧ ∀ acc Γ2, P ds.length acc Γ2 → D.nx ((wipeD Γ2 (own.map (·.2))).set i (.ow acc))) (still : c.calm = true := by rfl) :
    SD c v S (.Assign [.Name y py] (.ListComp elt [⟨tg, iter, ifs, 0⟩] scope pos) spos) D Γ := fun E σ H L r =>
  ⟨_, fun k => ps_setLc (X := mkX c (v k)) still hy.nd hy.ix (ly k) (hsw k) (wI.pi k) (ok k) (fun s H C cl fp => (wG.pg (c := c) (v := blkV c v scope) (k, s, H, C, cl, fp) : PG (mkX c (blkV c v scope (k, s, H, C, cl, fp))) tg _))
    (fun s H C cl fp => (wTs.pts (c := c) (v := blkV c v scope) (k, s, H, C, cl, fp) : PTs (mkX c (blkV c v scope (k, s, H, C, cl, fp))) ifs _)) (fun s H C cl fp => (wE.pe (c := c) (v := blkV c v scope) (k, s, H, C, cl, fp) : PE (mkX c (blkV c v scope (k, s, H, C, cl, fp))) elt _)) (hs k),
    lc_read (Q := fun a Γ' => D.nx (Γ'.set i a)) hl h r fun x H' a Γ' q res _ _ => L.nx _ _ _ q (RS.store res hi hli)⟩

end
end DL

/-! small facts about arguments given one by one -/
namespace DL
open PySem PySem.Spec
open PyProof.Rows L2
theorem akF_cons {Γ : List AV} {a : AK} {as : List AK} {d : Dt} {ds : List Dt} (h : akD Γ a = some d) (hs : akF Γ as = some ds) : akF Γ (a :: as) = some (d :: ds) := by
  unfold akF at *
  rw [List.mapM_cons, h, hs]
  rfl
theorem akF_all {Γ : List AV} : ∀ ds : List Dt, akF Γ (ds.map (fun d => AK.d (.dt d)) ++ []) = some ds
  | [] => rfl
  | d :: ds => akF_cons (a := .d (.dt d)) rfl (akF_all ds)
end DL

/-! repr of a list whose parts can be shown one by one -/
namespace DL
open PySem PySem.Spec
open PyProof.Rows L2
inductive ShowsL : List Dt → List PyData → Prop
  | nil : ShowsL [] []
  | cons {d : Dt} {pd : PyData} {ds : List Dt} {pds : List PyData} : Shows d pd → ShowsL ds pds → ShowsL (d :: ds) (pd :: pds)
theorem ShowsL.py {ds : List Dt} {pds : List PyData} (h : ShowsL ds pds) : Dt.pyAll ds = some pds := by
  induction h with
  | nil => rfl
  | cons a _ ih =>
    show (match Dt.py _, Dt.pyAll _ with
      | some x, some xs => some (x :: xs)
      | _, _ => none) = _
    rw [a.py, ih]
theorem ShowsL.short {ds : List Dt} {pds : List PyData} (h : ShowsL ds pds) : PyData.leavesShortAll 1921 pds = true ∧ PyData.depthAll pds ≤ 60 := by
  induction h with
  | nil => exact ⟨rfl, Nat.zero_le _⟩
  | @cons d pd ds pds a _ ih =>
    obtain ⟨z1, z3⟩ := ih
    have q := a.dp
    refine ⟨?_, ?_⟩
    · show (pd.leavesShort 1921 && PyData.leavesShortAll 1921 pds) = true
      rw [a.lf, z1]; rfl
    · show max pd.depth (PyData.depthAll pds) ≤ 60
      omega
section
variable {X : Cx} {pins : List (Addr × Obj)} {σ : Sg} {H : Hp} {ex : AP} {s : Shared}
theorem ShowsL.run (I : Inv X pins σ H s) {ds : List Dt} {pds : List PyData} (h : ShowsL ds pds) : ∀ {xs : List V} {us : List Value}, RpL X.K H ex xs ds → Vals xs us → ∃ bs, ReadAtMost s.heap (PyData.depthAll pds) bs ∧ ReprAllK X.prog X.w bs s.heap (PyData.depthAll pds) us (PyData.shownAll pds) := by
  induction h with
  | nil =>
    intro xs us q r
    cases q
    cases r
    exact ⟨[], fun _ z => (nomatch z), .nil⟩
  | @cons d pd ds pds a _ ih =>
    intro xs us q r
    cases q with
    | cons q1 q2 =>
      cases r with
      | cons r1 r2 =>
        obtain ⟨as, rd, nd⟩ := Rp.reads I q1 r1 a.py
        obtain ⟨b1, m1, k1⟩ := ReprK.of_reads (prog := X.prog) (w := X.w) rd a.sh (fun z => nd (a.dc z)) a.fits
        obtain ⟨b2, m2, k2⟩ := ih q2 r2
        have l1 : pd.depth ≤ PyData.depthAll (pd :: pds) := Nat.le_max_left _ _
        have l2 : PyData.depthAll pds ≤ PyData.depthAll (pd :: pds) := Nat.le_max_right _ _
        refine ⟨b1 ++ b2, fun b hb => ?_, ?_⟩
        · rcases (List.mem_append.mp hb) with hb | hb
          · exact (m1 b hb).imp fun _ ⟨x, y, z⟩ => ⟨x, y, Nat.le_trans z l1⟩
          · exact (m2 b hb).imp fun _ ⟨x, y, z⟩ => ⟨x, y, Nat.le_trans z l2⟩
        · exact .cons ((k1.more fun b hb => List.mem_append_left _ hb).level_le l1) (k2.more_le (fun b hb => List.mem_append_right _ hb) l2)
def rReprL (K : PySem.W.Frag) : List V → Hp → VK → Prop := fun xs H Q => ∃ x d ds pd pds ex, xs = [x] ∧ Rp K H ex x (.lst (d :: ds)) ∧ ShowsL (d :: ds) (pd :: pds) ∧ PyData.bulkAll (pd :: pds) ≤ 8000 ∧ Q (.str (PyData.list (pd :: pds)).shown) H
theorem call_reprL (hg : X.A.guards = some []) (hu : X.A.units + 64 < cLine) : CallR X (.builtin "repr") (rReprL X.K) := by
  intro pins s σ H xs us Q I r given
  obtain ⟨x, d, ds, pd, pds, ex, rfl, hr, hs, few, q⟩ := given
  obtain ⟨u, rfl, ru⟩ := r.one
  cases hr with
  | @lst a ys _ at_a n parts =>
    cases (show _ = Value.ref _ from ru)
    obtain ⟨its, rv, ⟨o, m, ho, hc, hd, items⟩, _⟩ := I.list (.of at_a)
    obtain ⟨bs, most, k⟩ := hs.run I parts rv
    obtain ⟨z1, z3⟩ := hs.short
    cases rv with
    | nil => cases parts
    | @cons y u' ys us r1 r2 =>
      obtain ⟨as, reads, _⟩ := RpL.readsAll I parts (.cons r1 r2) hs.py
      have whole : Reads s.heap (.ref a) (.list (pd :: pds)) (a :: as) := .list ho hc items (by simpa using reads)
      have out : a ∉ bs := not_mem_of_deeper whole (by show PyData.depthAll (pd :: pds) < PyData.depthAll (pd :: pds) + 1; omega) most
      have shape : (PyData.list (pd :: pds)).shown = listText (PyData.shownAll (pd :: pds)) := by simp only [PyData.shown]
      have fit : (listText (PyData.shownAll (pd :: pds))).length ≤ sizeLine := by
        have short := PyData.shown_le_bulk 1921 (by omega) (.list (pd :: pds)) z1
        have bulk : (PyData.list (pd :: pds)).bulk = PyData.bulkAll (pd :: pds) := rfl
        rw [shape, bulk] at short
        rw [sizeLine_eq]
        omega
      refine call_repr_slot (by omega) ⟨o, ho, hc⟩ PySem.F.slot_list_repr.toG (call_list_reprK ho hc items out (by simpa using k.length_eq) (fun i y e => k.item i y (by simpa using e)) hg (fun b _ => Clear.nil b) (by show X.A.units + 1 + (PyData.depthAll (pd :: pds) + 1) < cLine; omega) (fun _ _ z => z) (fun h' t tk hk => ⟨_, _, rfl, .str (PyData.list (pd :: pds)).shown, H, I.kept hk, ⟨t, by rw [shape]⟩, q⟩) fit)
end
section
variable {c : Core} {ι : Type} {v : ι → Var} {S : Ent} {Γ : List AV} {Q : AV → List AV → Prop} {a : Expr} {p pos : Pos}
def pReprL : List AK → List AV → (AV → List AV → Prop) → Prop := fun as Γ Q => ∃ k d ds pd pds, as = [k] ∧ akD Γ k = some (.lst (d :: ds)) ∧ ShowsL (d :: ds) (pd :: pds) ∧ PyData.bulkAll (pd :: pds) ≤ 8000 ∧ Q (.dt (.str (PyData.list (pd :: pds)).shown)) Γ
theorem cb_reprL : CB c S (rReprL c.K) pReprL := by
  rintro as Γ Q σ H xs R ⟨k, d, ds, pd, pds, rfl, e, hs, few, q⟩ r hx kk
  obtain ⟨x, rfl, hk⟩ := hx.one
  exact ⟨x, d, ds, pd, pds, _, rfl, akD_of e hk, hs, few, kk _ _ _ _ q ⟨r, .str _⟩ .refl trivial⟩
/-- repr([a, ..]), at most four parts -/
theorem ed_reprL (hgu : c.A.guards = some []) (hu : c.A.units + 64 < cLine) (hg : ∀ i, Gl (mkX c (v i)) "repr") (hm : c.mg "repr" = none) (he : NoStar v a []) (h : EK c v S a Γ fun k Γ1 => ∃ d ds pd pds, akD Γ1 k = some (.lst (d :: ds)) ∧ ShowsL (d :: ds) (pd :: pds) ∧ PyData.bulkAll (pd :: pds) ≤ 8000 ∧ Q (.dt (.str (PyData.list (pd :: pds)).shown)) Γ1) : ED c v S (.Call (.Name "repr" p) [a] [] pos) Γ Q :=
  ed_callB (fun i => (show CallR (mkX c (v i)) (.builtin "repr") (rReprL c.K) from call_reprL hgu hu)) cb_reprL hg hm (by decide +kernel) (by decide) (by decide) he (fun _ => rfl) (ea1 he fun σ H R r kk => h σ H R r fun x H' k Γ' ⟨d, ds, pd, pds, e, hs, few, q⟩ => kk x H' k Γ' ⟨k, d, ds, pd, pds, rfl, e, hs, few, q⟩)
end
end DL

/-! two names set at once -/
namespace DL
open PySem PySem.Spec
open PyProof.Rows L2
section
variable {c : Core} {ι : Type} {v : ι → Var} {S : Ent} {Γ : List AV} {D : DE} {e tg : Expr} {pos : Pos}
/-- a, b = e, the parts unpacked in turn -/
theorem sd_unp (W : List Nat) (sole : ∀ i, swapsWithSole [tg] e pos.line (v i).env = pure false) (plain : ∀ i, swappedStores [tg] e (v i).env = pure none) (one : ∀ i, (assignEach [tg] (v i).env).map (·.2) = [assign tg (v i).env])
    (h : ED c v S e Γ fun a Γ1 => ∃ d, a = .dt d ∧ GD c v S tg d W Γ1 D.nx) : SD c v S (.Assign [tg] e pos) D Γ := fun E σ H L r =>
  ⟨_, fun i => ps_asg (wE.pe i) (wG.pg i) (sole i) (plain i) (one i), h σ H _ r fun x H1 a Γ1 ⟨d, ea, g⟩ res _ _ => by
    subst ea
    exact g σ H1 x _ res.rs (res.rpa) fun σ' Γ' q r' _ _ => L.nx _ _ _ q r'⟩
end
section
variable {Y : Cx} {k : Nat} {f : Addr} {fd : FuncData} {x : Str} {p pos : Pos}
theorem pe_call0 {sp : Sp} (F : FnG Y.prog Y.w Y.K Y.mg Y.base k f fd [] sp) (hr : Room k Y.A) (hgu : Y.A.guards = some []) (hg : Gl Y x) (hm : Y.mg x = some (.ref f)) (hk : PySem.W.keepIn Y.K (.ref f) = true) (hb : Binds Y.K fd [] []) (hdb : (x == ("__debug__" : Str)) = false) :
    PE Y (.Call (.Name x p) [] [] pos) (fun σ H R => sp [] H R E0) where
  run pins s σ H R I given := by
    refine wpAny_Call_Name_kw (ld_glob I hg hm (PySem.W.callWith_K0 I.kIn hk ?_) hdb)
    have bound := hb s [] I.kIn rfl
    exact wpAny_call (codeAny_mono (runG F hr hgu bound I .nil given) fun res s' done => match res, done with
      | .ok (.ret _), done => done
      | .ok .next, no => no.elim
      | .ok .brk, no => no.elim
      | .ok .cont, no => no.elim
      | .error _, no => no.elim)
variable {c : Core} {ι : Type} {v : ι → Var} {S : Ent} {Γ : List AV} {Q : AV → List AV → Prop} {DS : DSp}
/-- f() -/
theorem ed_call0 (F : FnG c.prog c.w c.K c.mg c.base k f fd [] (spD c.K DS)) (hr : Room k c.A) (hgu : c.A.guards = some []) (hg : ∀ i, Gl (mkX c (v i)) x) (hm : c.mg x = some (.ref f)) (hk : PySem.W.keepIn c.K (.ref f) = true) (hb : Binds c.K fd [] []) (hdb : (x == ("__debug__" : Str)) = false)
    (h : DS [] fun a _ => Q a Γ) : ED c v S (.Call (.Name x p) [] [] pos) Γ Q := fun σ H R r kk => by
  refine ⟨_, fun i => pe_call0 (Y := mkX c (v i)) F hr hgu (hg i) hm hk hb hdb, ?_⟩
  refine ⟨[], _, _, h, call_in (as := []) (avs := []) r trivial rfl rfl, fun y H2 a as' q res => ?_⟩
  have few : as' = [] := List.length_eq_zero_iff.mp res.rs.lenΓ
  subst few
  obtain ⟨z1, z2, z3⟩ := call_out (xs := []) (as := []) (avs := []) r trivial rfl rfl res
  have same : backA Γ [] [] = Γ := rfl
  rw [same] at z1 z2
  exact kk _ _ _ _ q z1 z2 (by simpa using z3)
end
end DL

/-! exceptions made as values -/
namespace DL
open PySem PySem.Spec
open PyProof.Rows L2
theorem pe_exc0 {Y : Cx} {x : Str} {p pos : Pos} {C : Addr} (O : OwnExc Y.K Y.mg x C) (hg : Gl Y x) (hdb : (x == ("__debug__" : Str)) = false) : PE Y (.Call (.Name x p) [] [] pos) (fun _ H Q => ∀ a, H a = none → Q (.ref a) (upd H a (ExO (.ref C) a))) where
  run pins s σ H Q I given := by
    refine wpAny_Call_Name_kw (ld_glob I hg O.named (PySem.W.callWith_K0 I.kIn O.kept ?_) hdb)
    obtain ⟨bm, N, nm, qn, bs, hdct, sn, sub, ab, col, dd, k0, k1, k2, k3, k5, mN, hC, hN, hni, T⟩ := exc_obj I.kIn O.made
    show wpAny _ _ (call (.ref C) []) _ _ _
    refine wpAny_call_exc_subT PySem.F.excBase_ValueError T hC hN hni (fun h' a made => ?_) (Nat.zero_le _)
    have free := I.hok.gone made.new
    obtain ⟨t, at_a, _, _⟩ := made.there
    exact ⟨.ref a, upd H a (ExO (.ref C) a), I.laidN made.keeps made.new free (exO_ok at_a ⟨rfl, rfl⟩ rfl rfl rfl (show 4 < 6 by decide)), rfl, given a free⟩
section
variable {c : Core} {ι : Type} {v : ι → Var} {S : Ent} {Γ : List AV} {Q : AV → List AV → Prop} {x : Str} {p pos : Pos}
/-- C(), a new exception as a value -/
theorem ed_exc0 {C : Addr} (O : OwnExc c.K c.mg x C) (hg : ∀ i, Gl (mkX c (v i)) x) (hdb : (x == ("__debug__" : Str)) = false) (q : Q (.dt (.obj (ExO (.ref C)))) Γ) : ED c v S (.Call (.Name x p) [] [] pos) Γ Q := fun σ H R r kk =>
  ⟨_, fun i => pe_exc0 (Y := mkX c (v i)) O (hg i) hdb, fun a free => by
    have new := r.new free
    refine kk _ _ _ _ q ⟨(r.alloc free).no, .obj upd_same ?_⟩ (Step.refl.alloc free) trivial
    rintro (z | z | z)
    · exact new.1 z
    · exact new.2.1 z
    · exact z⟩
end
end DL

/-! exceptions with attributes, as values: made, read (in the library's terms; the layer has no rule of them yet) -/
namespace DL
open PySem PySem.Spec
open PyProof.Rows L2
/-- e.f, e a tracked exception with a dict -/
def tExf (C : Addr) (f : Str) (te : TE) : TE := fun σ H Q => te σ H fun x H1 => ∃ (a d : Addr) (fs : List (Str × V)) (y : V), x = .ref a ∧ H1 a = some (exo a C (some d)) ∧ H1 d = some (exd d fs) ∧ fs.lookup f = some y ∧ Q y H1
theorem pe_exf {X : Cx} {C : Addr} {e : Expr} {te : TE} {pos : Pos} {f : Str} (T : XfC X.K C) (none_of : PySem.W.findIn X.K (.ref C) f = some none) (he : PE X e te) (base : attributeBase e f X.env (eval e X.env) = eval e X.env) : PE X (.Attribute e f pos) (tExf C f te) where
  run pins s σ H Q I given := by
    refine attr_of base (thn (he.run pins s σ H _ I given) fun u s1 got => ?_)
    obtain ⟨x, H1, I1, rel, a, d, fs, y, rfl, at_a, at_d, field, q⟩ := got
    cases (show u = Value.ref a from rel)
    obtain ⟨t1, here⟩ := exo_at I1.hok at_a
    obtain ⟨mA, ns, vals⟩ := exd_at I1.hok at_d
    obtain ⟨od, ho, look⟩ := lookIn_ns ns
    obtain ⟨w, hw, rw'⟩ := RelO.some_of (v := y) (o := mA f) (by rw [← field]; exact vals f)
    have inst : PySem.W.InstAt s1.heap a _ C (some od) := ⟨here, rfl, rfl, ho⟩
    exact HandSPX.exc_get I1.kIn inst T.ga T.gg T.exC (PySem.W.findObj_own T.hdC none_of rfl (by rw [look, hw])) (handed_of rw') ⟨y, H1, I1.tok _, rw', q⟩
/-- C(e, ..), C with an own __init__: a new exception as a value -/
def tExa (C : Addr) (sp : Sp) (ta : TA) : TE := fun σ H Q => ta σ H fun vs H1 => vs.length ≤ 1000 ∧ ∀ a, H1 a = none → sp (.ref a :: vs) (upd H1 a (exo a C none)) (fun v H2 => v = .non ∧ Q (.ref a) H2) E0
theorem pe_exa {Y : Cx} {x : Str} {C fI : Addr} {k : Nat} {fd : FuncData} {ps : List Str} {sp : Sp} {e : Expr} {es : List Expr} {ta : TA} {p pos : Pos} (T : OexC Y.K C) (init : PySem.W.findIn Y.K (.ref C) "__init__" = some (some (.ref fI))) (fn : PySem.W.typeIn Y.K (.ref fI) = some (.type "function"))
    (F : FnG Y.prog Y.w Y.K Y.mg Y.base k fI fd ps sp) (hr : Room (k + 1) Y.A) (hgu : Y.A.guards = some []) (hb : Binds Y.K fd ps []) (hg : Gl Y x) (hm : Y.mg x = some (.ref C)) (ha : PA Y (e :: es) ta)
    (hdb : (x == ("__debug__" : Str)) = false) (he : starEach (e :: es) Y.env = (false, eval e Y.env) :: starEach es Y.env) (hpl : (backTo pos (starEach es Y.env)).any (·.1) = false) :
    PE Y (.Call (.Name x p) (e :: es) [] pos) (tExa C sp ta) where
  run pins s σ H Q I given := by
    obtain ⟨nm, q, N, bs, bm, sn, sub, ab, col, dd, k0, k1, k2, k3, k5, hC, hbm⟩ := T.cls; refine wpAny_Call_Name_kw (ld_glob I hg hm (PySem.W.callWith_K (h₀ := Y.base) I.ok.mod.kin T.kC (thn (ha.run pos pins s σ H _ I given) fun us s1 got => ?_) he hpl) hdb)
    obtain ⟨vs, H1, I1, rel, few, next⟩ := got
    refine ⟨I1.kIn, ?_⟩; obtain ⟨hp, g, dr, tk, os⟩ := s1
    -- the new object, as yet without a dict
    generalize new : hp.objs.size + 1 = a
    have free : H1 a = none := I1.hok.fresh (by rw [← new]; exact Nat.le_succ _)
    have kept : ∀ b o, hp.get? b = some o → ((hp.push (PySem.W.kdv_tup us)).push (PySem.HandSPX.excO C hp.objs.size)).get? b = some o := fun b o z => Heap.get?_push_of_some _ (Heap.get?_push_of_some _ z)
    have there : ((hp.push (PySem.W.kdv_tup us)).push (PySem.HandSPX.excO C hp.objs.size)).get? a = some (PySem.HandSPX.excO C hp.objs.size) := by
      rw [← new]
      heap_get
    have I2 : Inv Y pins σ (upd H1 a (exo a C none)) ⟨(hp.push (PySem.W.kdv_tup us)).push (PySem.HandSPX.excO C hp.objs.size), g, dr, tk, os⟩ :=
      I1.laid (t' := tk) (a := a) (o := exo a C none) kept (by rw [← new]; exact Nat.le_succ _) (exo_ok there)
    have todo := next a free
    have rel2 : Vals (V.ref a :: vs) (Value.ref a :: us) := .cons rfl rel
    have many : ((Value.ref a :: us) ++ ([] : List Value)).length = ps.length := by
      rw [List.append_nil, ← rel2.length]
      exact F.len _ _ _ _ todo
    have bound := hb _ (Value.ref a :: us) I2.kIn many
    rw [List.append_nil] at bound
    have short : us.length ≤ sizeLine := by
      rw [← Paired.length rel, sizeLine_eq]
      omega
    refine wpAny_call (PySem.HandSPX.call_own PySem.F.excBase_ValueError (fun Z => PySem.HandSPX.refsVE_contains Z bm hbm) (I1.kIn _ _ hC) (PySem.W.looks_findIn I1.kIn init) (fun self => PySem.W.bind_fn I1.kIn self fn) short ?_)
    rw [new]
    refine codeAny_mono (F.run _ Y.stack _ _ ⟨Value.ref a :: us, []⟩ _ _ _ (hr.make C us []) hgu (I2.env0.make C us []) bound rel2 todo) fun res s' done => ?_
    match res, done with
    | .ok (.ret u), done =>
      obtain ⟨v, H3, I3, rv, ev, fin⟩ := I2.after done
      subst ev
      exact ⟨rv, .ref a, H3, I3, rfl, fin⟩
    | .ok .next, no => exact no.elim
    | .ok .brk, no => exact no.elim
    | .ok .cont, no => exact no.elim
    | .error _, no => exact no.elim
end DL

/-! exceptions with attributes in the layer -/
namespace DL
open PySem PySem.Spec
open PyProof.Rows L2
/-- values that need no place -/
def Dt.flat : Dt → Option V
  | .int i => some (.int i)
  | .non => some .non
  | _ => none
theorem flat_of {K : PySem.W.Frag} {H : Hp} {ex : AP} {x y : V} {d : Dt} (e : d.flat = some y) (q : Rp K H ex x d) : x = y := by
  cases d with
  | int i => cases e; cases q; rfl
  | non => cases e; cases q; rfl
  | _ => cases e
theorem flat_rp {K : PySem.W.Frag} {H : Hp} {ex : AP} {y : V} {d : Dt} (e : d.flat = some y) : Rp K H ex y d := by
  cases d with
  | int i => cases e; exact .int i
  | non => cases e; exact .non
  | _ => cases e
/-- __init__ with one field, with two -/
def spI1 (K : PySem.W.Frag) (f : Str) : Sp := fun vs H Q _ => ∃ (a C : Addr) (y : V), vs = [.ref a, y] ∧ OexC K C ∧ PySem.W.findIn K (.ref C) f = some none ∧ H a = some (exo a C none) ∧ ∀ dx, H dx = none → dx ≠ a → Q .non (upd (upd H dx (exd dx [(f, y)])) a (exo a C (some dx)))
def spI2 (K : PySem.W.Frag) (f g : Str) : Sp := fun vs H Q _ => ∃ (a C : Addr) (y z : V), vs = [.ref a, y, z] ∧ OexC K C ∧ PySem.W.findIn K (.ref C) f = some none ∧ PySem.W.findIn K (.ref C) g = some none ∧ H a = some (exo a C none) ∧
  ∀ dx, H dx = none → dx ≠ a → Q .non (upd (upd (upd H dx (exd dx [(f, y)])) a (exo a C (some dx))) dx (exd dx [(g, z), (f, y)]))
theorem two_news {H : Hp} {a d : Addr} {o o' u : HO} (n : d ≠ a) : upd (upd (upd H a o) d u) a o' = upd (upd H a o') d u := by
  funext b
  by_cases h : b = a
  · subst h
    rw [upd_same, upd_ne (Ne.symm n), upd_same]
  · rw [upd_ne h]
    by_cases k : b = d
    · subst k
      rw [upd_same, upd_same]
    · rw [upd_ne k, upd_ne k, upd_ne h, upd_ne h]
section
variable {c : Core} {ι : Type} {v : ι → Var} {S : Ent} {Γ : List AV} {Q : AV → List AV → Prop} {e : Expr} {x : Str} {p pos : Pos}
/-- e.f of an exception -/
theorem ed_exf {C : Addr} {f : Str} (T : XfC c.K C) (no_f : PySem.W.findIn c.K (.ref C) f = some none) (base : ∀ i, attributeBase e f (v i).env (eval e (v i).env) = eval e (v i).env)
    (h : EK c v S e Γ fun k Γ1 => ∃ fs y d, akD Γ1 k = some (.exa C fs) ∧ fs.lookup f = some y ∧ d.flat = some y ∧ Q (.dt d) Γ1) : ED c v S (.Attribute e f pos) Γ Q := fun σ H R r kk => by
  refine ⟨_, fun i => pe_exf (X := mkX c (v i)) T no_f (wE.pe i) (base i), h σ H _ r fun z H1 k Γ1 ⟨fs, y, d, ek, l, fl, q⟩ r1 hk s => ?_⟩
  cases akD_of ek hk with
  | exa at_a _ at_d _ => exact ⟨_, _, fs, y, rfl, at_a, at_d, l, kk _ _ _ _ q ⟨r1, flat_rp fl⟩ s trivial⟩
/-- C(e), C with one field -/
theorem ed_exa1 {C fI : Addr} {k : Nat} {fd : FuncData} {ps : List Str} {f : Str} (T : OexC c.K C) (init : PySem.W.findIn c.K (.ref C) "__init__" = some (some (.ref fI))) (fn : PySem.W.typeIn c.K (.ref fI) = some (.type "function")) (no_f : PySem.W.findIn c.K (.ref C) f = some none)
    (F : FnG c.prog c.w c.K c.mg c.base k fI fd ps (spI1 c.K f)) (hr : Room (k + 1) c.A) (hgu : c.A.guards = some []) (hb : Binds c.K fd ps []) (hg : ∀ i, Gl (mkX c (v i)) x) (hm : c.mg x = some (.ref C)) (hdb : (x == ("__debug__" : Str)) = false) (he : NoStar v e []) (hpl : NoStarL v pos [])
    (h : EK c v S e Γ fun k Γ1 => ∃ d y, akD Γ1 k = some d ∧ d.flat = some y ∧ Q (.dt (.exa C [(f, y)])) Γ1) : ED c v S (.Call (.Name x p) [e] [] pos) Γ Q := fun σ H R r kk => by
  refine ⟨_, fun i => pe_exa (Y := mkX c (v i)) (ta := tCons (wE c v e) tNil) T init fn F hr hgu hb (hg i) hm (pa_cons (wE.pe i) pa_nil (he i)) hdb (he i) (hpl i), ?_⟩
  refine h σ H _ r fun z H1 k Γ1 ⟨d, y, ek, fl, q⟩ r1 hk s => ?_
  have same : z = y := flat_of fl (akD_of ek hk)
  subst same
  refine ⟨(show 1 ≤ 1000 by decide), fun a free => ⟨a, C, z, rfl, T, no_f, upd_same, fun dx fd nd => ⟨rfl, ?_⟩⟩⟩
  rw [two_news nd]
  have free2 : (upd H1 a (exo a C (some dx))) dx = none := by
    rw [upd_ne nd] at fd ⊢
    exact fd
  have n1 := r1.new free
  have r2 := (r1.alloc (o := exo a C (some dx)) free).no
  have n2 := r2.new free2
  have r3 := (r2.alloc (o := exd dx [(f, z)]) free2).no
  refine kk _ _ _ _ q ⟨r3, .exa (by rw [upd_ne (Ne.symm nd), upd_same]) ?_ upd_same ?_⟩ ((s.alloc free).alloc free2) trivial
  · rintro (w | w | w)
    · exact n1.1 w
    · exact n1.2.1 w
    · exact w
  · rintro (w | w | w)
    · exact n2.1 w
    · exact n2.2.1 w
    · exact w
end
end DL

/-! a def's promise in the library's own terms; __init__ of an exception class -/
namespace DL
open PySem PySem.Spec
open PyProof.Rows L2
theorem FnG.raw {P : Program} {w : World} {K : PySem.W.Frag} {mg : Str → Option Value} {base : Heap} {x qual : Str} {st : Stmt} {f : Addr} {fd : FuncData} {N ps : List Str} {k : Nat} {sp : Sp} (F : Fun K x qual st f fd) (SC : FnScope N ps (defScope st)) (len : ∀ as G Q E, sp as G Q E → as.length = ps.length)
    (body : ∀ (cdv : Value) (A : Around) (outer : List Env) (s : Shared) (H : Hp) (vs : List V) (Q : VK), sp vs H Q E0 → ∃ t, PSs (mkX (coreOf P w K mg base (A.deeper (envOfC qual (defScope st) s.heap.objs.size f cdv)) N (envOfC qual (defScope st) s.heap.objs.size f cdv :: outer)) (varOf s H (envOfC qual (defScope st) s.heap.objs.size f cdv) outer ())) (defBody st) t ∧
      t { nx := fun _ G => Q .non G, rt := Q } (start N vs) H) : FnG P w K mg base (k + 1) f fd ps sp := by
  obtain ⟨oc, od, kV, doc, pm, an, cdv, ct, osl, rfl, lk, code⟩ := F.ex
  refine ⟨len, fun A outer s H args us vs Q hr hgu e0 hb rv h => ?_⟩
  have ln : vs.length = ps.length := len _ _ _ _ h
  have inK : K.In s.heap := e0.mod.kin.keeps fun b o z => (e0.bs b o z).1
  have nolim : s.heap.NoLimit := e0.mod.nolimit.keeps fun b o z => (e0.bs b o z).1
  have kinds : ∀ y ∈ ps.zip us, (defScope st).names.lookup y.1 = some .local ∨ ((defScope st).names.lookup y.1 = some .cell ∧ ((cellsFrom (s.heap.objs.size + 1) (defScope st).names []).lookup y.1).isSome = true) := fun y hy =>
    (SC.par y.1 (List.of_mem_zip hy).1).imp id fun z => ⟨z, PySem.W.cellsFrom_some _ _ _ (.inl z)⟩
  refine codeAny_call_function hr.depth (inK _ _ lk) rfl SC.co SC.gen rfl (PySem.W.codeRec_of inK code) (hb _ _ _ _ (wpAny_newFunctionEnv_cells SC.kind kinds fun env henv s1 ic => ?_))
  subst henv
  refine ⟨nolim.keeps ic.toInCall.keep, codeAny_func ?_⟩
  have I0 : Inv (cxOf CX0 P w K mg base N qual (defScope st) f cdv A outer s H E0) [] (start N vs) H s1 := inv_start SC hr.hd e0 ln rv ic
  have I1 : Inv (mkX (coreOf P w K mg base (A.deeper (envOfC qual (defScope st) s.heap.objs.size f cdv)) N (envOfC qual (defScope st) s.heap.objs.size f cdv :: outer)) (varOf s H (envOfC qual (defScope st) s.heap.objs.size f cdv) outer ())) [] (start N vs) H s1 := I0.wish _
  obtain ⟨t, runs, given⟩ := body cdv A outer s H vs Q h
  refine wpAny_mono (runs.run [] s1 (start N vs) H _ I1 given) (fun fl s' hs => ?_) fun e s' no => no.elim
  match fl, hs with
  | .ret u, ⟨z, σ', G, J, rel, q⟩ => exact ⟨z, G, J.os, J.bare, J.base, J.hok, rel, q⟩
  | .next, ⟨σ', G, J, q⟩ => exact ⟨.non, G, J.os, J.bare, J.base, J.hok, rfl, q⟩
  | .brk, ⟨_, _, _, no⟩ => exact no.elim
  | .cont, ⟨_, _, _, no⟩ => exact no.elim
section
variable {P : Program} {w : World} {K : PySem.W.Frag} {mg : Str → Option Value} {base : Heap} {x qual : Str} {st : Stmt} {fI : Addr} {fd : FuncData} {f g : Str} {p1 p2 p3 p4 p5 p6 pos pos2 : Pos}
/-- def __init__(self, f): self.f = f -/
theorem init1 (F : Fun K x qual st fI fd) (SC : FnScope ["self", f] ["self", f] (defScope st)) (text : defBody st = [.Assign [.Attribute (.Name "self" p1) f p2] (.Name f p3) pos])
    (vis0 : Vis (defScope st) "self") (vis1 : Vis (defScope st) f) (d1 : (f == ("__debug__" : Str)) = false) (d2 : (f == ("__classdict__" : Str)) = false) : FnG P w K mg base 1 fI fd ["self", f] (spI1 K f) :=
  FnG.raw F SC (fun vs H Q E h => by obtain ⟨_, _, _, rfl, _⟩ := h; rfl) fun cdv A outer s H vs Q h => by
    obtain ⟨a, C, y, rfl, T, no_f, at_a, next⟩ := h
    rw [text]
    refine ⟨_, pss_one (ps_ost (pe_var (i := 0) rfl vis0) (pe_var (i := 1) rfl vis1 d1 d2)), ?_⟩
    exact ⟨y, rfl, .ref a, rfl, a, C, rfl, T, no_f, .inl ⟨at_a, fun dx fd nd => next dx fd nd⟩⟩
/-- def __init__(self, f, g): self.f = f; self.g = g -/
theorem init2 (F : Fun K x qual st fI fd) (SC : FnScope ["self", f, g] ["self", f, g] (defScope st)) (text : defBody st = [.Assign [.Attribute (.Name "self" p1) f p2] (.Name f p3) pos, .Assign [.Attribute (.Name "self" p4) g p5] (.Name g p6) pos2])
    (vis0 : Vis (defScope st) "self") (vis1 : Vis (defScope st) f) (vis2 : Vis (defScope st) g) (d1 : (f == ("__debug__" : Str)) = false) (d2 : (f == ("__classdict__" : Str)) = false) (d3 : (g == ("__debug__" : Str)) = false) (d4 : (g == ("__classdict__" : Str)) = false) : FnG P w K mg base 1 fI fd ["self", f, g] (spI2 K f g) :=
  FnG.raw F SC (fun vs H Q E h => by obtain ⟨_, _, _, _, rfl, _⟩ := h; rfl) fun cdv A outer s H vs Q h => by
    obtain ⟨a, C, y, z, rfl, T, no_f, no_g, at_a, next⟩ := h
    rw [text]
    refine ⟨_, pss_cons (ps_ost (pe_var (i := 0) rfl vis0) (pe_var (i := 1) rfl vis1 d1 d2)) (pss_one (ps_ost (pe_var (i := 0) rfl vis0) (pe_var (i := 2) rfl vis2 d3 d4))), ?_⟩
    refine ⟨y, rfl, .ref a, rfl, a, C, rfl, T, no_f, .inl ⟨at_a, fun dx fd nd => ?_⟩⟩
    exact ⟨z, rfl, .ref a, rfl, a, C, rfl, T, no_g, .inr ⟨dx, [(f, y)], upd_same, by rw [upd_ne nd, upd_same], (show 1 ≤ 900 by decide), next dx fd nd⟩⟩
end
end DL

/-! an own exception class called with keywords -/
namespace DL
open PySem PySem.Spec PySem.HandSPX
open PyProof.Rows L2
section
variable {M : Model}
variable {A : Around}
variable {E : Value → Shared → Prop} {h : Heap} {g : Array GenState} {d : Drawn} {t : Nat} {os : OsState}
variable {nm q : Str} {C N : Addr}
variable {bs bm bmB : List Value} {hdct : Bool} {sn : List Str} {sub : List Value} {ab : Bool} {col : Option Bool} {dd : Option Addr} {k0 k1 k2 k3 k5 : Option Value} {B newId initId : String}
theorem new_checked (F : ExcBaseFacts B newId initId bmB) (known : ∀ X : String, bm.contains (.type X) = bmB.contains (.type X)) {kw : List (Str × Value)} {Q : Unit → Shared → Prop}
    (at_C : h.get? C = some (excClassObj nm q C N bs bm hdct sn sub ab col dd k0 k1 k2 k3 k5 newId)) (done : Q () ⟨h, g, d, t, os⟩) : wpAny M A (checkBuiltinCall newId ⟨[.ref C], kw⟩) Q E ⟨h, g, d, t, os⟩ := by
  have has : (Value.ref C :: bm).contains (.type B) = true := by rw [List.contains_cons, known, F.hasB, Bool.or_true]
  have star := F.noStar
  simp only [F.newKind, F.newSplit, F.newRow, checkBuiltinCall]
  repeat (first | refine wpAny_loadPart_at at_C ?_ | (refine wpAny_isSubtype_exc at_C ?_; rw [has]) | refine wpAny_staticBase_exc at_C ?_ | refine wpAny_madeBy_exc at_C ?_ | simp only [bne_self_eq_false, Bool.false_eq_true, if_false] | wp_step)
  exact done
end
section
variable {prog : Program}
variable {w : World}
variable {A : Around} {E : Value → Shared → Prop} {R : Result → Shared → Prop} {h : Heap} {g : Array GenState} {d : Drawn} {t : Nat} {os : OsState}
variable {nm q : Str} {C N : Addr}
variable {bs bm bmB : List Value} {hdct : Bool} {sn : List Str} {sub : List Value} {ab : Bool} {col : Option Bool} {dd : Option Addr} {k0 k1 k2 k3 k5 : Option Value} {B newId initId : String}
theorem new_made (F : ExcBaseFacts B newId initId bmB) (known : ∀ X : String, bm.contains (.type X) = bmB.contains (.type X)) {kw : List (Str × Value)}
    (at_C : h.get? C = some (excClassObj nm q C N bs bm hdct sn sub ab col dd k0 k1 k2 k3 k5 newId))
    (done : R (.ok (.ret (.ref (h.objs.size + 1)))) ⟨(h.push (PySem.W.kdv_tup [])).push (excO C h.objs.size), g, d, t, os⟩) : codeAny (model prog w) A (.builtin newId ⟨[.ref C], kw⟩) R ⟨h, g, d, t, os⟩ := by
  have ends := F.ends
  have hasB : (Value.ref C :: bm).contains (.type B) = true := by rw [List.contains_cons, known, F.hasB, Bool.or_true]
  have hasA : (Value.ref C :: bm).contains (.type "AttributeError") = false := by rw [List.contains_cons, known, F.noAttr]; rfl
  have hasN : (Value.ref C :: bm).contains (.type "NameError") = false := by rw [List.contains_cons, known, F.noName]; rfl
  have short : ([] : List Value).length ≤ sizeLine := Nat.zero_le _
  refine codeAny_builtinAt F.entry ?_; unfold Builtin.«BaseException.__new__»
  refine PySem.wpAt_bind ?_
  refine (show PySem.wpAt _ _ _ (stack >>= _) _ _ _ from PySem.wpAt_bind (PySem.wpAt_stack fun p below => PySem.wpAt_of_wpAny ?_))
  wp_walk
  refine PySem.wpAt_of_wpAny ?_
  rw [F.owner]
  repeat (first | with_reducible refine wpAny_madeHere_exc F.canon at_C ?_ | with_reducible refine wpAny_loadPart_at at_C ?_ | (with_reducible refine wpAny_isSubtype_exc at_C ?_; first | rw [hasB] | rw [hasA] | rw [hasN]) | wp_step)
  refine (show R _ _ from ?_)
  rw [Heap.size_push]
  exact done
theorem type_called (F : ExcBaseFacts B newId initId bmB) (known : ∀ X : String, bm.contains (.type X) = bmB.contains (.type X)) {kw : List (Str × Value)} {fI : Addr} {Q : Fin → Shared → Prop}
    (at_C : h.get? C = some (excClassObj nm q C N bs bm hdct sn sub ab col dd k0 k1 k2 k3 k5 newId))
    (init : PySem.W.Looks (model prog w) h (typeLookup (.ref C) "__init__") (some (.ref fI))) (bound : ∀ self, PySem.W.Looks (model prog w) h (bindSpecial (.ref fI) self) (.ref fI, [self]))
    (run : codeAny (model prog w) A (.call (.ref fI) ⟨[.ref (h.objs.size + 1)], kw⟩)
      (fun res s' => match res with | .ok (.ret v) => v = .none ∧ Q (.done (.ret (.ref (h.objs.size + 1)))) s' | .ok _ => False | .error e => E e s')
      ⟨(h.push (PySem.W.kdv_tup [])).push (excO C h.objs.size), g, d, t, os⟩) :
    wpAny (model prog w) A (Builtin.«type.__call__» ⟨[.ref C], kw⟩) Q E ⟨h, g, d, t, os⟩ := by
  repeat (first | with_reducible refine wpAny_loadPart_at at_C ?_ | with_reducible refine wpAny_madeBy_exc at_C ?_ | wp_step)
  refine codeAny_call_builtin_code (Code.quiet_builtin _ F.quiet) (new_checked F known at_C (new_made F known at_C ?_))
  refine (show wpAny _ _ _ _ _ _ from ?_)
  have kept : ∀ b o, h.get? b = some o → ((h.push (PySem.W.kdv_tup [])).push (excO C h.objs.size)).get? b = some o := fun b o z => Heap.get?_push_of_some _ (Heap.get?_push_of_some _ z)
  have at_C2 := kept _ _ at_C
  have there : ((h.push (PySem.W.kdv_tup [])).push (excO C h.objs.size)).get? (h.objs.size + 1) = some (excO C h.objs.size) := by heap_get
  have self_in : (Value.ref C :: bm).contains (.ref C) = true := by simp
  have init2 := init.keeps kept
  have bound2 := (bound (.ref (h.objs.size + 1))).keeps kept
  unfold isInstance
  repeat (first | with_reducible refine wpAny_loadPart_at there ?_ | (with_reducible refine wpAny_isSubtype_exc at_C2 ?_; rw [self_in]) | wp_step)
  refine (show wpAny _ _ (typeLookup (.ref C) _) _ _ _ from init2.at (wpAny_holding (wpAny_bind (bound2.at (wpAny_bind (wpAny_call (codeAny_mono run fun r s' z => ?_)))))))
  rcases r with e | (v | _ | _ | _) <;> first | exact z | exact z.elim | skip; obtain ⟨rfl, z⟩ := z
  first
    | exact (wpAny_pure (wpAny_pure z))
    | (wp_walk; exact z)
theorem called (F : ExcBaseFacts B newId initId bmB) (known : ∀ X : String, bm.contains (.type X) = bmB.contains (.type X)) {kw : List (Str × Value)} {fI : Addr}
    (at_C : h.get? C = some (excClassObj nm q C N bs bm hdct sn sub ab col dd k0 k1 k2 k3 k5 newId))
    (init : PySem.W.Looks (model prog w) h (typeLookup (.ref C) "__init__") (some (.ref fI))) (bound : ∀ self, PySem.W.Looks (model prog w) h (bindSpecial (.ref fI) self) (.ref fI, [self]))
    (run : codeAny (model prog w) (A.under (.builtin "type.__call__" ⟨[.ref C], kw⟩)) (.call (.ref fI) ⟨[.ref (h.objs.size + 1)], kw⟩) (PySem.W.InitBack (h.objs.size + 1) R)
      ⟨(h.push (PySem.W.kdv_tup [])).push (excO C h.objs.size), g, d, t, os⟩) :
    codeAny (model prog w) A (.call (.ref C) ⟨[], kw⟩) R ⟨h, g, d, t, os⟩ := by
  have look := tc_lookup
  have bind := tc_bind (.ref C)
  have isT : (⟨h, g, d, t, os⟩ : Shared).TypeIs (.ref C) "type" := ⟨_, at_C, rfl⟩
  refine codeAny_of_tree (show wpAny _ _ (callAny (.ref C) _) _ _ _ from ?_)
  repeat (any_goals (first | assumption | with_reducible refine wpAny_loadPart_at at_C ?_ | wp_step))
  refine ⟨rfl, ?_⟩
  refine codeAny_call_builtin_at (Code.quiet_builtin _ (by decide +kernel)) entry_typeCall (wpAny_check_type_call_sub at_C (type_called F known at_C init bound (codeAny_mono run fun r s' z => ?_)))
  rcases r with e | (v | _ | _ | _) <;> exact (z)
end
end DL

/-! exceptions with attributes made by keywords, with two fields -/
namespace DL
open PySem PySem.Spec
open PyProof.Rows L2
/-- a call with self given and keywords alone -/
def KwS (K : PySem.W.Frag) (fd : FuncData) (ps ks : List Str) (ord : List Nat) : Prop := ∀ (s : Shared) (self : Value) (given : List Value), K.In s.heap → given.length = ks.length → BindsTo s fd ⟨[self], ks.zip given⟩ (ps.zip (self :: pick ord given))
theorem KwS.mk {K : PySem.W.Frag} {fd : FuncData} {ps : List Str} {f : Addr} {qual x : Str} {st : Stmt} (F : Fun K x qual st f fd) {ks : List Str} {ord : List Nat} (h : ∀ (kV doc pm : Value) (an : Option Addr) (cdv ct self : Value) (given : List Value), given.length = ks.length → bindArgs (PySem.W.fnOf x qual (defArgs st) (defBody st) (defScope st) .none kV doc pm an cdv ct) ⟨[self], ks.zip given⟩ = pure (ps.zip (self :: pick ord given))) : KwS K fd ps ks ord := by
  obtain ⟨_, _, kV, doc, pm, an, cdv, ct, _, rfl, _, _⟩ := F.ex
  exact fun s self given _ few => BindsTo.of_eq (h kV doc pm an cdv ct self given few)
/-- C(k = e, ..), C with an own __init__, as a value -/
def tExaK (C : Addr) (sp : Sp) (ord : List Nat) (n : Nat) (t : TA) : TE := fun σ H Q => t σ H fun zs H1 => zs.length = n ∧ ∀ a, H1 a = none → sp (.ref a :: pick ord zs) (upd H1 a (exo a C none)) (fun v H2 => v = .non ∧ Q (.ref a) H2) E0
theorem pe_exaK {Y : Cx} {x : Str} {C fI : Addr} {k : Nat} {fd : FuncData} {ps ks : List Str} {ord : List Nat} {sp : Sp} {kws : List Keyword} {t : TA} {p pos : Pos} (T : OexC Y.K C) (init : PySem.W.findIn Y.K (.ref C) "__init__" = some (some (.ref fI))) (fn : PySem.W.typeIn Y.K (.ref fI) = some (.type "function"))
    (F : FnG Y.prog Y.w Y.K Y.mg Y.base k fI fd ps sp) (hr : Room (k + 1) Y.A) (hgu : Y.A.guards = some []) (kws_ok : KwS Y.K fd ps ks ord) (hg : Gl Y x) (hm : Y.mg x = some (.ref C)) (vals : PK Y kws t)
    (named : (backToKw pos (keywordEach kws Y.env)).all (·.1.isSome) = true) (these : (backToKw pos (keywordEach kws Y.env)).filterMap (·.1) = ks) (nodbg : (x == ("__debug__" : Str)) = false)
    (nostar : ((backTo pos (starEach [] Y.env)).any (·.1) || (backToKw pos (keywordEach kws Y.env)).any (·.1.isNone)) = false) :
    PE Y (.Call (.Name x p) [] kws pos) (tExaK C sp ord ks.length t) where
  run pins s σ H Q I given := by
    obtain ⟨nm, q, N, bs, bm, sn, sub, ab, col, dd, k0, k1, k2, k3, k5, at_C, known⟩ := T.cls
    refine wpAny_Call_Name_kw (ld_glob I hg hm (PySem.W.callWith_KW0 (h₀ := Y.base) I.ok.mod.kin T.kC named (thn (vals.run pos pins s σ H _ I given) fun ws s1 got => ?_) nostar) nodbg)
    obtain ⟨zs, H1, I1, rel, few, next⟩ := got
    refine ⟨I1.kIn, ?_⟩
    rw [these]; obtain ⟨hp, g, dr, tk, os⟩ := s1
    generalize new : hp.objs.size + 1 = a
    have free : H1 a = none := I1.hok.fresh (by rw [← new]; exact Nat.le_succ _)
    have kept : ∀ b o, hp.get? b = some o → ((hp.push (PySem.W.kdv_tup [])).push (PySem.HandSPX.excO C hp.objs.size)).get? b = some o := fun b o z => Heap.get?_push_of_some _ (Heap.get?_push_of_some _ z)
    have there : ((hp.push (PySem.W.kdv_tup [])).push (PySem.HandSPX.excO C hp.objs.size)).get? a = some (PySem.HandSPX.excO C hp.objs.size) := by
      rw [← new]
      heap_get
    have I2 : Inv Y pins σ (upd H1 a (exo a C none)) ⟨(hp.push (PySem.W.kdv_tup [])).push (PySem.HandSPX.excO C hp.objs.size), g, dr, tk, os⟩ :=
      I1.laid (t' := tk) (a := a) (o := exo a C none) kept (by rw [← new]; exact Nat.le_succ _) (exo_ok there)
    have todo := next a free
    have rel2 : Vals (V.ref a :: pick ord zs) (Value.ref a :: pick ord ws) := .cons rfl (Vals.pick rel ord)
    have bound := kws_ok ⟨(hp.push (PySem.W.kdv_tup [])).push (PySem.HandSPX.excO C hp.objs.size), g, dr, tk, os⟩ (Value.ref a) ws I2.kIn (rel.length ▸ few)
    refine wpAny_call (called PySem.F.excBase_ValueError (fun Z => PySem.HandSPX.refsVE_contains Z bm known) (I1.kIn _ _ at_C) (PySem.W.looks_findIn I1.kIn init) (fun self => PySem.W.bind_fn I1.kIn self fn) ?_)
    rw [new]
    refine codeAny_mono (F.run _ Y.stack _ _ ⟨[Value.ref a], ks.zip ws⟩ _ _ _ (hr.make C [] (ks.zip ws)) hgu (I2.env0.make C [] (ks.zip ws)) bound rel2 todo) fun res s' done => ?_
    match res, done with
    | .ok (.ret u), done =>
      obtain ⟨v, H3, I3, rv, ev, fin⟩ := I2.after done
      subst ev
      exact ⟨rv, .ref a, H3, I3, rfl, fin⟩
    | .ok .next, no => exact no.elim
    | .ok .brk, no => exact no.elim
    | .ok .cont, no => exact no.elim
    | .error _, no => exact no.elim
theorem three_news {H : Hp} {a d : Addr} {o o' u u' : HO} (n : d ≠ a) : upd (upd (upd (upd H a o) d u) a o') d u' = upd (upd H a o') d u' := by
  rw [two_news n]
  funext b
  by_cases k : b = d
  · subst k
    rw [upd_same, upd_same]
  · rw [upd_ne k, upd_ne k, upd_ne k]
section
variable {c : Core} {ι : Type} {v : ι → Var} {S : Ent} {Γ Γ1 : List AV} {Q : AV → List AV → Prop} {e e2 : Expr} {x : Str} {p pos : Pos} {C fI : Addr} {k : Nat} {fd : FuncData} {ps ks : List Str} {f g : Str}
/-- the state behind such a making -/
theorem exa_made {σ : Sg} {H H1 : Hp} {a dx : Addr} {fs : List (Str × V)} (r1 : RS c.K S no Γ1 σ H1) (s : Step Γ Γ1 σ H H1) (free : H1 a = none) (fd : (upd H1 a (exo a C none)) dx = none) (nd : dx ≠ a) :
    Res c.K S Γ1 σ (upd (upd H1 a (exo a C (some dx))) dx (exd dx fs)) (.ref a) (.dt (.exa C fs)) ∧ Step Γ Γ1 σ H (upd (upd H1 a (exo a C (some dx))) dx (exd dx fs)) := by
  have free2 : (upd H1 a (exo a C (some dx))) dx = none := by
    rw [upd_ne nd] at fd ⊢
    exact fd
  have n1 := r1.new free
  have r2 := (r1.alloc (o := exo a C (some dx)) free).no
  have n2 := r2.new free2
  have r3 := (r2.alloc (o := exd dx fs) free2).no
  refine ⟨⟨r3, .exa (by rw [upd_ne (Ne.symm nd), upd_same]) ?_ upd_same ?_⟩, (s.alloc free).alloc free2⟩
  · rintro (w | w | w)
    · exact n1.1 w
    · exact n1.2.1 w
    · exact w
  · rintro (w | w | w)
    · exact n2.1 w
    · exact n2.2.1 w
    · exact w
/-- C(e, e2), C with two fields -/
theorem ed_exa2 (T : OexC c.K C) (init : PySem.W.findIn c.K (.ref C) "__init__" = some (some (.ref fI))) (fn : PySem.W.typeIn c.K (.ref fI) = some (.type "function")) (no_f : PySem.W.findIn c.K (.ref C) f = some none) (no_g : PySem.W.findIn c.K (.ref C) g = some none)
    (F : FnG c.prog c.w c.K c.mg c.base k fI fd ps (spI2 c.K f g)) (hr : Room (k + 1) c.A) (hgu : c.A.guards = some []) (hb : Binds c.K fd ps []) (hg : ∀ i, Gl (mkX c (v i)) x) (hm : c.mg x = some (.ref C)) (hdb : (x == ("__debug__" : Str)) = false) (he : NoStar v e [e2]) (he2 : NoStar v e2 []) (hpl : NoStarL v pos [e2])
    (h : EK c v S e Γ fun k Γ1 => EK c v S e2 Γ1 fun l Γ2 => ∃ d d2 y z, akD Γ2 k = some d ∧ akD Γ2 l = some d2 ∧ d.flat = some y ∧ d2.flat = some z ∧ Q (.dt (.exa C [(g, z), (f, y)])) Γ2) : ED c v S (.Call (.Name x p) [e, e2] [] pos) Γ Q := fun σ H R r kk => by
  refine ⟨_, fun i => pe_exa (Y := mkX c (v i)) (ta := tCons (wE c v e) (tCons (wE c v e2) tNil)) T init fn F hr hgu hb (hg i) hm (pa_cons (wE.pe i) (pa_cons (wE.pe i) pa_nil (he2 i)) (he i)) hdb (he i) (hpl i), ?_⟩
  refine h σ H _ r fun z1 H1 k1 Γ1 next r1 hk1 s1 => next σ H1 _ r1 fun z2 H2 k2 Γ2 ⟨d, d2, y, z, ek, el, fl, fl2, q⟩ r2 hk2 s2 => ?_
  cases flat_of fl (akD_of ek (hk1.mono s2.keeps))
  cases flat_of fl2 (akD_of el hk2)
  refine ⟨(show 2 ≤ 1000 by decide), fun a free => ⟨a, C, _, _, rfl, T, no_f, no_g, upd_same, fun dx fd nd => ⟨rfl, ?_⟩⟩⟩
  rw [three_news nd]
  obtain ⟨res, st⟩ := exa_made (c := c) (fs := [(g, _), (f, _)]) r2 (s1.trans s2) free fd nd
  exact kk _ _ _ _ q res st trivial
/-- C(f = e), C with one field -/
theorem ed_exaK1 {kws : List Keyword} (T : OexC c.K C) (init : PySem.W.findIn c.K (.ref C) "__init__" = some (some (.ref fI))) (fn : PySem.W.typeIn c.K (.ref fI) = some (.type "function")) (no_f : PySem.W.findIn c.K (.ref C) f = some none)
    (F : FnG c.prog c.w c.K c.mg c.base k fI fd ps (spI1 c.K f)) (hr : Room (k + 1) c.A) (hgu : c.A.guards = some []) (kw_ok : KwS c.K fd ps ks [0]) (hg : ∀ i, Gl (mkX c (v i)) x) (hm : c.mg x = some (.ref C)) (hdb : (x == ("__debug__" : Str)) = false)
    (named : ∀ i, (backToKw pos (keywordEach kws (v i).env)).all (·.1.isSome) = true) (these : ∀ i, (backToKw pos (keywordEach kws (v i).env)).filterMap (·.1) = ks) (lenk : ks.length = 1) (nostar : ∀ i, ((backTo pos (starEach [] (v i).env)).any (·.1) || (backToKw pos (keywordEach kws (v i).env)).any (·.1.isNone)) = false)
    (h : EKw c v S kws Γ fun as Γ1 => ∃ k d y, as = [k] ∧ akD Γ1 k = some d ∧ d.flat = some y ∧ Q (.dt (.exa C [(f, y)])) Γ1) : ED c v S (.Call (.Name x p) [] kws pos) Γ Q := fun σ H R r kk => by
  refine ⟨_, fun i => pe_exaK (Y := mkX c (v i)) (t := wK c v kws) T init fn F hr hgu kw_ok (hg i) hm (wK.pk i) (named i) (these i) hdb (nostar i), ?_⟩
  refine h σ H _ r fun xs H1 as Γ1 ⟨k, d, y, ea, ek, fl, q⟩ r1 hx len s => ?_
  subst ea
  obtain ⟨z, rfl, hk⟩ := hx.one
  cases flat_of fl (akD_of ek hk)
  refine ⟨lenk.symm, fun a free => ⟨a, C, _, rfl, T, no_f, upd_same, fun dx fd nd => ⟨rfl, ?_⟩⟩⟩
  rw [two_news nd]
  obtain ⟨res, st⟩ := exa_made (c := c) (fs := [(f, _)]) r1 s free fd nd
  exact kk _ _ _ _ q res st trivial
/-- C(g = e2, f = e), C with two fields, the later one first -/
theorem ed_exaK2 {kws : List Keyword} (T : OexC c.K C) (init : PySem.W.findIn c.K (.ref C) "__init__" = some (some (.ref fI))) (fn : PySem.W.typeIn c.K (.ref fI) = some (.type "function")) (no_f : PySem.W.findIn c.K (.ref C) f = some none) (no_g : PySem.W.findIn c.K (.ref C) g = some none)
    (F : FnG c.prog c.w c.K c.mg c.base k fI fd ps (spI2 c.K f g)) (hr : Room (k + 1) c.A) (hgu : c.A.guards = some []) (kw_ok : KwS c.K fd ps ks [1, 0]) (hg : ∀ i, Gl (mkX c (v i)) x) (hm : c.mg x = some (.ref C)) (hdb : (x == ("__debug__" : Str)) = false)
    (named : ∀ i, (backToKw pos (keywordEach kws (v i).env)).all (·.1.isSome) = true) (these : ∀ i, (backToKw pos (keywordEach kws (v i).env)).filterMap (·.1) = ks) (lenk : ks.length = 2) (nostar : ∀ i, ((backTo pos (starEach [] (v i).env)).any (·.1) || (backToKw pos (keywordEach kws (v i).env)).any (·.1.isNone)) = false)
    (h : EKw c v S kws Γ fun as Γ1 => ∃ k l d d2 y z, as = [l, k] ∧ akD Γ1 k = some d ∧ akD Γ1 l = some d2 ∧ d.flat = some y ∧ d2.flat = some z ∧ Q (.dt (.exa C [(g, z), (f, y)])) Γ1) : ED c v S (.Call (.Name x p) [] kws pos) Γ Q := fun σ H R r kk => by
  refine ⟨_, fun i => pe_exaK (Y := mkX c (v i)) (t := wK c v kws) T init fn F hr hgu kw_ok (hg i) hm (wK.pk i) (named i) (these i) hdb (nostar i), ?_⟩
  refine h σ H _ r fun xs H1 as Γ1 ⟨k, l, d, d2, y, z, ea, ek, el, fl, fl2, q⟩ r1 hx len s => ?_
  subst ea
  obtain ⟨y1, y2, rfl, hl, hk⟩ := hx.pair
  cases flat_of fl (akD_of ek hk)
  cases flat_of fl2 (akD_of el hl)
  refine ⟨lenk.symm, fun a free => ⟨a, C, _, _, rfl, T, no_f, no_g, upd_same, fun dx fd nd => ⟨rfl, ?_⟩⟩⟩
  rw [three_news nd]
  obtain ⟨res, st⟩ := exa_made (c := c) (fs := [(g, _), (f, _)]) r1 s free fd nd
  exact kk _ _ _ _ q res st trivial
end
end DL

namespace K03
open PySem PySem.Spec PyProof.Rows L2 DL
def topS (i : Nat) : Stmt := PySem.Challenge.pw_commondays_k03_errors_of_tables.main.body.getD i (.Pass ⟨0, 0, 0, 0⟩)
abbrev s__law_dip : Stmt := topS 42
theorem sc__law_dip : FnScope ["pail", "many", "taken", "mixed"] ["pail", "many"] (defScope s__law_dip) := ⟨rfl, rfl, rfl, by decide +kernel, rfl, by decide +kernel, by decide +kernel⟩
/-! ### the law's own numbers -/
/-- a pail: digits left, a number, how many were mixed (at most n) -/
def Pail (n : Int) (ds : List Dt) : Prop := ∃ a b c : Int, ds = [.int a, .int b, .int c] ∧ 0 ≤ a ∧ b.natAbs < 2 ^ 200 ∧ 0 ≤ c ∧ c ≤ n
theorem Pail.mono {n m : Int} {ds : List Dt} (h : Pail n ds) (hm : n ≤ m) : Pail m ds := by
  obtain ⟨a, b, c, e, h1, h2, h3, h4⟩ := h
  exact ⟨a, b, c, e, h1, h2, h3, by omega⟩
def dsDip : DSp := fun as post => ∃ (n m : Int) (ds : List Dt), as = [.ow ds, .dt (.int m)] ∧ Pail n ds ∧ n ≤ 1000000000 ∧ 0 < m ∧ m ≤ 10 ^ 40 ∧ ∀ r ds', 0 ≤ r → r < m → Pail (n + 1) ds' → post (.dt (.int r)) [.ow ds', .un]
section
variable {P : Program} {w : World}
variable {K : PySem.W.Frag}
variable {mg : Str → Option Value} {base : Heap}
theorem fmod_in (x : Int) {m : Int} (h : 0 < m) : 0 ≤ x.fmod m ∧ x.fmod m < m := ⟨Int.fmod_nonneg_of_pos _ h, Int.fmod_lt_of_pos _ h⟩
theorem ok_dip {f : Addr} {fd : FuncData} (F : Fun K "_law_dip" "_law_dip" s__law_dip f fd) : FnG P w K mg base 1 f fd ["pail", "many"] (spD K dsDip) := by
  refine FnG.of F sc__law_dip (fun as post ⟨n, m, ds, e, _⟩ => by rw [e]; rfl) fun cdv A outer s H vs fo as post hr hgu hD => ?_
  obtain ⟨n, m, ds, rfl, ⟨a, b, c, rfl, ha, hb, hc, hcn⟩, hn, hm, hm2, q⟩ := hD
  have a0 : At (coreOf P w K mg base (A.deeper (envOfC "_law_dip" (defScope s__law_dip) s.heap.objs.size f cdv)) ["pail", "many", "taken", "mixed"] ((envOfC "_law_dip" (defScope s__law_dip) s.heap.objs.size f cdv) :: outer)) (varOf s H (envOfC "_law_dip" (defScope s__law_dip) s.heap.objs.size f cdv) outer) "pail" 0 := ⟨rfl, fun _ => by first | exact .inl rfl | exact .inr (.inl rfl), by decide, by decide⟩
  have s0 : AtS (coreOf P w K mg base (A.deeper (envOfC "_law_dip" (defScope s__law_dip) s.heap.objs.size f cdv)) ["pail", "many", "taken", "mixed"] ((envOfC "_law_dip" (defScope s__law_dip) s.heap.objs.size f cdv) :: outer)) (varOf s H (envOfC "_law_dip" (defScope s__law_dip) s.heap.objs.size f cdv) outer) "pail" 0 := ⟨sc__law_dip.nd, rfl, fun _ => by first | exact .inl rfl | exact .inr rfl, fun _ => .inl rfl⟩
  have a1 : At (coreOf P w K mg base (A.deeper (envOfC "_law_dip" (defScope s__law_dip) s.heap.objs.size f cdv)) ["pail", "many", "taken", "mixed"] ((envOfC "_law_dip" (defScope s__law_dip) s.heap.objs.size f cdv) :: outer)) (varOf s H (envOfC "_law_dip" (defScope s__law_dip) s.heap.objs.size f cdv) outer) "many" 1 := ⟨rfl, fun _ => by first | exact .inl rfl | exact .inr (.inl rfl), by decide, by decide⟩
  have s1 : AtS (coreOf P w K mg base (A.deeper (envOfC "_law_dip" (defScope s__law_dip) s.heap.objs.size f cdv)) ["pail", "many", "taken", "mixed"] ((envOfC "_law_dip" (defScope s__law_dip) s.heap.objs.size f cdv) :: outer)) (varOf s H (envOfC "_law_dip" (defScope s__law_dip) s.heap.objs.size f cdv) outer) "many" 1 := ⟨sc__law_dip.nd, rfl, fun _ => by first | exact .inl rfl | exact .inr rfl, fun _ => .inl rfl⟩
  have a2 : At (coreOf P w K mg base (A.deeper (envOfC "_law_dip" (defScope s__law_dip) s.heap.objs.size f cdv)) ["pail", "many", "taken", "mixed"] ((envOfC "_law_dip" (defScope s__law_dip) s.heap.objs.size f cdv) :: outer)) (varOf s H (envOfC "_law_dip" (defScope s__law_dip) s.heap.objs.size f cdv) outer) "taken" 2 := ⟨rfl, fun _ => by first | exact .inl rfl | exact .inr (.inl rfl), by decide, by decide⟩
  have s2 : AtS (coreOf P w K mg base (A.deeper (envOfC "_law_dip" (defScope s__law_dip) s.heap.objs.size f cdv)) ["pail", "many", "taken", "mixed"] ((envOfC "_law_dip" (defScope s__law_dip) s.heap.objs.size f cdv) :: outer)) (varOf s H (envOfC "_law_dip" (defScope s__law_dip) s.heap.objs.size f cdv) outer) "taken" 2 := ⟨sc__law_dip.nd, rfl, fun _ => by first | exact .inl rfl | exact .inr rfl, fun _ => .inl rfl⟩
  have a3 : At (coreOf P w K mg base (A.deeper (envOfC "_law_dip" (defScope s__law_dip) s.heap.objs.size f cdv)) ["pail", "many", "taken", "mixed"] ((envOfC "_law_dip" (defScope s__law_dip) s.heap.objs.size f cdv) :: outer)) (varOf s H (envOfC "_law_dip" (defScope s__law_dip) s.heap.objs.size f cdv) outer) "mixed" 3 := ⟨rfl, fun _ => by first | exact .inl rfl | exact .inr (.inl rfl), by decide, by decide⟩
  have s3 : AtS (coreOf P w K mg base (A.deeper (envOfC "_law_dip" (defScope s__law_dip) s.heap.objs.size f cdv)) ["pail", "many", "taken", "mixed"] ((envOfC "_law_dip" (defScope s__law_dip) s.heap.objs.size f cdv) :: outer)) (varOf s H (envOfC "_law_dip" (defScope s__law_dip) s.heap.objs.size f cdv) outer) "mixed" 3 := ⟨sc__law_dip.nd, rfl, fun _ => by first | exact .inl rfl | exact .inr rfl, fun _ => .inl rfl⟩
  show BD _ _ _ _ _ [AV.ow [.int a, .int b, .int c], .dt (.int m), .un, .un]
  refine (bd_cons (sd_if (td_gt (ek_ed (ed_ixD (fun _ _ => rfl) (ek_loan 0 a0 rfl (ek_ed (ed_int (IxD.mk rfl rfl rfl (ek_ed (ed_int (CmpT.mk rfl rfl ⟨fun hif => (bd_cons (sd_set 2 s2 (fun _ => rfl) (lt1 rfl) (nl rfl) (ed_mod (ek_ed (ed_ixD (fun _ _ => rfl) (ek_loan 0 a0 rfl (ek_ed (ed_int (IxD.mk rfl rfl rfl (ek_ed (ed_name 1 a1 rfl (IntR.mk rfl rfl ?_ (bd_cons (sd_setItem 0 a0 (fun _ => rfl) (fun _ => rfl) (fun _ => rfl) (fun _ _ => rfl) (ek_ed (ed_div (ek_ed (ed_ixD (fun _ _ => rfl) (ek_loan 0 a0 rfl (ek_ed (ed_int (IxD.mk rfl rfl rfl (ek_ed (ed_name 1 a1 rfl (IntR.mk rfl rfl ?_ ⟨⟨_, rfl⟩, (ek_ed (ed_int ⟨_, _, _, _, rfl, rfl, rfl, rfl, (bd_cons (sd_ret (ed_name 2 a2 rfl ?_)))⟩))⟩))))))))))))))))))))))))), fun hif => (bd_nil (bd_cons (sd_setItem 0 a0 (fun _ => rfl) (fun _ => rfl) (fun _ => rfl) (fun _ _ => rfl) (ek_ed (ed_add (ek_ed (ed_ixD (fun _ _ => rfl) (ek_loan 0 a0 rfl (ek_ed (ed_int (IxD.mk rfl rfl rfl (ek_ed (ed_int (AddR.int rfl rfl ⟨⟨_, rfl⟩, (ek_ed (ed_int ⟨_, _, _, _, rfl, rfl, rfl, rfl, (bd_cons (sd_set 3 s3 (fun _ => rfl) (lt1 rfl) (nl rfl) (ed_mod (ek_ed (ed_pow (ek_ed (ed_add (ek_ed (ed_ixD (fun _ _ => rfl) (ek_loan 0 a0 rfl (ek_ed (ed_int (IxD.mk rfl rfl rfl (ek_ed (ed_mul (ek_ed (ed_int (ek_ed (ed_ixD (fun _ _ => rfl) (ek_loan 0 a0 rfl (ek_ed (ed_int (IxD.mk rfl rfl rfl (MulR.int rfl rfl ?_ (AddR.int rfl rfl (ek_ed (ed_int (IntR.mk rfl rfl ?_ (ek_ed (ed_add (ek_ed (ed_pow (ek_ed (ed_int (ek_ed (ed_int (IntR.mk rfl rfl ?_ (ek_ed (ed_int (AddR.int rfl rfl (IntR.mk rfl rfl ?_ (bd_cons (sd_set 3 s3 (fun _ => rfl) (lt1 rfl) (nl rfl) (ed_mod (ek_ed (ed_pow (ek_ed (ed_add (ek_ed (ed_name 3 a3 rfl (ek_ed (ed_mul (ek_ed (ed_int (ek_ed (ed_ixD (fun _ _ => rfl) (ek_loan 0 a0 rfl (ek_ed (ed_int (IxD.mk rfl rfl rfl (MulR.int rfl rfl ?_ (AddR.int rfl rfl (ek_ed (ed_int (IntR.mk rfl rfl ?_ (ek_ed (ed_add (ek_ed (ed_pow (ek_ed (ed_int (ek_ed (ed_int (IntR.mk rfl rfl ?_ (ek_ed (ed_int (AddR.int rfl rfl (IntR.mk rfl rfl ?_ (bd_cons (sd_ret (ed_mod (ek_ed (ed_div (ek_ed (ed_name 3 a3 rfl (ek_ed (ed_int (IntR.mk rfl rfl ?_ (ek_ed (ed_name 1 a1 rfl (IntR.mk rfl rfl ?_ ?_)))))))))))))))))))))))))))))))))))))))))))))))))))))))))))))))))))))))))))))))))))))))))))⟩))⟩))))))))))))))⟩))))))))))))
  · omega
  · exact wide_div (b := 200) hm (by omega) (by decide) (by decide)
  · have hb' : 0 < a := of_decide_eq_true ‹decide (0 < a) = true›
    refine q _ [.int (a / m), .int b, .int c] ?_ ?_ ⟨_, _, _, rfl, ?_, hb, hc, by omega⟩
    · exact (fmod_in _ hm).1
    · exact (fmod_in _ hm).2
    · exact Int.ediv_nonneg ha (by omega)
  · exact wide_mul (a := 40) (b := 40) (by decide) (by omega) (by decide) (by decide) (by decide)
  · exact powW_ok (n := 210) (by omega) (by decide) (by decide)
  · exact powW_ok (n := 10) (by decide) (by decide) (by decide)
  · decide
  · exact wide_mul (a := 40) (b := 40) (by decide) (by omega) (by decide) (by decide) (by decide)
  · have := fmod_in ((b + 472882027 * (c + 1)) ^ Int.toNat 3) (m := 10 ^ Int.toNat 39 + 3) (by decide)
    have e : (10 : Int) ^ Int.toNat 39 + 3 = 1000000000000000000000000000000000000003 := by decide
    rw [e] at this ⊢
    exact powW_ok (n := 210) (by omega) (by decide) (by decide)
  · exact powW_ok (n := 10) (by decide) (by decide) (by decide)
  · decide
  · exact wide_div (b := 40) (by decide) (by decide) (by decide) (by decide)
  · omega
  · refine q _ [.int a, .int b, .int (c + 1)] (fmod_in _ hm).1 (fmod_in _ hm).2 ⟨_, _, _, rfl, ha, hb, by omega, by omega⟩
end
end K03

namespace K03
open PySem PySem.Spec PyProof.Rows L2 DL
abbrev s_is_whole : Stmt := topS 26
theorem sc_is_whole : FnScope ["value"] ["value"] (defScope s_is_whole) := ⟨rfl, rfl, rfl, by decide +kernel, rfl, by decide +kernel, by decide +kernel⟩
abbrev s_is_day : Stmt := topS 27
theorem sc_is_day : FnScope ["value"] ["value"] (defScope s_is_day) := ⟨rfl, rfl, rfl, by decide +kernel, rfl, by decide +kernel, by decide +kernel⟩
abbrev s__is_row : Stmt := topS 32
theorem sc__is_row : FnScope ["value", "length", "day"] ["value", "length"] (defScope s__is_row) := ⟨rfl, rfl, rfl, by decide +kernel, rfl, by decide +kernel, by decide +kernel⟩
abbrev s_is_table : Stmt := topS 31
theorem sc_is_table : FnScope ["value", "length", "row"] ["value"] (defScope s_is_table) := ⟨rfl, rfl, rfl, by decide +kernel, rfl, by decide +kernel, by decide +kernel⟩
abbrev s__first_bad : Stmt := topS 37
theorem sc__first_bad : FnScope ["table", "i", "j", "k", "days"] ["table"] (defScope s__first_bad) := ⟨rfl, rfl, rfl, by decide +kernel, rfl, by decide +kernel, by decide +kernel⟩

/-- a value of a kind that the law's values have -/
def Knd (d : Dt) : Prop := ∃ t, d.ty = some t
def isW : Dt → Bool
  | .int _ => true
  | _ => false
def isDay : Dt → Bool
  | .int i => decide (i ≥ 0)
  | _ => false
theorem isW_eq {d : Dt} : isW d = (isI d && !isB d) := by cases d <;> rfl
def dsWhole : DSp := fun as post => ∃ d, as = [.dt d] ∧ Knd d ∧ post (.dt (.bl (isW d))) [.un]
def dsDay : DSp := fun as post => ∃ d, as = [.dt d] ∧ Knd d ∧ post (.dt (.bl (isDay d))) [.un]
section
variable {P : Program} {w : World}
variable {K : PySem.W.Frag}
variable {mg : Str → Option Value} {base : Heap}
theorem ok_is_whole (m_isinstance : mg "isinstance" = none) (m_int : mg "int" = none) (m_bool : mg "bool" = none) {f : Addr} {fd : FuncData} (F : Fun K "is_whole" "is_whole" s_is_whole f fd) : FnG P w K mg base 1 f fd ["value"] (spD K dsWhole) := by
  refine FnG.of F sc_is_whole (fun as post h => by obtain ⟨_, h⟩ := h; rw [h.1]; rfl) fun cdv A outer s H vs fo as post hr hgu hD => ?_
  obtain ⟨d, rfl, ⟨t, hk⟩, hq⟩ := hD
  have a0 : At (coreOf P w K mg base (A.deeper (envOfC "is_whole" (defScope s_is_whole) s.heap.objs.size f cdv)) ["value"] ((envOfC "is_whole" (defScope s_is_whole) s.heap.objs.size f cdv) :: outer)) (varOf s H (envOfC "is_whole" (defScope s_is_whole) s.heap.objs.size f cdv) outer) "value" 0 := ⟨rfl, fun _ => by first | exact .inl rfl | exact .inr (.inl rfl), by decide, by decide⟩
  have s0 : AtS (coreOf P w K mg base (A.deeper (envOfC "is_whole" (defScope s_is_whole) s.heap.objs.size f cdv)) ["value"] ((envOfC "is_whole" (defScope s_is_whole) s.heap.objs.size f cdv) :: outer)) (varOf s H (envOfC "is_whole" (defScope s_is_whole) s.heap.objs.size f cdv) outer) "value" 0 := ⟨sc_is_whole.nd, rfl, fun _ => by first | exact .inl rfl | exact .inr rfl, fun _ => .inl rfl⟩
  show BD _ _ _ _ _ [.dt d]
  refine (bd_cons (sd_ret (ed_and (ed_isT (fun _ => rfl) m_isinstance (fun _ => rfl) m_int (by decide +kernel) (by decide) (by decide) (fun _ => rfl) (fun _ => rfl) (fun _ => rfl) (ek_ed (ed_name 0 a0 rfl ⟨_, _, _, rfl, hk, ty_int hk, ⟨_, rfl, fun hif => (ed_bool1 (ed_not (ed_isT (fun _ => rfl) m_isinstance (fun _ => rfl) m_bool (by decide +kernel) (by decide) (by decide) (fun _ => rfl) (fun _ => rfl) (fun _ => rfl) (ek_ed (ed_name 0 a0 rfl ⟨_, _, _, rfl, hk, ty_bool hk, ⟨_, rfl, ?_⟩⟩))))), fun hif => ?_⟩⟩))))))
  · have hi : isI d = true := ‹_›
    have : post (.dt (.bl (isW d))) [.un] := hq
    rw [isW_eq, hi] at this
    exact this
  · have hi : isI d = false := ‹_›
    have : post (.dt (.bl (isW d))) [.un] := hq
    rw [isW_eq, hi] at this
    exact this
theorem ok_is_day {f_is_whole : Addr} {d_is_whole : FuncData} (G_is_whole : FnG P w K mg base 1 f_is_whole d_is_whole ["value"] (spD K dsWhole)) (g_is_whole : mg "is_whole" = some (.ref f_is_whole)) (k_is_whole : PySem.W.keepIn K (.ref f_is_whole) = true) (b_is_whole : Binds K d_is_whole ["value"] []) {f : Addr} {fd : FuncData} (F : Fun K "is_day" "is_day" s_is_day f fd) : FnG P w K mg base 2 f fd ["value"] (spD K dsDay) := by
  refine FnG.of F sc_is_day (fun as post h => by obtain ⟨_, h⟩ := h; rw [h.1]; rfl) fun cdv A outer s H vs fo as post hr hgu hD => ?_
  obtain ⟨d, rfl, ⟨t, hk⟩, hq⟩ := hD
  have a0 : At (coreOf P w K mg base (A.deeper (envOfC "is_day" (defScope s_is_day) s.heap.objs.size f cdv)) ["value"] ((envOfC "is_day" (defScope s_is_day) s.heap.objs.size f cdv) :: outer)) (varOf s H (envOfC "is_day" (defScope s_is_day) s.heap.objs.size f cdv) outer) "value" 0 := ⟨rfl, fun _ => by first | exact .inl rfl | exact .inr (.inl rfl), by decide, by decide⟩
  have s0 : AtS (coreOf P w K mg base (A.deeper (envOfC "is_day" (defScope s_is_day) s.heap.objs.size f cdv)) ["value"] ((envOfC "is_day" (defScope s_is_day) s.heap.objs.size f cdv) :: outer)) (varOf s H (envOfC "is_day" (defScope s_is_day) s.heap.objs.size f cdv) outer) "value" 0 := ⟨sc_is_day.nd, rfl, fun _ => by first | exact .inl rfl | exact .inr rfl, fun _ => .inl rfl⟩
  show BD _ _ _ _ _ [AV.dt _]
  cases d with
  | int i =>
    refine (bd_cons (sd_ret (ed_and (ed_call G_is_whole (hr.mono (by decide)) hgu (fun _ => rfl) g_is_whole k_is_whole b_is_whole (by decide) (fun _ => rfl) (fun _ => rfl) (ea_cons (fun _ => rfl) (ek_ed (ed_name 0 a0 rfl (ea_nil ⟨_, rfl, rfl, ⟨_, rfl, ⟨t, hk⟩, fun _ => ⟨_, rfl, fun hif => (ed_bool1 (ed_ge (ek_ed (ed_name 0 a0 rfl (ek_ed (ed_int (CmpR.mk rfl rfl ?_))))))), fun hif => ?_⟩⟩⟩))))))))
    · exact hq
    · rename_i hif
      cases hif
  | _ =>
    refine (bd_cons (sd_ret (ed_and (ed_call G_is_whole (hr.mono (by decide)) hgu (fun _ => rfl) g_is_whole k_is_whole b_is_whole (by decide) (fun _ => rfl) (fun _ => rfl) (ea_cons (fun _ => rfl) (ek_ed (ed_name 0 a0 rfl (ea_nil ⟨_, rfl, rfl, ⟨_, rfl, ⟨t, hk⟩, fun _ => ⟨_, rfl, fun hif => (Bool.noConfusion (show false = true from hif)), fun hif => ?_⟩⟩⟩))))))))
    exact hq
/-- a row of so many days -/
def isRow (n : Nat) : Dt → Bool
  | .tup ds => decide (ds.length = n) && ds.all isDay
  | _ => false
def Knds (d : Dt) : Prop := Knd d ∧ ∀ ds, d = .tup ds → ds.length ≤ 1000000 ∧ ∀ e ∈ ds, Knd e
def dsRow : DSp := fun as post => ∃ d n, as = [.dt d, .dt (.int (n : Nat))] ∧ Knds d ∧ post (.dt (.bl (isRow n d))) [.un, .un]
theorem ne_of_nd {p : Prop} [Decidable p] (h : (!decide p) = true) : ¬ p := fun q => by rw [decide_eq_true q] at h; cases h
theorem eq_of_nd {p : Prop} [Decidable p] (h : (!decide p) = false) : p := Classical.byContradiction fun q => by rw [decide_eq_false q] at h; cases h
theorem take_map_succ {α β : Type} {l : List α} {j : Nat} {a : α} {f : α → β} (h : l[j]? = some a) : (l.take j).map f ++ [f a] = (l.take (j + 1)).map f := by
  rw [List.take_succ, h, List.map_append]
  rfl
theorem ok__is_row {f_is_day : Addr} {d_is_day : FuncData} (G_is_day : FnG P w K mg base 2 f_is_day d_is_day ["value"] (spD K dsDay)) (g_is_day : mg "is_day" = some (.ref f_is_day)) (k_is_day : PySem.W.keepIn K (.ref f_is_day) = true) (b_is_day : Binds K d_is_day ["value"] []) (m_isinstance : mg "isinstance" = none) (m_tuple : mg "tuple" = none) (m_len : mg "len" = none) (m_all : mg "all" = none) {f : Addr} {fd : FuncData} (F : Fun K "_is_row" "_is_row" s__is_row f fd) : FnG P w K mg base 3 f fd ["value", "length"] (spD K dsRow) := by
  refine FnG.of F sc__is_row (fun as post h => by obtain ⟨_, _, h⟩ := h; rw [h.1]; rfl) fun cdv A outer s H vs fo as post hr hgu hD => ?_
  obtain ⟨d, n, rfl, ⟨⟨t, hk⟩, hks⟩, hq⟩ := hD
  have a0 : At (coreOf P w K mg base (A.deeper (envOfC "_is_row" (defScope s__is_row) s.heap.objs.size f cdv)) ["value", "length", "day"] ((envOfC "_is_row" (defScope s__is_row) s.heap.objs.size f cdv) :: outer)) (varOf s H (envOfC "_is_row" (defScope s__is_row) s.heap.objs.size f cdv) outer) "value" 0 := ⟨rfl, fun _ => by first | exact .inl rfl | exact .inr (.inl rfl), by decide, by decide⟩
  have s0 : AtS (coreOf P w K mg base (A.deeper (envOfC "_is_row" (defScope s__is_row) s.heap.objs.size f cdv)) ["value", "length", "day"] ((envOfC "_is_row" (defScope s__is_row) s.heap.objs.size f cdv) :: outer)) (varOf s H (envOfC "_is_row" (defScope s__is_row) s.heap.objs.size f cdv) outer) "value" 0 := ⟨sc__is_row.nd, rfl, fun _ => by first | exact .inl rfl | exact .inr rfl, fun _ => .inl rfl⟩
  have a1 : At (coreOf P w K mg base (A.deeper (envOfC "_is_row" (defScope s__is_row) s.heap.objs.size f cdv)) ["value", "length", "day"] ((envOfC "_is_row" (defScope s__is_row) s.heap.objs.size f cdv) :: outer)) (varOf s H (envOfC "_is_row" (defScope s__is_row) s.heap.objs.size f cdv) outer) "length" 1 := ⟨rfl, fun _ => by first | exact .inl rfl | exact .inr (.inl rfl), by decide, by decide⟩
  have s1 : AtS (coreOf P w K mg base (A.deeper (envOfC "_is_row" (defScope s__is_row) s.heap.objs.size f cdv)) ["value", "length", "day"] ((envOfC "_is_row" (defScope s__is_row) s.heap.objs.size f cdv) :: outer)) (varOf s H (envOfC "_is_row" (defScope s__is_row) s.heap.objs.size f cdv) outer) "length" 1 := ⟨sc__is_row.nd, rfl, fun _ => by first | exact .inl rfl | exact .inr rfl, fun _ => .inl rfl⟩
  show BD _ _ _ _ _ [AV.dt _, .dt (.int n), .un]
  cases d with
  | tup ds =>
    refine (bd_cons (sd_if (td_wd (wd_or (td_not (td_val (fun _ _ => rfl) (ed_isT (fun _ => rfl) m_isinstance (fun _ => rfl) m_tuple (by decide +kernel) (by decide) (by decide) (fun _ => rfl) (fun _ => rfl) (fun _ => rfl) (ek_ed (ed_name 0 a0 rfl ⟨_, _, _, rfl, hk, ty_tuple hk, ⟨_, rfl, ⟨fun hif => (wd_or1 (td_neI (ek_ed (ed_len (fun _ => rfl) m_len (fun _ => rfl) (ek_ed (ed_name 0 a0 rfl ⟨_, rfl, (ek_ed (ed_name 1 a1 rfl (CmpT.mk rfl rfl ⟨fun hif => (bd_cons (sd_ret (ed_bl ?_))), fun hif => (bd_nil (bd_cons (sd_ret (ed_all (fun _ => rfl) m_all (fun _ => rfl) (ek_ed (ed_lc (own := [("day", 2)]) sc__is_row.nd (fun _ => blkOk_by rfl) (fun _ _ => rfl) (nls rfl) (src_T (ek_ed (ed_name 0 a0 rfl ⟨_, rfl, ⟨?_, (fun j acc Γ => Γ = [AV.dt (.tup ds), .dt (.int (n : Nat)), .un] ∧ acc = (ds.take j).map fun d => .bl (isDay d)), ?_, ?_, ?_⟩⟩)))))))))⟩)))⟩)))))), fun hif => ⟨fun hit => (bd_cons (sd_ret (ed_bl ?_))), fun hit => nomatch hit⟩⟩⟩⟩)))))))))
    · have h : ¬ ((ds.length : Int) = n) := ne_of_nd hif
      have e : isRow n (.tup ds) = false := by
        show (decide (ds.length = n) && _) = false
        rw [decide_eq_false (by omega), Bool.false_and]
      rw [e] at hq
      exact hq
    · exact (hks ds rfl).1
    · exact ⟨rfl, rfl⟩
    · rintro j d acc Γ2 hj ⟨rfl, rfl⟩
      have hkd : Knd d := (hks ds rfl).2 d (List.mem_of_getElem? hj)
      refine ⟨_, (by decide), fun g ff => (gd_name 2 (ats_of sc__is_row.nd rfl (fun _ => rfl) (fun _ => rfl)) (lt1 rfl) (nl rfl) (ts_nil ⟨fun _ => (ed_call G_is_day (hr.mono (by decide)) hgu (fun _ => rfl) g_is_day k_is_day b_is_day (by decide) (fun _ => rfl) (fun _ => rfl) (ea_cons (fun _ => rfl) (ek_ed (ed_name 2 (at_of rfl (fun _ => rfl) rfl rfl) rfl (ea_nil ⟨_, rfl, rfl, ⟨_, rfl, hkd, fun _ => ⟨_, rfl, ?_⟩⟩⟩))))), fun hif => nomatch hif⟩))⟩
      refine ⟨rfl, ?_⟩
      rw [take_map_succ hj]
    · rintro acc Γ2 ⟨rfl, rfl⟩
      refine ⟨ds.map isDay, ?_, ?_⟩
      · rw [List.take_length, List.map_map]
        rfl
      · have h : (ds.length : Int) = n := eq_of_nd ‹_›
        have e : isRow n (.tup ds) = ((ds.map isDay).all fun z => z) := by
          show (decide (ds.length = n) && ds.all isDay) = _
          rw [decide_eq_true (by omega), Bool.true_and, List.all_map]
          rfl
        rw [e] at hq
        exact hq
    · exact Bool.noConfusion (show false = true from ‹_›)
  | _ =>
    refine (bd_cons (sd_if (td_wd (wd_or (td_not (td_val (fun _ _ => rfl) (ed_isT (fun _ => rfl) m_isinstance (fun _ => rfl) m_tuple (by decide +kernel) (by decide) (by decide) (fun _ => rfl) (fun _ => rfl) (fun _ => rfl) (ek_ed (ed_name 0 a0 rfl ⟨_, _, _, rfl, hk, ty_tuple hk, ⟨_, rfl, ⟨fun hif => (Bool.noConfusion (show false = true from (by cases hif))), fun hif => ⟨fun hif => (bd_cons (sd_ret (ed_bl ?_))), fun hif => nomatch hif⟩⟩⟩⟩)))))))))
    exact hq
/-- rows of 0, 1, 2, .. days -/
def isTbl : Dt → Bool
  | .tup ds => !ds.isEmpty && ds.zipIdx.all fun p => isRow p.2 p.1
  | _ => false
def Knd3 (d : Dt) : Prop := Knd d ∧ ∀ ds, d = .tup ds → ds.length ≤ 1000000 ∧ ∀ e ∈ ds, Knds e
def dsTable : DSp := fun as post => ∃ d, as = [.dt d] ∧ Knd3 d ∧ post (.dt (.bl (isTbl d))) [.un]
theorem ok_is_table {f__is_row : Addr} {d__is_row : FuncData} (G__is_row : FnG P w K mg base 3 f__is_row d__is_row ["value", "length"] (spD K dsRow)) (g__is_row : mg "_is_row" = some (.ref f__is_row)) (k__is_row : PySem.W.keepIn K (.ref f__is_row) = true) (b__is_row : Binds K d__is_row ["value", "length"] []) (m_isinstance : mg "isinstance" = none) (m_tuple : mg "tuple" = none) (m_len : mg "len" = none) (m_all : mg "all" = none) (m_enumerate : mg "enumerate" = none) {f : Addr} {fd : FuncData} (F : Fun K "is_table" "is_table" s_is_table f fd) : FnG P w K mg base 4 f fd ["value"] (spD K dsTable) := by
  refine FnG.of F sc_is_table (fun as post h => by obtain ⟨_, h⟩ := h; rw [h.1]; rfl) fun cdv A outer s H vs fo as post hr hgu hD => ?_
  obtain ⟨d, rfl, ⟨⟨t, hk⟩, hks⟩, hq⟩ := hD
  have a0 : At (coreOf P w K mg base (A.deeper (envOfC "is_table" (defScope s_is_table) s.heap.objs.size f cdv)) ["value", "length", "row"] ((envOfC "is_table" (defScope s_is_table) s.heap.objs.size f cdv) :: outer)) (varOf s H (envOfC "is_table" (defScope s_is_table) s.heap.objs.size f cdv) outer) "value" 0 := ⟨rfl, fun _ => by first | exact .inl rfl | exact .inr (.inl rfl), by decide, by decide⟩
  have s0 : AtS (coreOf P w K mg base (A.deeper (envOfC "is_table" (defScope s_is_table) s.heap.objs.size f cdv)) ["value", "length", "row"] ((envOfC "is_table" (defScope s_is_table) s.heap.objs.size f cdv) :: outer)) (varOf s H (envOfC "is_table" (defScope s_is_table) s.heap.objs.size f cdv) outer) "value" 0 := ⟨sc_is_table.nd, rfl, fun _ => by first | exact .inl rfl | exact .inr rfl, fun _ => .inl rfl⟩
  show BD _ _ _ _ _ [AV.dt _, .un, .un]
  cases d with
  | tup ds =>
    refine (bd_cons (sd_if (td_wd (wd_or (td_not (td_val (fun _ _ => rfl) (ed_isT (fun _ => rfl) m_isinstance (fun _ => rfl) m_tuple (by decide +kernel) (by decide) (by decide) (fun _ => rfl) (fun _ => rfl) (fun _ => rfl) (ek_ed (ed_name 0 a0 rfl ⟨_, _, _, rfl, hk, ty_tuple hk, ⟨_, rfl, ⟨fun hif => (wd_or1 (td_eqI (ek_ed (ed_len (fun _ => rfl) m_len (fun _ => rfl) (ek_ed (ed_name 0 a0 rfl ⟨_, rfl, (ek_ed (ed_int (CmpT.mk rfl rfl ⟨fun hif => (bd_cons (sd_ret (ed_bl ?_))), fun hif => (bd_nil (bd_cons (sd_ret (ed_all (fun _ => rfl) m_all (fun _ => rfl) (ek_ed (ed_lc (own := [("length", 1), ("row", 2)]) sc_is_table.nd (fun _ => blkOk_by rfl) (fun _ _ => rfl) (nls rfl) (src_enumT (fun _ => rfl) m_enumerate (fun _ => rfl) (ea_cons (fun _ => rfl) (ek_ed (ed_name 0 a0 rfl (ea_nil ⟨_, _, rfl, rfl, ⟨?_, (fun j acc Γ => Γ = [AV.dt (.tup ds), .un, .un] ∧ acc = (ds.zipIdx.take j).map fun p => .bl (isRow p.2 p.1)), ?_, ?_, ?_⟩⟩)))))))))))⟩)))⟩)))))), fun hif => ⟨fun hit => (bd_cons (sd_ret (ed_bl ?_))), fun hit => nomatch hit⟩⟩⟩⟩)))))))))
    · have h : (ds.length : Int) = 0 := of_decide_eq_true ‹_›
      have e : isTbl (.tup ds) = false := by
        have : ds = [] := List.length_eq_zero_iff.mp (by omega)
        rw [this]
        rfl
      rw [e] at hq
      exact hq
    · rw [enD_len]
      exact (hks ds rfl).1
    · exact ⟨rfl, rfl⟩
    · rintro j d acc Γ2 hj ⟨rfl, rfl⟩
      have hl : j < ds.length := by
        rw [← enD_len]
        exact (List.getElem?_eq_some_iff.mp hj).1
      have he := List.getElem?_eq_getElem hl
      rw [enD_get he] at hj
      cases hj
      have hkd : Knds ds[j] := (hks ds rfl).2 _ (List.getElem_mem hl)
      refine ⟨_, (by decide), fun g ff => (gd_tup (fun _ => rfl) (fun _ => rfl) (gds_cons (fun _ => rfl) (gd_name 1 (ats_of sc_is_table.nd rfl (fun _ => rfl) (fun _ => rfl)) (lt1 rfl) (nl rfl) (gds_cons (fun _ => rfl) (gd_name 2 (ats_of sc_is_table.nd rfl (fun _ => rfl) (fun _ => rfl)) (lt1 rfl) (nl rfl) (gds_nil (ts_nil ⟨fun _ => (ed_call G__is_row (hr.mono (by decide)) hgu (fun _ => rfl) g__is_row k__is_row b__is_row (by decide) (fun _ => rfl) (fun _ => rfl) (ea_cons (fun _ => rfl) (ek_ed (ed_name 2 (at_of rfl (fun _ => rfl) rfl rfl) rfl (ea_cons (fun _ => rfl) (ek_ed (ed_name 1 (at_of rfl (fun _ => rfl) rfl rfl) rfl (ea_nil ⟨_, rfl, rfl, ⟨_, _, rfl, hkd, fun _ => ⟨_, rfl, ?_⟩⟩⟩)))))))), fun hif => nomatch hif⟩)))))))⟩
      refine ⟨rfl, ?_⟩
      have hz : ds.zipIdx[j]? = some (ds[j], j) := by
        rw [List.getElem?_zipIdx, he]
        simp
      exact take_map_succ (f := fun p => Dt.bl (isRow p.2 p.1)) hz
    · rintro acc Γ2 ⟨rfl, rfl⟩
      refine ⟨ds.zipIdx.map fun p => isRow p.2 p.1, ?_, ?_⟩
      · rw [enD_len, List.take_of_length_le (by rw [List.length_zipIdx]; exact Nat.le_refl _), List.map_map]
        rfl
      · have h : ¬ ((ds.length : Int) = 0) := of_decide_eq_false ‹_›
        have e : isTbl (.tup ds) = ((ds.zipIdx.map fun p => isRow p.2 p.1).all fun z => z) := by
          show (!ds.isEmpty && ds.zipIdx.all _) = _
          have : ds.isEmpty = false := by
            cases ds with
            | nil => exact absurd rfl h
            | cons a b => rfl
          rw [this, List.all_map]
          rfl
        rw [e] at hq
        exact hq
    · exact Bool.noConfusion (show false = true from ‹_›)
  | _ =>
    refine (bd_cons (sd_if (td_wd (wd_or (td_not (td_val (fun _ _ => rfl) (ed_isT (fun _ => rfl) m_isinstance (fun _ => rfl) m_tuple (by decide +kernel) (by decide) (by decide) (fun _ => rfl) (fun _ => rfl) (fun _ => rfl) (ek_ed (ed_name 0 a0 rfl ⟨_, _, _, rfl, hk, ty_tuple hk, ⟨_, rfl, ⟨fun hif => (Bool.noConfusion (show false = true from (by cases hif))), fun hif => ⟨fun hif => (bd_cons (sd_ret (ed_bl ?_))), fun hif => nomatch hif⟩⟩⟩⟩)))))))))
    exact hq
/-! ### triples -/
theorem perm2 {x y a b : Int} (h : [x, y].Perm [a, b]) : (x = a ∧ y = b) ∨ (x = b ∧ y = a) := by
  have hx : x = a ∨ x = b := by simpa using h.subset (List.mem_cons_self (a := x))
  rcases hx with rfl | rfl
  · have := (List.perm_cons x).mp h
    exact .inl ⟨rfl, by simpa using this⟩
  · have := (List.perm_cons x).mp (h.trans (List.Perm.swap x a []))
    exact .inr ⟨rfl, by simpa using this⟩
theorem perm3 {x y z a b c : Int} (h : [x, y, z].Perm [a, b, c]) : (x = a ∧ ((y = b ∧ z = c) ∨ (y = c ∧ z = b))) ∨ (x = b ∧ ((y = a ∧ z = c) ∨ (y = c ∧ z = a))) ∨ (x = c ∧ ((y = a ∧ z = b) ∨ (y = b ∧ z = a))) := by
  have hx : x = a ∨ x = b ∨ x = c := by simpa using h.subset (List.mem_cons_self (a := x))
  rcases hx with rfl | rfl | rfl
  · exact .inl ⟨rfl, perm2 ((List.perm_cons x).mp h)⟩
  · exact .inr (.inl ⟨rfl, perm2 ((List.perm_cons x).mp (h.trans (List.Perm.swap x a [c])))⟩)
  · refine .inr (.inr ⟨rfl, perm2 ((List.perm_cons x).mp (h.trans ?_))⟩)
    exact (List.Perm.cons a (List.Perm.swap x b [])).trans (List.Perm.swap x a [b])
/-- the two least of three are not equal -/
def badB (a b c : Int) : Bool := !((decide (a = b) && decide (a ≤ c)) || (decide (a = c) && decide (a ≤ b)) || (decide (b = c) && decide (b ≤ a)))
theorem bad_sorted {x y z a b c : Int} (h : [x, y, z].Perm [a, b, c]) (h1 : x ≤ y) (h2 : y ≤ z) : badB a b c = !decide (x = y) := by
  unfold badB
  congr 1
  rw [Bool.eq_iff_iff]
  simp only [Bool.or_eq_true, Bool.and_eq_true, decide_eq_true_eq]
  have := perm3 h
  omega
/-- the table of the numbers t j i, i < j < n -/
def rowD (t : Nat → Nat → Int) (j : Nat) : List Dt := (List.range j).map fun i => .int (t j i)
def tbD (t : Nat → Nat → Int) (n : Nat) : List Dt := (List.range n).map fun j => .tup (rowD t j)
theorem atI_nat {α : Type} {l : List α} {j : Nat} (h : j < l.length) : atI l (.ofNat j) = l[j]? := by
  unfold atI ixN
  simp [h]
theorem rowD_at {t : Nat → Nat → Int} {i j : Nat} (h : i < j) : atI (rowD t j) (.ofNat i) = some (.int (t j i)) := by
  unfold rowD
  rw [atI_nat (by rw [List.length_map, List.length_range]; exact h), List.getElem?_map, List.getElem?_range h]
  rfl
theorem tbD_at {t : Nat → Nat → Int} {j n : Nat} (h : j < n) : atI (tbD t n) (.ofNat j) = some (.tup (rowD t j)) := by
  unfold tbD
  rw [atI_nat (by rw [List.length_map, List.length_range]; exact h), List.getElem?_map, List.getElem?_range h]
  rfl
theorem tbD_len (t : Nat → Nat → Int) (n : Nat) : (tbD t n).length = n := by
  unfold tbD; rw [List.length_map, List.length_range]
def badIdx (t : Nat → Nat → Int) : List Nat → Bool
  | [i, j, k] => badB (t j i) (t k i) (t k j)
  | _ => false
def tripD : Option (List Nat) → Dt
  | some [i, j, k] => .tup [.int (i : Nat), .int (j : Nat), .int (k : Nat)]
  | _ => .non
/-- the first bad triple -/
def fbD (t : Nat → Nat → Int) (n : Nat) : Dt := tripD ((Cmb.combs n 3).find? (badIdx t))
def dsFB : DSp := fun as post => ∃ t n, as = [.dt (.tup (tbD t n))] ∧ n ≤ 1000000 ∧ post (.dt (fbD t n)) [.un]
theorem cs_inc : ∀ (m r lo : Nat), ∀ t ∈ Cmb.cs m r lo, t.Pairwise (· < ·)
  | m, 0, lo, t, h => by
    unfold Cmb.cs at h
    rw [List.mem_singleton.mp h]
    exact .nil
  | 0, r + 1, _, t, h => by cases h
  | m + 1, r + 1, lo, t, h => by
    rcases (List.mem_append.mp h) with h | h
    · obtain ⟨u, hu, rfl⟩ := List.mem_map.mp h
      refine .cons (fun i hi => ?_) (cs_inc m r (lo + 1) u hu)
      have := Cmb.cs_lt m r (lo + 1) u hu i hi
      omega
    · exact cs_inc m (r + 1) (lo + 1) t h
theorem combs3 {n jj : Nat} {idx : List Nat} (h : (Cmb.combs n 3)[jj]? = some idx) : ∃ i j k, idx = [i, j, k] ∧ i < j ∧ j < k ∧ k < n := by
  have h1 := Cmb.combs_len h
  have h2 := cs_inc n 3 0 idx (List.mem_of_getElem? h)
  have h3 := Cmb.combs_lt h
  match idx, h1, h2, h3 with
  | [i, j, k], _, h2, h3 =>
    cases h2 with
    | cons a b =>
      cases b with
      | cons c d => exact ⟨i, j, k, rfl, a j (by simp), c k (by simp), h3 k (by simp)⟩
theorem rng_getD {n i : Nat} (h : i < n) : (rngD 0 n).getD i .non = .int (i : Nat) := by
  have := rngD_get (lo := 0) h
  rw [List.getD, this]
  simp
theorem find_take {α : Type} {p : α → Bool} {l : List α} {j : Nat} {a : α} (h : l[j]? = some a) (hp : p a = true) (hn : ∀ i b, i < j → l[i]? = some b → p b = false) : l.find? p = some a := by
  induction (l) generalizing j with
  | nil => cases h
  | cons b t ih =>
    cases j with
    | zero =>
      cases h
      rw [List.find?_cons, hp]
    | succ j =>
      have := hn 0 b (Nat.zero_lt_succ j) rfl
      rw [List.find?_cons, this]
      exact ih (j := j) (by simpa using h) fun i c hi e => hn (i + 1) c (by omega) (by simpa using e)
theorem ok__first_bad (m_len : mg "len" = none) (m_sorted : mg "sorted" = none) (m_combinations : mg "combinations" = some (.type "itertools.combinations")) (m_range : mg "range" = none) {f : Addr} {fd : FuncData} (F : Fun K "_first_bad" "_first_bad" s__first_bad f fd) : FnG P w K mg base 4 f fd ["table"] (spD K dsFB) := by
  refine FnG.of F sc__first_bad (fun as post h => by obtain ⟨_, _, h⟩ := h; rw [h.1]; rfl) fun cdv A outer s H vs fo as post hr hgu hD => ?_
  obtain ⟨t, n, rfl, hz, hq⟩ := hD
  have a0 : At (coreOf P w K mg base (A.deeper (envOfC "_first_bad" (defScope s__first_bad) s.heap.objs.size f cdv)) ["table", "i", "j", "k", "days"] ((envOfC "_first_bad" (defScope s__first_bad) s.heap.objs.size f cdv) :: outer)) (varOf s H (envOfC "_first_bad" (defScope s__first_bad) s.heap.objs.size f cdv) outer) "table" 0 := ⟨rfl, fun _ => by first | exact .inl rfl | exact .inr (.inl rfl), by decide, by decide⟩
  have s0 : AtS (coreOf P w K mg base (A.deeper (envOfC "_first_bad" (defScope s__first_bad) s.heap.objs.size f cdv)) ["table", "i", "j", "k", "days"] ((envOfC "_first_bad" (defScope s__first_bad) s.heap.objs.size f cdv) :: outer)) (varOf s H (envOfC "_first_bad" (defScope s__first_bad) s.heap.objs.size f cdv) outer) "table" 0 := ⟨sc__first_bad.nd, rfl, fun _ => by first | exact .inl rfl | exact .inr rfl, fun _ => .inl rfl⟩
  have a1 : At (coreOf P w K mg base (A.deeper (envOfC "_first_bad" (defScope s__first_bad) s.heap.objs.size f cdv)) ["table", "i", "j", "k", "days"] ((envOfC "_first_bad" (defScope s__first_bad) s.heap.objs.size f cdv) :: outer)) (varOf s H (envOfC "_first_bad" (defScope s__first_bad) s.heap.objs.size f cdv) outer) "i" 1 := ⟨rfl, fun _ => by first | exact .inl rfl | exact .inr (.inl rfl), by decide, by decide⟩
  have s1 : AtS (coreOf P w K mg base (A.deeper (envOfC "_first_bad" (defScope s__first_bad) s.heap.objs.size f cdv)) ["table", "i", "j", "k", "days"] ((envOfC "_first_bad" (defScope s__first_bad) s.heap.objs.size f cdv) :: outer)) (varOf s H (envOfC "_first_bad" (defScope s__first_bad) s.heap.objs.size f cdv) outer) "i" 1 := ⟨sc__first_bad.nd, rfl, fun _ => by first | exact .inl rfl | exact .inr rfl, fun _ => .inl rfl⟩
  have a2 : At (coreOf P w K mg base (A.deeper (envOfC "_first_bad" (defScope s__first_bad) s.heap.objs.size f cdv)) ["table", "i", "j", "k", "days"] ((envOfC "_first_bad" (defScope s__first_bad) s.heap.objs.size f cdv) :: outer)) (varOf s H (envOfC "_first_bad" (defScope s__first_bad) s.heap.objs.size f cdv) outer) "j" 2 := ⟨rfl, fun _ => by first | exact .inl rfl | exact .inr (.inl rfl), by decide, by decide⟩
  have s2 : AtS (coreOf P w K mg base (A.deeper (envOfC "_first_bad" (defScope s__first_bad) s.heap.objs.size f cdv)) ["table", "i", "j", "k", "days"] ((envOfC "_first_bad" (defScope s__first_bad) s.heap.objs.size f cdv) :: outer)) (varOf s H (envOfC "_first_bad" (defScope s__first_bad) s.heap.objs.size f cdv) outer) "j" 2 := ⟨sc__first_bad.nd, rfl, fun _ => by first | exact .inl rfl | exact .inr rfl, fun _ => .inl rfl⟩
  have a3 : At (coreOf P w K mg base (A.deeper (envOfC "_first_bad" (defScope s__first_bad) s.heap.objs.size f cdv)) ["table", "i", "j", "k", "days"] ((envOfC "_first_bad" (defScope s__first_bad) s.heap.objs.size f cdv) :: outer)) (varOf s H (envOfC "_first_bad" (defScope s__first_bad) s.heap.objs.size f cdv) outer) "k" 3 := ⟨rfl, fun _ => by first | exact .inl rfl | exact .inr (.inl rfl), by decide, by decide⟩
  have s3 : AtS (coreOf P w K mg base (A.deeper (envOfC "_first_bad" (defScope s__first_bad) s.heap.objs.size f cdv)) ["table", "i", "j", "k", "days"] ((envOfC "_first_bad" (defScope s__first_bad) s.heap.objs.size f cdv) :: outer)) (varOf s H (envOfC "_first_bad" (defScope s__first_bad) s.heap.objs.size f cdv) outer) "k" 3 := ⟨sc__first_bad.nd, rfl, fun _ => by first | exact .inl rfl | exact .inr rfl, fun _ => .inl rfl⟩
  have a4 : At (coreOf P w K mg base (A.deeper (envOfC "_first_bad" (defScope s__first_bad) s.heap.objs.size f cdv)) ["table", "i", "j", "k", "days"] ((envOfC "_first_bad" (defScope s__first_bad) s.heap.objs.size f cdv) :: outer)) (varOf s H (envOfC "_first_bad" (defScope s__first_bad) s.heap.objs.size f cdv) outer) "days" 4 := ⟨rfl, fun _ => by first | exact .inl rfl | exact .inr (.inl rfl), by decide, by decide⟩
  have s4 : AtS (coreOf P w K mg base (A.deeper (envOfC "_first_bad" (defScope s__first_bad) s.heap.objs.size f cdv)) ["table", "i", "j", "k", "days"] ((envOfC "_first_bad" (defScope s__first_bad) s.heap.objs.size f cdv) :: outer)) (varOf s H (envOfC "_first_bad" (defScope s__first_bad) s.heap.objs.size f cdv) outer) "days" 4 := ⟨sc__first_bad.nd, rfl, fun _ => by first | exact .inl rfl | exact .inr rfl, fun _ => .inl rfl⟩
  show BD _ _ _ _ _ [.dt (.tup (tbD t n)), .un, .un, .un, .un]
  refine (bd_cons (sd_for (fun _ => PassesOwn.never) (fun _ _ => rfl) (src_cbR (r := 3) (by decide) rfl (fun _ => rfl) m_combinations (fun _ => rfl) m_range (fun _ => rfl) (fun _ => rfl) (fun _ => rfl) (fun _ => rfl) (ek_ed (ed_len (fun _ => rfl) m_len (fun _ => rfl) (ek_ed (ed_name 0 a0 rfl ⟨_, rfl, ⟨_, rfl, ?_, ⟨(fun jj Γ => (∀ i b, i < jj → (Cmb.combs n 3)[i]? = some b → badIdx t b = false) ∧ ∃ u1 u2 u3 u4, Γ = [AV.dt (.tup (tbD t n)), u1, u2, u3, u4]), ?_, ?_, ?_⟩⟩⟩)))))))
  · rw [tbD_len]
    omega
  · exact ⟨fun i b hi => absurd hi (Nat.not_lt_zero _), _, _, _, _, rfl⟩
  · rintro jj d Γ2 hd ⟨hn, u1, u2, u3, u4, rfl⟩
    have hd2 : ∃ idx, (Cmb.combs n 3)[jj]? = some idx ∧ d = .tup (idx.map fun i => (rngD 0 n).getD i .non) := by
      unfold cbD at hd
      rw [List.getElem?_map, rngD_len, tbD_len] at hd
      cases hc : (Cmb.combs n 3)[jj]? with
      | none =>
        simp only [Int.toNat_natCast, hc] at hd
        cases hd
      | some idx =>
        simp only [Int.toNat_natCast, hc] at hd
        exact ⟨idx, rfl, by simpa using hd.symm⟩
    obtain ⟨idx, hc, rfl⟩ := hd2
    obtain ⟨i, j, k, rfl, hij, hjk, hkn⟩ := combs3 hc
    have hjn : j < n := by omega
    have hik : i < k := by omega
    have hin : i < n := by omega
    rw [show [i, j, k].map (fun i => (rngD 0 n).getD i .non) = [.int (i : Nat), .int (j : Nat), .int (k : Nat)] by simp only [List.map_cons, List.map_nil, rng_getD hin, rng_getD hjn, rng_getD hkn]]
    refine ⟨_, fun ff => (gd_tup (fun _ => rfl) (fun _ => rfl) (gds_cons (fun _ => rfl) (gd_name 1 s1 (lt1 rfl) (nl rfl) (gds_cons (fun _ => rfl) (gd_name 2 s2 (lt1 rfl) (nl rfl) (gds_cons (fun _ => rfl) (gd_name 3 s3 (lt1 rfl) (nl rfl) (gds_nil (bd_cons (sd_set 4 s4 (fun _ => rfl) (lt1 rfl) (nl rfl) (ed_sorted (fun _ => rfl) m_sorted (fun _ => rfl) (ek_ed (ed_lst (ea_cons (fun _ => rfl) (ek_ed (ed_ixD (fun _ _ => rfl) (ek_ed (ed_ixD (fun _ _ => rfl) (ek_ed (ed_name 0 a0 rfl (ek_ed (ed_name 2 a2 rfl (IxD.mk rfl rfl (tbD_at hjn) (ek_ed (ed_name 1 a1 rfl (IxD.mk rfl rfl (rowD_at hij) (ea_cons (fun _ => rfl) (ek_ed (ed_ixD (fun _ _ => rfl) (ek_ed (ed_ixD (fun _ _ => rfl) (ek_ed (ed_name 0 a0 rfl (ek_ed (ed_name 3 a3 rfl (IxD.mk rfl rfl (tbD_at hkn) (ek_ed (ed_name 1 a1 rfl (IxD.mk rfl rfl (rowD_at hik) (ea_cons (fun _ => rfl) (ek_ed (ed_ixD (fun _ _ => rfl) (ek_ed (ed_ixD (fun _ _ => rfl) (ek_ed (ed_name 0 a0 rfl (ek_ed (ed_name 3 a3 rfl (IxD.mk rfl rfl (tbD_at hkn) (ek_ed (ed_name 2 a2 rfl (IxD.mk rfl rfl (rowD_at hjk) (ea_nil ⟨_, rfl, le1 rfl, ⟨[t j i, t k i, t k j], rfl, lt1 rfl, ?_⟩⟩)))))))))))))))))))))))))))))))))))))))))))))))))))))⟩
    intro ns' hp hs
    have hlen := hp.length_eq
    match ns', hlen, hp, hs with
    | [x, y, z], _, hp, hs =>
      have hxy : x ≤ y := by
        cases hs with
        | cons a _ => exact a y (by simp)
      have hyz : y ≤ z := by
        cases hs with
        | cons _ b =>
          cases b with
          | cons a _ => exact a z (by simp)
      have hb : badIdx t [i, j, k] = !decide (x = y) := bad_sorted hp hxy hyz
      refine (bd_cons (sd_if (td_neI (ek_ed (ed_ixD (fun _ _ => rfl) (ek_loan 4 a4 rfl (ek_ed (ed_int (IxD.mk rfl rfl rfl (ek_ed (ed_ixD (fun _ _ => rfl) (ek_loan 4 a4 rfl (ek_ed (ed_int (IxD.mk rfl rfl rfl (CmpT.mk rfl rfl ⟨fun hif => (bd_cons (sd_ret (ed_tup (ea_cons (fun _ => rfl) (ek_ed (ed_name 1 a1 rfl (ea_cons (fun _ => rfl) (ek_ed (ed_name 2 a2 rfl (ea_cons (fun _ => rfl) (ek_ed (ed_name 3 a3 rfl (ea_nil ⟨_, rfl, le1 rfl, ?_⟩))))))))))))), fun hif => (bd_nil (bd_nil ?_))⟩))))))))))))))))
      · have e : fbD t n = .tup [.int (i : Nat), .int (j : Nat), .int (k : Nat)] := by
          unfold fbD
          rw [find_take hc (by rw [hb]; exact ‹_›) hn]
          rfl
        rw [e] at hq
        exact hq
      · refine ⟨fun i' b hi e => ?_, _, _, _, _, rfl⟩
        by_cases hlt : i' < jj
        · exact hn i' b hlt e
        · obtain rfl : i' = jj := by omega
          rw [hc] at e
          cases e
          rw [hb]
          assumption
  · rintro Γ2 ⟨hn, u1, u2, u3, u4, rfl⟩
    refine (bd_cons (sd_ret (ed_non ?_)))
    have e : fbD t n = .non := by
      unfold fbD
      rw [List.find?_eq_none.mpr fun b hb => ?_]
      · rfl
      · obtain ⟨i, hi, rfl⟩ := List.mem_iff_getElem.mp hb
        rw [hn i _ (by rw [cbD_len, rngD_len, tbD_len, Int.toNat_natCast]; exact hi) (List.getElem?_eq_getElem hi)]
        exact Bool.false_ne_true
    rw [e] at hq
    exact hq
end
end K03

namespace K03
open PySem PySem.Spec PyProof.Rows L2 DL
abbrev s_is_history : Stmt := topS 33
theorem sc_is_history : FnScope ["value"] ["value"] (defScope s_is_history) := ⟨rfl, rfl, rfl, by decide +kernel, rfl, by decide +kernel, by decide +kernel⟩

/-! ### a table's form -/
def tOf : Dt → Nat → Nat → Int
  | .tup ds, j, i => match ds[j]? with
    | some (.tup es) => match es[i]? with
      | some (.int v) => v
      | _ => 0
    | _ => 0
  | _, _, _ => 0
def nOf : Dt → Nat
  | .tup ds => ds.length
  | _ => 0
theorem tbl_form {d : Dt} (h : isTbl d = true) : d = .tup (tbD (tOf d) (nOf d)) := by
  cases d with
  | tup ds =>
    have h : (!ds.isEmpty && ds.zipIdx.all fun p => isRow p.2 p.1) = true := h
    obtain ⟨_, h2⟩ := Bool.and_eq_true_iff.mp h
    congr 1
    refine (List.ext_getElem? fun j => ?_)
    unfold tbD
    rw [List.getElem?_map]
    by_cases hj : j < ds.length
    · have hz : isRow j ds[j] = true := by
        have := List.all_eq_true.mp h2 (ds[j], j) (List.mem_of_getElem? (i := j) (by rw [List.getElem?_zipIdx, List.getElem?_eq_getElem hj]; simp))
        exact this
      rw [List.getElem?_eq_getElem hj, List.getElem?_range (show j < nOf (.tup ds) from hj)]
      have ht : ∀ i, tOf (.tup ds) j i = match ds[j] with
          | .tup es => (match es[i]? with
            | some (.int v) => v
            | _ => 0)
          | _ => 0 := fun i => by
        show (match ds[j]? with
          | some (.tup es) => (match es[i]? with
            | some (.int v) => v
            | _ => 0)
          | _ => 0) = _
        rw [List.getElem?_eq_getElem hj]
        cases ds[j] <;> rfl
      show some ds[j] = some (.tup (rowD (tOf (.tup ds)) j))
      congr 1
      generalize ds[j] = e at hz ht
      cases e with
      | tup es =>
        have hz : (decide (es.length = j) && es.all isDay) = true := hz
        obtain ⟨h3, h4⟩ := Bool.and_eq_true_iff.mp hz
        have h3 : es.length = j := of_decide_eq_true h3
        congr 1
        refine List.ext_getElem? fun i => ?_
        unfold rowD
        rw [List.getElem?_map]
        by_cases hi : i < es.length
        · rw [List.getElem?_eq_getElem hi, List.getElem?_range (by omega)]
          have hd := List.all_eq_true.mp h4 _ (List.getElem_mem hi)
          show some es[i] = some (.int (tOf (.tup ds) j i))
          rw [ht i]
          simp only [List.getElem?_eq_getElem hi]
          generalize es[i] = x at hd
          cases x with
          | int v => rfl
          | _ => cases hd
        · rw [List.getElem?_eq_none (by omega), List.getElem?_eq_none (by rw [List.length_range]; omega)]
          rfl
      | _ => cases hz
    · rw [List.getElem?_eq_none (by omega), List.getElem?_eq_none (by rw [List.length_range]; show ds.length ≤ j; omega)]
      rfl
  | _ => cases h
def fbOf (d : Dt) : Dt := fbD (tOf d) (nOf d)
def isNonD : Dt → Bool
  | .non => true
  | _ => false
theorem trip_non (o : Option (List Nat)) : (tripD o).isNon = some (isNonD (tripD o)) := by
  unfold tripD
  split <;> rfl
theorem fb_non (t : Nat → Nat → Int) (n : Nat) : (fbD t n).isNon = some (isNonD (fbD t n)) := trip_non _
def isHist (d : Dt) : Bool := isTbl d && isNonD (fbOf d)
def dsHist : DSp := fun as post => ∃ d, as = [.dt d] ∧ Knd3 d ∧ post (.dt (.bl (isHist d))) [.un]
/-- of a table -/
def dsBT : DSp := fun as post => ∃ d, as = [.dt d] ∧ Knd3 d ∧ isTbl d = true ∧ post (.dt (fbOf d)) [.un]
theorem nOf_le {d : Dt} (h : Knd3 d) : nOf d ≤ 1000000 := by
  cases d with
  | tup ds => exact (h.2 ds rfl).1
  | _ => exact Nat.zero_le _
section
variable {P : Program} {w : World}
variable {K : PySem.W.Frag}
variable {mg : Str → Option Value} {base : Heap}
theorem ok_is_history {f_is_table : Addr} {d_is_table : FuncData} (G_is_table : FnG P w K mg base 4 f_is_table d_is_table ["value"] (spD K dsTable)) (g_is_table : mg "is_table" = some (.ref f_is_table)) (k_is_table : PySem.W.keepIn K (.ref f_is_table) = true) (b_is_table : Binds K d_is_table ["value"] []) {f__first_bad : Addr} {d__first_bad : FuncData} (G__first_bad : FnG P w K mg base 4 f__first_bad d__first_bad ["table"] (spD K dsFB)) (g__first_bad : mg "_first_bad" = some (.ref f__first_bad)) (k__first_bad : PySem.W.keepIn K (.ref f__first_bad) = true) (b__first_bad : Binds K d__first_bad ["table"] []) {f : Addr} {fd : FuncData} (F : Fun K "is_history" "is_history" s_is_history f fd) : FnG P w K mg base 5 f fd ["value"] (spD K dsHist) := by
  refine FnG.of F sc_is_history (fun as post h => by obtain ⟨_, h⟩ := h; rw [h.1]; rfl) fun cdv A outer s H vs fo as post hr hgu hD => ?_
  obtain ⟨d, rfl, hK, hq⟩ := hD
  have a0 : At (coreOf P w K mg base (A.deeper (envOfC "is_history" (defScope s_is_history) s.heap.objs.size f cdv)) ["value"] ((envOfC "is_history" (defScope s_is_history) s.heap.objs.size f cdv) :: outer)) (varOf s H (envOfC "is_history" (defScope s_is_history) s.heap.objs.size f cdv) outer) "value" 0 := ⟨rfl, fun _ => by first | exact .inl rfl | exact .inr (.inl rfl), by decide, by decide⟩
  have s0 : AtS (coreOf P w K mg base (A.deeper (envOfC "is_history" (defScope s_is_history) s.heap.objs.size f cdv)) ["value"] ((envOfC "is_history" (defScope s_is_history) s.heap.objs.size f cdv) :: outer)) (varOf s H (envOfC "is_history" (defScope s_is_history) s.heap.objs.size f cdv) outer) "value" 0 := ⟨sc_is_history.nd, rfl, fun _ => by first | exact .inl rfl | exact .inr rfl, fun _ => .inl rfl⟩
  show BD _ _ _ _ _ [AV.dt _]
  refine (bd_cons (sd_ret (ed_and (ed_call G_is_table (hr.mono (by decide)) hgu (fun _ => rfl) g_is_table k_is_table b_is_table (by decide) (fun _ => rfl) (fun _ => rfl) (ea_cons (fun _ => rfl) (ek_ed (ed_name 0 a0 rfl (ea_nil ⟨_, rfl, rfl, ⟨_, rfl, hK, fun _ => ⟨_, rfl, fun hif => (ed_bool1 (ed_isN (ed_call G__first_bad (hr.mono (by decide)) hgu (fun _ => rfl) g__first_bad k__first_bad b__first_bad (by decide) (fun _ => rfl) (fun _ => rfl) (ea_cons (fun _ => rfl) (ek_ed (ed_name 0 a0 rfl (ea_nil ⟨_, rfl, rfl, ⟨tOf d, nOf d, (congrArg (fun z => [AV.dt z]) (tbl_form hif)), nOf_le hK, fun _ => ⟨_, _, rfl, (fb_non _ _), ?_⟩⟩⟩))))))), fun hif => ?_⟩⟩⟩))))))))
  · rw [show isHist d = isNonD (fbOf d) by unfold isHist; rw [‹isTbl d = true›]; rfl] at hq
    exact hq
  · rw [show isHist d = false by unfold isHist; rw [‹isTbl d = false›]; rfl] at hq
    exact hq
end
end K03

namespace K03
open PySem PySem.Spec PyProof.Rows L2 DL

/-! ### the first in order -/
def LexLt : List Nat → List Nat → Prop
  | a :: s, b :: t => a < b ∨ (a = b ∧ LexLt s t)
  | _, _ => False
theorem cs_lex : ∀ (m r lo : Nat), (Cmb.cs m r lo).Pairwise LexLt
  | m, 0, lo => by
    unfold Cmb.cs
    exact List.pairwise_singleton _ _
  | 0, r + 1, lo => .nil
  | m + 1, r + 1, lo => by
    show ((Cmb.cs m r (lo + 1)).map (lo :: ·) ++ Cmb.cs m (r + 1) (lo + 1)).Pairwise LexLt
    rw [List.pairwise_append]
    refine ⟨?_, cs_lex m (r + 1) (lo + 1), fun x hx y hy => ?_⟩
    · rw [List.pairwise_map]
      exact (cs_lex m r (lo + 1)).imp fun h => .inr ⟨rfl, h⟩
    · obtain ⟨u, hu, rfl⟩ := List.mem_map.mp hx
      have h1 := Cmb.cs_len m (r + 1) (lo + 1) y hy
      cases y with
      | nil => cases h1
      | cons b t =>
        have := Cmb.cs_lt m (r + 1) (lo + 1) _ hy b List.mem_cons_self
        exact .inl (by omega)
theorem cs_all : ∀ (m r lo : Nat) (t : List Nat), t.length = r → t.Pairwise (· < ·) → (∀ i ∈ t, lo ≤ i ∧ i < lo + m) → t ∈ Cmb.cs m r lo
  | m, 0, lo, t, h, _, _ => by
    unfold Cmb.cs
    rw [List.length_eq_zero_iff.mp h]
    exact List.mem_singleton_self _
  | 0, r + 1, lo, a :: t, h, _, hi => by
    have := hi a List.mem_cons_self
    omega
  | m + 1, r + 1, lo, a :: t, h, hp, hi => by
    show a :: t ∈ (Cmb.cs m r (lo + 1)).map (lo :: ·) ++ Cmb.cs m (r + 1) (lo + 1)
    have ha := hi a List.mem_cons_self
    have hh := List.pairwise_cons.mp hp
    by_cases e : a = lo
    · subst e
      refine List.mem_append_left _ (List.mem_map.mpr ⟨t, cs_all m r (a + 1) t (by simpa using h) hh.2 fun i hit => ?_, rfl⟩)
      have := hi i (List.mem_cons_of_mem _ hit)
      have := hh.1 i hit
      omega
    · refine List.mem_append_right _ (cs_all m (r + 1) (lo + 1) (a :: t) h hp fun i hit => ?_)
      have := hi i hit
      rcases List.mem_cons.mp hit with rfl | hit
      · omega
      · have := hh.1 i hit
        omega
theorem find_lex {α : Type} {R : α → α → Prop} {p : α → Bool} {y : α} : ∀ {l : List α}, l.Pairwise R → y ∈ l → p y = true → (∀ x ∈ l, R x y → p x = false) → l.find? p = some y
  | a :: l, hp, hy, hpy, hn => by
    have hh := List.pairwise_cons.mp hp
    rcases (List.mem_cons.mp hy) with rfl | hy
    · rw [List.find?_cons, hpy]
    · rw [List.find?_cons, hn a List.mem_cons_self (hh.1 y hy)]
      exact find_lex hh.2 hy hpy fun x hx => hn x (List.mem_cons_of_mem _ hx)
def bad3 (t : Nat → Nat → Int) (i j k : Nat) : Bool := badB (t j i) (t k i) (t k j)
theorem fb_some {t : Nat → Nat → Int} {n i j k : Nat} (hij : i < j) (hjk : j < k) (hk : k < n) (hb : bad3 t i j k = true) (h1 : ∀ a b c, a < i → a < b → b < c → c < n → bad3 t a b c = false) (h2 : ∀ b c, b < j → i < b → b < c → c < n → bad3 t i b c = false) (h3 : ∀ c, c < k → j < c → c < n → bad3 t i j c = false) :
    fbD t n = .tup [.int (i : Nat), .int (j : Nat), .int (k : Nat)] := by
  unfold fbD Cmb.combs
  rw [find_lex (y := [i, j, k]) (cs_lex n 3 0) (cs_all n 3 0 _ rfl (by simp; omega) (by simp; omega)) hb fun x hx hl => ?_]
  · rfl
  · obtain ⟨q, hq⟩ := List.mem_iff_getElem?.mp hx
    obtain ⟨a, b, c, rfl, hab, hbc, hc⟩ := combs3 hq
    show bad3 t a b c = false
    rcases hl with h | ⟨rfl, h | ⟨rfl, h | ⟨_, h⟩⟩⟩
    · exact h1 a b c h hab hbc hc
    · exact h2 b c h hab hbc hc
    · exact h3 c h hbc hc
    · cases h
theorem fb_none {t : Nat → Nat → Int} {n : Nat} (h : ∀ a b c, a < n → a < b → b < c → c < n → bad3 t a b c = false) : fbD t n = .non := by
  unfold fbD
  rw [List.find?_eq_none.mpr fun x hx => ?_]
  · rfl
  · obtain ⟨q, hq⟩ := List.mem_iff_getElem?.mp hx
    obtain ⟨a, b, c, rfl, hab, hbc, hc⟩ := combs3 hq
    show ¬ bad3 t a b c = true
    rw [h a b c (by omega) hab hbc hc]
    exact Bool.false_ne_true
theorem bad_count {a b c m : Int} (hm : m ∈ [a, b, c]) (hle : ∀ y, y ∈ [a, b, c] → m ≤ y) : badB a b c = decide (((([a, b, c].count m : Nat) : Int)) < 2) := by
  have h1 := hle a (by simp)
  have h2 := hle b (by simp)
  have h3 := hle c (by simp)
  have hc : [a, b, c].count m = (if a = m then 1 else 0) + ((if b = m then 1 else 0) + (if c = m then 1 else 0)) := by
    simp only [List.count_cons, List.count_nil, beq_iff_eq]
    omega
  rw [hc]
  have hm : m = a ∨ m = b ∨ m = c := by simpa using hm
  unfold badB
  rw [Bool.eq_iff_iff]
  simp only [Bool.not_eq_true', Bool.or_eq_false_iff, Bool.and_eq_false_iff, decide_eq_false_iff_not, decide_eq_true_eq]
  split <;> split <;> split <;> omega
end K03

namespace K03
open PySem PySem.Spec PyProof.Rows L2 DL
abbrev s__law_pail : Stmt := topS 41
theorem sc__law_pail : FnScope ["script", "at", "cell"] ["script", "at"] (defScope s__law_pail) := ⟨rfl, rfl, rfl, by decide +kernel, rfl, by decide +kernel, by decide +kernel⟩
abbrev s__law_moment : Stmt := topS 43
theorem sc__law_moment : FnScope ["pail", "style", "late"] ["pail", "style"] (defScope s__law_moment) := ⟨rfl, rfl, rfl, by decide +kernel, rfl, by decide +kernel, by decide +kernel⟩
abbrev s__law_grown : Stmt := topS 44
theorem sc__law_grown : FnScope ["pail", "many", "style", "found", "item", "near", "late", "days_here", "mate", "far"] ["pail", "many"] (defScope s__law_grown) := ⟨rfl, rfl, rfl, by decide +kernel, rfl, by decide +kernel, by decide +kernel⟩

def dsPail : DSp := fun as post => ∃ (ns : List Int) (at' : Nat), as = [.dt (.scr ns), .dt (.int (at' : Nat))] ∧ at' ≤ 1000 ∧ ∀ ds', Pail 0 ds' → post (.ow ds') [.un, .un]
theorem scr_at {ns : List Int} {j : Nat} (h : decide (((j : Nat) : Int) < (((ns.map Dt.int).length : Nat) : Int)) = true) : atI (ns.map Dt.int) (.ofNat j) = some (.int (ns.getD j 0)) := by
  have h : ((j : Nat) : Int) < (((ns.map Dt.int).length : Nat) : Int) := of_decide_eq_true h
  have hl : j < ns.length := by
    rw [List.length_map] at h
    omega
  rw [atI_nat (by rw [List.length_map]; exact hl), List.getElem?_map, List.getElem?_eq_getElem hl, List.getD, List.getElem?_eq_getElem hl]
  rfl
theorem pail_ok {x : Int} {at' : Nat} (h : at' ≤ 1000) : Pail 0 [.int (if (if x < 0 then -x else x) - 10 ^ (18 : Int).toNat > 0 then (if x < 0 then -x else x) - 10 ^ (18 : Int).toNat else 0), .int (x.fmod (10 ^ (38 : Int).toNat + 133) * 97 + 61 * (at' : Nat) + 29), .int 0] := by
  have hm := fmod_in x (m := 10 ^ (38 : Int).toNat + 133) (by decide)
  have e : (10 : Int) ^ (38 : Int).toNat + 133 = 100000000000000000000000000000000000133 := by decide
  rw [e] at hm ⊢
  refine ⟨_, _, _, rfl, ?_, ?_, by decide, by decide⟩
  · split <;> omega
  · have : (2 : Nat) ^ 200 = 1606938044258990275541962092341162602522202993782792835301376 := by decide
    omega
theorem pail_mul (x : Int) : CMulW (x.fmod (10 ^ (38 : Int).toNat + 133)) 97 := by
  have hm := fmod_in x (m := 10 ^ (38 : Int).toNat + 133) (by decide)
  have e : (10 : Int) ^ (38 : Int).toNat + 133 = 100000000000000000000000000000000000133 := by decide
  rw [e] at hm ⊢
  refine wide_mul (a := 140) (b := 10) ?_ (by decide) (by decide) (by decide) (by decide)
  have : (2 : Nat) ^ 140 = 1393796574908163946345982392040522594123776 := by decide
  omega
def dsMoment : DSp := fun as post => ∃ (n st : Int) (ds : List Dt), as = [.ow ds, .dt (.int st)] ∧ Pail n ds ∧ n ≤ 100000000 ∧ 0 ≤ st ∧ st < 4 ∧ ∀ r ds', 0 ≤ r → r < 10 ^ 40 → Pail (n + 4) ds' → post (.dt (.int r)) [.ow ds', .un]
section
variable {P : Program} {w : World}
variable {K : PySem.W.Frag}
variable {mg : Str → Option Value} {base : Heap}
theorem ok__law_pail (m_len : mg "len" = none) (m_abs : mg "abs" = none) (m_max : mg "max" = none) {f : Addr} {fd : FuncData} (F : Fun K "_law_pail" "_law_pail" s__law_pail f fd) : FnG P w K mg base 1 f fd ["script", "at"] (spD K dsPail) := by
  refine FnG.of F sc__law_pail (fun as post h => by obtain ⟨_, _, h⟩ := h; rw [h.1]; rfl) fun cdv A outer s H vs fo as post hr hgu hD => ?_
  obtain ⟨ns, at', rfl, hz, hq⟩ := hD
  have a0 : At (coreOf P w K mg base (A.deeper (envOfC "_law_pail" (defScope s__law_pail) s.heap.objs.size f cdv)) ["script", "at", "cell"] ((envOfC "_law_pail" (defScope s__law_pail) s.heap.objs.size f cdv) :: outer)) (varOf s H (envOfC "_law_pail" (defScope s__law_pail) s.heap.objs.size f cdv) outer) "script" 0 := ⟨rfl, fun _ => by first | exact .inl rfl | exact .inr (.inl rfl), by decide, by decide⟩
  have s0 : AtS (coreOf P w K mg base (A.deeper (envOfC "_law_pail" (defScope s__law_pail) s.heap.objs.size f cdv)) ["script", "at", "cell"] ((envOfC "_law_pail" (defScope s__law_pail) s.heap.objs.size f cdv) :: outer)) (varOf s H (envOfC "_law_pail" (defScope s__law_pail) s.heap.objs.size f cdv) outer) "script" 0 := ⟨sc__law_pail.nd, rfl, fun _ => by first | exact .inl rfl | exact .inr rfl, fun _ => .inl rfl⟩
  have a1 : At (coreOf P w K mg base (A.deeper (envOfC "_law_pail" (defScope s__law_pail) s.heap.objs.size f cdv)) ["script", "at", "cell"] ((envOfC "_law_pail" (defScope s__law_pail) s.heap.objs.size f cdv) :: outer)) (varOf s H (envOfC "_law_pail" (defScope s__law_pail) s.heap.objs.size f cdv) outer) "at" 1 := ⟨rfl, fun _ => by first | exact .inl rfl | exact .inr (.inl rfl), by decide, by decide⟩
  have s1 : AtS (coreOf P w K mg base (A.deeper (envOfC "_law_pail" (defScope s__law_pail) s.heap.objs.size f cdv)) ["script", "at", "cell"] ((envOfC "_law_pail" (defScope s__law_pail) s.heap.objs.size f cdv) :: outer)) (varOf s H (envOfC "_law_pail" (defScope s__law_pail) s.heap.objs.size f cdv) outer) "at" 1 := ⟨sc__law_pail.nd, rfl, fun _ => by first | exact .inl rfl | exact .inr rfl, fun _ => .inl rfl⟩
  have a2 : At (coreOf P w K mg base (A.deeper (envOfC "_law_pail" (defScope s__law_pail) s.heap.objs.size f cdv)) ["script", "at", "cell"] ((envOfC "_law_pail" (defScope s__law_pail) s.heap.objs.size f cdv) :: outer)) (varOf s H (envOfC "_law_pail" (defScope s__law_pail) s.heap.objs.size f cdv) outer) "cell" 2 := ⟨rfl, fun _ => by first | exact .inl rfl | exact .inr (.inl rfl), by decide, by decide⟩
  have s2 : AtS (coreOf P w K mg base (A.deeper (envOfC "_law_pail" (defScope s__law_pail) s.heap.objs.size f cdv)) ["script", "at", "cell"] ((envOfC "_law_pail" (defScope s__law_pail) s.heap.objs.size f cdv) :: outer)) (varOf s H (envOfC "_law_pail" (defScope s__law_pail) s.heap.objs.size f cdv) outer) "cell" 2 := ⟨sc__law_pail.nd, rfl, fun _ => by first | exact .inl rfl | exact .inr rfl, fun _ => .inl rfl⟩
  show BD _ _ _ _ _ [AV.dt (.scr ns), .dt (.int (at' : Nat)), .un]
  refine (bd_cons (sd_set 2 s2 (fun _ => rfl) (lt1 rfl) (nl rfl) (ed_ifExp (td_lt (ek_ed (ed_name 1 a1 rfl (ek_ed (ed_len (fun _ => rfl) m_len (fun _ => rfl) (ek_ed (ed_name 0 a0 rfl ⟨_, rfl, (CmpT.mk rfl rfl ⟨fun hif => (ed_ixD (fun _ _ => rfl) (ek_ed (ed_name 0 a0 rfl (ek_ed (ed_name 1 a1 rfl (IxD.mk rfl rfl (scr_at hif) (bd_cons (sd_ret (ed_lst (ea_cons (fun _ => rfl) (ek_ed (ed_max2 (fun _ => rfl) m_max (fun _ => rfl) (fun _ => rfl) (fun _ => rfl) (ek_ed (ed_int (ek_ed (ed_sub (ek_ed (ed_abs (fun _ => rfl) m_abs (fun _ => rfl) (ek_ed (ed_name 2 a2 rfl ⟨_, rfl, (ek_ed (ed_pow (ek_ed (ed_int (ek_ed (ed_int (IntR.mk rfl rfl ?_ (IntR.mk rfl rfl trivial ⟨_, _, rfl, rfl, (ea_cons (fun _ => rfl) (ek_ed (ed_add (ek_ed (ed_add (ek_ed (ed_mul (ek_ed (ed_mod (ek_ed (ed_name 2 a2 rfl (ek_ed (ed_add (ek_ed (ed_pow (ek_ed (ed_int (ek_ed (ed_int (IntR.mk rfl rfl ?_ (ek_ed (ed_int (AddR.int rfl rfl (IntR.mk rfl rfl ?_ (ek_ed (ed_int (MulR.int rfl rfl ?_ (ek_ed (ed_mul (ek_ed (ed_int (ek_ed (ed_name 1 a1 rfl (MulR.int rfl rfl ?_ (AddR.int rfl rfl (ek_ed (ed_int (AddR.int rfl rfl (ea_cons (fun _ => rfl) (ek_ed (ed_int (ea_nil ⟨_, rfl, le1 rfl, ?_⟩))))))))))))))))))))))))))))))))))))))))))⟩))))))))⟩)))))))))))))))))))), fun hif => (ed_int (bd_cons (sd_ret (ed_lst (ea_cons (fun _ => rfl) (ek_ed (ed_max2 (fun _ => rfl) m_max (fun _ => rfl) (fun _ => rfl) (fun _ => rfl) (ek_ed (ed_int (ek_ed (ed_sub (ek_ed (ed_abs (fun _ => rfl) m_abs (fun _ => rfl) (ek_ed (ed_name 2 a2 rfl ⟨_, rfl, (ek_ed (ed_pow (ek_ed (ed_int (ek_ed (ed_int (IntR.mk rfl rfl ?_ (IntR.mk rfl rfl trivial ⟨_, _, rfl, rfl, (ea_cons (fun _ => rfl) (ek_ed (ed_add (ek_ed (ed_add (ek_ed (ed_mul (ek_ed (ed_mod (ek_ed (ed_name 2 a2 rfl (ek_ed (ed_add (ek_ed (ed_pow (ek_ed (ed_int (ek_ed (ed_int (IntR.mk rfl rfl ?_ (ek_ed (ed_int (AddR.int rfl rfl (IntR.mk rfl rfl ?_ (ek_ed (ed_int (MulR.int rfl rfl ?_ (ek_ed (ed_mul (ek_ed (ed_int (ek_ed (ed_name 1 a1 rfl (MulR.int rfl rfl ?_ (AddR.int rfl rfl (ek_ed (ed_int (AddR.int rfl rfl (ea_cons (fun _ => rfl) (ek_ed (ed_int (ea_nil ⟨_, rfl, le1 rfl, ?_⟩))))))))))))))))))))))))))))))))))))))))))⟩))))))))⟩)))))))))))))))⟩)⟩))))))))))
  all_goals first
    | exact powW_ok (n := 10) (by decide) (by decide) (by decide)
    | decide
    | exact pail_mul _
    | exact wide_mul (a := 10) (b := 20) (by decide) (by omega) (by decide) (by decide) (by decide)
    | exact hq _ (pail_ok hz)
theorem ok__law_moment {f__law_dip : Addr} {d__law_dip : FuncData} (G__law_dip : FnG P w K mg base 1 f__law_dip d__law_dip ["pail", "many"] (spD K dsDip)) (g__law_dip : mg "_law_dip" = some (.ref f__law_dip)) (k__law_dip : PySem.W.keepIn K (.ref f__law_dip) = true) (b__law_dip : Binds K d__law_dip ["pail", "many"] []) {f : Addr} {fd : FuncData} (F : Fun K "_law_moment" "_law_moment" s__law_moment f fd) : FnG P w K mg base 2 f fd ["pail", "style"] (spD K dsMoment) := by
  refine FnG.of F sc__law_moment (fun as post h => by obtain ⟨_, _, _, h⟩ := h; rw [h.1]; rfl) fun cdv A outer s H vs fo as post hr hgu hD => ?_
  obtain ⟨n, st, ds, rfl, hp, hn, h0, h4, hq⟩ := hD
  have a0 : At (coreOf P w K mg base (A.deeper (envOfC "_law_moment" (defScope s__law_moment) s.heap.objs.size f cdv)) ["pail", "style", "late"] ((envOfC "_law_moment" (defScope s__law_moment) s.heap.objs.size f cdv) :: outer)) (varOf s H (envOfC "_law_moment" (defScope s__law_moment) s.heap.objs.size f cdv) outer) "pail" 0 := ⟨rfl, fun _ => by first | exact .inl rfl | exact .inr (.inl rfl), by decide, by decide⟩
  have s0 : AtS (coreOf P w K mg base (A.deeper (envOfC "_law_moment" (defScope s__law_moment) s.heap.objs.size f cdv)) ["pail", "style", "late"] ((envOfC "_law_moment" (defScope s__law_moment) s.heap.objs.size f cdv) :: outer)) (varOf s H (envOfC "_law_moment" (defScope s__law_moment) s.heap.objs.size f cdv) outer) "pail" 0 := ⟨sc__law_moment.nd, rfl, fun _ => by first | exact .inl rfl | exact .inr rfl, fun _ => .inl rfl⟩
  have a1 : At (coreOf P w K mg base (A.deeper (envOfC "_law_moment" (defScope s__law_moment) s.heap.objs.size f cdv)) ["pail", "style", "late"] ((envOfC "_law_moment" (defScope s__law_moment) s.heap.objs.size f cdv) :: outer)) (varOf s H (envOfC "_law_moment" (defScope s__law_moment) s.heap.objs.size f cdv) outer) "style" 1 := ⟨rfl, fun _ => by first | exact .inl rfl | exact .inr (.inl rfl), by decide, by decide⟩
  have s1 : AtS (coreOf P w K mg base (A.deeper (envOfC "_law_moment" (defScope s__law_moment) s.heap.objs.size f cdv)) ["pail", "style", "late"] ((envOfC "_law_moment" (defScope s__law_moment) s.heap.objs.size f cdv) :: outer)) (varOf s H (envOfC "_law_moment" (defScope s__law_moment) s.heap.objs.size f cdv) outer) "style" 1 := ⟨sc__law_moment.nd, rfl, fun _ => by first | exact .inl rfl | exact .inr rfl, fun _ => .inl rfl⟩
  have a2 : At (coreOf P w K mg base (A.deeper (envOfC "_law_moment" (defScope s__law_moment) s.heap.objs.size f cdv)) ["pail", "style", "late"] ((envOfC "_law_moment" (defScope s__law_moment) s.heap.objs.size f cdv) :: outer)) (varOf s H (envOfC "_law_moment" (defScope s__law_moment) s.heap.objs.size f cdv) outer) "late" 2 := ⟨rfl, fun _ => by first | exact .inl rfl | exact .inr (.inl rfl), by decide, by decide⟩
  have s2 : AtS (coreOf P w K mg base (A.deeper (envOfC "_law_moment" (defScope s__law_moment) s.heap.objs.size f cdv)) ["pail", "style", "late"] ((envOfC "_law_moment" (defScope s__law_moment) s.heap.objs.size f cdv) :: outer)) (varOf s H (envOfC "_law_moment" (defScope s__law_moment) s.heap.objs.size f cdv) outer) "late" 2 := ⟨sc__law_moment.nd, rfl, fun _ => by first | exact .inl rfl | exact .inr rfl, fun _ => .inl rfl⟩
  show BD _ _ _ _ _ [.ow ds, .dt (.int st), .un]
  have hst : st = 0 ∨ st = 1 ∨ st = 2 ∨ st = 3 := by omega
  rcases hst with rfl | rfl | rfl | rfl
  all_goals refine (bd_cons (sd_set 2 s2 (fun _ => rfl) (lt1 rfl) (nl rfl) (ed_sub (ek_ed (ed_pow (ek_ed (ed_int (ek_ed (ed_int (IntR.mk rfl rfl ?_ (ek_ed (ed_pow (ek_ed (ed_int (ek_ed (ed_int (IntR.mk rfl rfl ?_ (IntR.mk rfl rfl trivial (bd_cons (sd_ret (ed_ixD (fun _ _ => rfl) (ek_ed (ed_lst (ea_cons (fun _ => rfl) (ek_ed (ed_call G__law_dip (hr.mono (by decide)) hgu (fun _ => rfl) g__law_dip k__law_dip b__law_dip (by decide) (fun _ => rfl) (fun _ => rfl) (ea_cons (fun _ => rfl) (ek_loan 0 a0 rfl (ea_cons (fun _ => rfl) (ek_ed (ed_int (ea_nil ⟨_, rfl, rfl, ⟨_, _, _, rfl, hp, (by omega), (by first | decide | omega), (by first | decide | omega), fun r ds hr0 hr1 hp => fun _ => (ea_cons (fun _ => rfl) (ek_ed (ed_call G__law_dip (hr.mono (by decide)) hgu (fun _ => rfl) g__law_dip k__law_dip b__law_dip (by decide) (fun _ => rfl) (fun _ => rfl) (ea_cons (fun _ => rfl) (ek_loan 0 a0 rfl (ea_cons (fun _ => rfl) (ek_ed (ed_int (ea_nil ⟨_, rfl, rfl, ⟨_, _, _, rfl, hp, (by omega), (by first | decide | omega), (by first | decide | omega), fun r ds hr0 hr1 hp => fun _ => (ea_cons (fun _ => rfl) (ek_ed (ed_add (ek_ed (ed_name 2 a2 rfl (ek_ed (ed_call G__law_dip (hr.mono (by decide)) hgu (fun _ => rfl) g__law_dip k__law_dip b__law_dip (by decide) (fun _ => rfl) (fun _ => rfl) (ea_cons (fun _ => rfl) (ek_loan 0 a0 rfl (ea_cons (fun _ => rfl) (ek_ed (ed_int (ea_nil ⟨_, rfl, rfl, ⟨_, _, _, rfl, hp, (by omega), (by first | decide | omega), (by first | decide | omega), fun r ds hr0 hr1 hp => fun _ => (AddR.int rfl rfl (ea_cons (fun _ => rfl) (ek_ed (ed_call G__law_dip (hr.mono (by decide)) hgu (fun _ => rfl) g__law_dip k__law_dip b__law_dip (by decide) (fun _ => rfl) (fun _ => rfl) (ea_cons (fun _ => rfl) (ek_loan 0 a0 rfl (ea_cons (fun _ => rfl) (ek_ed (ed_name 2 a2 rfl (ea_nil ⟨_, rfl, rfl, ⟨_, _, _, rfl, hp, (by omega), (by first | decide | omega), (by first | decide | omega), fun r ds hr0 hr1 hp => fun _ => (ea_nil ⟨_, rfl, le1 rfl, (ek_ed (ed_name 1 a1 rfl (IxD.mk rfl rfl rfl ?_)))⟩)⟩⟩))))))))))⟩⟩)))))))))))))⟩⟩)))))))))⟩⟩))))))))))))))))))))))))))))))))
  all_goals first
    | exact powW_ok (n := 10) (by decide) (by decide) (by decide)
    | skip
  all_goals
    have e40 : (10 : Int) ^ Int.toNat 40 = 10000000000000000000000000000000000000000 := by decide
    have e31 : (10 : Int) ^ Int.toNat 31 = 10000000000000000000000000000000 := by decide
    simp only [e40, e31] at *
    exact hq _ _ (by omega) (by omega) (hp.mono (by omega))
end
/-! ### the grown table -/
/-- in each three the two least are equal; the numbers are small -/
def HistT (t : Nat → Nat → Int) (n : Nat) : Prop := (∀ a b c, a < b → b < c → c < n → bad3 t a b c = false) ∧ ∀ j i, i < j → j < n → 0 ≤ t j i ∧ t j i < 10 ^ 40
def dsGrown : DSp := fun as post => ∃ (n : Int) (N : Nat) (ds : List Dt), as = [.ow ds, .dt (.int (N : Nat))] ∧ Pail n ds ∧ n ≤ 10000000 ∧ 1 ≤ N ∧ N ≤ 20 ∧ ∀ t ds', HistT t N → Pail (n + 1000) ds' → post (.dt (.tup (tbD t N))) [.ow ds', .un]
theorem tbD_max {t : Nat → Nat → Int} {a b n : Nat} (ha : a < n) (hb : b < n) : atI (tbD t n) (if (b : Int) > (a : Nat) then ((b : Nat) : Int) else (a : Nat)) = some (.tup (rowD t (max a b))) := by
  by_cases h : b > a
  · rw [if_pos (by omega), show max a b = b by omega]
    exact tbD_at hb
  · rw [if_neg (by omega), show max a b = a by omega]
    exact tbD_at ha
theorem rowD_min {t : Nat → Nat → Int} {a b : Nat} (h : b ≠ a) : atI (rowD t (max a b)) (if (b : Int) < (a : Nat) then ((b : Nat) : Int) else (a : Nat)) = some (.int (t (max a b) (min a b))) := by
  by_cases h1 : b < a
  · rw [if_pos (by omega), show min a b = b by omega]
    exact rowD_at (by omega)
  · rw [if_neg (by omega), show min a b = a by omega]
    exact rowD_at (by omega)
/-- t with one more row -/
def grow (t : Nat → Nat → Int) (m : Nat) (f : Nat → Int) : Nat → Nat → Int := fun j i => if j = m then f i else t j i
theorem row_grow {t : Nat → Nat → Int} {m j : Nat} {f : Nat → Int} (h : j < m) : rowD (grow t m f) j = rowD t j := by
  unfold rowD; refine List.map_congr_left fun i _ => ?_
  unfold grow
  rw [if_neg (by omega)]
theorem tb_grow (t : Nat → Nat → Int) (m : Nat) (f : Nat → Int) : tbD (grow t m f) (m + 1) = tbD t m ++ [.tup ((List.range m).map fun i => .int (f i))] := by
  unfold tbD
  rw [List.range_succ, List.map_append]
  congr 1
  · refine List.map_congr_left fun j hj => ?_
    rw [row_grow (List.mem_range.mp hj)]
  · show [Dt.tup (rowD (grow t m f) m)] = _
    congr 2
    unfold rowD; refine List.map_congr_left fun i _ => ?_
    unfold grow
    rw [if_pos rfl]
theorem tb_one (t : Nat → Nat → Int) : tbD t 1 = [.tup []] := rfl
/-- the day of a new item with the mate x: late with the nearest one, else the earlier one of late and the day of mate and nearest -/
def farOf (t : Nat → Nat → Int) (a : Nat) (late : Int) (x : Nat) : Int := if x = a then late else (if t (max a x) (min a x) < late then t (max a x) (min a x) else late)
theorem ne_nat {a b : Nat} (h : (!decide (((b : Nat) : Int) = (a : Nat))) = true) : b ≠ a := fun e => ne_of_nd h (by rw [e])
theorem eq_nat {a b : Nat} (h : (!decide (((b : Nat) : Int) = (a : Nat))) = false) : b = a := by
  have := eq_of_nd h
  omega
theorem map_range_succ {α : Type} (f : Nat → α) (n : Nat) : (List.range (n + 1)).map f = (List.range n).map f ++ [f n] := by
  rw [List.range_succ, List.map_append]
  rfl
theorem far_eq (t : Nat → Nat → Int) (a : Nat) (late : Int) : farOf t a late a = late := if_pos rfl
theorem far_ne {t : Nat → Nat → Int} {a x : Nat} {late : Int} (h : x ≠ a) : farOf t a late x = (if t (max a x) (min a x) < late then t (max a x) (min a x) else late) := if_neg h
theorem bad_no {a b c : Int} : badB a b c = false ↔ (a = b ∧ a ≤ c) ∨ (a = c ∧ a ≤ b) ∨ (b = c ∧ b ≤ a) := by
  unfold badB
  simp only [Bool.not_eq_false', Bool.or_eq_true, Bool.and_eq_true, decide_eq_true_eq]
  omega
theorem hist_grow {t : Nat → Nat → Int} {m a : Nat} {late : Int} (h : HistT t m) (ha : a < m) (h0 : 0 ≤ late) (h1 : late < 10 ^ 40) : HistT (grow t m (farOf t a late)) (m + 1) := by
  obtain ⟨ht, hb⟩ := h
  refine ⟨fun x y z hxy hyz hz => ?_, fun j i hij hj => ?_⟩
  · by_cases hzm : z = m
    · subst hzm
      have e1 : grow t z (farOf t a late) y x = t y x := by
        unfold grow
        rw [if_neg (by omega)]
      have e2 : ∀ i, grow t z (farOf t a late) z i = farOf t a late i := fun i => by
        unfold grow
        rw [if_pos rfl]
      unfold bad3
      rw [e1, e2, e2, bad_no]
      by_cases hxa : x = a
      · subst hxa
        unfold farOf
        rw [if_pos rfl, if_neg (by omega), show max x y = y by omega, show min x y = x by omega]
        split <;> omega
      · by_cases hya : y = a
        · subst hya
          unfold farOf
          rw [if_pos rfl, if_neg (by omega), show max y x = y by omega, show min y x = x by omega]
          split <;> omega
        · unfold farOf
          rw [if_neg hxa, if_neg hya]
          by_cases h1 : a < x
          · have := bad_no.mp (ht a x y h1 hxy (by omega))
            rw [show max a x = x by omega, show min a x = a by omega, show max a y = y by omega, show min a y = a by omega]
            split <;> split <;> omega
          · by_cases h2 : a < y
            · have := bad_no.mp (ht x a y (by omega) h2 (by omega))
              rw [show max a x = a by omega, show min a x = x by omega, show max a y = y by omega, show min a y = a by omega]
              split <;> split <;> omega
            · have := bad_no.mp (ht x y a hxy (by omega) ha)
              rw [show max a x = a by omega, show min a x = x by omega, show max a y = a by omega, show min a y = y by omega]
              split <;> split <;> omega
    · have e : ∀ i j, j < z + 1 → i < z + 1 → grow t m (farOf t a late) j i = t j i := fun i j hj hi => by
        unfold grow
        rw [if_neg (by omega)]
      unfold bad3
      rw [e _ _ (by omega) (by omega), e _ _ (by omega) (by omega), e _ _ (by omega) (by omega)]
      exact ht x y z hxy hyz (by omega)
  · unfold grow
    by_cases hjm : j = m
    · rw [if_pos hjm]
      unfold farOf
      split
      · exact ⟨h0, h1⟩
      · have := hb (max a i) (min a i) (by omega) (by omega)
        split <;> omega
    · rw [if_neg hjm]
      exact hb j i hij (by omega)
section
variable {P : Program} {w : World}
variable {K : PySem.W.Frag}
variable {mg : Str → Option Value} {base : Heap}
theorem ok__law_grown {f__law_dip : Addr} {d__law_dip : FuncData} (G__law_dip : FnG P w K mg base 1 f__law_dip d__law_dip ["pail", "many"] (spD K dsDip)) (g__law_dip : mg "_law_dip" = some (.ref f__law_dip)) (k__law_dip : PySem.W.keepIn K (.ref f__law_dip) = true) (b__law_dip : Binds K d__law_dip ["pail", "many"] []) {f__law_moment : Addr} {d__law_moment : FuncData} (G__law_moment : FnG P w K mg base 2 f__law_moment d__law_moment ["pail", "style"] (spD K dsMoment)) (g__law_moment : mg "_law_moment" = some (.ref f__law_moment)) (k__law_moment : PySem.W.keepIn K (.ref f__law_moment) = true) (b__law_moment : Binds K d__law_moment ["pail", "style"] []) (m_range : mg "range" = none) (m_max : mg "max" = none) (m_min : mg "min" = none) (m_tuple : mg "tuple" = none) {f : Addr} {fd : FuncData} (F : Fun K "_law_grown" "_law_grown" s__law_grown f fd) : FnG P w K mg base 3 f fd ["pail", "many"] (spD K dsGrown) := by
  refine FnG.of F sc__law_grown (fun as post h => by obtain ⟨_, _, _, h⟩ := h; rw [h.1]; rfl) fun cdv A outer s H vs fo as post hr hgu hD => ?_
  obtain ⟨n, N, ds, rfl, hp, hn, hN1, hN2, hq⟩ := hD
  have a0 : At (coreOf P w K mg base (A.deeper (envOfC "_law_grown" (defScope s__law_grown) s.heap.objs.size f cdv)) ["pail", "many", "style", "found", "item", "near", "late", "days_here", "mate", "far"] ((envOfC "_law_grown" (defScope s__law_grown) s.heap.objs.size f cdv) :: outer)) (varOf s H (envOfC "_law_grown" (defScope s__law_grown) s.heap.objs.size f cdv) outer) "pail" 0 := ⟨rfl, fun _ => by first | exact .inl rfl | exact .inr (.inl rfl), by decide, by decide⟩
  have s0 : AtS (coreOf P w K mg base (A.deeper (envOfC "_law_grown" (defScope s__law_grown) s.heap.objs.size f cdv)) ["pail", "many", "style", "found", "item", "near", "late", "days_here", "mate", "far"] ((envOfC "_law_grown" (defScope s__law_grown) s.heap.objs.size f cdv) :: outer)) (varOf s H (envOfC "_law_grown" (defScope s__law_grown) s.heap.objs.size f cdv) outer) "pail" 0 := ⟨sc__law_grown.nd, rfl, fun _ => by first | exact .inl rfl | exact .inr rfl, fun _ => .inl rfl⟩
  have a1 : At (coreOf P w K mg base (A.deeper (envOfC "_law_grown" (defScope s__law_grown) s.heap.objs.size f cdv)) ["pail", "many", "style", "found", "item", "near", "late", "days_here", "mate", "far"] ((envOfC "_law_grown" (defScope s__law_grown) s.heap.objs.size f cdv) :: outer)) (varOf s H (envOfC "_law_grown" (defScope s__law_grown) s.heap.objs.size f cdv) outer) "many" 1 := ⟨rfl, fun _ => by first | exact .inl rfl | exact .inr (.inl rfl), by decide, by decide⟩
  have s1 : AtS (coreOf P w K mg base (A.deeper (envOfC "_law_grown" (defScope s__law_grown) s.heap.objs.size f cdv)) ["pail", "many", "style", "found", "item", "near", "late", "days_here", "mate", "far"] ((envOfC "_law_grown" (defScope s__law_grown) s.heap.objs.size f cdv) :: outer)) (varOf s H (envOfC "_law_grown" (defScope s__law_grown) s.heap.objs.size f cdv) outer) "many" 1 := ⟨sc__law_grown.nd, rfl, fun _ => by first | exact .inl rfl | exact .inr rfl, fun _ => .inl rfl⟩
  have a2 : At (coreOf P w K mg base (A.deeper (envOfC "_law_grown" (defScope s__law_grown) s.heap.objs.size f cdv)) ["pail", "many", "style", "found", "item", "near", "late", "days_here", "mate", "far"] ((envOfC "_law_grown" (defScope s__law_grown) s.heap.objs.size f cdv) :: outer)) (varOf s H (envOfC "_law_grown" (defScope s__law_grown) s.heap.objs.size f cdv) outer) "style" 2 := ⟨rfl, fun _ => by first | exact .inl rfl | exact .inr (.inl rfl), by decide, by decide⟩
  have s2 : AtS (coreOf P w K mg base (A.deeper (envOfC "_law_grown" (defScope s__law_grown) s.heap.objs.size f cdv)) ["pail", "many", "style", "found", "item", "near", "late", "days_here", "mate", "far"] ((envOfC "_law_grown" (defScope s__law_grown) s.heap.objs.size f cdv) :: outer)) (varOf s H (envOfC "_law_grown" (defScope s__law_grown) s.heap.objs.size f cdv) outer) "style" 2 := ⟨sc__law_grown.nd, rfl, fun _ => by first | exact .inl rfl | exact .inr rfl, fun _ => .inl rfl⟩
  have a3 : At (coreOf P w K mg base (A.deeper (envOfC "_law_grown" (defScope s__law_grown) s.heap.objs.size f cdv)) ["pail", "many", "style", "found", "item", "near", "late", "days_here", "mate", "far"] ((envOfC "_law_grown" (defScope s__law_grown) s.heap.objs.size f cdv) :: outer)) (varOf s H (envOfC "_law_grown" (defScope s__law_grown) s.heap.objs.size f cdv) outer) "found" 3 := ⟨rfl, fun _ => by first | exact .inl rfl | exact .inr (.inl rfl), by decide, by decide⟩
  have s3 : AtS (coreOf P w K mg base (A.deeper (envOfC "_law_grown" (defScope s__law_grown) s.heap.objs.size f cdv)) ["pail", "many", "style", "found", "item", "near", "late", "days_here", "mate", "far"] ((envOfC "_law_grown" (defScope s__law_grown) s.heap.objs.size f cdv) :: outer)) (varOf s H (envOfC "_law_grown" (defScope s__law_grown) s.heap.objs.size f cdv) outer) "found" 3 := ⟨sc__law_grown.nd, rfl, fun _ => by first | exact .inl rfl | exact .inr rfl, fun _ => .inl rfl⟩
  have a4 : At (coreOf P w K mg base (A.deeper (envOfC "_law_grown" (defScope s__law_grown) s.heap.objs.size f cdv)) ["pail", "many", "style", "found", "item", "near", "late", "days_here", "mate", "far"] ((envOfC "_law_grown" (defScope s__law_grown) s.heap.objs.size f cdv) :: outer)) (varOf s H (envOfC "_law_grown" (defScope s__law_grown) s.heap.objs.size f cdv) outer) "item" 4 := ⟨rfl, fun _ => by first | exact .inl rfl | exact .inr (.inl rfl), by decide, by decide⟩
  have s4 : AtS (coreOf P w K mg base (A.deeper (envOfC "_law_grown" (defScope s__law_grown) s.heap.objs.size f cdv)) ["pail", "many", "style", "found", "item", "near", "late", "days_here", "mate", "far"] ((envOfC "_law_grown" (defScope s__law_grown) s.heap.objs.size f cdv) :: outer)) (varOf s H (envOfC "_law_grown" (defScope s__law_grown) s.heap.objs.size f cdv) outer) "item" 4 := ⟨sc__law_grown.nd, rfl, fun _ => by first | exact .inl rfl | exact .inr rfl, fun _ => .inl rfl⟩
  have a5 : At (coreOf P w K mg base (A.deeper (envOfC "_law_grown" (defScope s__law_grown) s.heap.objs.size f cdv)) ["pail", "many", "style", "found", "item", "near", "late", "days_here", "mate", "far"] ((envOfC "_law_grown" (defScope s__law_grown) s.heap.objs.size f cdv) :: outer)) (varOf s H (envOfC "_law_grown" (defScope s__law_grown) s.heap.objs.size f cdv) outer) "near" 5 := ⟨rfl, fun _ => by first | exact .inl rfl | exact .inr (.inl rfl), by decide, by decide⟩
  have s5 : AtS (coreOf P w K mg base (A.deeper (envOfC "_law_grown" (defScope s__law_grown) s.heap.objs.size f cdv)) ["pail", "many", "style", "found", "item", "near", "late", "days_here", "mate", "far"] ((envOfC "_law_grown" (defScope s__law_grown) s.heap.objs.size f cdv) :: outer)) (varOf s H (envOfC "_law_grown" (defScope s__law_grown) s.heap.objs.size f cdv) outer) "near" 5 := ⟨sc__law_grown.nd, rfl, fun _ => by first | exact .inl rfl | exact .inr rfl, fun _ => .inl rfl⟩
  have a6 : At (coreOf P w K mg base (A.deeper (envOfC "_law_grown" (defScope s__law_grown) s.heap.objs.size f cdv)) ["pail", "many", "style", "found", "item", "near", "late", "days_here", "mate", "far"] ((envOfC "_law_grown" (defScope s__law_grown) s.heap.objs.size f cdv) :: outer)) (varOf s H (envOfC "_law_grown" (defScope s__law_grown) s.heap.objs.size f cdv) outer) "late" 6 := ⟨rfl, fun _ => by first | exact .inl rfl | exact .inr (.inl rfl), by decide, by decide⟩
  have s6 : AtS (coreOf P w K mg base (A.deeper (envOfC "_law_grown" (defScope s__law_grown) s.heap.objs.size f cdv)) ["pail", "many", "style", "found", "item", "near", "late", "days_here", "mate", "far"] ((envOfC "_law_grown" (defScope s__law_grown) s.heap.objs.size f cdv) :: outer)) (varOf s H (envOfC "_law_grown" (defScope s__law_grown) s.heap.objs.size f cdv) outer) "late" 6 := ⟨sc__law_grown.nd, rfl, fun _ => by first | exact .inl rfl | exact .inr rfl, fun _ => .inl rfl⟩
  have a7 : At (coreOf P w K mg base (A.deeper (envOfC "_law_grown" (defScope s__law_grown) s.heap.objs.size f cdv)) ["pail", "many", "style", "found", "item", "near", "late", "days_here", "mate", "far"] ((envOfC "_law_grown" (defScope s__law_grown) s.heap.objs.size f cdv) :: outer)) (varOf s H (envOfC "_law_grown" (defScope s__law_grown) s.heap.objs.size f cdv) outer) "days_here" 7 := ⟨rfl, fun _ => by first | exact .inl rfl | exact .inr (.inl rfl), by decide, by decide⟩
  have s7 : AtS (coreOf P w K mg base (A.deeper (envOfC "_law_grown" (defScope s__law_grown) s.heap.objs.size f cdv)) ["pail", "many", "style", "found", "item", "near", "late", "days_here", "mate", "far"] ((envOfC "_law_grown" (defScope s__law_grown) s.heap.objs.size f cdv) :: outer)) (varOf s H (envOfC "_law_grown" (defScope s__law_grown) s.heap.objs.size f cdv) outer) "days_here" 7 := ⟨sc__law_grown.nd, rfl, fun _ => by first | exact .inl rfl | exact .inr rfl, fun _ => .inl rfl⟩
  have a8 : At (coreOf P w K mg base (A.deeper (envOfC "_law_grown" (defScope s__law_grown) s.heap.objs.size f cdv)) ["pail", "many", "style", "found", "item", "near", "late", "days_here", "mate", "far"] ((envOfC "_law_grown" (defScope s__law_grown) s.heap.objs.size f cdv) :: outer)) (varOf s H (envOfC "_law_grown" (defScope s__law_grown) s.heap.objs.size f cdv) outer) "mate" 8 := ⟨rfl, fun _ => by first | exact .inl rfl | exact .inr (.inl rfl), by decide, by decide⟩
  have s8 : AtS (coreOf P w K mg base (A.deeper (envOfC "_law_grown" (defScope s__law_grown) s.heap.objs.size f cdv)) ["pail", "many", "style", "found", "item", "near", "late", "days_here", "mate", "far"] ((envOfC "_law_grown" (defScope s__law_grown) s.heap.objs.size f cdv) :: outer)) (varOf s H (envOfC "_law_grown" (defScope s__law_grown) s.heap.objs.size f cdv) outer) "mate" 8 := ⟨sc__law_grown.nd, rfl, fun _ => by first | exact .inl rfl | exact .inr rfl, fun _ => .inl rfl⟩
  have a9 : At (coreOf P w K mg base (A.deeper (envOfC "_law_grown" (defScope s__law_grown) s.heap.objs.size f cdv)) ["pail", "many", "style", "found", "item", "near", "late", "days_here", "mate", "far"] ((envOfC "_law_grown" (defScope s__law_grown) s.heap.objs.size f cdv) :: outer)) (varOf s H (envOfC "_law_grown" (defScope s__law_grown) s.heap.objs.size f cdv) outer) "far" 9 := ⟨rfl, fun _ => by first | exact .inl rfl | exact .inr (.inl rfl), by decide, by decide⟩
  have s9 : AtS (coreOf P w K mg base (A.deeper (envOfC "_law_grown" (defScope s__law_grown) s.heap.objs.size f cdv)) ["pail", "many", "style", "found", "item", "near", "late", "days_here", "mate", "far"] ((envOfC "_law_grown" (defScope s__law_grown) s.heap.objs.size f cdv) :: outer)) (varOf s H (envOfC "_law_grown" (defScope s__law_grown) s.heap.objs.size f cdv) outer) "far" 9 := ⟨sc__law_grown.nd, rfl, fun _ => by first | exact .inl rfl | exact .inr rfl, fun _ => .inl rfl⟩
  show BD _ _ _ _ _ [.ow ds, .dt (.int (N : Nat)), .un, .un, .un, .un, .un, .un, .un, .un]
  refine (bd_cons (sd_par 2 3 s2 s3 (by decide) (fun _ => rfl) (fun _ => rfl) (fun _ => rfl) (fun _ => rfl) (fun _ => rfl) (fun _ => rfl) (lt1 rfl) (lt1 rfl) (nl rfl) (nl rfl) (ed_call G__law_dip (hr.mono (by decide)) hgu (fun _ => rfl) g__law_dip k__law_dip b__law_dip (by decide) (fun _ => rfl) (fun _ => rfl) (ea_cons (fun _ => rfl) (ek_loan 0 a0 rfl (ea_cons (fun _ => rfl) (ek_ed (ed_int (ea_nil ⟨_, rfl, rfl, ⟨_, _, _, rfl, hp, (by omega), (by first | decide | omega), (by first | decide | omega), fun sty ds hs0 hs1 hp => fun _ => fun fo => (ed_lst (ea_cons (fun _ => rfl) (ek_ed (ed_tup (ea_nil ⟨_, rfl, le1 rfl, (ea_nil ⟨_, rfl, le1 rfl, (bd_cons (sd_for (fun _ => PassesOwn.never) (fun _ _ => rfl) (src_R2 (fun _ => rfl) m_range (fun _ => rfl) (fun _ => rfl) (ea_cons (fun _ => rfl) (ek_ed (ed_int (ea_cons (fun _ => rfl) (ek_ed (ed_name 1 a1 rfl (ea_nil ⟨_, _, _, _, rfl, rfl, rfl, ?_, ⟨(fun x Γ => ∃ t ds u4 u5 u6 u7 u8 u9, HistT t (1 + x) ∧ Pail (n + 1 + 5 * (x : Nat)) ds ∧ Γ = [AV.ow ds, .dt (.int (N : Nat)), .dt (.int sty), .ow (tbD t (1 + x)), u4, u5, u6, u7, u8, u9]), ?_, ?_, ?_⟩⟩))))))))))⟩)⟩)))))⟩⟩)))))))))
  · exact ⟨by omega, by omega, by omega, by omega⟩
  · exact ⟨fun _ _ => 0, _, _, _, _, _, _, _, ⟨fun a b c h1 h2 h3 => absurd h3 (by omega), fun j i h1 h2 => absurd h2 (by omega)⟩, hp.mono (by omega), rfl⟩
  · rintro x d Γ2 hd ⟨t, ds, u4, u5, u6, u7, u8, u9, ht, hp, rfl⟩
    have hx : 1 + x < N := by
      have := (List.getElem?_eq_some_iff.mp hd).1
      rw [rngD_len] at this
      omega
    obtain ⟨m, hm⟩ : ∃ m, m = 1 + x := ⟨_, rfl⟩
    rw [rngD_get (by omega), show ((1 : Int) + (x : Nat)) = (m : Nat) by omega] at hd
    cases hd
    rw [← hm] at ht ⊢
    refine ⟨_, fun ff => (gd_name 4 s4 (lt1 rfl) (nl rfl) (bd_cons (sd_par 5 6 s5 s6 (by decide) (fun _ => rfl) (fun _ => rfl) (fun _ => rfl) (fun _ => rfl) (fun _ => rfl) (fun _ => rfl) (lt1 rfl) (lt1 rfl) (nl rfl) (nl rfl) (ed_call G__law_dip (hr.mono (by decide)) hgu (fun _ => rfl) g__law_dip k__law_dip b__law_dip (by decide) (fun _ => rfl) (fun _ => rfl) (ea_cons (fun _ => rfl) (ek_loan 0 a0 rfl (ea_cons (fun _ => rfl) (ek_ed (ed_name 4 a4 rfl (ea_nil ⟨_, rfl, rfl, ⟨_, _, _, rfl, hp, (by omega), (by first | decide | omega), (by first | decide | omega), fun r ds hr0 hr1 hp => fun _ => fun fo => (ed_call G__law_moment (hr.mono (by decide)) hgu (fun _ => rfl) g__law_moment k__law_moment b__law_moment (by decide) (fun _ => rfl) (fun _ => rfl) (ea_cons (fun _ => rfl) (ek_loan 0 a0 rfl (ea_cons (fun _ => rfl) (ek_ed (ed_name 2 a2 rfl (ea_nil ⟨_, rfl, rfl, ⟨_, _, _, rfl, hp, (by omega), (by omega), (by omega), fun late ds hl0 hl1 hp => fun _ => ?_⟩⟩)))))))⟩⟩))))))))))⟩
    obtain ⟨a, rfl⟩ := Int.eq_ofNat_of_zero_le hr0
    have ha : a < m := by omega
    refine (bd_cons (sd_set 7 s7 (fun _ => rfl) (lt1 rfl) (nl rfl) (ed_lst (ea_nil ⟨_, rfl, le1 rfl, (bd_cons (sd_for (fun _ => PassesOwn.never) (fun _ _ => rfl) (src_R1 (fun _ => rfl) m_range (fun _ => rfl) (ea_cons (fun _ => rfl) (ek_ed (ed_name 4 a4 rfl (ea_nil ⟨_, _, rfl, rfl, ?_, ⟨(fun x Γ => ∃ u8 u9, Γ = [AV.ow ds, .dt (.int (N : Nat)), .dt (.int sty), .ow (tbD t m), .dt (.int (m : Nat)), .dt (.int (a : Nat)), .dt (.int late), .ow ((List.range x).map fun i => .int (farOf t a late i)), u8, u9]), ?_, ?_, ?_⟩⟩)))))))⟩))))
    · exact ⟨by omega, by omega⟩
    · exact ⟨_, _, rfl⟩
    · rintro x' d Γ2 hd ⟨u8, u9, rfl⟩
      have hx : x' < m := by
        have := (List.getElem?_eq_some_iff.mp hd).1
        rw [rngD_len] at this
        omega
      rw [rngD_get (by omega), Int.zero_add] at hd
      cases hd
      refine ⟨_, fun ff => (gd_name 8 s8 (lt1 rfl) (nl rfl) (bd_cons (sd_set 9 s9 (fun _ => rfl) (lt1 rfl) (nl rfl) (ed_name 6 a6 rfl (bd_cons (sd_if (td_neI (ek_ed (ed_name 8 a8 rfl (ek_ed (ed_name 5 a5 rfl (CmpT.mk rfl rfl ⟨fun hif => (bd_cons (sd_set 9 s9 (fun _ => rfl) (lt1 rfl) (nl rfl) (ed_min2 (fun _ => rfl) m_min (fun _ => rfl) (fun _ => rfl) (fun _ => rfl) (ek_ed (ed_name 6 a6 rfl (ek_ed (ed_ixD (fun _ _ => rfl) (ek_ed (ed_ixD (fun _ _ => rfl) (ek_loan 3 a3 rfl (ek_ed (ed_max2 (fun _ => rfl) m_max (fun _ => rfl) (fun _ => rfl) (fun _ => rfl) (ek_ed (ed_name 5 a5 rfl (ek_ed (ed_name 8 a8 rfl ⟨_, _, rfl, rfl, (IxD.mk rfl rfl (tbD_max ha hx) (ek_ed (ed_min2 (fun _ => rfl) m_min (fun _ => rfl) (fun _ => rfl) (fun _ => rfl) (ek_ed (ed_name 5 a5 rfl (ek_ed (ed_name 8 a8 rfl ⟨_, _, rfl, rfl, (IxD.mk rfl rfl (rowD_min (ne_nat hif)) ⟨_, _, rfl, rfl, (bd_nil (bd_cons (sd_expr (fun _ => rfl) (ed_append 7 a7 rfl (fun _ => rfl) (fun _ => rfl) rfl (fun _ => rfl) (ek_ed (ed_name 9 a9 rfl ⟨_, _, rfl, rfl, ?_, (bd_nil ?_)⟩))))))⟩)⟩)))))))⟩)))))))))))))))), fun hif => (bd_nil (bd_cons (sd_expr (fun _ => rfl) (ed_append 7 a7 rfl (fun _ => rfl) (fun _ => rfl) rfl (fun _ => rfl) (ek_ed (ed_name 9 a9 rfl ⟨_, _, rfl, rfl, ?_, (bd_nil ?_)⟩))))))⟩))))))))))))⟩
      · rw [List.length_map, List.length_range]; omega
      · have hne : x' ≠ a := ne_nat ‹_›
        refine ⟨.dt (.int (x' : Nat)), .dt (.int (if t (max a x') (min a x') < late then t (max a x') (min a x') else late)), ?_⟩
        rw [map_range_succ, far_ne hne]
        rfl
      · rw [List.length_map, List.length_range]; omega
      · have he : x' = a := eq_nat ‹_›
        subst he
        refine ⟨.dt (.int (x' : Nat)), .dt (.int late), ?_⟩
        rw [map_range_succ, far_eq]
        rfl
    · rintro Γ2 ⟨u8, u9, rfl⟩
      rw [rngD_len, Int.toNat_natCast]
      refine (bd_cons (sd_expr (fun _ => rfl) (ed_append 3 a3 rfl (fun _ => rfl) (fun _ => rfl) rfl (fun _ => rfl) (ek_ed (ed_tuple (fun _ => rfl) m_tuple (fun _ => rfl) (ek_loan 7 a7 rfl ⟨_, rfl, ⟨_, _, rfl, rfl, ?_, (bd_nil ?_)⟩⟩))))))
      · rw [tbD_len]
        omega
      · refine ⟨grow t m (farOf t a late), ds, .dt (.int (m : Nat)), .dt (.int (a : Nat)), .dt (.int late), .ow ((List.range m).map fun i => .int (farOf t a late i)), u8, u9, ?_, hp.mono (by omega), ?_⟩
        · rw [show 1 + (x + 1) = m + 1 by omega]
          exact hist_grow ht ha hl0 hl1
        · rw [show 1 + (x + 1) = m + 1 by omega, tb_grow]
          rfl
  · rintro Γ2 ⟨t, ds, u4, u5, u6, u7, u8, u9, ht, hp, rfl⟩
    rw [rngD_len] at ht hp ⊢
    have e : 1 + ((N : Int) - 1).toNat = N := by omega
    rw [e] at ht ⊢
    refine (bd_cons (sd_ret (ed_tuple (fun _ => rfl) m_tuple (fun _ => rfl) (ek_loan 3 a3 rfl ⟨_, rfl, ?_⟩))))
    exact hq t ds ht (hp.mono (by omega))
end
end K03

namespace K03
open PySem PySem.Spec PyProof.Rows L2 DL
abbrev s_is_item : Stmt := topS 28
theorem sc_is_item : FnScope ["value", "many"] ["value", "many"] (defScope s_is_item) := ⟨rfl, rfl, rfl, by decide +kernel, rfl, by decide +kernel, by decide +kernel⟩
abbrev s_check_items : Stmt := topS 29
theorem sc_check_items : FnScope ["many", "one", "other"] ["many", "one", "other"] (defScope s_check_items) := ⟨rfl, rfl, rfl, by decide +kernel, rfl, by decide +kernel, by decide +kernel⟩
abbrev s_pair_day : Stmt := topS 35
theorem sc_pair_day : FnScope ["table", "one", "other"] ["table", "one", "other"] (defScope s_pair_day) := ⟨rfl, rfl, rfl, by decide +kernel, rfl, by decide +kernel, by decide +kernel⟩
abbrev s_day_of : Stmt := topS 34
theorem sc_day_of : FnScope ["table", "one", "other"] ["table", "one", "other"] (defScope s_day_of) := ⟨rfl, rfl, rfl, by decide +kernel, rfl, by decide +kernel, by decide +kernel⟩
abbrev s_bad_triple : Stmt := topS 36
theorem sc_bad_triple : FnScope ["table"] ["table"] (defScope s_bad_triple) := ⟨rfl, rfl, rfl, by decide +kernel, rfl, by decide +kernel, by decide +kernel⟩
abbrev s_groups : Stmt := topS 38
theorem sc_groups : FnScope ["history", "day"] ["history", "day"] (defScope s_groups) := ⟨rfl, rfl, rfl, by decide +kernel, rfl, by decide +kernel, by decide +kernel⟩
abbrev s_groups_on : Stmt := topS 39
theorem sc_groups_on : FnScope ["history", "day", "found", "item", "row", "later", "last", "k"] ["history", "day"] (defScope s_groups_on) := ⟨rfl, rfl, rfl, by decide +kernel, rfl, by decide +kernel, by decide +kernel⟩

def isItem : Dt → Int → Bool
  | .int i, m => decide (0 ≤ i) && decide (i < m)
  | _, _ => false
def dsItem : DSp := fun as post => ∃ d m, as = [.dt d, .dt (.int m)] ∧ Knd d ∧ post (.dt (.bl (isItem d m))) [.un, .un]
theorem isItem_int {d : Dt} {m : Int} (h : isItem d m = true) : ∃ i, d = .int i := by
  cases d with
  | int i => exact ⟨i, rfl⟩
  | _ => cases h
section
variable {P : Program} {w : World}
variable {K : PySem.W.Frag}
variable {mg : Str → Option Value} {base : Heap}
theorem ok_is_item {f_is_whole : Addr} {d_is_whole : FuncData} (G_is_whole : FnG P w K mg base 1 f_is_whole d_is_whole ["value"] (spD K dsWhole)) (g_is_whole : mg "is_whole" = some (.ref f_is_whole)) (k_is_whole : PySem.W.keepIn K (.ref f_is_whole) = true) (b_is_whole : Binds K d_is_whole ["value"] []) {f : Addr} {fd : FuncData} (F : Fun K "is_item" "is_item" s_is_item f fd) : FnG P w K mg base 2 f fd ["value", "many"] (spD K dsItem) := by
  refine FnG.of F sc_is_item (fun as post h => by obtain ⟨_, _, h⟩ := h; rw [h.1]; rfl) fun cdv A outer s H vs fo as post hr hgu hD => ?_
  obtain ⟨d, m, rfl, ⟨t, hk⟩, hq⟩ := hD
  have a0 : At (coreOf P w K mg base (A.deeper (envOfC "is_item" (defScope s_is_item) s.heap.objs.size f cdv)) ["value", "many"] ((envOfC "is_item" (defScope s_is_item) s.heap.objs.size f cdv) :: outer)) (varOf s H (envOfC "is_item" (defScope s_is_item) s.heap.objs.size f cdv) outer) "value" 0 := ⟨rfl, fun _ => by first | exact .inl rfl | exact .inr (.inl rfl), by decide, by decide⟩
  have s0 : AtS (coreOf P w K mg base (A.deeper (envOfC "is_item" (defScope s_is_item) s.heap.objs.size f cdv)) ["value", "many"] ((envOfC "is_item" (defScope s_is_item) s.heap.objs.size f cdv) :: outer)) (varOf s H (envOfC "is_item" (defScope s_is_item) s.heap.objs.size f cdv) outer) "value" 0 := ⟨sc_is_item.nd, rfl, fun _ => by first | exact .inl rfl | exact .inr rfl, fun _ => .inl rfl⟩
  have a1 : At (coreOf P w K mg base (A.deeper (envOfC "is_item" (defScope s_is_item) s.heap.objs.size f cdv)) ["value", "many"] ((envOfC "is_item" (defScope s_is_item) s.heap.objs.size f cdv) :: outer)) (varOf s H (envOfC "is_item" (defScope s_is_item) s.heap.objs.size f cdv) outer) "many" 1 := ⟨rfl, fun _ => by first | exact .inl rfl | exact .inr (.inl rfl), by decide, by decide⟩
  have s1 : AtS (coreOf P w K mg base (A.deeper (envOfC "is_item" (defScope s_is_item) s.heap.objs.size f cdv)) ["value", "many"] ((envOfC "is_item" (defScope s_is_item) s.heap.objs.size f cdv) :: outer)) (varOf s H (envOfC "is_item" (defScope s_is_item) s.heap.objs.size f cdv) outer) "many" 1 := ⟨sc_is_item.nd, rfl, fun _ => by first | exact .inl rfl | exact .inr rfl, fun _ => .inl rfl⟩
  show BD _ _ _ _ _ [AV.dt _, .dt (.int m)]
  cases d with
  | int i =>
    refine (bd_cons (sd_ret (ed_and (ed_call G_is_whole (hr.mono (by decide)) hgu (fun _ => rfl) g_is_whole k_is_whole b_is_whole (by decide) (fun _ => rfl) (fun _ => rfl) (ea_cons (fun _ => rfl) (ek_ed (ed_name 0 a0 rfl (ea_nil ⟨_, rfl, rfl, ⟨_, rfl, ⟨t, hk⟩, fun _ => ⟨_, rfl, fun hif => (ed_bool1 (ed_chain (fun _ => op_le) (fun _ => op_lt) (by with_unfolding_all rfl) (ek_ed (ed_int (ek_ed (ed_name 0 a0 rfl ⟨_, _, rfl, rfl, fun hif => (ek_ed (ed_name 1 a1 rfl ⟨_, rfl, ?_⟩)), fun hif => ?_⟩)))))), fun hif => ?_⟩⟩⟩))))))))
    · show post (.dt (.bl (decide (i < m)))) [.un, .un]
      have : isItem (.int i) m = decide (i < m) := by show (decide (0 ≤ i) && decide (i < m)) = _; rw [‹decide ((0 : Int) ≤ i) = true›, Bool.true_and]
      rw [← this]; exact hq
    · show post (.dt (.bl false)) [.un, .un]
      have : isItem (.int i) m = false := by show (decide (0 ≤ i) && decide (i < m)) = _; rw [‹decide ((0 : Int) ≤ i) = false›, Bool.false_and]
      rw [← this]; exact hq
    · rename_i hif
      cases hif
  | _ =>
    refine (bd_cons (sd_ret (ed_and (ed_call G_is_whole (hr.mono (by decide)) hgu (fun _ => rfl) g_is_whole k_is_whole b_is_whole (by decide) (fun _ => rfl) (fun _ => rfl) (ea_cons (fun _ => rfl) (ek_ed (ed_name 0 a0 rfl (ea_nil ⟨_, rfl, rfl, ⟨_, rfl, ⟨t, hk⟩, fun _ => ⟨_, rfl, fun hif => (ed_bool1 (Bool.noConfusion (show false = true from hif))), fun hif => ?_⟩⟩⟩))))))))
    exact hq

def dsCheck (cI cS : Addr) : DXp := fun as post out => ∃ m d e, as = [.dt (.int m), .dt d, .dt e] ∧ Knd d ∧ Knd e ∧ (isItem d m = false → out (.ref cI) [.un, .un, .un]) ∧ (isItem d m = true → isItem e m = false → out (.ref cI) [.un, .un, .un]) ∧
  (∀ i j : Int, d = .int i → e = .int j → isItem d m = true → isItem e m = true → (i = j → out (.ref cS) [.un, .un, .un]) ∧ (i ≠ j → post (.dt .non) [.un, .un, .un]))
def dsPair : DSp := fun as post => ∃ t n i j, as = [.dt (.tup (tbD t n)), .dt (.int i), .dt (.int j)] ∧ n ≤ 1000000 ∧ 0 ≤ i ∧ i < (n : Nat) ∧ 0 ≤ j ∧ j < (n : Nat) ∧ i ≠ j ∧ ∀ v : Int, post (.dt (.int v)) [.un, .un, .un]
def dsDayOf (cT cI cS : Addr) : DXp := fun as post out => ∃ d x y, as = [.dt d, .dt x, .dt y] ∧ Knd3 d ∧ Knd x ∧ Knd y ∧ (isTbl d = false → out (.ref cT) [.un, .un, .un]) ∧ (isTbl d = true → isItem x (nOf d : Nat) = false → out (.ref cI) [.un, .un, .un]) ∧ (isTbl d = true → isItem x (nOf d : Nat) = true → isItem y (nOf d : Nat) = false → out (.ref cI) [.un, .un, .un]) ∧
  (∀ i j : Int, x = .int i → y = .int j → isTbl d = true → isItem x (nOf d : Nat) = true → isItem y (nOf d : Nat) = true → (i = j → out (.ref cS) [.un, .un, .un]) ∧ (i ≠ j → ∀ v : Int, post (.dt (.int v)) [.un, .un, .un]))
def dsBTX (cT : Addr) : DXp := fun as post out => ∃ d, as = [.dt d] ∧ Knd3 d ∧ (isTbl d = false → out (.ref cT) [.un]) ∧ (isTbl d = true → post (.dt (fbOf d)) [.un])
def dsGroupsOn : DSp := fun as post => ∃ t n y, as = [.dt (.tup (tbD t n)), .dt (.int y)] ∧ n ≤ 900 ∧ ∀ ds, post (.ow ds) [.un, .un]
def dsGroups (cH cD : Addr) : DXp := fun as post out => ∃ d y, as = [.dt d, .dt y] ∧ Knd3 d ∧ Knd y ∧ (isHist d = true → nOf d ≤ 900) ∧ (isHist d = false → out (.ref cH) [.un, .un]) ∧ (isHist d = true → isDay y = false → out (.ref cD) [.un, .un]) ∧ (isHist d = true → isDay y = true → ∀ ds, post (.ow ds) [.un, .un])
theorem isItem_at {i m : Int} (h : isItem (.int i) m = true) : 0 ≤ i ∧ i < m := by
  obtain ⟨h1, h2⟩ := Bool.and_eq_true_iff.mp (show (decide (0 ≤ i) && decide (i < m)) = true from h)
  exact ⟨of_decide_eq_true h1, of_decide_eq_true h2⟩
theorem ok_check_items {f_is_item : Addr} {d_is_item : FuncData} (G_is_item : FnG P w K mg base 2 f_is_item d_is_item ["value", "many"] (spD K dsItem)) (g_is_item : mg "is_item" = some (.ref f_is_item)) (k_is_item : PySem.W.keepIn K (.ref f_is_item) = true) (b_is_item : Binds K d_is_item ["value", "many"] []) {c_InvalidItem : Addr} (O_InvalidItem : OwnExc K mg "InvalidItem" c_InvalidItem) {c_SameItem : Addr} (O_SameItem : OwnExc K mg "SameItem" c_SameItem) {f : Addr} {fd : FuncData} (F : Fun K "check_items" "check_items" s_check_items f fd) : FnX P w K mg base 3 f fd ["many", "one", "other"] (spX K (dsCheck c_InvalidItem c_SameItem)) := by
  refine FnX.of F sc_check_items (fun as post out h => by obtain ⟨_, _, _, h⟩ := h; rw [h.1]; rfl) fun cdv A outer s H vs fo as post out xe hr hgu hD tk pass => ?_
  obtain ⟨m, d, e, rfl, kd, ke, q1, q2, q3⟩ := hD
  have a0 : At (coreOf P w K mg base (A.deeper (envOfC "check_items" (defScope s_check_items) s.heap.objs.size f cdv)) ["many", "one", "other"] ((envOfC "check_items" (defScope s_check_items) s.heap.objs.size f cdv) :: outer)) (varX s H (envOfC "check_items" (defScope s_check_items) s.heap.objs.size f cdv) outer xe) "many" 0 := ⟨rfl, fun _ => by first | exact .inl rfl | exact .inr (.inl rfl), by decide, by decide⟩
  have s0 : AtS (coreOf P w K mg base (A.deeper (envOfC "check_items" (defScope s_check_items) s.heap.objs.size f cdv)) ["many", "one", "other"] ((envOfC "check_items" (defScope s_check_items) s.heap.objs.size f cdv) :: outer)) (varX s H (envOfC "check_items" (defScope s_check_items) s.heap.objs.size f cdv) outer xe) "many" 0 := ⟨sc_check_items.nd, rfl, fun _ => by first | exact .inl rfl | exact .inr rfl, fun _ => .inl rfl⟩
  have a1 : At (coreOf P w K mg base (A.deeper (envOfC "check_items" (defScope s_check_items) s.heap.objs.size f cdv)) ["many", "one", "other"] ((envOfC "check_items" (defScope s_check_items) s.heap.objs.size f cdv) :: outer)) (varX s H (envOfC "check_items" (defScope s_check_items) s.heap.objs.size f cdv) outer xe) "one" 1 := ⟨rfl, fun _ => by first | exact .inl rfl | exact .inr (.inl rfl), by decide, by decide⟩
  have s1 : AtS (coreOf P w K mg base (A.deeper (envOfC "check_items" (defScope s_check_items) s.heap.objs.size f cdv)) ["many", "one", "other"] ((envOfC "check_items" (defScope s_check_items) s.heap.objs.size f cdv) :: outer)) (varX s H (envOfC "check_items" (defScope s_check_items) s.heap.objs.size f cdv) outer xe) "one" 1 := ⟨sc_check_items.nd, rfl, fun _ => by first | exact .inl rfl | exact .inr rfl, fun _ => .inl rfl⟩
  have a2 : At (coreOf P w K mg base (A.deeper (envOfC "check_items" (defScope s_check_items) s.heap.objs.size f cdv)) ["many", "one", "other"] ((envOfC "check_items" (defScope s_check_items) s.heap.objs.size f cdv) :: outer)) (varX s H (envOfC "check_items" (defScope s_check_items) s.heap.objs.size f cdv) outer xe) "other" 2 := ⟨rfl, fun _ => by first | exact .inl rfl | exact .inr (.inl rfl), by decide, by decide⟩
  have s2 : AtS (coreOf P w K mg base (A.deeper (envOfC "check_items" (defScope s_check_items) s.heap.objs.size f cdv)) ["many", "one", "other"] ((envOfC "check_items" (defScope s_check_items) s.heap.objs.size f cdv) :: outer)) (varX s H (envOfC "check_items" (defScope s_check_items) s.heap.objs.size f cdv) outer xe) "other" 2 := ⟨sc_check_items.nd, rfl, fun _ => by first | exact .inl rfl | exact .inr rfl, fun _ => .inl rfl⟩
  show BD _ _ _ _ _ [AV.dt (.int m), .dt d, .dt e]
  cases hd : isItem d m with
  | false => refine (bd_cons (sd_if (td_not (td_val (fun _ _ => rfl) (ed_call G_is_item (hr.mono (by decide)) hgu (fun _ => rfl) g_is_item k_is_item b_is_item (by decide) (fun _ => rfl) (fun _ => rfl) (ea_cons (fun _ => rfl) (ek_ed (ed_name 1 a1 rfl (ea_cons (fun _ => rfl) (ek_ed (ed_name 0 a0 rfl (ea_nil ⟨_, rfl, rfl, ⟨_, _, rfl, (by first | exact kd | exact ke), fun _ => ⟨_, rfl, ⟨fun hif => (bd_cons (sd_raise tk O_InvalidItem (fun _ => rfl) (by decide) (by exact q1 hd))), fun hif => (absurd hif (by rw [hd]; decide))⟩⟩⟩⟩))))))))))))
  | true =>
    cases he : isItem e m with
    | false => refine (bd_cons (sd_if (td_not (td_val (fun _ _ => rfl) (ed_call G_is_item (hr.mono (by decide)) hgu (fun _ => rfl) g_is_item k_is_item b_is_item (by decide) (fun _ => rfl) (fun _ => rfl) (ea_cons (fun _ => rfl) (ek_ed (ed_name 1 a1 rfl (ea_cons (fun _ => rfl) (ek_ed (ed_name 0 a0 rfl (ea_nil ⟨_, rfl, rfl, ⟨_, _, rfl, (by first | exact kd | exact ke), fun _ => ⟨_, rfl, ⟨fun hif => (absurd hif (by rw [hd]; decide)), fun hif => (bd_nil (bd_cons (sd_if (td_not (td_val (fun _ _ => rfl) (ed_call G_is_item (hr.mono (by decide)) hgu (fun _ => rfl) g_is_item k_is_item b_is_item (by decide) (fun _ => rfl) (fun _ => rfl) (ea_cons (fun _ => rfl) (ek_ed (ed_name 2 a2 rfl (ea_cons (fun _ => rfl) (ek_ed (ed_name 0 a0 rfl (ea_nil ⟨_, rfl, rfl, ⟨_, _, rfl, (by first | exact kd | exact ke), fun _ => ⟨_, rfl, ⟨fun hif => (bd_cons (sd_raise tk O_InvalidItem (fun _ => rfl) (by decide) (by exact q2 hd he))), fun hif => (absurd hif (by rw [he]; decide))⟩⟩⟩⟩)))))))))))))⟩⟩⟩⟩))))))))))))
    | true =>
      obtain ⟨i, rfl⟩ := isItem_int hd
      obtain ⟨j, rfl⟩ := isItem_int he
      obtain ⟨qs, qf⟩ := q3 i j rfl rfl hd he
      refine (bd_cons (sd_if (td_not (td_val (fun _ _ => rfl) (ed_call G_is_item (hr.mono (by decide)) hgu (fun _ => rfl) g_is_item k_is_item b_is_item (by decide) (fun _ => rfl) (fun _ => rfl) (ea_cons (fun _ => rfl) (ek_ed (ed_name 1 a1 rfl (ea_cons (fun _ => rfl) (ek_ed (ed_name 0 a0 rfl (ea_nil ⟨_, rfl, rfl, ⟨_, _, rfl, (by first | exact kd | exact ke), fun _ => ⟨_, rfl, ⟨fun hif => (absurd hif (by rw [hd]; decide)), fun hif => (bd_nil (bd_cons (sd_if (td_not (td_val (fun _ _ => rfl) (ed_call G_is_item (hr.mono (by decide)) hgu (fun _ => rfl) g_is_item k_is_item b_is_item (by decide) (fun _ => rfl) (fun _ => rfl) (ea_cons (fun _ => rfl) (ek_ed (ed_name 2 a2 rfl (ea_cons (fun _ => rfl) (ek_ed (ed_name 0 a0 rfl (ea_nil ⟨_, rfl, rfl, ⟨_, _, rfl, (by first | exact kd | exact ke), fun _ => ⟨_, rfl, ⟨fun hif => (absurd hif (by rw [he]; decide)), fun hif => (bd_nil (bd_cons (sd_if (td_eqI (ek_ed (ed_name 1 a1 rfl (ek_ed (ed_name 2 a2 rfl (CmpT.mk rfl rfl ⟨fun hif => (bd_cons (sd_raise tk O_SameItem (fun _ => rfl) (by decide) (by exact qs (of_decide_eq_true hif)))), fun hif => (bd_nil (bd_nil (by exact qf (of_decide_eq_false hif))))⟩)))))))))⟩⟩⟩⟩)))))))))))))⟩⟩⟩⟩))))))))))))
theorem ok_pair_day (m_max : mg "max" = none) (m_min : mg "min" = none) {f : Addr} {fd : FuncData} (F : Fun K "pair_day" "pair_day" s_pair_day f fd) : FnG P w K mg base 1 f fd ["table", "one", "other"] (spD K dsPair) := by
  refine FnG.of F sc_pair_day (fun as post h => by obtain ⟨_, _, _, _, h⟩ := h; rw [h.1]; rfl) fun cdv A outer s H vs fo as post hr hgu hD => ?_
  obtain ⟨t, n, i, j, rfl, hn, h1, h2, h3, h4, h5, hq⟩ := hD
  have a0 : At (coreOf P w K mg base (A.deeper (envOfC "pair_day" (defScope s_pair_day) s.heap.objs.size f cdv)) ["table", "one", "other"] ((envOfC "pair_day" (defScope s_pair_day) s.heap.objs.size f cdv) :: outer)) (varOf s H (envOfC "pair_day" (defScope s_pair_day) s.heap.objs.size f cdv) outer) "table" 0 := ⟨rfl, fun _ => by first | exact .inl rfl | exact .inr (.inl rfl), by decide, by decide⟩
  have s0 : AtS (coreOf P w K mg base (A.deeper (envOfC "pair_day" (defScope s_pair_day) s.heap.objs.size f cdv)) ["table", "one", "other"] ((envOfC "pair_day" (defScope s_pair_day) s.heap.objs.size f cdv) :: outer)) (varOf s H (envOfC "pair_day" (defScope s_pair_day) s.heap.objs.size f cdv) outer) "table" 0 := ⟨sc_pair_day.nd, rfl, fun _ => by first | exact .inl rfl | exact .inr rfl, fun _ => .inl rfl⟩
  have a1 : At (coreOf P w K mg base (A.deeper (envOfC "pair_day" (defScope s_pair_day) s.heap.objs.size f cdv)) ["table", "one", "other"] ((envOfC "pair_day" (defScope s_pair_day) s.heap.objs.size f cdv) :: outer)) (varOf s H (envOfC "pair_day" (defScope s_pair_day) s.heap.objs.size f cdv) outer) "one" 1 := ⟨rfl, fun _ => by first | exact .inl rfl | exact .inr (.inl rfl), by decide, by decide⟩
  have s1 : AtS (coreOf P w K mg base (A.deeper (envOfC "pair_day" (defScope s_pair_day) s.heap.objs.size f cdv)) ["table", "one", "other"] ((envOfC "pair_day" (defScope s_pair_day) s.heap.objs.size f cdv) :: outer)) (varOf s H (envOfC "pair_day" (defScope s_pair_day) s.heap.objs.size f cdv) outer) "one" 1 := ⟨sc_pair_day.nd, rfl, fun _ => by first | exact .inl rfl | exact .inr rfl, fun _ => .inl rfl⟩
  have a2 : At (coreOf P w K mg base (A.deeper (envOfC "pair_day" (defScope s_pair_day) s.heap.objs.size f cdv)) ["table", "one", "other"] ((envOfC "pair_day" (defScope s_pair_day) s.heap.objs.size f cdv) :: outer)) (varOf s H (envOfC "pair_day" (defScope s_pair_day) s.heap.objs.size f cdv) outer) "other" 2 := ⟨rfl, fun _ => by first | exact .inl rfl | exact .inr (.inl rfl), by decide, by decide⟩
  have s2 : AtS (coreOf P w K mg base (A.deeper (envOfC "pair_day" (defScope s_pair_day) s.heap.objs.size f cdv)) ["table", "one", "other"] ((envOfC "pair_day" (defScope s_pair_day) s.heap.objs.size f cdv) :: outer)) (varOf s H (envOfC "pair_day" (defScope s_pair_day) s.heap.objs.size f cdv) outer) "other" 2 := ⟨sc_pair_day.nd, rfl, fun _ => by first | exact .inl rfl | exact .inr rfl, fun _ => .inl rfl⟩
  show BD _ _ _ _ _ [.dt (.tup (tbD t n)), .dt (.int i), .dt (.int j)]
  obtain ⟨a, rfl⟩ := Int.eq_ofNat_of_zero_le h1
  obtain ⟨b, rfl⟩ := Int.eq_ofNat_of_zero_le h3
  have hab : a ≠ b := fun z => h5 (by rw [z])
  have e1 : atI (tbD t n) (if (b : Int) > (a : Int) then (b : Int) else (a : Int)) = some (.tup (rowD t (max a b))) := by
    have : (if (b : Int) > (a : Int) then (b : Int) else (a : Int)) = Int.ofNat (max a b) := by
      show _ = ((max a b : Nat) : Int)
      split <;> omega
    rw [this]
    exact tbD_at (by omega)
  have e2 : atI (rowD t (max a b)) (if (b : Int) < (a : Int) then (b : Int) else (a : Int)) = some (.int (t (max a b) (min a b))) := by
    have : (if (b : Int) < (a : Int) then (b : Int) else (a : Int)) = Int.ofNat (min a b) := by
      show _ = ((min a b : Nat) : Int)
      split <;> omega
    rw [this]
    exact rowD_at (by omega)
  refine (bd_cons (sd_ret (ed_ixD (fun _ _ => rfl) (ek_ed (ed_ixD (fun _ _ => rfl) (ek_ed (ed_name 0 a0 rfl (ek_ed (ed_max2 (fun _ => rfl) m_max (fun _ => rfl) (fun _ => rfl) (fun _ => rfl) (ek_ed (ed_name 1 a1 rfl (ek_ed (ed_name 2 a2 rfl ⟨_, _, rfl, rfl, (IxD.mk rfl rfl e1 (ek_ed (ed_min2 (fun _ => rfl) m_min (fun _ => rfl) (fun _ => rfl) (fun _ => rfl) (ek_ed (ed_name 1 a1 rfl (ek_ed (ed_name 2 a2 rfl ⟨_, _, rfl, rfl, (IxD.mk rfl rfl e2 ?_)⟩)))))))⟩)))))))))))))
  exact hq _
theorem ok_day_of {c_InvalidItem c_SameItem : Addr} {f_is_table : Addr} {d_is_table : FuncData} (G_is_table : FnG P w K mg base 4 f_is_table d_is_table ["value"] (spD K dsTable)) (g_is_table : mg "is_table" = some (.ref f_is_table)) (k_is_table : PySem.W.keepIn K (.ref f_is_table) = true) (b_is_table : Binds K d_is_table ["value"] []) {f_check_items : Addr} {d_check_items : FuncData} (G_check_items : FnX P w K mg base 3 f_check_items d_check_items ["many", "one", "other"] (spX K (dsCheck c_InvalidItem c_SameItem))) (g_check_items : mg "check_items" = some (.ref f_check_items)) (k_check_items : PySem.W.keepIn K (.ref f_check_items) = true) (b_check_items : Binds K d_check_items ["many", "one", "other"] []) {f_pair_day : Addr} {d_pair_day : FuncData} (G_pair_day : FnG P w K mg base 1 f_pair_day d_pair_day ["table", "one", "other"] (spD K dsPair)) (g_pair_day : mg "pair_day" = some (.ref f_pair_day)) (k_pair_day : PySem.W.keepIn K (.ref f_pair_day) = true) (b_pair_day : Binds K d_pair_day ["table", "one", "other"] []) (m_len : mg "len" = none) {c_InvalidTable : Addr} (O_InvalidTable : OwnExc K mg "InvalidTable" c_InvalidTable) {f : Addr} {fd : FuncData} (F : Fun K "day_of" "day_of" s_day_of f fd) : FnX P w K mg base 5 f fd ["table", "one", "other"] (spX K (dsDayOf c_InvalidTable c_InvalidItem c_SameItem)) := by
  refine FnX.of F sc_day_of (fun as post out h => by obtain ⟨_, _, _, h⟩ := h; rw [h.1]; rfl) fun cdv A outer s H vs fo as post out xe hr hgu hD tk pass => ?_
  obtain ⟨d, x, y, rfl, hK, kx, ky, q0, q1, q2, q3⟩ := hD
  have a0 : At (coreOf P w K mg base (A.deeper (envOfC "day_of" (defScope s_day_of) s.heap.objs.size f cdv)) ["table", "one", "other"] ((envOfC "day_of" (defScope s_day_of) s.heap.objs.size f cdv) :: outer)) (varX s H (envOfC "day_of" (defScope s_day_of) s.heap.objs.size f cdv) outer xe) "table" 0 := ⟨rfl, fun _ => by first | exact .inl rfl | exact .inr (.inl rfl), by decide, by decide⟩
  have s0 : AtS (coreOf P w K mg base (A.deeper (envOfC "day_of" (defScope s_day_of) s.heap.objs.size f cdv)) ["table", "one", "other"] ((envOfC "day_of" (defScope s_day_of) s.heap.objs.size f cdv) :: outer)) (varX s H (envOfC "day_of" (defScope s_day_of) s.heap.objs.size f cdv) outer xe) "table" 0 := ⟨sc_day_of.nd, rfl, fun _ => by first | exact .inl rfl | exact .inr rfl, fun _ => .inl rfl⟩
  have a1 : At (coreOf P w K mg base (A.deeper (envOfC "day_of" (defScope s_day_of) s.heap.objs.size f cdv)) ["table", "one", "other"] ((envOfC "day_of" (defScope s_day_of) s.heap.objs.size f cdv) :: outer)) (varX s H (envOfC "day_of" (defScope s_day_of) s.heap.objs.size f cdv) outer xe) "one" 1 := ⟨rfl, fun _ => by first | exact .inl rfl | exact .inr (.inl rfl), by decide, by decide⟩
  have s1 : AtS (coreOf P w K mg base (A.deeper (envOfC "day_of" (defScope s_day_of) s.heap.objs.size f cdv)) ["table", "one", "other"] ((envOfC "day_of" (defScope s_day_of) s.heap.objs.size f cdv) :: outer)) (varX s H (envOfC "day_of" (defScope s_day_of) s.heap.objs.size f cdv) outer xe) "one" 1 := ⟨sc_day_of.nd, rfl, fun _ => by first | exact .inl rfl | exact .inr rfl, fun _ => .inl rfl⟩
  have a2 : At (coreOf P w K mg base (A.deeper (envOfC "day_of" (defScope s_day_of) s.heap.objs.size f cdv)) ["table", "one", "other"] ((envOfC "day_of" (defScope s_day_of) s.heap.objs.size f cdv) :: outer)) (varX s H (envOfC "day_of" (defScope s_day_of) s.heap.objs.size f cdv) outer xe) "other" 2 := ⟨rfl, fun _ => by first | exact .inl rfl | exact .inr (.inl rfl), by decide, by decide⟩
  have s2 : AtS (coreOf P w K mg base (A.deeper (envOfC "day_of" (defScope s_day_of) s.heap.objs.size f cdv)) ["table", "one", "other"] ((envOfC "day_of" (defScope s_day_of) s.heap.objs.size f cdv) :: outer)) (varX s H (envOfC "day_of" (defScope s_day_of) s.heap.objs.size f cdv) outer xe) "other" 2 := ⟨sc_day_of.nd, rfl, fun _ => by first | exact .inl rfl | exact .inr rfl, fun _ => .inl rfl⟩
  show BD _ _ _ _ _ [AV.dt d, .dt x, .dt y]
  cases hT : isTbl d with
  | false => refine (bd_cons (sd_if (td_not (td_val (fun _ _ => rfl) (ed_call G_is_table (hr.mono (by decide)) hgu (fun _ => rfl) g_is_table k_is_table b_is_table (by decide) (fun _ => rfl) (fun _ => rfl) (ea_cons (fun _ => rfl) (ek_ed (ed_name 0 a0 rfl (ea_nil ⟨_, rfl, rfl, ⟨_, rfl, hK, fun _ => ⟨_, rfl, ⟨fun hif => (bd_cons (sd_raise tk O_InvalidTable (fun _ => rfl) (by decide) (by exact q0 hT))), fun hif => (absurd hif (by rw [hT]; decide))⟩⟩⟩⟩)))))))))
  | true =>
    have hd := tbl_form hT
    generalize ht : tOf d = t at hd
    generalize hn : nOf d = n at hd q1 q2 q3
    subst hd
    have hnle : n ≤ 1000000 := by rw [← hn]; exact nOf_le hK
    cases hx : isItem x (n : Nat) with
    | false =>
      refine (bd_cons (sd_if (td_not (td_val (fun _ _ => rfl) (ed_call G_is_table (hr.mono (by decide)) hgu (fun _ => rfl) g_is_table k_is_table b_is_table (by decide) (fun _ => rfl) (fun _ => rfl) (ea_cons (fun _ => rfl) (ek_ed (ed_name 0 a0 rfl (ea_nil ⟨_, rfl, rfl, ⟨_, rfl, hK, fun _ => ⟨_, rfl, ⟨fun hif => (absurd hif (by rw [hT]; decide)), fun hif => (bd_nil (bd_cons (sd_expr (fun _ => rfl) (ed_callX G_check_items (hr.mono (by decide)) hgu tk (fun _ => rfl) g_check_items k_check_items b_check_items (by decide) (fun _ => rfl) (fun _ => rfl) (ea_cons (fun _ => rfl) (ek_ed (ed_len (fun _ => rfl) m_len (fun _ => rfl) (ek_ed (ed_name 0 a0 rfl ⟨_, rfl, (ea_cons (fun _ => rfl) (ek_ed (ed_name 1 a1 rfl (ea_cons (fun _ => rfl) (ek_ed (ed_name 2 a2 rfl (ea_nil ⟨_, rfl, rfl, ⟨((tbD t n).length : Int), x, y, rfl, kx, ky, fun _ _ => (by exact q1 hT hx), fun h => absurd h (by rw [tbD_len, hx]; decide), fun i j _ _ h => absurd h (by rw [tbD_len, hx]; decide)⟩⟩)))))))⟩)))))))))⟩⟩⟩⟩)))))))))
    | true =>
      cases hy : isItem y (n : Nat) with
      | false =>
        refine (bd_cons (sd_if (td_not (td_val (fun _ _ => rfl) (ed_call G_is_table (hr.mono (by decide)) hgu (fun _ => rfl) g_is_table k_is_table b_is_table (by decide) (fun _ => rfl) (fun _ => rfl) (ea_cons (fun _ => rfl) (ek_ed (ed_name 0 a0 rfl (ea_nil ⟨_, rfl, rfl, ⟨_, rfl, hK, fun _ => ⟨_, rfl, ⟨fun hif => (absurd hif (by rw [hT]; decide)), fun hif => (bd_nil (bd_cons (sd_expr (fun _ => rfl) (ed_callX G_check_items (hr.mono (by decide)) hgu tk (fun _ => rfl) g_check_items k_check_items b_check_items (by decide) (fun _ => rfl) (fun _ => rfl) (ea_cons (fun _ => rfl) (ek_ed (ed_len (fun _ => rfl) m_len (fun _ => rfl) (ek_ed (ed_name 0 a0 rfl ⟨_, rfl, (ea_cons (fun _ => rfl) (ek_ed (ed_name 1 a1 rfl (ea_cons (fun _ => rfl) (ek_ed (ed_name 2 a2 rfl (ea_nil ⟨_, rfl, rfl, ⟨((tbD t n).length : Int), x, y, rfl, kx, ky, fun h => absurd h (by rw [tbD_len, hx]; decide), fun _ _ _ => (by exact q2 hT hx hy), fun i j _ _ _ h => absurd h (by rw [tbD_len, hy]; decide)⟩⟩)))))))⟩)))))))))⟩⟩⟩⟩)))))))))
      | true =>
        obtain ⟨i, rfl⟩ := isItem_int hx
        obtain ⟨j, rfl⟩ := isItem_int hy
        obtain ⟨qs, qf⟩ := q3 i j rfl rfl hT hx hy
        have bi := isItem_at hx
        have bj := isItem_at hy
        by_cases hij : i = j
        · refine (bd_cons (sd_if (td_not (td_val (fun _ _ => rfl) (ed_call G_is_table (hr.mono (by decide)) hgu (fun _ => rfl) g_is_table k_is_table b_is_table (by decide) (fun _ => rfl) (fun _ => rfl) (ea_cons (fun _ => rfl) (ek_ed (ed_name 0 a0 rfl (ea_nil ⟨_, rfl, rfl, ⟨_, rfl, hK, fun _ => ⟨_, rfl, ⟨fun hif => (absurd hif (by rw [hT]; decide)), fun hif => (bd_nil (bd_cons (sd_expr (fun _ => rfl) (ed_callX G_check_items (hr.mono (by decide)) hgu tk (fun _ => rfl) g_check_items k_check_items b_check_items (by decide) (fun _ => rfl) (fun _ => rfl) (ea_cons (fun _ => rfl) (ek_ed (ed_len (fun _ => rfl) m_len (fun _ => rfl) (ek_ed (ed_name 0 a0 rfl ⟨_, rfl, (ea_cons (fun _ => rfl) (ek_ed (ed_name 1 a1 rfl (ea_cons (fun _ => rfl) (ek_ed (ed_name 2 a2 rfl (ea_nil ⟨_, rfl, rfl, ⟨((tbD t n).length : Int), .int i, .int j, rfl, kx, ky, fun h => absurd h (by rw [tbD_len, hx]; decide), fun _ h => absurd h (by rw [tbD_len, hy]; decide), fun i' j' e1 e2 _ _ => ⟨fun _ _ => (by exact qs hij), fun h => absurd (by cases e1; cases e2; exact hij) h⟩⟩⟩)))))))⟩)))))))))⟩⟩⟩⟩)))))))))
        · refine (bd_cons (sd_if (td_not (td_val (fun _ _ => rfl) (ed_call G_is_table (hr.mono (by decide)) hgu (fun _ => rfl) g_is_table k_is_table b_is_table (by decide) (fun _ => rfl) (fun _ => rfl) (ea_cons (fun _ => rfl) (ek_ed (ed_name 0 a0 rfl (ea_nil ⟨_, rfl, rfl, ⟨_, rfl, hK, fun _ => ⟨_, rfl, ⟨fun hif => (absurd hif (by rw [hT]; decide)), fun hif => (bd_nil (bd_cons (sd_expr (fun _ => rfl) (ed_callX G_check_items (hr.mono (by decide)) hgu tk (fun _ => rfl) g_check_items k_check_items b_check_items (by decide) (fun _ => rfl) (fun _ => rfl) (ea_cons (fun _ => rfl) (ek_ed (ed_len (fun _ => rfl) m_len (fun _ => rfl) (ek_ed (ed_name 0 a0 rfl ⟨_, rfl, (ea_cons (fun _ => rfl) (ek_ed (ed_name 1 a1 rfl (ea_cons (fun _ => rfl) (ek_ed (ed_name 2 a2 rfl (ea_nil ⟨_, rfl, rfl, ⟨((tbD t n).length : Int), .int i, .int j, rfl, kx, ky, fun h => absurd h (by rw [tbD_len, hx]; decide), fun _ h => absurd h (by rw [tbD_len, hy]; decide), fun i' j' e1 e2 _ _ => ⟨fun h => absurd (by cases e1; cases e2; exact h) hij, fun _ _ => ?_⟩⟩⟩)))))))⟩)))))))))⟩⟩⟩⟩)))))))))
          refine (bd_cons (sd_ret (ed_call G_pair_day (hr.mono (by decide)) hgu (fun _ => rfl) g_pair_day k_pair_day b_pair_day (by decide) (fun _ => rfl) (fun _ => rfl) (ea_cons (fun _ => rfl) (ek_ed (ed_name 0 a0 rfl (ea_cons (fun _ => rfl) (ek_ed (ed_name 1 a1 rfl (ea_cons (fun _ => rfl) (ek_ed (ed_name 2 a2 rfl (ea_nil ⟨_, rfl, rfl, ⟨t, n, i, j, rfl, hnle, bi.1, bi.2, bj.1, bj.2, hij, fun v _ => ?_⟩⟩)))))))))))))
          exact qf hij v
theorem ok_bad_triple {f_is_table : Addr} {d_is_table : FuncData} (G_is_table : FnG P w K mg base 4 f_is_table d_is_table ["value"] (spD K dsTable)) (g_is_table : mg "is_table" = some (.ref f_is_table)) (k_is_table : PySem.W.keepIn K (.ref f_is_table) = true) (b_is_table : Binds K d_is_table ["value"] []) {f__first_bad : Addr} {d__first_bad : FuncData} (G__first_bad : FnG P w K mg base 4 f__first_bad d__first_bad ["table"] (spD K dsFB)) (g__first_bad : mg "_first_bad" = some (.ref f__first_bad)) (k__first_bad : PySem.W.keepIn K (.ref f__first_bad) = true) (b__first_bad : Binds K d__first_bad ["table"] []) {c_InvalidTable : Addr} (O_InvalidTable : OwnExc K mg "InvalidTable" c_InvalidTable) {f : Addr} {fd : FuncData} (F : Fun K "bad_triple" "bad_triple" s_bad_triple f fd) : FnX P w K mg base 5 f fd ["table"] (spX K (dsBTX c_InvalidTable)) := by
  refine FnX.of F sc_bad_triple (fun as post out h => by obtain ⟨_, h⟩ := h; rw [h.1]; rfl) fun cdv A outer s H vs fo as post out xe hr hgu hD tk pass => ?_
  obtain ⟨d, rfl, hK, q0, q1⟩ := hD
  have a0 : At (coreOf P w K mg base (A.deeper (envOfC "bad_triple" (defScope s_bad_triple) s.heap.objs.size f cdv)) ["table"] ((envOfC "bad_triple" (defScope s_bad_triple) s.heap.objs.size f cdv) :: outer)) (varX s H (envOfC "bad_triple" (defScope s_bad_triple) s.heap.objs.size f cdv) outer xe) "table" 0 := ⟨rfl, fun _ => by first | exact .inl rfl | exact .inr (.inl rfl), by decide, by decide⟩
  have s0 : AtS (coreOf P w K mg base (A.deeper (envOfC "bad_triple" (defScope s_bad_triple) s.heap.objs.size f cdv)) ["table"] ((envOfC "bad_triple" (defScope s_bad_triple) s.heap.objs.size f cdv) :: outer)) (varX s H (envOfC "bad_triple" (defScope s_bad_triple) s.heap.objs.size f cdv) outer xe) "table" 0 := ⟨sc_bad_triple.nd, rfl, fun _ => by first | exact .inl rfl | exact .inr rfl, fun _ => .inl rfl⟩
  show BD _ _ _ _ _ [AV.dt d]
  cases hT : isTbl d with
  | false => refine (bd_cons (sd_if (td_not (td_val (fun _ _ => rfl) (ed_call G_is_table (hr.mono (by decide)) hgu (fun _ => rfl) g_is_table k_is_table b_is_table (by decide) (fun _ => rfl) (fun _ => rfl) (ea_cons (fun _ => rfl) (ek_ed (ed_name 0 a0 rfl (ea_nil ⟨_, rfl, rfl, ⟨_, rfl, hK, fun _ => ⟨_, rfl, ⟨fun hif => (bd_cons (sd_raise tk O_InvalidTable (fun _ => rfl) (by decide) (by exact q0 hT))), fun hif => (absurd hif (by rw [hT]; decide))⟩⟩⟩⟩)))))))))
  | true =>
    refine (bd_cons (sd_if (td_not (td_val (fun _ _ => rfl) (ed_call G_is_table (hr.mono (by decide)) hgu (fun _ => rfl) g_is_table k_is_table b_is_table (by decide) (fun _ => rfl) (fun _ => rfl) (ea_cons (fun _ => rfl) (ek_ed (ed_name 0 a0 rfl (ea_nil ⟨_, rfl, rfl, ⟨_, rfl, hK, fun _ => ⟨_, rfl, ⟨fun hif => (absurd hif (by rw [hT]; decide)), fun hif => (bd_nil (bd_cons (sd_ret (ed_call G__first_bad (hr.mono (by decide)) hgu (fun _ => rfl) g__first_bad k__first_bad b__first_bad (by decide) (fun _ => rfl) (fun _ => rfl) (ea_cons (fun _ => rfl) (ek_ed (ed_name 0 a0 rfl (ea_nil ⟨_, rfl, rfl, ⟨tOf d, nOf d, (congrArg (fun z => [AV.dt z]) (tbl_form hT)), nOf_le hK, fun _ => ?_⟩⟩))))))))⟩⟩⟩⟩)))))))))
    exact q1 hT
theorem ok_groups_on (m_enumerate : mg "enumerate" = none) (m_all : mg "all" = none) (m_range : mg "range" = none) (m_len : mg "len" = none) {f : Addr} {fd : FuncData} (F : Fun K "groups_on" "groups_on" s_groups_on f fd) : FnG P w K mg base 3 f fd ["history", "day"] (spD K dsGroupsOn) := by
  refine FnG.of F sc_groups_on (fun as post h => by obtain ⟨_, _, _, h⟩ := h; rw [h.1]; rfl) fun cdv A outer s H vs fo as post hr hgu hD => ?_
  obtain ⟨t, n, y, rfl, hn, hq⟩ := hD
  have a0 : At (coreOf P w K mg base (A.deeper (envOfC "groups_on" (defScope s_groups_on) s.heap.objs.size f cdv)) ["history", "day", "found", "item", "row", "later", "last", "k"] ((envOfC "groups_on" (defScope s_groups_on) s.heap.objs.size f cdv) :: outer)) (varOf s H (envOfC "groups_on" (defScope s_groups_on) s.heap.objs.size f cdv) outer) "history" 0 := ⟨rfl, fun _ => by first | exact .inl rfl | exact .inr (.inl rfl), by decide, by decide⟩
  have s0 : AtS (coreOf P w K mg base (A.deeper (envOfC "groups_on" (defScope s_groups_on) s.heap.objs.size f cdv)) ["history", "day", "found", "item", "row", "later", "last", "k"] ((envOfC "groups_on" (defScope s_groups_on) s.heap.objs.size f cdv) :: outer)) (varOf s H (envOfC "groups_on" (defScope s_groups_on) s.heap.objs.size f cdv) outer) "history" 0 := ⟨sc_groups_on.nd, rfl, fun _ => by first | exact .inl rfl | exact .inr rfl, fun _ => .inl rfl⟩
  have a1 : At (coreOf P w K mg base (A.deeper (envOfC "groups_on" (defScope s_groups_on) s.heap.objs.size f cdv)) ["history", "day", "found", "item", "row", "later", "last", "k"] ((envOfC "groups_on" (defScope s_groups_on) s.heap.objs.size f cdv) :: outer)) (varOf s H (envOfC "groups_on" (defScope s_groups_on) s.heap.objs.size f cdv) outer) "day" 1 := ⟨rfl, fun _ => by first | exact .inl rfl | exact .inr (.inl rfl), by decide, by decide⟩
  have s1 : AtS (coreOf P w K mg base (A.deeper (envOfC "groups_on" (defScope s_groups_on) s.heap.objs.size f cdv)) ["history", "day", "found", "item", "row", "later", "last", "k"] ((envOfC "groups_on" (defScope s_groups_on) s.heap.objs.size f cdv) :: outer)) (varOf s H (envOfC "groups_on" (defScope s_groups_on) s.heap.objs.size f cdv) outer) "day" 1 := ⟨sc_groups_on.nd, rfl, fun _ => by first | exact .inl rfl | exact .inr rfl, fun _ => .inl rfl⟩
  have a2 : At (coreOf P w K mg base (A.deeper (envOfC "groups_on" (defScope s_groups_on) s.heap.objs.size f cdv)) ["history", "day", "found", "item", "row", "later", "last", "k"] ((envOfC "groups_on" (defScope s_groups_on) s.heap.objs.size f cdv) :: outer)) (varOf s H (envOfC "groups_on" (defScope s_groups_on) s.heap.objs.size f cdv) outer) "found" 2 := ⟨rfl, fun _ => by first | exact .inl rfl | exact .inr (.inl rfl), by decide, by decide⟩
  have s2 : AtS (coreOf P w K mg base (A.deeper (envOfC "groups_on" (defScope s_groups_on) s.heap.objs.size f cdv)) ["history", "day", "found", "item", "row", "later", "last", "k"] ((envOfC "groups_on" (defScope s_groups_on) s.heap.objs.size f cdv) :: outer)) (varOf s H (envOfC "groups_on" (defScope s_groups_on) s.heap.objs.size f cdv) outer) "found" 2 := ⟨sc_groups_on.nd, rfl, fun _ => by first | exact .inl rfl | exact .inr rfl, fun _ => .inl rfl⟩
  have a3 : At (coreOf P w K mg base (A.deeper (envOfC "groups_on" (defScope s_groups_on) s.heap.objs.size f cdv)) ["history", "day", "found", "item", "row", "later", "last", "k"] ((envOfC "groups_on" (defScope s_groups_on) s.heap.objs.size f cdv) :: outer)) (varOf s H (envOfC "groups_on" (defScope s_groups_on) s.heap.objs.size f cdv) outer) "item" 3 := ⟨rfl, fun _ => by first | exact .inl rfl | exact .inr (.inl rfl), by decide, by decide⟩
  have s3 : AtS (coreOf P w K mg base (A.deeper (envOfC "groups_on" (defScope s_groups_on) s.heap.objs.size f cdv)) ["history", "day", "found", "item", "row", "later", "last", "k"] ((envOfC "groups_on" (defScope s_groups_on) s.heap.objs.size f cdv) :: outer)) (varOf s H (envOfC "groups_on" (defScope s_groups_on) s.heap.objs.size f cdv) outer) "item" 3 := ⟨sc_groups_on.nd, rfl, fun _ => by first | exact .inl rfl | exact .inr rfl, fun _ => .inl rfl⟩
  have a4 : At (coreOf P w K mg base (A.deeper (envOfC "groups_on" (defScope s_groups_on) s.heap.objs.size f cdv)) ["history", "day", "found", "item", "row", "later", "last", "k"] ((envOfC "groups_on" (defScope s_groups_on) s.heap.objs.size f cdv) :: outer)) (varOf s H (envOfC "groups_on" (defScope s_groups_on) s.heap.objs.size f cdv) outer) "row" 4 := ⟨rfl, fun _ => by first | exact .inl rfl | exact .inr (.inl rfl), by decide, by decide⟩
  have s4 : AtS (coreOf P w K mg base (A.deeper (envOfC "groups_on" (defScope s_groups_on) s.heap.objs.size f cdv)) ["history", "day", "found", "item", "row", "later", "last", "k"] ((envOfC "groups_on" (defScope s_groups_on) s.heap.objs.size f cdv) :: outer)) (varOf s H (envOfC "groups_on" (defScope s_groups_on) s.heap.objs.size f cdv) outer) "row" 4 := ⟨sc_groups_on.nd, rfl, fun _ => by first | exact .inl rfl | exact .inr rfl, fun _ => .inl rfl⟩
  have a5 : At (coreOf P w K mg base (A.deeper (envOfC "groups_on" (defScope s_groups_on) s.heap.objs.size f cdv)) ["history", "day", "found", "item", "row", "later", "last", "k"] ((envOfC "groups_on" (defScope s_groups_on) s.heap.objs.size f cdv) :: outer)) (varOf s H (envOfC "groups_on" (defScope s_groups_on) s.heap.objs.size f cdv) outer) "later" 5 := ⟨rfl, fun _ => by first | exact .inl rfl | exact .inr (.inl rfl), by decide, by decide⟩
  have s5 : AtS (coreOf P w K mg base (A.deeper (envOfC "groups_on" (defScope s_groups_on) s.heap.objs.size f cdv)) ["history", "day", "found", "item", "row", "later", "last", "k"] ((envOfC "groups_on" (defScope s_groups_on) s.heap.objs.size f cdv) :: outer)) (varOf s H (envOfC "groups_on" (defScope s_groups_on) s.heap.objs.size f cdv) outer) "later" 5 := ⟨sc_groups_on.nd, rfl, fun _ => by first | exact .inl rfl | exact .inr rfl, fun _ => .inl rfl⟩
  show BD _ _ _ _ _ [.dt (.tup (tbD t n)), .dt (.int y), .un, .un, .un, .un, .un, .un]
  refine (bd_cons (sd_set 2 s2 (fun _ => rfl) (lt1 rfl) (nl rfl) (ed_lst (ea_nil ⟨_, rfl, le1 rfl, (bd_cons (sd_for (fun _ => PassesOwn.never) (fun _ _ => rfl) (src_enumT (fun _ => rfl) m_enumerate (fun _ => rfl) (ea_cons (fun _ => rfl) (ek_ed (ed_name 0 a0 rfl (ea_nil ⟨_, _, rfl, rfl, ⟨(fun x Γ => ∃ fs u1 u2 u3, fs.length ≤ x ∧ Γ = [AV.dt (.tup (tbD t n)), .dt (.int y), .ow fs, u1, u2, u3, .un, .un]), ?_, ?_, ?_⟩⟩)))))))⟩))))
  · exact ⟨_, _, _, _, Nat.le_refl _, rfl⟩
  · rintro x dd Γ2 hd ⟨fs, u1, u2, u3, hfs, rfl⟩
    have hx : x < n := by
      have := (List.getElem?_eq_some_iff.mp hd).1
      rw [enD_len, tbD_len] at this
      exact this
    rw [enD_get (d := .tup (rowD t x)) (by unfold tbD; rw [List.getElem?_map, List.getElem?_range hx]; rfl)] at hd
    cases hd
    refine ⟨_, fun ff => (gd_tup (fun _ => rfl) (fun _ => rfl) (gds_cons (fun _ => rfl) (gd_name 3 s3 (lt1 rfl) (nl rfl) (gds_cons (fun _ => rfl) (gd_name 4 s4 (lt1 rfl) (nl rfl) (gds_nil (bd_cons (sd_if (td_val (fun _ _ => rfl) (ed_all (fun _ => rfl) m_all (fun _ => rfl) (ek_ed (ed_lc (own := [("last", 6)]) sc_groups_on.nd (fun _ => blkOk_by rfl) (fun _ _ => rfl) (nls rfl) (src_T (ek_ed (ed_name 4 a4 rfl ⟨_, rfl, ⟨?_, (fun j acc Γ => (∃ bs : List Bool, acc = bs.map .bl) ∧ Γ = [AV.dt (.tup (tbD t n)), .dt (.int y), .ow fs, .dt (.int (x : Nat)), .dt (.tup (rowD t x)), u3, .un, .un]), ?_, ?_, ?_⟩⟩)))))))))))))))⟩
    · unfold rowD; rw [List.length_map, List.length_range]; omega
    · exact ⟨⟨[], rfl⟩, rfl⟩
    · rintro j d acc Γ2 hj ⟨⟨bs, rfl⟩, rfl⟩
      have hjx : j < x := by
        have := (List.getElem?_eq_some_iff.mp hj).1
        unfold rowD at this
        rwa [List.length_map, List.length_range] at this
      have : d = .int (t x j) := by
        unfold rowD at hj
        rw [List.getElem?_map, List.getElem?_range hjx] at hj
        exact (Option.some.inj hj).symm
      subst this
      refine ⟨_, (by decide), fun g ff => (gd_name 6 (ats_of sc_groups_on.nd rfl (fun _ => rfl) (fun _ => rfl)) (lt1 rfl) (nl rfl) (ts_nil ⟨fun _ => (ed_lt (ek_ed (ed_name 6 (at_of rfl (fun _ => rfl) rfl rfl) rfl (ek_ed (ed_name 1 (at_of rfl (fun _ => rfl) rfl rfl) rfl (CmpR.mk rfl rfl ⟨_, rfl, ?_⟩)))))), fun hif => nomatch hif⟩))⟩
      exact ⟨⟨bs ++ [_], by rw [List.map_append]; rfl⟩, rfl⟩
    · rintro acc Γ2 ⟨⟨bs, rfl⟩, rfl⟩
      refine ⟨bs, rfl, _, rfl, fun hif => ?_, fun hif => (bd_nil (bd_nil ?_))⟩
      · refine (bd_cons (sd_setLc 5 (own := [("k", 7)])  s5 (fun _ => rfl) (fun _ => sw_true rfl rfl rfl rfl) (lt1 rfl) (nl rfl) (fun _ => blkOk_by rfl) (fun _ _ => rfl) (nls rfl) (src_R2 (fun _ => rfl) m_range (fun _ => rfl) (fun _ => rfl) (ea_cons (fun _ => rfl) (ek_ed (ed_add (ek_ed (ed_name 3 a3 rfl (ek_ed (ed_int (AddR.int rfl rfl (ea_cons (fun _ => rfl) (ek_ed (ed_len (fun _ => rfl) m_len (fun _ => rfl) (ek_ed (ed_name 0 a0 rfl ⟨_, rfl, (ea_nil ⟨_, _, _, _, rfl, rfl, rfl, ?_, ⟨?_, (fun j acc Γ => acc.length ≤ j ∧ Γ = [AV.dt (.tup (tbD t n)), .dt (.int y), .ow fs, .dt (.int (x : Nat)), .dt (.tup (rowD t x)), u3, .un, .un]), ?_, ?_, ?_⟩⟩)⟩))))))))))))))))
        · rw [tbD_len]; exact ⟨by omega, by omega, by omega, by omega⟩
        · rw [rngD_len, tbD_len]; omega
        · exact ⟨Nat.le_refl _, rfl⟩
        · rintro j d acc Γ2 hj ⟨hl, rfl⟩
          have hjn : x + 1 + j < n := by
            have := (List.getElem?_eq_some_iff.mp hj).1
            rw [rngD_len, tbD_len] at this
            omega
          obtain ⟨k, hk'⟩ : ∃ k, k = x + 1 + j := ⟨_, rfl⟩
          rw [rngD_get (by rw [tbD_len]; omega), show ((x : Int) + 1 + (j : Nat)) = (k : Nat) by omega] at hj
          cases hj
          have hk : k < n := by omega
          have hik : x < k := by omega
          refine ⟨_, (by decide), fun g ff => (gd_name 7 (ats_of sc_groups_on.nd rfl (fun _ => rfl) (fun _ => rfl)) (lt1 rfl) (nl rfl) (ts_one (td_ge (ek_ed (ed_ixD (fun _ _ => rfl) (ek_ed (ed_ixD (fun _ _ => rfl) (ek_ed (ed_name 0 (at_of rfl (fun _ => rfl) rfl rfl) rfl (ek_ed (ed_name 7 (at_of rfl (fun _ => rfl) rfl rfl) rfl (IxD.mk rfl rfl (tbD_at hk) (ek_ed (ed_name 3 (at_of rfl (fun _ => rfl) rfl rfl) rfl (IxD.mk rfl rfl (rowD_at hik) (ek_ed (ed_name 1 (at_of rfl (fun _ => rfl) rfl rfl) rfl (CmpT.mk rfl rfl ⟨fun hif => (ed_name 7 (at_of rfl (fun _ => rfl) rfl rfl) rfl ⟨_, rfl, ?_⟩), fun hif => ?_⟩))))))))))))))))))⟩
          · exact ⟨by rw [List.length_append]; exact Nat.add_le_add hl (Nat.le_refl 1), rfl⟩
          · exact ⟨Nat.le_succ_of_le hl, rfl⟩
        · rintro acc Γ2 ⟨hl, rfl⟩
          rw [rngD_len, tbD_len] at hl
          refine (bd_cons (sd_expr (fun _ => rfl) (ed_append 2 a2 rfl (fun _ => rfl) (fun _ => rfl) rfl (fun _ => rfl) (ek_ed (ed_tup (ea_cons (fun _ => rfl) (ek_ed (ed_name 3 a3 rfl (ea_star (fun _ => rfl) (ek_ed (ed_name_freeze 5 a5 rfl ⟨_, rfl, (ea_nil ⟨_, akF_cons rfl (akF_all acc), by rw [List.length_cons]; omega, ⟨_, _, rfl, rfl, ?_, (bd_nil (bd_nil ?_))⟩⟩)⟩)))))))))))
          · omega
          · exact ⟨_, _, _, _, by rw [List.length_append]; exact Nat.add_le_add hfs (Nat.le_refl 1), rfl⟩
      · exact ⟨fs, _, _, _, by omega, rfl⟩
  · rintro Γ2 ⟨fs, u1, u2, u3, hfs, rfl⟩
    refine (bd_cons (sd_ret (ed_name_move 2 a2 rfl (nl rfl) ?_)))
    exact hq fs
end
end K03

namespace K03
open PySem PySem.Spec PyProof.Rows L2 DL
section
variable {P : Program} {w : World}
variable {K : PySem.W.Frag}
variable {mg : Str → Option Value} {base : Heap}
theorem hist_tbl {d : Dt} (h : isHist d = true) : isTbl d = true := (Bool.and_eq_true_iff.mp (show (isTbl d && isNonD (fbOf d)) = true from h)).1
theorem day_int {d : Dt} (h : isDay d = true) : ∃ y, d = .int y := by
  cases d with
  | int i => exact ⟨i, rfl⟩
  | _ => cases h
abbrev s__law_label : Stmt := topS 45
theorem sc__law_label : FnScope ["e", "some", "found", "label", "is_one"] ["e"] (defScope s__law_label) := ⟨rfl, rfl, rfl, by decide +kernel, rfl, by decide +kernel, by decide +kernel⟩
theorem ok_groups {f_is_history : Addr} {d_is_history : FuncData} (G_is_history : FnG P w K mg base 5 f_is_history d_is_history ["value"] (spD K dsHist)) (g_is_history : mg "is_history" = some (.ref f_is_history)) (k_is_history : PySem.W.keepIn K (.ref f_is_history) = true) (b_is_history : Binds K d_is_history ["value"] []) {f_is_day : Addr} {d_is_day : FuncData} (G_is_day : FnG P w K mg base 2 f_is_day d_is_day ["value"] (spD K dsDay)) (g_is_day : mg "is_day" = some (.ref f_is_day)) (k_is_day : PySem.W.keepIn K (.ref f_is_day) = true) (b_is_day : Binds K d_is_day ["value"] []) {f_groups_on : Addr} {d_groups_on : FuncData} (G_groups_on : FnG P w K mg base 3 f_groups_on d_groups_on ["history", "day"] (spD K dsGroupsOn)) (g_groups_on : mg "groups_on" = some (.ref f_groups_on)) (k_groups_on : PySem.W.keepIn K (.ref f_groups_on) = true) (b_groups_on : Binds K d_groups_on ["history", "day"] []) {c_NotAHistory : Addr} (O_NotAHistory : OwnExc K mg "NotAHistory" c_NotAHistory) {c_InvalidDay : Addr} (O_InvalidDay : OwnExc K mg "InvalidDay" c_InvalidDay) {f : Addr} {fd : FuncData} (F : Fun K "groups" "groups" s_groups f fd) : FnX P w K mg base 6 f fd ["history", "day"] (spX K (dsGroups c_NotAHistory c_InvalidDay)) := by
  refine FnX.of F sc_groups (fun as post out h => by obtain ⟨_, _, h⟩ := h; rw [h.1]; rfl) fun cdv A outer s H vs fo as post out xe hr hgu hD tk pass => ?_
  obtain ⟨d, y, rfl, hK, ky, h9, q0, q1, q2⟩ := hD
  have a0 : At (coreOf P w K mg base (A.deeper (envOfC "groups" (defScope s_groups) s.heap.objs.size f cdv)) ["history", "day"] ((envOfC "groups" (defScope s_groups) s.heap.objs.size f cdv) :: outer)) (varX s H (envOfC "groups" (defScope s_groups) s.heap.objs.size f cdv) outer xe) "history" 0 := ⟨rfl, fun _ => by first | exact .inl rfl | exact .inr (.inl rfl), by decide, by decide⟩
  have s0 : AtS (coreOf P w K mg base (A.deeper (envOfC "groups" (defScope s_groups) s.heap.objs.size f cdv)) ["history", "day"] ((envOfC "groups" (defScope s_groups) s.heap.objs.size f cdv) :: outer)) (varX s H (envOfC "groups" (defScope s_groups) s.heap.objs.size f cdv) outer xe) "history" 0 := ⟨sc_groups.nd, rfl, fun _ => by first | exact .inl rfl | exact .inr rfl, fun _ => .inl rfl⟩
  have a1 : At (coreOf P w K mg base (A.deeper (envOfC "groups" (defScope s_groups) s.heap.objs.size f cdv)) ["history", "day"] ((envOfC "groups" (defScope s_groups) s.heap.objs.size f cdv) :: outer)) (varX s H (envOfC "groups" (defScope s_groups) s.heap.objs.size f cdv) outer xe) "day" 1 := ⟨rfl, fun _ => by first | exact .inl rfl | exact .inr (.inl rfl), by decide, by decide⟩
  have s1 : AtS (coreOf P w K mg base (A.deeper (envOfC "groups" (defScope s_groups) s.heap.objs.size f cdv)) ["history", "day"] ((envOfC "groups" (defScope s_groups) s.heap.objs.size f cdv) :: outer)) (varX s H (envOfC "groups" (defScope s_groups) s.heap.objs.size f cdv) outer xe) "day" 1 := ⟨sc_groups.nd, rfl, fun _ => by first | exact .inl rfl | exact .inr rfl, fun _ => .inl rfl⟩
  show BD _ _ _ _ _ [AV.dt d, .dt y]
  cases hH : isHist d with
  | false => refine (bd_cons (sd_if (td_not (td_val (fun _ _ => rfl) (ed_call G_is_history (hr.mono (by decide)) hgu (fun _ => rfl) g_is_history k_is_history b_is_history (by decide) (fun _ => rfl) (fun _ => rfl) (ea_cons (fun _ => rfl) (ek_ed (ed_name 0 a0 rfl (ea_nil ⟨_, rfl, rfl, ⟨_, rfl, hK, fun _ => ⟨_, rfl, ⟨fun hif => (bd_cons (sd_raise tk O_NotAHistory (fun _ => rfl) (by decide) (by exact q0 hH))), fun hif => (absurd hif (by rw [hH]; decide))⟩⟩⟩⟩)))))))))
  | true =>
    cases hY : isDay y with
    | false => refine (bd_cons (sd_if (td_not (td_val (fun _ _ => rfl) (ed_call G_is_history (hr.mono (by decide)) hgu (fun _ => rfl) g_is_history k_is_history b_is_history (by decide) (fun _ => rfl) (fun _ => rfl) (ea_cons (fun _ => rfl) (ek_ed (ed_name 0 a0 rfl (ea_nil ⟨_, rfl, rfl, ⟨_, rfl, hK, fun _ => ⟨_, rfl, ⟨fun hif => (absurd hif (by rw [hH]; decide)), fun hif => (bd_nil (bd_cons (sd_if (td_not (td_val (fun _ _ => rfl) (ed_call G_is_day (hr.mono (by decide)) hgu (fun _ => rfl) g_is_day k_is_day b_is_day (by decide) (fun _ => rfl) (fun _ => rfl) (ea_cons (fun _ => rfl) (ek_ed (ed_name 1 a1 rfl (ea_nil ⟨_, rfl, rfl, ⟨_, rfl, ky, fun _ => ⟨_, rfl, ⟨fun hif => (bd_cons (sd_raise tk O_InvalidDay (fun _ => rfl) (by decide) (by exact q1 hH hY))), fun hif => (absurd hif (by rw [hY]; decide))⟩⟩⟩⟩))))))))))⟩⟩⟩⟩)))))))))
    | true =>
      refine (bd_cons (sd_if (td_not (td_val (fun _ _ => rfl) (ed_call G_is_history (hr.mono (by decide)) hgu (fun _ => rfl) g_is_history k_is_history b_is_history (by decide) (fun _ => rfl) (fun _ => rfl) (ea_cons (fun _ => rfl) (ek_ed (ed_name 0 a0 rfl (ea_nil ⟨_, rfl, rfl, ⟨_, rfl, hK, fun _ => ⟨_, rfl, ⟨fun hif => (absurd hif (by rw [hH]; decide)), fun hif => (bd_nil (bd_cons (sd_if (td_not (td_val (fun _ _ => rfl) (ed_call G_is_day (hr.mono (by decide)) hgu (fun _ => rfl) g_is_day k_is_day b_is_day (by decide) (fun _ => rfl) (fun _ => rfl) (ea_cons (fun _ => rfl) (ek_ed (ed_name 1 a1 rfl (ea_nil ⟨_, rfl, rfl, ⟨_, rfl, ky, fun _ => ⟨_, rfl, ⟨fun hif => (absurd hif (by rw [hY]; decide)), fun hif => (bd_nil ?_)⟩⟩⟩⟩))))))))))⟩⟩⟩⟩)))))))))
      have k9 := h9 hH
      have hd := tbl_form (hist_tbl hH)
      generalize tOf d = t at hd
      generalize nOf d = n at hd k9
      subst hd
      obtain ⟨yy, rfl⟩ := day_int hY
      refine (bd_cons (sd_ret (ed_call G_groups_on (hr.mono (by decide)) hgu (fun _ => rfl) g_groups_on k_groups_on b_groups_on (by decide) (fun _ => rfl) (fun _ => rfl) (ea_cons (fun _ => rfl) (ek_ed (ed_name 0 a0 rfl (ea_cons (fun _ => rfl) (ek_ed (ed_name 1 a1 rfl (ea_nil ⟨_, rfl, rfl, ⟨t, n, yy, rfl, k9, fun ds _ => ?_⟩⟩))))))))))
      exact q2 hH hY ds
end
end K03

namespace K03
open PySem PySem.Spec PyProof.Rows L2 DL
def labs : List Str := ["table", "item", "same", "history", "day", "number", "forks", "told", "pair", "pairs", "other", "items", "parts", "common", "bound", "undo", "object", "text", "clash", "exact", "possible", "large"]
def labAt (i : Nat) : Str := (labs[i]?).getD "odd"
def kitRow (i : Nat) (j : Nat) : Dt := .tup [.str (labAt j), .bl (decide (i = j))]
/-- an exception of the i-th class; the 22nd is the parent of all -/
structure Own22 (K : PySem.W.Frag) (cs : List Addr) (cD D : Addr) (o : Dt) (i : Nat) : Prop where
  exc : ExcC K D
  kind : ExcD D o
  kit : ∀ j c, cs[j]? = some c → PySem.W.kitOne K (.ref D) (.ref c) = some (decide (i = j))
  days : PySem.W.kitOne K (.ref D) (.ref cD) = some true
  val : PySem.W.kitOne K (.ref D) (.type "ValueError") = some true
def dsLabel (K : PySem.W.Frag) (cs : List Addr) (cD : Addr) : DSp := fun as post => ∃ o D i, as = [.dt o] ∧ Own22 K cs cD D o i ∧ post (.dt (.str (labAt i))) [.un]
theorem kit_rows (i : Nat) : [Dt.tup [Dt.str "table", Dt.bl (decide (i = 0))], Dt.tup [Dt.str "item", Dt.bl (decide (i = 1))], Dt.tup [Dt.str "same", Dt.bl (decide (i = 2))], Dt.tup [Dt.str "history", Dt.bl (decide (i = 3))], Dt.tup [Dt.str "day", Dt.bl (decide (i = 4))], Dt.tup [Dt.str "number", Dt.bl (decide (i = 5))], Dt.tup [Dt.str "forks", Dt.bl (decide (i = 6))], Dt.tup [Dt.str "told", Dt.bl (decide (i = 7))], Dt.tup [Dt.str "pair", Dt.bl (decide (i = 8))], Dt.tup [Dt.str "pairs", Dt.bl (decide (i = 9))], Dt.tup [Dt.str "other", Dt.bl (decide (i = 10))], Dt.tup [Dt.str "items", Dt.bl (decide (i = 11))], Dt.tup [Dt.str "parts", Dt.bl (decide (i = 12))], Dt.tup [Dt.str "common", Dt.bl (decide (i = 13))], Dt.tup [Dt.str "bound", Dt.bl (decide (i = 14))], Dt.tup [Dt.str "undo", Dt.bl (decide (i = 15))], Dt.tup [Dt.str "object", Dt.bl (decide (i = 16))], Dt.tup [Dt.str "text", Dt.bl (decide (i = 17))], Dt.tup [Dt.str "clash", Dt.bl (decide (i = 18))], Dt.tup [Dt.str "exact", Dt.bl (decide (i = 19))], Dt.tup [Dt.str "possible", Dt.bl (decide (i = 20))], Dt.tup [Dt.str "large", Dt.bl (decide (i = 21))]] = (List.range 22).map (kitRow i) := rfl
section
variable {P : Program} {w : World}
variable {K : PySem.W.Frag}
variable {mg : Str → Option Value} {base : Heap}
theorem ok__law_label {c_InvalidTable c_InvalidItem c_SameItem c_NotAHistory c_InvalidDay c_InvalidNumber c_InvalidForks c_InvalidTold c_InvalidPair c_InvalidPairs c_OtherNumber c_InvalidItems c_InvalidParts c_NoCommon c_InvalidBound c_NothingToUndo c_NotAnObject c_InvalidText c_Contradiction c_NotExact c_NotPossible c_TooLarge c_DaysError : Addr} (g_InvalidTable : mg "InvalidTable" = some (.ref c_InvalidTable)) (g_InvalidItem : mg "InvalidItem" = some (.ref c_InvalidItem)) (g_SameItem : mg "SameItem" = some (.ref c_SameItem)) (g_NotAHistory : mg "NotAHistory" = some (.ref c_NotAHistory)) (g_InvalidDay : mg "InvalidDay" = some (.ref c_InvalidDay)) (g_InvalidNumber : mg "InvalidNumber" = some (.ref c_InvalidNumber)) (g_InvalidForks : mg "InvalidForks" = some (.ref c_InvalidForks)) (g_InvalidTold : mg "InvalidTold" = some (.ref c_InvalidTold)) (g_InvalidPair : mg "InvalidPair" = some (.ref c_InvalidPair)) (g_InvalidPairs : mg "InvalidPairs" = some (.ref c_InvalidPairs)) (g_OtherNumber : mg "OtherNumber" = some (.ref c_OtherNumber)) (g_InvalidItems : mg "InvalidItems" = some (.ref c_InvalidItems)) (g_InvalidParts : mg "InvalidParts" = some (.ref c_InvalidParts)) (g_NoCommon : mg "NoCommon" = some (.ref c_NoCommon)) (g_InvalidBound : mg "InvalidBound" = some (.ref c_InvalidBound)) (g_NothingToUndo : mg "NothingToUndo" = some (.ref c_NothingToUndo)) (g_NotAnObject : mg "NotAnObject" = some (.ref c_NotAnObject)) (g_InvalidText : mg "InvalidText" = some (.ref c_InvalidText)) (g_Contradiction : mg "Contradiction" = some (.ref c_Contradiction)) (g_NotExact : mg "NotExact" = some (.ref c_NotExact)) (g_NotPossible : mg "NotPossible" = some (.ref c_NotPossible)) (g_TooLarge : mg "TooLarge" = some (.ref c_TooLarge)) (g_DaysError : mg "DaysError" = some (.ref c_DaysError)) (m_isinstance : mg "isinstance" = none) (m_len : mg "len" = none) (m_ValueError : mg "ValueError" = none) {f : Addr} {fd : FuncData} (F : Fun K "_law_label" "_law_label" s__law_label f fd) : FnE P w K mg base 1 f fd ["e"] (spD K (dsLabel K [c_InvalidTable, c_InvalidItem, c_SameItem, c_NotAHistory, c_InvalidDay, c_InvalidNumber, c_InvalidForks, c_InvalidTold, c_InvalidPair, c_InvalidPairs, c_OtherNumber, c_InvalidItems, c_InvalidParts, c_NoCommon, c_InvalidBound, c_NothingToUndo, c_NotAnObject, c_InvalidText, c_Contradiction, c_NotExact, c_NotPossible, c_TooLarge] c_DaysError)) := by
  refine FnE.of F sc__law_label (fun as post h => by obtain ⟨_, _, _, h⟩ := h; rw [h.1]; rfl) fun cdv A outer s H vs fo as post hr hgu hD easy => ?_
  obtain ⟨o, D, i, rfl, y, hq⟩ := hD
  have a0 : At (coreE P w K mg base (A.deeper (envOfC "_law_label" (defScope s__law_label) s.heap.objs.size f cdv)) ["e", "some", "found", "label", "is_one"] ((envOfC "_law_label" (defScope s__law_label) s.heap.objs.size f cdv) :: outer)) (varOf s H (envOfC "_law_label" (defScope s__law_label) s.heap.objs.size f cdv) outer) "e" 0 := ⟨rfl, fun _ => by first | exact .inl rfl | exact .inr (.inl rfl), by decide, by decide⟩
  have s0 : AtS (coreE P w K mg base (A.deeper (envOfC "_law_label" (defScope s__law_label) s.heap.objs.size f cdv)) ["e", "some", "found", "label", "is_one"] ((envOfC "_law_label" (defScope s__law_label) s.heap.objs.size f cdv) :: outer)) (varOf s H (envOfC "_law_label" (defScope s__law_label) s.heap.objs.size f cdv) outer) "e" 0 := ⟨sc__law_label.nd, rfl, fun _ => by first | exact .inl rfl | exact .inr rfl, fun _ => .inl rfl⟩
  have a1 : At (coreE P w K mg base (A.deeper (envOfC "_law_label" (defScope s__law_label) s.heap.objs.size f cdv)) ["e", "some", "found", "label", "is_one"] ((envOfC "_law_label" (defScope s__law_label) s.heap.objs.size f cdv) :: outer)) (varOf s H (envOfC "_law_label" (defScope s__law_label) s.heap.objs.size f cdv) outer) "some" 1 := ⟨rfl, fun _ => by first | exact .inl rfl | exact .inr (.inl rfl), by decide, by decide⟩
  have s1 : AtS (coreE P w K mg base (A.deeper (envOfC "_law_label" (defScope s__law_label) s.heap.objs.size f cdv)) ["e", "some", "found", "label", "is_one"] ((envOfC "_law_label" (defScope s__law_label) s.heap.objs.size f cdv) :: outer)) (varOf s H (envOfC "_law_label" (defScope s__law_label) s.heap.objs.size f cdv) outer) "some" 1 := ⟨sc__law_label.nd, rfl, fun _ => by first | exact .inl rfl | exact .inr rfl, fun _ => .inl rfl⟩
  have a2 : At (coreE P w K mg base (A.deeper (envOfC "_law_label" (defScope s__law_label) s.heap.objs.size f cdv)) ["e", "some", "found", "label", "is_one"] ((envOfC "_law_label" (defScope s__law_label) s.heap.objs.size f cdv) :: outer)) (varOf s H (envOfC "_law_label" (defScope s__law_label) s.heap.objs.size f cdv) outer) "found" 2 := ⟨rfl, fun _ => by first | exact .inl rfl | exact .inr (.inl rfl), by decide, by decide⟩
  have s2 : AtS (coreE P w K mg base (A.deeper (envOfC "_law_label" (defScope s__law_label) s.heap.objs.size f cdv)) ["e", "some", "found", "label", "is_one"] ((envOfC "_law_label" (defScope s__law_label) s.heap.objs.size f cdv) :: outer)) (varOf s H (envOfC "_law_label" (defScope s__law_label) s.heap.objs.size f cdv) outer) "found" 2 := ⟨sc__law_label.nd, rfl, fun _ => by first | exact .inl rfl | exact .inr rfl, fun _ => .inl rfl⟩
  show BD _ _ _ _ _ [AV.dt o, .un, .un, .un, .un]
  have E := y.exc
  have kind := y.kind
  refine (bd_cons (sd_set 1 s1 (fun _ => rfl) (lt1 rfl) (nl rfl) (ed_lst (ea_cons (fun _ => rfl) (ek_ed (ed_tup (ea_cons (fun _ => rfl) (ek_ed (ed_str (ea_cons (fun _ => rfl) (ek_ed (ed_isC E kind (fun _ => rfl) m_isinstance (fun _ => rfl) g_InvalidTable (by decide) (fun _ => rfl) (fun _ => rfl) (fun _ => rfl) (ek_ed (ed_name 0 a0 rfl ⟨rfl, _, (y.kit 0 _ rfl), (ea_nil ⟨_, rfl, le1 rfl, (ea_cons (fun _ => rfl) (ek_ed (ed_tup (ea_cons (fun _ => rfl) (ek_ed (ed_str (ea_cons (fun _ => rfl) (ek_ed (ed_isC E kind (fun _ => rfl) m_isinstance (fun _ => rfl) g_InvalidItem (by decide) (fun _ => rfl) (fun _ => rfl) (fun _ => rfl) (ek_ed (ed_name 0 a0 rfl ⟨rfl, _, (y.kit 1 _ rfl), (ea_nil ⟨_, rfl, le1 rfl, (ea_nil ⟨_, rfl, le1 rfl, (bd_cons (sd_set 1 s1 (fun _ => rfl) (lt1 rfl) (nl rfl) (ed_add (ek_loan 1 a1 rfl (ek_ed (ed_lst (ea_cons (fun _ => rfl) (ek_ed (ed_tup (ea_cons (fun _ => rfl) (ek_ed (ed_str (ea_cons (fun _ => rfl) (ek_ed (ed_isC E kind (fun _ => rfl) m_isinstance (fun _ => rfl) g_SameItem (by decide) (fun _ => rfl) (fun _ => rfl) (fun _ => rfl) (ek_ed (ed_name 0 a0 rfl ⟨rfl, _, (y.kit 2 _ rfl), (ea_nil ⟨_, rfl, le1 rfl, (ea_cons (fun _ => rfl) (ek_ed (ed_tup (ea_cons (fun _ => rfl) (ek_ed (ed_str (ea_cons (fun _ => rfl) (ek_ed (ed_isC E kind (fun _ => rfl) m_isinstance (fun _ => rfl) g_NotAHistory (by decide) (fun _ => rfl) (fun _ => rfl) (fun _ => rfl) (ek_ed (ed_name 0 a0 rfl ⟨rfl, _, (y.kit 3 _ rfl), (ea_nil ⟨_, rfl, le1 rfl, (ea_nil ⟨_, rfl, le1 rfl, (AddR.lst rfl rfl rfl rfl (le1 rfl) (bd_cons (sd_set 1 s1 (fun _ => rfl) (lt1 rfl) (nl rfl) (ed_add (ek_loan 1 a1 rfl (ek_ed (ed_lst (ea_cons (fun _ => rfl) (ek_ed (ed_tup (ea_cons (fun _ => rfl) (ek_ed (ed_str (ea_cons (fun _ => rfl) (ek_ed (ed_isC E kind (fun _ => rfl) m_isinstance (fun _ => rfl) g_InvalidDay (by decide) (fun _ => rfl) (fun _ => rfl) (fun _ => rfl) (ek_ed (ed_name 0 a0 rfl ⟨rfl, _, (y.kit 4 _ rfl), (ea_nil ⟨_, rfl, le1 rfl, (ea_cons (fun _ => rfl) (ek_ed (ed_tup (ea_cons (fun _ => rfl) (ek_ed (ed_str (ea_cons (fun _ => rfl) (ek_ed (ed_isC E kind (fun _ => rfl) m_isinstance (fun _ => rfl) g_InvalidNumber (by decide) (fun _ => rfl) (fun _ => rfl) (fun _ => rfl) (ek_ed (ed_name 0 a0 rfl ⟨rfl, _, (y.kit 5 _ rfl), (ea_nil ⟨_, rfl, le1 rfl, (ea_nil ⟨_, rfl, le1 rfl, (AddR.lst rfl rfl rfl rfl (le1 rfl) (bd_cons (sd_set 1 s1 (fun _ => rfl) (lt1 rfl) (nl rfl) (ed_add (ek_loan 1 a1 rfl (ek_ed (ed_lst (ea_cons (fun _ => rfl) (ek_ed (ed_tup (ea_cons (fun _ => rfl) (ek_ed (ed_str (ea_cons (fun _ => rfl) (ek_ed (ed_isC E kind (fun _ => rfl) m_isinstance (fun _ => rfl) g_InvalidForks (by decide) (fun _ => rfl) (fun _ => rfl) (fun _ => rfl) (ek_ed (ed_name 0 a0 rfl ⟨rfl, _, (y.kit 6 _ rfl), (ea_nil ⟨_, rfl, le1 rfl, (ea_cons (fun _ => rfl) (ek_ed (ed_tup (ea_cons (fun _ => rfl) (ek_ed (ed_str (ea_cons (fun _ => rfl) (ek_ed (ed_isC E kind (fun _ => rfl) m_isinstance (fun _ => rfl) g_InvalidTold (by decide) (fun _ => rfl) (fun _ => rfl) (fun _ => rfl) (ek_ed (ed_name 0 a0 rfl ⟨rfl, _, (y.kit 7 _ rfl), (ea_nil ⟨_, rfl, le1 rfl, (ea_nil ⟨_, rfl, le1 rfl, (AddR.lst rfl rfl rfl rfl (le1 rfl) (bd_cons (sd_set 1 s1 (fun _ => rfl) (lt1 rfl) (nl rfl) (ed_add (ek_loan 1 a1 rfl (ek_ed (ed_lst (ea_cons (fun _ => rfl) (ek_ed (ed_tup (ea_cons (fun _ => rfl) (ek_ed (ed_str (ea_cons (fun _ => rfl) (ek_ed (ed_isC E kind (fun _ => rfl) m_isinstance (fun _ => rfl) g_InvalidPair (by decide) (fun _ => rfl) (fun _ => rfl) (fun _ => rfl) (ek_ed (ed_name 0 a0 rfl ⟨rfl, _, (y.kit 8 _ rfl), (ea_nil ⟨_, rfl, le1 rfl, (ea_cons (fun _ => rfl) (ek_ed (ed_tup (ea_cons (fun _ => rfl) (ek_ed (ed_str (ea_cons (fun _ => rfl) (ek_ed (ed_isC E kind (fun _ => rfl) m_isinstance (fun _ => rfl) g_InvalidPairs (by decide) (fun _ => rfl) (fun _ => rfl) (fun _ => rfl) (ek_ed (ed_name 0 a0 rfl ⟨rfl, _, (y.kit 9 _ rfl), (ea_nil ⟨_, rfl, le1 rfl, (ea_nil ⟨_, rfl, le1 rfl, (AddR.lst rfl rfl rfl rfl (le1 rfl) (bd_cons (sd_set 1 s1 (fun _ => rfl) (lt1 rfl) (nl rfl) (ed_add (ek_loan 1 a1 rfl (ek_ed (ed_lst (ea_cons (fun _ => rfl) (ek_ed (ed_tup (ea_cons (fun _ => rfl) (ek_ed (ed_str (ea_cons (fun _ => rfl) (ek_ed (ed_isC E kind (fun _ => rfl) m_isinstance (fun _ => rfl) g_OtherNumber (by decide) (fun _ => rfl) (fun _ => rfl) (fun _ => rfl) (ek_ed (ed_name 0 a0 rfl ⟨rfl, _, (y.kit 10 _ rfl), (ea_nil ⟨_, rfl, le1 rfl, (ea_cons (fun _ => rfl) (ek_ed (ed_tup (ea_cons (fun _ => rfl) (ek_ed (ed_str (ea_cons (fun _ => rfl) (ek_ed (ed_isC E kind (fun _ => rfl) m_isinstance (fun _ => rfl) g_InvalidItems (by decide) (fun _ => rfl) (fun _ => rfl) (fun _ => rfl) (ek_ed (ed_name 0 a0 rfl ⟨rfl, _, (y.kit 11 _ rfl), (ea_nil ⟨_, rfl, le1 rfl, (ea_nil ⟨_, rfl, le1 rfl, (AddR.lst rfl rfl rfl rfl (le1 rfl) (bd_cons (sd_set 1 s1 (fun _ => rfl) (lt1 rfl) (nl rfl) (ed_add (ek_loan 1 a1 rfl (ek_ed (ed_lst (ea_cons (fun _ => rfl) (ek_ed (ed_tup (ea_cons (fun _ => rfl) (ek_ed (ed_str (ea_cons (fun _ => rfl) (ek_ed (ed_isC E kind (fun _ => rfl) m_isinstance (fun _ => rfl) g_InvalidParts (by decide) (fun _ => rfl) (fun _ => rfl) (fun _ => rfl) (ek_ed (ed_name 0 a0 rfl ⟨rfl, _, (y.kit 12 _ rfl), (ea_nil ⟨_, rfl, le1 rfl, (ea_cons (fun _ => rfl) (ek_ed (ed_tup (ea_cons (fun _ => rfl) (ek_ed (ed_str (ea_cons (fun _ => rfl) (ek_ed (ed_isC E kind (fun _ => rfl) m_isinstance (fun _ => rfl) g_NoCommon (by decide) (fun _ => rfl) (fun _ => rfl) (fun _ => rfl) (ek_ed (ed_name 0 a0 rfl ⟨rfl, _, (y.kit 13 _ rfl), (ea_nil ⟨_, rfl, le1 rfl, (ea_nil ⟨_, rfl, le1 rfl, (AddR.lst rfl rfl rfl rfl (le1 rfl) (bd_cons (sd_set 1 s1 (fun _ => rfl) (lt1 rfl) (nl rfl) (ed_add (ek_loan 1 a1 rfl (ek_ed (ed_lst (ea_cons (fun _ => rfl) (ek_ed (ed_tup (ea_cons (fun _ => rfl) (ek_ed (ed_str (ea_cons (fun _ => rfl) (ek_ed (ed_isC E kind (fun _ => rfl) m_isinstance (fun _ => rfl) g_InvalidBound (by decide) (fun _ => rfl) (fun _ => rfl) (fun _ => rfl) (ek_ed (ed_name 0 a0 rfl ⟨rfl, _, (y.kit 14 _ rfl), (ea_nil ⟨_, rfl, le1 rfl, (ea_cons (fun _ => rfl) (ek_ed (ed_tup (ea_cons (fun _ => rfl) (ek_ed (ed_str (ea_cons (fun _ => rfl) (ek_ed (ed_isC E kind (fun _ => rfl) m_isinstance (fun _ => rfl) g_NothingToUndo (by decide) (fun _ => rfl) (fun _ => rfl) (fun _ => rfl) (ek_ed (ed_name 0 a0 rfl ⟨rfl, _, (y.kit 15 _ rfl), (ea_nil ⟨_, rfl, le1 rfl, (ea_nil ⟨_, rfl, le1 rfl, (AddR.lst rfl rfl rfl rfl (le1 rfl) (bd_cons (sd_set 1 s1 (fun _ => rfl) (lt1 rfl) (nl rfl) (ed_add (ek_loan 1 a1 rfl (ek_ed (ed_lst (ea_cons (fun _ => rfl) (ek_ed (ed_tup (ea_cons (fun _ => rfl) (ek_ed (ed_str (ea_cons (fun _ => rfl) (ek_ed (ed_isC E kind (fun _ => rfl) m_isinstance (fun _ => rfl) g_NotAnObject (by decide) (fun _ => rfl) (fun _ => rfl) (fun _ => rfl) (ek_ed (ed_name 0 a0 rfl ⟨rfl, _, (y.kit 16 _ rfl), (ea_nil ⟨_, rfl, le1 rfl, (ea_cons (fun _ => rfl) (ek_ed (ed_tup (ea_cons (fun _ => rfl) (ek_ed (ed_str (ea_cons (fun _ => rfl) (ek_ed (ed_isC E kind (fun _ => rfl) m_isinstance (fun _ => rfl) g_InvalidText (by decide) (fun _ => rfl) (fun _ => rfl) (fun _ => rfl) (ek_ed (ed_name 0 a0 rfl ⟨rfl, _, (y.kit 17 _ rfl), (ea_nil ⟨_, rfl, le1 rfl, (ea_nil ⟨_, rfl, le1 rfl, (AddR.lst rfl rfl rfl rfl (le1 rfl) (bd_cons (sd_set 1 s1 (fun _ => rfl) (lt1 rfl) (nl rfl) (ed_add (ek_loan 1 a1 rfl (ek_ed (ed_lst (ea_cons (fun _ => rfl) (ek_ed (ed_tup (ea_cons (fun _ => rfl) (ek_ed (ed_str (ea_cons (fun _ => rfl) (ek_ed (ed_isC E kind (fun _ => rfl) m_isinstance (fun _ => rfl) g_Contradiction (by decide) (fun _ => rfl) (fun _ => rfl) (fun _ => rfl) (ek_ed (ed_name 0 a0 rfl ⟨rfl, _, (y.kit 18 _ rfl), (ea_nil ⟨_, rfl, le1 rfl, (ea_cons (fun _ => rfl) (ek_ed (ed_tup (ea_cons (fun _ => rfl) (ek_ed (ed_str (ea_cons (fun _ => rfl) (ek_ed (ed_isC E kind (fun _ => rfl) m_isinstance (fun _ => rfl) g_NotExact (by decide) (fun _ => rfl) (fun _ => rfl) (fun _ => rfl) (ek_ed (ed_name 0 a0 rfl ⟨rfl, _, (y.kit 19 _ rfl), (ea_nil ⟨_, rfl, le1 rfl, (ea_nil ⟨_, rfl, le1 rfl, (AddR.lst rfl rfl rfl rfl (le1 rfl) (bd_cons (sd_set 1 s1 (fun _ => rfl) (lt1 rfl) (nl rfl) (ed_add (ek_loan 1 a1 rfl (ek_ed (ed_lst (ea_cons (fun _ => rfl) (ek_ed (ed_tup (ea_cons (fun _ => rfl) (ek_ed (ed_str (ea_cons (fun _ => rfl) (ek_ed (ed_isC E kind (fun _ => rfl) m_isinstance (fun _ => rfl) g_NotPossible (by decide) (fun _ => rfl) (fun _ => rfl) (fun _ => rfl) (ek_ed (ed_name 0 a0 rfl ⟨rfl, _, (y.kit 20 _ rfl), (ea_nil ⟨_, rfl, le1 rfl, (ea_cons (fun _ => rfl) (ek_ed (ed_tup (ea_cons (fun _ => rfl) (ek_ed (ed_str (ea_cons (fun _ => rfl) (ek_ed (ed_isC E kind (fun _ => rfl) m_isinstance (fun _ => rfl) g_TooLarge (by decide) (fun _ => rfl) (fun _ => rfl) (fun _ => rfl) (ek_ed (ed_name 0 a0 rfl ⟨rfl, _, (y.kit 21 _ rfl), (ea_nil ⟨_, rfl, le1 rfl, (ea_nil ⟨_, rfl, le1 rfl, (AddR.lst rfl rfl rfl rfl (le1 rfl) ?_)⟩)⟩)⟩)))))))))))⟩)⟩))))))))))))))))))⟩)⟩)⟩)))))))))))⟩)⟩))))))))))))))))))⟩)⟩)⟩)))))))))))⟩)⟩))))))))))))))))))⟩)⟩)⟩)))))))))))⟩)⟩))))))))))))))))))⟩)⟩)⟩)))))))))))⟩)⟩))))))))))))))))))⟩)⟩)⟩)))))))))))⟩)⟩))))))))))))))))))⟩)⟩)⟩)))))))))))⟩)⟩))))))))))))))))))⟩)⟩)⟩)))))))))))⟩)⟩))))))))))))))))))⟩)⟩)⟩)))))))))))⟩)⟩))))))))))))))))))⟩)⟩)⟩)))))))))))⟩)⟩)))))))))))))))))⟩)⟩)⟩)))))))))))⟩)⟩))))))))))))))
  show BD _ _ _ _ _ [.dt o, .ow ((List.range 22).map (kitRow i)), .un, .un, .un]
  refine (bd_cons (sdM_setLc 2 (own := [("label", 3), ("is_one", 4)]) easy s2 (fun _ => rfl) (fun _ => sw_true rfl rfl rfl rfl) (lt1 rfl) (nl rfl) (fun _ => blkOk_by rfl) (fun _ _ => rfl) (nls rfl) (srcM_L (ek_ed (ed_name_freeze 1 a1 rfl ⟨_, rfl, rfl, rfl, ⟨?_, (fun j acc Γ => acc = (if i < j then [.str (labAt i)] else []) ∧ Γ = [AV.dt o, AV.dt (.lst ((List.range 22).map (kitRow i))), .un, .un, .un]), ?_, ?_, ?_⟩⟩)))))
  · rw [List.length_map, List.length_range]; exact le1 rfl
  · exact ⟨rfl, rfl⟩
  · rintro j d acc Γ2 hj ⟨rfl, rfl⟩
    have hj22 : j < 22 := by
      have := (List.getElem?_eq_some_iff.mp hj).1
      rwa [List.length_map, List.length_range] at this
    rw [List.getElem?_map, List.getElem?_range hj22] at hj
    cases hj
    refine ⟨_, (by decide), fun g ff => (gdM_tup easy.lc (fun _ => rfl) (fun _ => rfl) (gds_cons (fun _ => rfl) (gd_name 3 (ats_of sc__law_label.nd rfl (fun _ => rfl) (fun _ => rfl)) (lt1 rfl) (nl rfl) (gds_cons (fun _ => rfl) (gd_name 4 (ats_of sc__law_label.nd rfl (fun _ => rfl) (fun _ => rfl)) (lt1 rfl) (nl rfl) (gds_nil (ts_one (td_val (fun _ _ => rfl) (ed_name 4 (at_of rfl (fun _ => rfl) rfl rfl) rfl ⟨_, rfl, ⟨fun hif => (ed_name 3 (at_of rfl (fun _ => rfl) rfl rfl) rfl ⟨_, rfl, ?_⟩), fun hif => ?_⟩⟩)))))))))⟩
    · have : i = j := of_decide_eq_true hif
      subst this
      exact ⟨by rw [if_neg (Nat.lt_irrefl i), if_pos (Nat.lt_succ_self i)]; rfl, rfl⟩
    · have : i ≠ j := of_decide_eq_false hif
      exact ⟨by by_cases z : i < j <;> simp [z, show (i < j + 1) = (i < j) from propext ⟨fun _ => by omega, fun _ => by omega⟩], rfl⟩
  · rintro acc Γ2 ⟨rfl, rfl⟩
    rw [List.length_map, List.length_range]; by_cases hi : i < 22
    · rw [if_pos hi]
      refine (bd_cons (sd_ret (ed_ifExp (td_wd (wd_and (td_eqI (ek_ed (ed_len (fun _ => rfl) m_len (fun _ => rfl) (ek_loan 2 a2 rfl ⟨_, rfl, (ek_ed (ed_int (CmpT.mk rfl rfl ⟨fun hif => (wd_and (td_val (fun _ _ => rfl) (ed_isC E kind (fun _ => rfl) m_isinstance (fun _ => rfl) g_DaysError (by decide) (fun _ => rfl) (fun _ => rfl) (fun _ => rfl) (ek_ed (ed_name 0 a0 rfl ⟨rfl, _, y.days, ⟨_, rfl, ⟨fun hif => (wd_and1 (td_val (fun _ _ => rfl) (ed_isB E kind (fun _ => rfl) m_isinstance (fun _ => rfl) m_ValueError rfl (by decide) (by decide) (fun _ => rfl) (fun _ => rfl) (fun _ => rfl) (ek_ed (ed_name 0 a0 rfl ⟨rfl, _, y.val, ⟨_, rfl, ⟨fun hif => (ed_ixD (fun _ _ => rfl) (ek_loan 2 a2 rfl (ek_ed (ed_int (IxD.mk rfl rfl rfl ?_))))), fun hif => (ed_str ?_)⟩⟩⟩))))), fun hif => ⟨fun hit => (nomatch hit), fun hit => (ed_str ?_)⟩⟩⟩⟩))))), fun hif => ⟨fun hit => (nomatch hit), fun hit => (ed_str ?_)⟩⟩)))⟩)))))))))
      · exact hq
      · cases hif
      · cases hif
      · cases hif
    · have e : labAt i = "odd" := by unfold labAt; rw [List.getElem?_eq_none (by exact Nat.le_of_not_lt hi)]; rfl
      rw [e] at hq
      rw [if_neg hi]
      refine (bd_cons (sd_ret (ed_ifExp (td_wd (wd_and (td_eqI (ek_ed (ed_len (fun _ => rfl) m_len (fun _ => rfl) (ek_loan 2 a2 rfl ⟨_, rfl, (ek_ed (ed_int (CmpT.mk rfl rfl ⟨fun hif => (Bool.noConfusion (show false = true from hif)), fun hif => ⟨fun hit => (nomatch hit), fun hit => (ed_str ?_)⟩⟩)))⟩)))))))))
      exact hq
end
end K03

namespace K03
open PySem PySem.Spec PyProof.Rows L2 DL
abbrev s__law_told : Stmt := topS 48
theorem sc__law_told : FnScope ["way", "uno", "two", "three", "e"] ["way", "uno", "two", "three"] (defScope s__law_told) := ⟨rfl, rfl, rfl, by decide +kernel, rfl, by decide +kernel, by decide +kernel⟩

/-- what the law asks of the package's classes -/
structure Kits (K : PySem.W.Frag) (cs : List Addr) (cD : Addr) : Prop where
  each : ∀ (i : Nat) (C : Addr) (o : Dt), cs[i]? = some C → ExcD C o → Own22 K cs cD C o i
  root : ∀ o, ExcD cD o → Own22 K cs cD cD o 22
  caught : ∀ (i : Nat) (C : Addr), cs[i]? = some C → PySem.W.exmOne K (.ref C) (.ref cD) = some true
def same : Dt → Dt → Bool
  | .int i, .int j => decide (i = j)
  | _, _ => false
def dayR (u x y : Dt) : Str := if isTbl u then (if isItem x (nOf u : Nat) && isItem y (nOf u : Nat) then (if same x y then "same" else "fine") else "item") else "table"
def tblR (u : Dt) : Str := if isTbl u then "fine" else "table"
def grpR (u x : Dt) : Str := if isHist u then (if isDay x then "fine" else "day") else "history"
def ToldR (way : Int) (u x y : Dt) (r : Str) : Prop := ((way = 0 ∨ way = 1) ∧ Knd x ∧ Knd y ∧ r = dayR u x y) ∨ (way = 2 ∧ r = tblR u) ∨ ((way = 3 ∨ way = 4) ∧ Knd x ∧ (isHist u = true → nOf u ≤ 900) ∧ r = grpR u x)
def dsTold : DSp := fun as post => ∃ way u x y r, as = [.dt (.int way), .dt u, .dt x, .dt y] ∧ Knd3 u ∧ ToldR way u x y r ∧ post (.dt (.str r)) [.un, .un, .un, .un]
theorem dayR_1 {u x y : Dt} (h : isTbl u = false) : dayR u x y = "table" := by unfold dayR; rw [h]; rfl
theorem dayR_2 {u x y : Dt} (h : isTbl u = true) (h1 : isItem x (nOf u : Nat) = false) : dayR u x y = "item" := by unfold dayR; rw [h, h1]; rfl
theorem dayR_3 {u x y : Dt} (h : isTbl u = true) (h1 : isItem x (nOf u : Nat) = true) (h2 : isItem y (nOf u : Nat) = false) : dayR u x y = "item" := by unfold dayR; rw [h, h1, h2]; rfl
theorem dayR_4 {u x y : Dt} {i j : Int} (e1 : x = .int i) (e2 : y = .int j) (h : isTbl u = true) (h1 : isItem x (nOf u : Nat) = true) (h2 : isItem y (nOf u : Nat) = true) (e : i = j) : dayR u x y = "same" := by
  unfold dayR; rw [h, h1, h2, e1, e2, show same (.int i) (.int j) = true from decide_eq_true e]; rfl
theorem dayR_5 {u x y : Dt} {i j : Int} (e1 : x = .int i) (e2 : y = .int j) (h : isTbl u = true) (h1 : isItem x (nOf u : Nat) = true) (h2 : isItem y (nOf u : Nat) = true) (e : i ≠ j) : dayR u x y = "fine" := by
  unfold dayR; rw [h, h1, h2, e1, e2, show same (.int i) (.int j) = false from decide_eq_false e]; rfl
theorem tblR_1 {u : Dt} (h : isTbl u = false) : tblR u = "table" := by unfold tblR; rw [h]; rfl
theorem tblR_2 {u : Dt} (h : isTbl u = true) : tblR u = "fine" := by unfold tblR; rw [h]; rfl
theorem grpR_1 {u x : Dt} (h : isHist u = false) : grpR u x = "history" := by unfold grpR; rw [h]; rfl
theorem grpR_2 {u x : Dt} (h : isHist u = true) (h1 : isDay x = false) : grpR u x = "day" := by unfold grpR; rw [h, h1]; rfl
theorem grpR_3 {u x : Dt} (h : isHist u = true) (h1 : isDay x = true) : grpR u x = "fine" := by unfold grpR; rw [h, h1]; rfl
theorem room_held {k : Nat} {A : Around} (r : Room k A) (h : Option Value) : L2H.RoomH k (A.mark h) := ⟨r.dp, r.un⟩
section
variable {P : Program} {w : World}
variable {K : PySem.W.Frag}
variable {mg : Str → Option Value} {base : Heap}
theorem ok__law_told {c_InvalidTable c_InvalidItem c_SameItem c_NotAHistory c_InvalidDay c_InvalidNumber c_InvalidForks c_InvalidTold c_InvalidPair c_InvalidPairs c_OtherNumber c_InvalidItems c_InvalidParts c_NoCommon c_InvalidBound c_NothingToUndo c_NotAnObject c_InvalidText c_Contradiction c_NotExact c_NotPossible c_TooLarge c_DaysError : Addr} (kits : Kits K [c_InvalidTable, c_InvalidItem, c_SameItem, c_NotAHistory, c_InvalidDay, c_InvalidNumber, c_InvalidForks, c_InvalidTold, c_InvalidPair, c_InvalidPairs, c_OtherNumber, c_InvalidItems, c_InvalidParts, c_NoCommon, c_InvalidBound, c_NothingToUndo, c_NotAnObject, c_InvalidText, c_Contradiction, c_NotExact, c_NotPossible, c_TooLarge] c_DaysError) (g_DaysError : mg "DaysError" = some (.ref c_DaysError)) {f_day_of : Addr} {d_day_of : FuncData} (G_day_of : FnX P w K mg base 5 f_day_of d_day_of ["table", "one", "other"] (spX K (dsDayOf c_InvalidTable c_InvalidItem c_SameItem))) (g_day_of : mg "day_of" = some (.ref f_day_of)) (k_day_of : PySem.W.keepIn K (.ref f_day_of) = true) (b_day_of : Binds K d_day_of ["table", "one", "other"] []) (kp_day_of : KwP K d_day_of ["table", "one", "other"] ["other", "one", "table"] [2, 1, 0]) {f_bad_triple : Addr} {d_bad_triple : FuncData} (G_bad_triple : FnX P w K mg base 5 f_bad_triple d_bad_triple ["table"] (spX K (dsBTX c_InvalidTable))) (g_bad_triple : mg "bad_triple" = some (.ref f_bad_triple)) (k_bad_triple : PySem.W.keepIn K (.ref f_bad_triple) = true) (b_bad_triple : Binds K d_bad_triple ["table"] []) {f_groups : Addr} {d_groups : FuncData} (G_groups : FnX P w K mg base 6 f_groups d_groups ["history", "day"] (spX K (dsGroups c_NotAHistory c_InvalidDay))) (g_groups : mg "groups" = some (.ref f_groups)) (k_groups : PySem.W.keepIn K (.ref f_groups) = true) (b_groups : Binds K d_groups ["history", "day"] []) (kp_groups : KwP K d_groups ["history", "day"] ["day", "history"] [1, 0]) {f__law_label : Addr} {d__law_label : FuncData} (E__law_label : FnE P w K mg base 1 f__law_label d__law_label ["e"] (spD K (dsLabel K [c_InvalidTable, c_InvalidItem, c_SameItem, c_NotAHistory, c_InvalidDay, c_InvalidNumber, c_InvalidForks, c_InvalidTold, c_InvalidPair, c_InvalidPairs, c_OtherNumber, c_InvalidItems, c_InvalidParts, c_NoCommon, c_InvalidBound, c_NothingToUndo, c_NotAnObject, c_InvalidText, c_Contradiction, c_NotExact, c_NotPossible, c_TooLarge] c_DaysError))) (g__law_label : mg "_law_label" = some (.ref f__law_label)) (k__law_label : PySem.W.keepIn K (.ref f__law_label) = true) (b__law_label : Binds K d__law_label ["e"] []) {f : Addr} {fd : FuncData} (F : Fun K "_law_told" "_law_told" s__law_told f fd) : FnG P w K mg base 7 f fd ["way", "uno", "two", "three"] (spD K dsTold) := by
  refine FnG.of F sc__law_told (fun as post h => by obtain ⟨_, _, _, _, _, h⟩ := h; rw [h.1]; rfl) fun cdv A outer s H vs fo as post hr hgu hD => ?_
  obtain ⟨way, u, x, y, r, rfl, kU, hR, hq⟩ := hD
  have a0 : At (coreOf P w K mg base (A.deeper (envOfC "_law_told" (defScope s__law_told) s.heap.objs.size f cdv)) ["way", "uno", "two", "three", "e"] ((envOfC "_law_told" (defScope s__law_told) s.heap.objs.size f cdv) :: outer)) (varOf s H (envOfC "_law_told" (defScope s__law_told) s.heap.objs.size f cdv) outer) "way" 0 := ⟨rfl, fun _ => by first | exact .inl rfl | exact .inr (.inl rfl), by decide, by decide⟩
  have s0 : AtS (coreOf P w K mg base (A.deeper (envOfC "_law_told" (defScope s__law_told) s.heap.objs.size f cdv)) ["way", "uno", "two", "three", "e"] ((envOfC "_law_told" (defScope s__law_told) s.heap.objs.size f cdv) :: outer)) (varOf s H (envOfC "_law_told" (defScope s__law_told) s.heap.objs.size f cdv) outer) "way" 0 := ⟨sc__law_told.nd, rfl, fun _ => by first | exact .inl rfl | exact .inr rfl, fun _ => .inl rfl⟩
  have a1 : At (coreOf P w K mg base (A.deeper (envOfC "_law_told" (defScope s__law_told) s.heap.objs.size f cdv)) ["way", "uno", "two", "three", "e"] ((envOfC "_law_told" (defScope s__law_told) s.heap.objs.size f cdv) :: outer)) (varOf s H (envOfC "_law_told" (defScope s__law_told) s.heap.objs.size f cdv) outer) "uno" 1 := ⟨rfl, fun _ => by first | exact .inl rfl | exact .inr (.inl rfl), by decide, by decide⟩
  have s1 : AtS (coreOf P w K mg base (A.deeper (envOfC "_law_told" (defScope s__law_told) s.heap.objs.size f cdv)) ["way", "uno", "two", "three", "e"] ((envOfC "_law_told" (defScope s__law_told) s.heap.objs.size f cdv) :: outer)) (varOf s H (envOfC "_law_told" (defScope s__law_told) s.heap.objs.size f cdv) outer) "uno" 1 := ⟨sc__law_told.nd, rfl, fun _ => by first | exact .inl rfl | exact .inr rfl, fun _ => .inl rfl⟩
  have a2 : At (coreOf P w K mg base (A.deeper (envOfC "_law_told" (defScope s__law_told) s.heap.objs.size f cdv)) ["way", "uno", "two", "three", "e"] ((envOfC "_law_told" (defScope s__law_told) s.heap.objs.size f cdv) :: outer)) (varOf s H (envOfC "_law_told" (defScope s__law_told) s.heap.objs.size f cdv) outer) "two" 2 := ⟨rfl, fun _ => by first | exact .inl rfl | exact .inr (.inl rfl), by decide, by decide⟩
  have s2 : AtS (coreOf P w K mg base (A.deeper (envOfC "_law_told" (defScope s__law_told) s.heap.objs.size f cdv)) ["way", "uno", "two", "three", "e"] ((envOfC "_law_told" (defScope s__law_told) s.heap.objs.size f cdv) :: outer)) (varOf s H (envOfC "_law_told" (defScope s__law_told) s.heap.objs.size f cdv) outer) "two" 2 := ⟨sc__law_told.nd, rfl, fun _ => by first | exact .inl rfl | exact .inr rfl, fun _ => .inl rfl⟩
  have a3 : At (coreOf P w K mg base (A.deeper (envOfC "_law_told" (defScope s__law_told) s.heap.objs.size f cdv)) ["way", "uno", "two", "three", "e"] ((envOfC "_law_told" (defScope s__law_told) s.heap.objs.size f cdv) :: outer)) (varOf s H (envOfC "_law_told" (defScope s__law_told) s.heap.objs.size f cdv) outer) "three" 3 := ⟨rfl, fun _ => by first | exact .inl rfl | exact .inr (.inl rfl), by decide, by decide⟩
  have s3 : AtS (coreOf P w K mg base (A.deeper (envOfC "_law_told" (defScope s__law_told) s.heap.objs.size f cdv)) ["way", "uno", "two", "three", "e"] ((envOfC "_law_told" (defScope s__law_told) s.heap.objs.size f cdv) :: outer)) (varOf s H (envOfC "_law_told" (defScope s__law_told) s.heap.objs.size f cdv) outer) "three" 3 := ⟨sc__law_told.nd, rfl, fun _ => by first | exact .inl rfl | exact .inr rfl, fun _ => .inl rfl⟩
  have a4 : At (coreOf P w K mg base (A.deeper (envOfC "_law_told" (defScope s__law_told) s.heap.objs.size f cdv)) ["way", "uno", "two", "three", "e"] ((envOfC "_law_told" (defScope s__law_told) s.heap.objs.size f cdv) :: outer)) (varOf s H (envOfC "_law_told" (defScope s__law_told) s.heap.objs.size f cdv) outer) "e" 4 := ⟨rfl, fun _ => by first | exact .inl rfl | exact .inr (.inl rfl), by decide, by decide⟩
  have s4 : AtS (coreOf P w K mg base (A.deeper (envOfC "_law_told" (defScope s__law_told) s.heap.objs.size f cdv)) ["way", "uno", "two", "three", "e"] ((envOfC "_law_told" (defScope s__law_told) s.heap.objs.size f cdv) :: outer)) (varOf s H (envOfC "_law_told" (defScope s__law_told) s.heap.objs.size f cdv) outer) "e" 4 := ⟨sc__law_told.nd, rfl, fun _ => by first | exact .inl rfl | exact .inr rfl, fun _ => .inl rfl⟩
  show BD _ _ _ _ _ [AV.dt (.int way), .dt u, .dt x, .dt y, .un]
  rcases hR with ⟨hw, kx, ky, rfl⟩ | ⟨rfl, rfl⟩ | ⟨hw, kx, h9, rfl⟩
  · have hq : ∀ s, dayR u x y = s → post (.dt (.str s)) [.un, .un, .un, .un] := fun s e => e ▸ hq
    rcases hw with rfl | rfl
    · exact (bd_cons (sd_try 4 (fun _ => rfl) (fun _ => rfl) (fun _ => rfl) sc__law_told.nd rfl (fun _ => rfl) (lt1 rfl) (nl rfl) (fun _ => ⟨rfl, rfl, .inl g_DaysError⟩) (TX.never _ _ _) fun W tkW passW => (bd_cons (sd_if (td_eqI (ek_ed (ed_name 0 a0.tr rfl (ek_ed (ed_int (CmpT.mk rfl rfl ⟨fun hif => (bd_cons (sd_expr (fun _ => rfl) (ed_callX G_day_of (hr.mono (by decide)) hgu tkW (fun _ => rfl) g_day_of k_day_of b_day_of (by decide) (fun _ => rfl) (fun _ => rfl) (ea_cons (fun _ => rfl) (ek_ed (ed_name 1 a1.tr rfl (ea_cons (fun _ => rfl) (ek_ed (ed_name 2 a2.tr rfl (ea_cons (fun _ => rfl) (ek_ed (ed_name 3 a3.tr rfl (ea_nil ⟨_, rfl, rfl, ⟨u, x, y, rfl, kU, kx, ky, fun h0 _ => ⟨true, kits.caught 0 _ rfl, fun _ a => (bd_cons (sd_ret (ed_callE E__law_label (room_held (hr.mono (by decide)) _) hgu (Easy.held _ _ _ _) (fun _ => rfl) g__law_label k__law_label b__law_label (by decide) (fun _ => rfl) (fun _ => rfl) (ea_cons (fun _ => rfl) (ek_ed (ed_name 4 a4.held rfl (ea_nil ⟨_, rfl, rfl, ⟨_, _, 0, rfl, kits.each 0 _ _ rfl (.inl ⟨_, rfl, excOf_K _⟩), fun _ => (by exact hq _ (dayR_1 h0))⟩⟩))))))), fun z => nomatch z⟩, fun h0 h1 _ => ⟨true, kits.caught 1 _ rfl, fun _ a => (bd_cons (sd_ret (ed_callE E__law_label (room_held (hr.mono (by decide)) _) hgu (Easy.held _ _ _ _) (fun _ => rfl) g__law_label k__law_label b__law_label (by decide) (fun _ => rfl) (fun _ => rfl) (ea_cons (fun _ => rfl) (ek_ed (ed_name 4 a4.held rfl (ea_nil ⟨_, rfl, rfl, ⟨_, _, 1, rfl, kits.each 1 _ _ rfl (.inl ⟨_, rfl, excOf_K _⟩), fun _ => (by exact hq _ (dayR_2 h0 h1))⟩⟩))))))), fun z => nomatch z⟩, fun h0 h1 h2 _ => ⟨true, kits.caught 1 _ rfl, fun _ a => (bd_cons (sd_ret (ed_callE E__law_label (room_held (hr.mono (by decide)) _) hgu (Easy.held _ _ _ _) (fun _ => rfl) g__law_label k__law_label b__law_label (by decide) (fun _ => rfl) (fun _ => rfl) (ea_cons (fun _ => rfl) (ek_ed (ed_name 4 a4.held rfl (ea_nil ⟨_, rfl, rfl, ⟨_, _, 1, rfl, kits.each 1 _ _ rfl (.inl ⟨_, rfl, excOf_K _⟩), fun _ => (by exact hq _ (dayR_3 h0 h1 h2))⟩⟩))))))), fun z => nomatch z⟩, fun i j e1 e2 h0 h1 h2 => ⟨fun z _ => ⟨true, kits.caught 2 _ rfl, fun _ a => (bd_cons (sd_ret (ed_callE E__law_label (room_held (hr.mono (by decide)) _) hgu (Easy.held _ _ _ _) (fun _ => rfl) g__law_label k__law_label b__law_label (by decide) (fun _ => rfl) (fun _ => rfl) (ea_cons (fun _ => rfl) (ek_ed (ed_name 4 a4.held rfl (ea_nil ⟨_, rfl, rfl, ⟨_, _, 2, rfl, kits.each 2 _ _ rfl (.inl ⟨_, rfl, excOf_K _⟩), fun _ => (by exact hq _ (dayR_4 e1 e2 h0 h1 h2 z))⟩⟩))))))), fun z => nomatch z⟩, fun z v _ => (bd_nil (bd_nil (bd_cons (sd_ret (ed_str (by exact hq _ (dayR_5 e1 e2 h0 h1 h2 z)))))))⟩⟩⟩))))))))))))), fun hif => (absurd hif (by decide))⟩))))))))))
    · exact (bd_cons (sd_try 4 (fun _ => rfl) (fun _ => rfl) (fun _ => rfl) sc__law_told.nd rfl (fun _ => rfl) (lt1 rfl) (nl rfl) (fun _ => ⟨rfl, rfl, .inl g_DaysError⟩) (TX.never _ _ _) fun W tkW passW => (bd_cons (sd_if (td_eqI (ek_ed (ed_name 0 a0.tr rfl (ek_ed (ed_int (CmpT.mk rfl rfl ⟨fun hif => (absurd hif (by decide)), fun hif => (bd_cons (sd_if (td_eqI (ek_ed (ed_name 0 a0.tr rfl (ek_ed (ed_int (CmpT.mk rfl rfl ⟨fun hif => (bd_cons (sd_expr (fun _ => rfl) (ed_callKX (ord := [2, 1, 0]) G_day_of (hr.mono (by decide)) hgu tkW (fun _ => rfl) g_day_of k_day_of kp_day_of (by decide) (fun _ => rfl) (fun _ => rfl) rfl (fun _ => rfl) (ekw_cons (ek_ed (ed_name 3 a3.tr rfl (ekw_cons (ek_ed (ed_name 2 a2.tr rfl (ekw_cons (ek_ed (ed_name 1 a1.tr rfl (ekw_nil ⟨_, rfl, rfl, ⟨u, x, y, rfl, kU, kx, ky, fun h0 _ => ⟨true, kits.caught 0 _ rfl, fun _ a => (bd_cons (sd_ret (ed_callE E__law_label (room_held (hr.mono (by decide)) _) hgu (Easy.held _ _ _ _) (fun _ => rfl) g__law_label k__law_label b__law_label (by decide) (fun _ => rfl) (fun _ => rfl) (ea_cons (fun _ => rfl) (ek_ed (ed_name 4 a4.held rfl (ea_nil ⟨_, rfl, rfl, ⟨_, _, 0, rfl, kits.each 0 _ _ rfl (.inl ⟨_, rfl, excOf_K _⟩), fun _ => (by exact hq _ (dayR_1 h0))⟩⟩))))))), fun z => nomatch z⟩, fun h0 h1 _ => ⟨true, kits.caught 1 _ rfl, fun _ a => (bd_cons (sd_ret (ed_callE E__law_label (room_held (hr.mono (by decide)) _) hgu (Easy.held _ _ _ _) (fun _ => rfl) g__law_label k__law_label b__law_label (by decide) (fun _ => rfl) (fun _ => rfl) (ea_cons (fun _ => rfl) (ek_ed (ed_name 4 a4.held rfl (ea_nil ⟨_, rfl, rfl, ⟨_, _, 1, rfl, kits.each 1 _ _ rfl (.inl ⟨_, rfl, excOf_K _⟩), fun _ => (by exact hq _ (dayR_2 h0 h1))⟩⟩))))))), fun z => nomatch z⟩, fun h0 h1 h2 _ => ⟨true, kits.caught 1 _ rfl, fun _ a => (bd_cons (sd_ret (ed_callE E__law_label (room_held (hr.mono (by decide)) _) hgu (Easy.held _ _ _ _) (fun _ => rfl) g__law_label k__law_label b__law_label (by decide) (fun _ => rfl) (fun _ => rfl) (ea_cons (fun _ => rfl) (ek_ed (ed_name 4 a4.held rfl (ea_nil ⟨_, rfl, rfl, ⟨_, _, 1, rfl, kits.each 1 _ _ rfl (.inl ⟨_, rfl, excOf_K _⟩), fun _ => (by exact hq _ (dayR_3 h0 h1 h2))⟩⟩))))))), fun z => nomatch z⟩, fun i j e1 e2 h0 h1 h2 => ⟨fun z _ => ⟨true, kits.caught 2 _ rfl, fun _ a => (bd_cons (sd_ret (ed_callE E__law_label (room_held (hr.mono (by decide)) _) hgu (Easy.held _ _ _ _) (fun _ => rfl) g__law_label k__law_label b__law_label (by decide) (fun _ => rfl) (fun _ => rfl) (ea_cons (fun _ => rfl) (ek_ed (ed_name 4 a4.held rfl (ea_nil ⟨_, rfl, rfl, ⟨_, _, 2, rfl, kits.each 2 _ _ rfl (.inl ⟨_, rfl, excOf_K _⟩), fun _ => (by exact hq _ (dayR_4 e1 e2 h0 h1 h2 z))⟩⟩))))))), fun z => nomatch z⟩, fun z v _ => (bd_nil (bd_nil (bd_nil (bd_cons (sd_ret (ed_str (by exact hq _ (dayR_5 e1 e2 h0 h1 h2 z))))))))⟩⟩⟩))))))))))))), fun hif => (absurd hif (by decide))⟩))))))))⟩))))))))))
  · have hq : ∀ s, tblR u = s → post (.dt (.str s)) [.un, .un, .un, .un] := fun s e => e ▸ hq
    exact (bd_cons (sd_try 4 (fun _ => rfl) (fun _ => rfl) (fun _ => rfl) sc__law_told.nd rfl (fun _ => rfl) (lt1 rfl) (nl rfl) (fun _ => ⟨rfl, rfl, .inl g_DaysError⟩) (TX.never _ _ _) fun W tkW passW => (bd_cons (sd_if (td_eqI (ek_ed (ed_name 0 a0.tr rfl (ek_ed (ed_int (CmpT.mk rfl rfl ⟨fun hif => (absurd hif (by decide)), fun hif => (bd_cons (sd_if (td_eqI (ek_ed (ed_name 0 a0.tr rfl (ek_ed (ed_int (CmpT.mk rfl rfl ⟨fun hif => (absurd hif (by decide)), fun hif => (bd_cons (sd_if (td_eqI (ek_ed (ed_name 0 a0.tr rfl (ek_ed (ed_int (CmpT.mk rfl rfl ⟨fun hif => (bd_cons (sd_expr (fun _ => rfl) (ed_callX G_bad_triple (hr.mono (by decide)) hgu tkW (fun _ => rfl) g_bad_triple k_bad_triple b_bad_triple (by decide) (fun _ => rfl) (fun _ => rfl) (ea_cons (fun _ => rfl) (ek_ed (ed_name 1 a1.tr rfl (ea_nil ⟨_, rfl, rfl, ⟨u, rfl, kU, fun h0 _ => ⟨true, kits.caught 0 _ rfl, fun _ a => (bd_cons (sd_ret (ed_callE E__law_label (room_held (hr.mono (by decide)) _) hgu (Easy.held _ _ _ _) (fun _ => rfl) g__law_label k__law_label b__law_label (by decide) (fun _ => rfl) (fun _ => rfl) (ea_cons (fun _ => rfl) (ek_ed (ed_name 4 a4.held rfl (ea_nil ⟨_, rfl, rfl, ⟨_, _, 0, rfl, kits.each 0 _ _ rfl (.inl ⟨_, rfl, excOf_K _⟩), fun _ => (by exact hq _ (tblR_1 h0))⟩⟩))))))), fun z => nomatch z⟩, fun h0 _ => (bd_nil (bd_nil (bd_nil (bd_nil (bd_cons (sd_ret (ed_str (by exact hq _ (tblR_2 h0)))))))))⟩⟩))))))), fun hif => (absurd hif (by decide))⟩))))))))⟩))))))))⟩))))))))))
  · have hq : ∀ s, grpR u x = s → post (.dt (.str s)) [.un, .un, .un, .un] := fun s e => e ▸ hq
    rcases hw with rfl | rfl
    · exact (bd_cons (sd_try 4 (fun _ => rfl) (fun _ => rfl) (fun _ => rfl) sc__law_told.nd rfl (fun _ => rfl) (lt1 rfl) (nl rfl) (fun _ => ⟨rfl, rfl, .inl g_DaysError⟩) (TX.never _ _ _) fun W tkW passW => (bd_cons (sd_if (td_eqI (ek_ed (ed_name 0 a0.tr rfl (ek_ed (ed_int (CmpT.mk rfl rfl ⟨fun hif => (absurd hif (by decide)), fun hif => (bd_cons (sd_if (td_eqI (ek_ed (ed_name 0 a0.tr rfl (ek_ed (ed_int (CmpT.mk rfl rfl ⟨fun hif => (absurd hif (by decide)), fun hif => (bd_cons (sd_if (td_eqI (ek_ed (ed_name 0 a0.tr rfl (ek_ed (ed_int (CmpT.mk rfl rfl ⟨fun hif => (absurd hif (by decide)), fun hif => (bd_cons (sd_if (td_eqI (ek_ed (ed_name 0 a0.tr rfl (ek_ed (ed_int (CmpT.mk rfl rfl ⟨fun hif => (bd_cons (sd_expr (fun _ => rfl) (ed_callX G_groups (hr.mono (by decide)) hgu tkW (fun _ => rfl) g_groups k_groups b_groups (by decide) (fun _ => rfl) (fun _ => rfl) (ea_cons (fun _ => rfl) (ek_ed (ed_name 1 a1.tr rfl (ea_cons (fun _ => rfl) (ek_ed (ed_name 2 a2.tr rfl (ea_nil ⟨_, rfl, rfl, ⟨u, x, rfl, kU, kx, h9, fun h0 _ => ⟨true, kits.caught 3 _ rfl, fun _ a => (bd_cons (sd_ret (ed_callE E__law_label (room_held (hr.mono (by decide)) _) hgu (Easy.held _ _ _ _) (fun _ => rfl) g__law_label k__law_label b__law_label (by decide) (fun _ => rfl) (fun _ => rfl) (ea_cons (fun _ => rfl) (ek_ed (ed_name 4 a4.held rfl (ea_nil ⟨_, rfl, rfl, ⟨_, _, 3, rfl, kits.each 3 _ _ rfl (.inl ⟨_, rfl, excOf_K _⟩), fun _ => (by exact hq _ (grpR_1 h0))⟩⟩))))))), fun z => nomatch z⟩, fun h0 h1 _ => ⟨true, kits.caught 4 _ rfl, fun _ a => (bd_cons (sd_ret (ed_callE E__law_label (room_held (hr.mono (by decide)) _) hgu (Easy.held _ _ _ _) (fun _ => rfl) g__law_label k__law_label b__law_label (by decide) (fun _ => rfl) (fun _ => rfl) (ea_cons (fun _ => rfl) (ek_ed (ed_name 4 a4.held rfl (ea_nil ⟨_, rfl, rfl, ⟨_, _, 4, rfl, kits.each 4 _ _ rfl (.inl ⟨_, rfl, excOf_K _⟩), fun _ => (by exact hq _ (grpR_2 h0 h1))⟩⟩))))))), fun z => nomatch z⟩, fun h0 h1 ds _ => (bd_nil (bd_nil (bd_nil (bd_nil (bd_nil (bd_cons (sd_ret (ed_str (by exact hq _ (grpR_3 h0 h1))))))))))⟩⟩)))))))))), fun hif => (absurd hif (by decide))⟩))))))))⟩))))))))⟩))))))))⟩))))))))))
    · exact (bd_cons (sd_try 4 (fun _ => rfl) (fun _ => rfl) (fun _ => rfl) sc__law_told.nd rfl (fun _ => rfl) (lt1 rfl) (nl rfl) (fun _ => ⟨rfl, rfl, .inl g_DaysError⟩) (TX.never _ _ _) fun W tkW passW => (bd_cons (sd_if (td_eqI (ek_ed (ed_name 0 a0.tr rfl (ek_ed (ed_int (CmpT.mk rfl rfl ⟨fun hif => (absurd hif (by decide)), fun hif => (bd_cons (sd_if (td_eqI (ek_ed (ed_name 0 a0.tr rfl (ek_ed (ed_int (CmpT.mk rfl rfl ⟨fun hif => (absurd hif (by decide)), fun hif => (bd_cons (sd_if (td_eqI (ek_ed (ed_name 0 a0.tr rfl (ek_ed (ed_int (CmpT.mk rfl rfl ⟨fun hif => (absurd hif (by decide)), fun hif => (bd_cons (sd_if (td_eqI (ek_ed (ed_name 0 a0.tr rfl (ek_ed (ed_int (CmpT.mk rfl rfl ⟨fun hif => (absurd hif (by decide)), fun hif => (bd_cons (sd_expr (fun _ => rfl) (ed_callKX (ord := [1, 0]) G_groups (hr.mono (by decide)) hgu tkW (fun _ => rfl) g_groups k_groups kp_groups (by decide) (fun _ => rfl) (fun _ => rfl) rfl (fun _ => rfl) (ekw_cons (ek_ed (ed_name 2 a2.tr rfl (ekw_cons (ek_ed (ed_name 1 a1.tr rfl (ekw_nil ⟨_, rfl, rfl, ⟨u, x, rfl, kU, kx, h9, fun h0 _ => ⟨true, kits.caught 3 _ rfl, fun _ a => (bd_cons (sd_ret (ed_callE E__law_label (room_held (hr.mono (by decide)) _) hgu (Easy.held _ _ _ _) (fun _ => rfl) g__law_label k__law_label b__law_label (by decide) (fun _ => rfl) (fun _ => rfl) (ea_cons (fun _ => rfl) (ek_ed (ed_name 4 a4.held rfl (ea_nil ⟨_, rfl, rfl, ⟨_, _, 3, rfl, kits.each 3 _ _ rfl (.inl ⟨_, rfl, excOf_K _⟩), fun _ => (by exact hq _ (grpR_1 h0))⟩⟩))))))), fun z => nomatch z⟩, fun h0 h1 _ => ⟨true, kits.caught 4 _ rfl, fun _ a => (bd_cons (sd_ret (ed_callE E__law_label (room_held (hr.mono (by decide)) _) hgu (Easy.held _ _ _ _) (fun _ => rfl) g__law_label k__law_label b__law_label (by decide) (fun _ => rfl) (fun _ => rfl) (ea_cons (fun _ => rfl) (ek_ed (ed_name 4 a4.held rfl (ea_nil ⟨_, rfl, rfl, ⟨_, _, 4, rfl, kits.each 4 _ _ rfl (.inl ⟨_, rfl, excOf_K _⟩), fun _ => (by exact hq _ (grpR_2 h0 h1))⟩⟩))))))), fun z => nomatch z⟩, fun h0 h1 ds _ => (bd_nil (bd_nil (bd_nil (bd_nil (bd_nil (bd_cons (sd_ret (ed_str (by exact hq _ (grpR_3 h0 h1))))))))))⟩⟩))))))))))⟩))))))))⟩))))))))⟩))))))))⟩))))))))))
end
end K03

namespace K03
open PySem PySem.Spec PyProof.Rows L2 DL
abbrev s__law_no_table : Stmt := topS 47
theorem sc__law_no_table : FnScope ["pail", "known", "at", "line", "odd", "spot", "tail", "bent", "some"] ["pail", "known"] (defScope s__law_no_table) := ⟨rfl, rfl, rfl, by decide +kernel, rfl, by decide +kernel, by decide +kernel⟩
theorem knd_int (v : Int) : Knd (.int v) := ⟨_, rfl⟩

/-! ### values that the law bends -/
def Ints (xs : List Dt) : Prop := ∀ x ∈ xs, ∃ v : Int, x = .int v ∧ v.natAbs < 10 ^ 43
def RowOk (e : Dt) : Prop := ∃ xs, e = .tup xs ∧ xs.length ≤ 60 ∧ Ints xs
def TabOk (ks : List Dt) : Prop := ks.length ≤ 60 ∧ ∀ e ∈ ks, RowOk e
def Odd (d : Dt) : Prop := (Knds d ∧ Knd3 d) ∧ (Sh 1 3 false d ∨ (Sh 1 3 true d ∧ d.noL = true))
def Good (e : Dt) : Prop := Knd3 e ∧ ∃ pd, Shows e pd
theorem cut_len (ds : List Dt) (l u : Option Int) : (DL.cutD ds l u).length ≤ ds.length := by
  unfold DL.cutD
  rw [List.length_take, List.length_drop]; omega
theorem cut_mem {ds : List Dt} {l u : Option Int} {x : Dt} (h : x ∈ DL.cutD ds l u) : x ∈ ds := by
  unfold DL.cutD at h
  exact List.mem_of_mem_drop (List.mem_of_mem_take h)
theorem Ints.cut {ds : List Dt} {l u : Option Int} (h : Ints ds) : Ints (DL.cutD ds l u) := fun x hx => h x (cut_mem hx)
theorem Ints.app {a b : List Dt} (h : Ints a) (h2 : Ints b) : Ints (a ++ b) := fun x hx => (List.mem_append.mp hx).elim (h x) (h2 x)
theorem Ints.one {v : Int} (h : v.natAbs < 10 ^ 43) : Ints [.int v] := fun x hx => ⟨v, List.mem_singleton.mp hx, h⟩
theorem odd_row {e : Dt} (h : RowOk e) : Knds e ∧ Sh 60 1 false e ∧ e.noL = true := by
  obtain ⟨xs, rfl, hl, hi⟩ := h
  refine ⟨⟨⟨_, rfl⟩, fun ds z => ?_⟩, ?_, noL_tup fun x hx => ?_⟩
  · cases z
    exact ⟨by omega, fun x hx => by obtain ⟨v, rfl, _⟩ := hi x hx; exact knd_int v⟩
  · refine (sh_tup (b := 0) (q := 0) (D := false) fun x hx => ?_).mono (by omega) (Nat.le_refl _) id
    obtain ⟨v, rfl, hv⟩ := hi x hx
    exact sh_int (by omega)
  · obtain ⟨v, rfl, _⟩ := hi x hx
    rfl
theorem good_of {ks : List Dt} (hl : ks.length ≤ 50) (h : (∀ e ∈ ks, Knds e ∧ Sh 90 5 false e) ∨ (∀ e ∈ ks, Knds e ∧ Sh 90 5 true e ∧ e.noL = true)) : Good (.tup ks) := by
  have hK : Knd3 (.tup ks) := ⟨⟨_, rfl⟩, fun ds z => by
    cases z
    exact ⟨by omega, fun e he => h.elim (fun h => (h e he).1) fun h => (h e he).1⟩⟩
  have hm : ks.length * (90 + 1) ≤ 5000 := by omega
  rcases h with h | h
  · exact ⟨hK, (sh_tup fun e he => (h e he).2).shows hm (by decide) fun z => by cases z⟩
  · exact ⟨hK, (sh_tup fun e he => (h e he).2.1).shows hm (by decide) fun _ => noL_tup fun e he => (h e he).2.2⟩
theorem good3 {ks : List Dt} (hk : ks.length ≤ 20) (hr : ∀ e ∈ ks, RowOk e) {e : Dt} (h : (Knds e ∧ Sh 90 5 false e) ∨ (Knds e ∧ Sh 90 5 true e ∧ e.noL = true)) (l u l' u' : Option Int) : Good (.tup (DL.cutD ks l u ++ [e].reverse ++ DL.cutD ks l' u')) := by
  have c1 := cut_len ks l u
  have c2 := cut_len ks l' u'
  refine good_of (by simp only [List.length_append, List.length_reverse, List.length_cons, List.length_nil]; omega) ?_
  have mem : ∀ y ∈ DL.cutD ks l u ++ [e].reverse ++ DL.cutD ks l' u', RowOk y ∨ y = e := fun y hy => by
    rcases (List.mem_append.mp hy) with hy | hy
    · rcases (List.mem_append.mp hy) with hy | hy
      · exact .inl (hr y (cut_mem hy))
      · exact .inr (by simpa using hy)
    · exact .inl (hr y (cut_mem hy))
  rcases h with h | h
  · refine .inl fun y hy => ?_
    rcases mem y hy with z | rfl
    · exact ⟨(odd_row z).1, (odd_row z).2.1.mono (by decide) (by decide) id⟩
    · exact h
  · refine .inr fun y hy => ?_
    rcases mem y hy with z | rfl
    · exact ⟨(odd_row z).1, (odd_row z).2.1.mono (by decide) (by decide) (fun w => nomatch w), (odd_row z).2.2⟩
    · exact h
theorem odd_int {v : Int} (h : v.natAbs < 10 ^ 45) : Odd (.int v) := ⟨⟨⟨⟨_, rfl⟩, fun ds z => by cases z⟩, ⟨⟨_, rfl⟩, fun ds z => by cases z⟩⟩, .inl ((sh_int h).mono (by decide) (by decide) id)⟩
theorem odd_bl (b : Bool) : Odd (.bl b) := ⟨⟨⟨⟨_, rfl⟩, fun ds z => by cases z⟩, ⟨⟨_, rfl⟩, fun ds z => by cases z⟩⟩, .inl ((sh_bl b).mono (by decide) (by decide) id)⟩
theorem odd_non : Odd .non := ⟨⟨⟨⟨_, rfl⟩, fun ds z => by cases z⟩, ⟨⟨_, rfl⟩, fun ds z => by cases z⟩⟩, .inl (sh_non.mono (by decide) (by decide) id)⟩
theorem odd_str : Odd (.str "1") := ⟨⟨⟨⟨_, rfl⟩, fun ds z => by cases z⟩, ⟨⟨_, rfl⟩, fun ds z => by cases z⟩⟩, .inl ((sh_str (x := "1") (by decide +kernel)).mono (by decide +kernel) (by decide) id)⟩
theorem knds_int (v : Int) : Knds (.int v) := ⟨⟨_, rfl⟩, fun ds z => by cases z⟩
theorem odd_t0 : Odd (.tup []) := by
  refine ⟨⟨⟨⟨_, rfl⟩, fun ds z => ?_⟩, ⟨⟨_, rfl⟩, fun ds z => ?_⟩⟩, .inl ((sh_tup (b := 0) (q := 0) (D := false) fun e he => ?_).mono (by decide) (by decide) id)⟩
  · cases z
    exact ⟨by decide, fun e he => by cases he⟩
  · cases z
    exact ⟨by decide, fun e he => by cases he⟩
  · cases he
theorem odd_t1 : Odd (.tup [.int 1]) := by
  refine ⟨⟨⟨⟨_, rfl⟩, fun ds z => ?_⟩, ⟨⟨_, rfl⟩, fun ds z => ?_⟩⟩, .inl ((sh_tup (b := 0) (q := 0) (D := false) fun e he => ?_).mono (by decide) (by decide) id)⟩
  · cases z
    exact ⟨by decide, fun e he => by rw [List.mem_singleton.mp he]; exact knd_int 1⟩
  · cases z
    exact ⟨by decide, fun e he => by rw [List.mem_singleton.mp he]; exact knds_int 1⟩
  · rw [List.mem_singleton.mp he]
    exact sh_int (by decide)
theorem odd_l1 : Odd (.lst [.int 1]) := ⟨⟨⟨⟨_, rfl⟩, fun ds z => by cases z⟩, ⟨⟨_, rfl⟩, fun ds z => by cases z⟩⟩, .inl ((sh_lst (b := 0) (q := 0) (D := false) fun e he => by rw [List.mem_singleton.mp he]; exact sh_int (by decide)).mono (by decide) (by decide) id)⟩
theorem odd_d : Odd (.dct [] []) := ⟨⟨⟨⟨_, rfl⟩, fun ds z => by cases z⟩, ⟨⟨_, rfl⟩, fun ds z => by cases z⟩⟩, .inr ⟨sh_dct.mono (by decide) (by decide) id, rfl⟩⟩
theorem odd_part {o : Dt} (h : Odd o) : (Knds o ∧ Sh 90 5 false o) ∨ (Knds o ∧ Sh 90 5 true o ∧ o.noL = true) := h.2.elim (fun z => .inl ⟨h.1.1, z.mono (by decide) (by decide) id⟩) fun z => .inr ⟨h.1.1, z.1.mono (by decide) (by decide) id, z.2⟩
theorem good_odd {o : Dt} (h : Odd o) : Good o := ⟨h.1.2, h.2.elim (fun z => z.shows (by decide) (by decide) fun w => nomatch w) fun z => z.1.shows (by decide) (by decide) fun _ => z.2⟩
theorem good_rows {l : List Dt} (hl : l.length ≤ 50) (h : ∀ e ∈ l, RowOk e) : Good (.tup l) := good_of hl (.inl fun e he => ⟨(odd_row (h e he)).1, (odd_row (h e he)).2.1.mono (by decide) (by decide) id⟩)
theorem good_snoc {l : List Dt} {o : Dt} (hl : l.length ≤ 20) (h : ∀ e ∈ l, RowOk e) (ho : Odd o) : Good (.tup (l ++ [o].reverse)) := by
  refine good_of (by simp only [List.length_append, List.length_reverse, List.length_cons, List.length_nil]; omega) ?_
  have mem : ∀ y ∈ l ++ [o].reverse, RowOk y ∨ y = o := fun y hy => (List.mem_append.mp hy).elim (fun z => .inl (h y z)) fun z => .inr (by simpa using z)
  rcases odd_part ho with z | z
  · refine .inl fun y hy => ?_
    rcases mem y hy with w | rfl
    · exact ⟨(odd_row w).1, (odd_row w).2.1.mono (by decide) (by decide) id⟩
    · exact z
  · refine .inr fun y hy => ?_
    rcases mem y hy with w | rfl
    · exact ⟨(odd_row w).1, (odd_row w).2.1.mono (by decide) (by decide) (fun w => nomatch w), (odd_row w).2.2⟩
    · exact z
theorem good_one {o : Dt} (ho : Odd o) : Good (.tup [o].reverse) := good_snoc (l := []) (by decide) (fun e he => by cases he) ho
theorem good_lst {l : List Dt} (hl : l.length ≤ 60) (h : ∀ e ∈ l, RowOk e) : Good (.lst l) := by
  refine ⟨⟨⟨_, rfl⟩, fun ds z => by cases z⟩, (sh_lst (b := 60) (q := 1) (D := false) fun e he => (odd_row (h e he)).2.1).shows (by omega) (by decide) fun w => nomatch w⟩
theorem good_row {xs : List Dt} (h : RowOk (.tup xs)) : Good (.tup xs) := by
  obtain ⟨ys, e, hl, hi⟩ := h
  cases e
  refine ⟨⟨⟨_, rfl⟩, fun ds z => ?_⟩, ?_⟩
  · cases z
    exact ⟨by omega, fun x hx => by obtain ⟨v, rfl, _⟩ := hi x hx; exact knds_int v⟩
  · exact (odd_row ⟨_, rfl, hl, hi⟩).2.1.shows (by decide) (by decide) fun w => nomatch w
theorem good_in {l : List Dt} (hl : l.length ≤ 60) (h : ∀ e ∈ l, RowOk e) : Good (.tup [.tup l].reverse) := by
  refine ⟨⟨⟨_, rfl⟩, fun ds z => ?_⟩, ?_⟩
  · cases z
    refine ⟨le1 rfl, fun x hx => ?_⟩
    rw [List.mem_singleton.mp hx]
    refine ⟨⟨_, rfl⟩, fun ds z => ?_⟩
    cases z
    exact ⟨by omega, fun e he => (odd_row (h e he)).1.1⟩
  · have s1 := sh_tup (b := 60) (q := 1) (D := false) (ds := l) fun e he => (odd_row (h e he)).2.1
    have s2 : Sh 3700 2 false (.tup l) := s1.mono (by omega) (by decide) id
    exact (sh_tup (b := 3700) (q := 2) (D := false) (ds := [.tup l]) fun e he => by rw [List.mem_singleton.mp he]; exact s2).shows (le1 rfl) (by decide) fun w => nomatch w
theorem odd_line {xs : List Dt} (hl : xs.length ≤ 20) (hi : Ints xs) {o : Dt} (ho : Odd o) (l u l' u' : Option Int) : (Knds (.tup (DL.cutD xs l u ++ [o].reverse ++ DL.cutD xs l' u')) ∧ Sh 90 5 false (.tup (DL.cutD xs l u ++ [o].reverse ++ DL.cutD xs l' u'))) ∨
    (Knds (.tup (DL.cutD xs l u ++ [o].reverse ++ DL.cutD xs l' u')) ∧ Sh 90 5 true (.tup (DL.cutD xs l u ++ [o].reverse ++ DL.cutD xs l' u')) ∧ (Dt.tup (DL.cutD xs l u ++ [o].reverse ++ DL.cutD xs l' u')).noL = true) := by
  have c1 := cut_len xs l u
  have c2 := cut_len xs l' u'
  have hz : (DL.cutD xs l u ++ [o].reverse ++ DL.cutD xs l' u').length ≤ 41 := by
    simp only [List.length_append, List.length_reverse, List.length_cons, List.length_nil]
    omega
  have mem : ∀ y ∈ DL.cutD xs l u ++ [o].reverse ++ DL.cutD xs l' u', (∃ v : Int, y = .int v ∧ v.natAbs < 10 ^ 43) ∨ y = o := fun y hy => by
    rcases (List.mem_append.mp hy) with hy | hy
    · rcases (List.mem_append.mp hy) with hy | hy
      · exact .inl (hi y (cut_mem hy))
      · exact .inr (by simpa using hy)
    · exact .inl (hi y (cut_mem hy))
  generalize DL.cutD xs l u ++ [o].reverse ++ DL.cutD xs l' u' = row at hz mem
  have hK : Knds (.tup row) := ⟨⟨_, rfl⟩, fun ds z => by
    cases z
    refine ⟨by omega, fun y hy => ?_⟩
    rcases mem y hy with ⟨v, rfl, _⟩ | rfl
    · exact knd_int v
    · exact ho.1.1.1⟩
  rcases ho.2 with z | z
  · refine .inl ⟨hK, (sh_tup (b := 1) (q := 3) (D := false) fun y hy => ?_).mono (by omega) (by decide) id⟩
    rcases mem y hy with ⟨v, rfl, hv⟩ | rfl
    · exact (sh_int (by omega)).mono (by decide) (by decide) id
    · exact z
  · refine .inr ⟨hK, (sh_tup (b := 1) (q := 3) (D := true) fun y hy => ?_).mono (by omega) (by decide) id, noL_tup fun y hy => ?_⟩
    · rcases mem y hy with ⟨v, rfl, hv⟩ | rfl
      · exact (sh_int (by omega)).mono (by decide) (by decide) fun w => nomatch w
      · exact z.1
    · rcases mem y hy with ⟨v, rfl, _⟩ | rfl
      · rfl
      · exact z.2
theorem row_nil : RowOk (.tup [].reverse) := ⟨[], rfl, by decide, fun x hx => by cases hx⟩
theorem lst_row {xs : List Dt} (hl : xs.length ≤ 20) (hi : Ints xs) : Knds (.lst xs) ∧ Sh 90 5 false (.lst xs) := ⟨⟨⟨_, rfl⟩, fun ds z => by cases z⟩, (sh_lst (b := 0) (q := 0) (D := false) fun x hx => by
  obtain ⟨v, rfl, hv⟩ := hi x hx
  exact sh_int (by omega)).mono (by omega) (by decide) id⟩
theorem atI_nat2 {α : Type} {l : List α} {j : Nat} {v : α} (h : l[j]? = some v) : atI l (.ofNat j) = some v := by
  rw [atI_nat (List.getElem?_eq_some_iff.mp h).1, h]
theorem atI_getD {l : List Dt} {i : Int} (h0 : 0 ≤ i) (h1 : i < l.length) : atI l i = some (l.getD i.toNat .non) := by
  obtain ⟨j, rfl⟩ := Int.eq_ofNat_of_zero_le h0; have hj : j < l.length := by omega
  rw [Int.toNat_natCast, List.getD, List.getElem?_eq_getElem hj]
  exact atI_nat2 (List.getElem?_eq_getElem hj)

theorem good_str {x : Str} (h : (x.cps.toList.all fun c => decide (c < 16 ^ 8)) = true) (hz : x.cps.size ≤ 5000) : Good (.str x) := ⟨⟨⟨_, rfl⟩, fun ds z => by cases z⟩, (sh_str h).shows hz (by decide) fun w => nomatch w⟩
theorem cut_at {ks : List Dt} {a : Nat} (h : a ≤ ks.length) : (DL.cutD ks none (some (a : Nat))).length = a := by
  unfold DL.cutD
  have e1 : HT.sIx ks.length 0 none = 0 := rfl
  have e2 : HT.sIx ks.length ks.length (some (a : Int)) = min a ks.length := HT.sIx_nat _ _ _
  rw [e1, e2, List.length_take, List.length_drop]
  omega
theorem isTbl_bad {ds : List Dt} {j : Nat} {e : Dt} (h : ds[j]? = some e) (b : isRow j e = false) : isTbl (.tup ds) = false := by
  show (!ds.isEmpty && ds.zipIdx.all fun p => isRow p.2 p.1) = false
  have : (ds.zipIdx.all fun p => isRow p.2 p.1) = false := by
    rw [List.all_eq_false]
    refine ⟨(e, j), ?_, by rw [b]; decide⟩
    rw [List.mem_zipIdx_iff_getElem?]
    exact h
  rw [this, Bool.and_false]
theorem put_bad {ks : List Dt} {a : Nat} (h : a < ks.length) {e : Dt} (b : isRow a e = false) (l u : Option Int) : isTbl (.tup (DL.cutD ks none (some (a : Nat)) ++ [e].reverse ++ DL.cutD ks l u)) = false := by
  refine isTbl_bad (j := a) (e := e) ?_ b
  have c := cut_at (ks := ks) (a := a) (by omega)
  rw [List.append_assoc, List.getElem?_append_right (by omega), c, Nat.sub_self]
  rfl
theorem row_bad {n : Nat} {ds : List Dt} {o : Dt} (h : o ∈ ds) (b : isDay o = false) : isRow n (.tup ds) = false := by
  show (decide (ds.length = n) && ds.all isDay) = false
  have : ds.all isDay = false := by
    rw [List.all_eq_false]
    exact ⟨o, h, by rw [b]; decide⟩
  rw [this, Bool.and_false]
theorem getD_all {l : List Dt} {p : Dt → Prop} {r : Int} (h : ∀ e ∈ l, p e) (h0 : 0 ≤ r) (h1 : r < (l.length : Nat)) : p (l.getD r.toNat .non) := by
  obtain ⟨j, rfl⟩ := Int.eq_ofNat_of_zero_le h0; have hj : j < l.length := by omega
  rw [Int.toNat_natCast, List.getD, List.getElem?_eq_getElem hj]
  exact h _ (List.getElem_mem hj)
def dsNoTab : DSp := fun as post => ∃ (n : Int) (ks ds : List Dt), as = [.ow ds, .dt (.tup ks)] ∧ Pail n ds ∧ n ≤ 10000000 ∧ 2 ≤ ks.length ∧ ks.length ≤ 20 ∧ (∀ e ∈ ks, ∃ xs, e = .tup xs ∧ xs.length ≤ 20 ∧ ∀ x ∈ xs, ∃ v : Int, x = .int v ∧ v.natAbs < 10 ^ 42) ∧
  ∀ d ds', Good d → isTbl d = false → Pail (n + 10) ds' → post (.dt d) [.ow ds', .un]
section
variable {P : Program} {w : World}
variable {K : PySem.W.Frag}
variable {mg : Str → Option Value} {base : Heap}
theorem ok__law_no_table {f__law_dip : Addr} {d__law_dip : FuncData} (G__law_dip : FnG P w K mg base 1 f__law_dip d__law_dip ["pail", "many"] (spD K dsDip)) (g__law_dip : mg "_law_dip" = some (.ref f__law_dip)) (k__law_dip : PySem.W.keepIn K (.ref f__law_dip) = true) (b__law_dip : Binds K d__law_dip ["pail", "many"] []) (m_len : mg "len" = none) (m_list : mg "list" = none) {f : Addr} {fd : FuncData} (F : Fun K "_law_no_table" "_law_no_table" s__law_no_table f fd) : FnG P w K mg base 2 f fd ["pail", "known"] (spD K dsNoTab) := by
  refine FnG.of F sc__law_no_table (fun as post h => by obtain ⟨_, _, _, h⟩ := h; rw [h.1]; rfl) fun cdv A outer s H vs fo as post hr hgu hD => ?_
  obtain ⟨n, ks, ds, rfl, hp, hn, hk1, hk2, hks, hq⟩ := hD
  have a0 : At (coreOf P w K mg base (A.deeper (envOfC "_law_no_table" (defScope s__law_no_table) s.heap.objs.size f cdv)) ["pail", "known", "at", "line", "odd", "spot", "tail", "bent", "some"] ((envOfC "_law_no_table" (defScope s__law_no_table) s.heap.objs.size f cdv) :: outer)) (varOf s H (envOfC "_law_no_table" (defScope s__law_no_table) s.heap.objs.size f cdv) outer) "pail" 0 := ⟨rfl, fun _ => by first | exact .inl rfl | exact .inr (.inl rfl), by decide, by decide⟩
  have s0 : AtS (coreOf P w K mg base (A.deeper (envOfC "_law_no_table" (defScope s__law_no_table) s.heap.objs.size f cdv)) ["pail", "known", "at", "line", "odd", "spot", "tail", "bent", "some"] ((envOfC "_law_no_table" (defScope s__law_no_table) s.heap.objs.size f cdv) :: outer)) (varOf s H (envOfC "_law_no_table" (defScope s__law_no_table) s.heap.objs.size f cdv) outer) "pail" 0 := ⟨sc__law_no_table.nd, rfl, fun _ => by first | exact .inl rfl | exact .inr rfl, fun _ => .inl rfl⟩
  have a1 : At (coreOf P w K mg base (A.deeper (envOfC "_law_no_table" (defScope s__law_no_table) s.heap.objs.size f cdv)) ["pail", "known", "at", "line", "odd", "spot", "tail", "bent", "some"] ((envOfC "_law_no_table" (defScope s__law_no_table) s.heap.objs.size f cdv) :: outer)) (varOf s H (envOfC "_law_no_table" (defScope s__law_no_table) s.heap.objs.size f cdv) outer) "known" 1 := ⟨rfl, fun _ => by first | exact .inl rfl | exact .inr (.inl rfl), by decide, by decide⟩
  have s1 : AtS (coreOf P w K mg base (A.deeper (envOfC "_law_no_table" (defScope s__law_no_table) s.heap.objs.size f cdv)) ["pail", "known", "at", "line", "odd", "spot", "tail", "bent", "some"] ((envOfC "_law_no_table" (defScope s__law_no_table) s.heap.objs.size f cdv) :: outer)) (varOf s H (envOfC "_law_no_table" (defScope s__law_no_table) s.heap.objs.size f cdv) outer) "known" 1 := ⟨sc__law_no_table.nd, rfl, fun _ => by first | exact .inl rfl | exact .inr rfl, fun _ => .inl rfl⟩
  have a2 : At (coreOf P w K mg base (A.deeper (envOfC "_law_no_table" (defScope s__law_no_table) s.heap.objs.size f cdv)) ["pail", "known", "at", "line", "odd", "spot", "tail", "bent", "some"] ((envOfC "_law_no_table" (defScope s__law_no_table) s.heap.objs.size f cdv) :: outer)) (varOf s H (envOfC "_law_no_table" (defScope s__law_no_table) s.heap.objs.size f cdv) outer) "at" 2 := ⟨rfl, fun _ => by first | exact .inl rfl | exact .inr (.inl rfl), by decide, by decide⟩
  have s2 : AtS (coreOf P w K mg base (A.deeper (envOfC "_law_no_table" (defScope s__law_no_table) s.heap.objs.size f cdv)) ["pail", "known", "at", "line", "odd", "spot", "tail", "bent", "some"] ((envOfC "_law_no_table" (defScope s__law_no_table) s.heap.objs.size f cdv) :: outer)) (varOf s H (envOfC "_law_no_table" (defScope s__law_no_table) s.heap.objs.size f cdv) outer) "at" 2 := ⟨sc__law_no_table.nd, rfl, fun _ => by first | exact .inl rfl | exact .inr rfl, fun _ => .inl rfl⟩
  have a3 : At (coreOf P w K mg base (A.deeper (envOfC "_law_no_table" (defScope s__law_no_table) s.heap.objs.size f cdv)) ["pail", "known", "at", "line", "odd", "spot", "tail", "bent", "some"] ((envOfC "_law_no_table" (defScope s__law_no_table) s.heap.objs.size f cdv) :: outer)) (varOf s H (envOfC "_law_no_table" (defScope s__law_no_table) s.heap.objs.size f cdv) outer) "line" 3 := ⟨rfl, fun _ => by first | exact .inl rfl | exact .inr (.inl rfl), by decide, by decide⟩
  have s3 : AtS (coreOf P w K mg base (A.deeper (envOfC "_law_no_table" (defScope s__law_no_table) s.heap.objs.size f cdv)) ["pail", "known", "at", "line", "odd", "spot", "tail", "bent", "some"] ((envOfC "_law_no_table" (defScope s__law_no_table) s.heap.objs.size f cdv) :: outer)) (varOf s H (envOfC "_law_no_table" (defScope s__law_no_table) s.heap.objs.size f cdv) outer) "line" 3 := ⟨sc__law_no_table.nd, rfl, fun _ => by first | exact .inl rfl | exact .inr rfl, fun _ => .inl rfl⟩
  have a4 : At (coreOf P w K mg base (A.deeper (envOfC "_law_no_table" (defScope s__law_no_table) s.heap.objs.size f cdv)) ["pail", "known", "at", "line", "odd", "spot", "tail", "bent", "some"] ((envOfC "_law_no_table" (defScope s__law_no_table) s.heap.objs.size f cdv) :: outer)) (varOf s H (envOfC "_law_no_table" (defScope s__law_no_table) s.heap.objs.size f cdv) outer) "odd" 4 := ⟨rfl, fun _ => by first | exact .inl rfl | exact .inr (.inl rfl), by decide, by decide⟩
  have s4 : AtS (coreOf P w K mg base (A.deeper (envOfC "_law_no_table" (defScope s__law_no_table) s.heap.objs.size f cdv)) ["pail", "known", "at", "line", "odd", "spot", "tail", "bent", "some"] ((envOfC "_law_no_table" (defScope s__law_no_table) s.heap.objs.size f cdv) :: outer)) (varOf s H (envOfC "_law_no_table" (defScope s__law_no_table) s.heap.objs.size f cdv) outer) "odd" 4 := ⟨sc__law_no_table.nd, rfl, fun _ => by first | exact .inl rfl | exact .inr rfl, fun _ => .inl rfl⟩
  have a5 : At (coreOf P w K mg base (A.deeper (envOfC "_law_no_table" (defScope s__law_no_table) s.heap.objs.size f cdv)) ["pail", "known", "at", "line", "odd", "spot", "tail", "bent", "some"] ((envOfC "_law_no_table" (defScope s__law_no_table) s.heap.objs.size f cdv) :: outer)) (varOf s H (envOfC "_law_no_table" (defScope s__law_no_table) s.heap.objs.size f cdv) outer) "spot" 5 := ⟨rfl, fun _ => by first | exact .inl rfl | exact .inr (.inl rfl), by decide, by decide⟩
  have s5 : AtS (coreOf P w K mg base (A.deeper (envOfC "_law_no_table" (defScope s__law_no_table) s.heap.objs.size f cdv)) ["pail", "known", "at", "line", "odd", "spot", "tail", "bent", "some"] ((envOfC "_law_no_table" (defScope s__law_no_table) s.heap.objs.size f cdv) :: outer)) (varOf s H (envOfC "_law_no_table" (defScope s__law_no_table) s.heap.objs.size f cdv) outer) "spot" 5 := ⟨sc__law_no_table.nd, rfl, fun _ => by first | exact .inl rfl | exact .inr rfl, fun _ => .inl rfl⟩
  have a6 : At (coreOf P w K mg base (A.deeper (envOfC "_law_no_table" (defScope s__law_no_table) s.heap.objs.size f cdv)) ["pail", "known", "at", "line", "odd", "spot", "tail", "bent", "some"] ((envOfC "_law_no_table" (defScope s__law_no_table) s.heap.objs.size f cdv) :: outer)) (varOf s H (envOfC "_law_no_table" (defScope s__law_no_table) s.heap.objs.size f cdv) outer) "tail" 6 := ⟨rfl, fun _ => by first | exact .inl rfl | exact .inr (.inl rfl), by decide, by decide⟩
  have s6 : AtS (coreOf P w K mg base (A.deeper (envOfC "_law_no_table" (defScope s__law_no_table) s.heap.objs.size f cdv)) ["pail", "known", "at", "line", "odd", "spot", "tail", "bent", "some"] ((envOfC "_law_no_table" (defScope s__law_no_table) s.heap.objs.size f cdv) :: outer)) (varOf s H (envOfC "_law_no_table" (defScope s__law_no_table) s.heap.objs.size f cdv) outer) "tail" 6 := ⟨sc__law_no_table.nd, rfl, fun _ => by first | exact .inl rfl | exact .inr rfl, fun _ => .inl rfl⟩
  have a7 : At (coreOf P w K mg base (A.deeper (envOfC "_law_no_table" (defScope s__law_no_table) s.heap.objs.size f cdv)) ["pail", "known", "at", "line", "odd", "spot", "tail", "bent", "some"] ((envOfC "_law_no_table" (defScope s__law_no_table) s.heap.objs.size f cdv) :: outer)) (varOf s H (envOfC "_law_no_table" (defScope s__law_no_table) s.heap.objs.size f cdv) outer) "bent" 7 := ⟨rfl, fun _ => by first | exact .inl rfl | exact .inr (.inl rfl), by decide, by decide⟩
  have s7 : AtS (coreOf P w K mg base (A.deeper (envOfC "_law_no_table" (defScope s__law_no_table) s.heap.objs.size f cdv)) ["pail", "known", "at", "line", "odd", "spot", "tail", "bent", "some"] ((envOfC "_law_no_table" (defScope s__law_no_table) s.heap.objs.size f cdv) :: outer)) (varOf s H (envOfC "_law_no_table" (defScope s__law_no_table) s.heap.objs.size f cdv) outer) "bent" 7 := ⟨sc__law_no_table.nd, rfl, fun _ => by first | exact .inl rfl | exact .inr rfl, fun _ => .inl rfl⟩
  have a8 : At (coreOf P w K mg base (A.deeper (envOfC "_law_no_table" (defScope s__law_no_table) s.heap.objs.size f cdv)) ["pail", "known", "at", "line", "odd", "spot", "tail", "bent", "some"] ((envOfC "_law_no_table" (defScope s__law_no_table) s.heap.objs.size f cdv) :: outer)) (varOf s H (envOfC "_law_no_table" (defScope s__law_no_table) s.heap.objs.size f cdv) outer) "some" 8 := ⟨rfl, fun _ => by first | exact .inl rfl | exact .inr (.inl rfl), by decide, by decide⟩
  have s8 : AtS (coreOf P w K mg base (A.deeper (envOfC "_law_no_table" (defScope s__law_no_table) s.heap.objs.size f cdv)) ["pail", "known", "at", "line", "odd", "spot", "tail", "bent", "some"] ((envOfC "_law_no_table" (defScope s__law_no_table) s.heap.objs.size f cdv) :: outer)) (varOf s H (envOfC "_law_no_table" (defScope s__law_no_table) s.heap.objs.size f cdv) outer) "some" 8 := ⟨sc__law_no_table.nd, rfl, fun _ => by first | exact .inl rfl | exact .inr rfl, fun _ => .inl rfl⟩
  show BD _ _ _ _ _ [.ow ds, .dt (.tup ks), .un, .un, .un, .un, .un, .un, .un]
  refine (bd_cons (sd_set 2 s2 (fun _ => rfl) (lt1 rfl) (nl rfl) (ed_call G__law_dip (hr.mono (by decide)) hgu (fun _ => rfl) g__law_dip k__law_dip b__law_dip (by decide) (fun _ => rfl) (fun _ => rfl) (ea_cons (fun _ => rfl) (ek_loan 0 a0 rfl (ea_cons (fun _ => rfl) (ek_ed (ed_len (fun _ => rfl) m_len (fun _ => rfl) (ek_ed (ed_name 1 a1 rfl ⟨_, rfl, (ea_nil ⟨_, rfl, rfl, ⟨_, _, _, rfl, hp, (by omega), (by first | decide | omega | (split <;> omega)), (by first | decide | omega | (split <;> omega)), fun r ds hr0 hr1 hp => fun _ => ?_⟩⟩)⟩))))))))))
  obtain ⟨a, rfl⟩ := Int.eq_ofNat_of_zero_le hr0
  have ha : a < ks.length := by omega
  obtain ⟨xs, hxs, hxl, hxi⟩ := hks ks[a] (List.getElem_mem ha)
  have hka : ks[a]? = some (.tup xs) := by rw [List.getElem?_eq_getElem ha, hxs]
  have hxI : Ints xs := fun x hx => by
    obtain ⟨v, e, b⟩ := hxi x hx
    exact ⟨v, e, by omega⟩
  have hrows : ∀ e ∈ ks, RowOk e := fun e he => by
    obtain ⟨ys, e1, e2, e3⟩ := hks e he
    exact ⟨ys, e1, by omega, fun x hx => by
      obtain ⟨v, e, b⟩ := e3 x hx
      exact ⟨v, e, by omega⟩⟩
  refine (bd_cons (sd_set 3 s3 (fun _ => rfl) (lt1 rfl) (nl rfl) (ed_ixD (fun _ _ => rfl) (ek_ed (ed_name 1 a1 rfl (ek_ed (ed_name 2 a2 rfl (IxD.mk rfl rfl (atI_nat2 hka) (bd_cons (sd_set 4 s4 (fun _ => rfl) (lt1 rfl) (nl rfl) (ed_ixD (fun _ _ => rfl) (ek_ed (ed_lst (ea_cons (fun _ => rfl) (ek_ed (ed_neg (ed_int ⟨_, rfl, (ea_cons (fun _ => rfl) (ek_ed (ed_bl (ea_cons (fun _ => rfl) (ek_ed (ed_bl (ea_cons (fun _ => rfl) (ek_ed (ed_non (ea_cons (fun _ => rfl) (ek_ed (ed_str (ea_cons (fun _ => rfl) (ek_ed (ed_tup (ea_nil ⟨_, rfl, le1 rfl, (ea_cons (fun _ => rfl) (ek_ed (ed_tup (ea_cons (fun _ => rfl) (ek_ed (ed_int (ea_nil ⟨_, rfl, le1 rfl, (ea_cons (fun _ => rfl) (ek_ed (ed_lst (ea_cons (fun _ => rfl) (ek_ed (ed_int (ea_nil ⟨_, rfl, le1 rfl, (ea_cons (fun _ => rfl) (ek_ed (ed_dict0 (ea_cons (fun _ => rfl) (ek_ed (ed_sub (ek_ed (ed_int (ek_ed (ed_pow (ek_ed (ed_int (ek_ed (ed_int (IntR.mk rfl rfl ?_ (IntR.mk rfl rfl trivial (ea_nil ⟨_, rfl, le1 rfl, (ek_ed (ed_call G__law_dip (hr.mono (by decide)) hgu (fun _ => rfl) g__law_dip k__law_dip b__law_dip (by decide) (fun _ => rfl) (fun _ => rfl) (ea_cons (fun _ => rfl) (ek_loan 0 a0 rfl (ea_cons (fun _ => rfl) (ek_ed (ed_int (ea_nil ⟨_, rfl, rfl, ⟨_, _, _, rfl, hp, (by omega), (by first | decide | omega | (split <;> omega)), (by first | decide | omega | (split <;> omega)), fun r ds hr0 hr1 hp => fun _ => (IxD.mk rfl rfl (atI_getD hr0 (by exact hr1)) ?_)⟩⟩))))))))⟩)))))))))))))))))⟩)))))))⟩)))))))⟩))))))))))))))))⟩)))))))))))))))))
  · exact powW_ok (n := 10) (by decide) (by decide) (by decide)
  generalize hgo : List.getD _ r.toNat Dt.non = o
  have hodd : Odd o ∧ isDay o = false := by
    obtain ⟨m, rfl⟩ := Int.eq_ofNat_of_zero_le hr0
    have hm : m = 0 ∨ m = 1 ∨ m = 2 ∨ m = 3 ∨ m = 4 ∨ m = 5 ∨ m = 6 ∨ m = 7 ∨ m = 8 ∨ m = 9 := by omega
    rcases hm with rfl | rfl | rfl | rfl | rfl | rfl | rfl | rfl | rfl | rfl
    · rw [← hgo]; exact ⟨odd_int (v := -1) (by decide), rfl⟩
    · rw [← hgo]; exact ⟨odd_bl true, rfl⟩
    · rw [← hgo]; exact ⟨odd_bl false, rfl⟩
    · rw [← hgo]; exact ⟨odd_non, rfl⟩
    · rw [← hgo]; exact ⟨odd_str, rfl⟩
    · rw [← hgo]; exact ⟨odd_t0, rfl⟩
    · rw [← hgo]; exact ⟨odd_t1, rfl⟩
    · rw [← hgo]; exact ⟨odd_l1, rfl⟩
    · rw [← hgo]; exact ⟨odd_d, rfl⟩
    · rw [← hgo]; exact ⟨odd_int (v := 0 - 10 ^ Int.toNat 39) (by decide), by decide⟩
  clear hgo
  obtain ⟨hodd, hnd⟩ := hodd
  refine (bd_cons (sd_set 5 s5 (fun _ => rfl) (lt1 rfl) (nl rfl) (ed_call G__law_dip (hr.mono (by decide)) hgu (fun _ => rfl) g__law_dip k__law_dip b__law_dip (by decide) (fun _ => rfl) (fun _ => rfl) (ea_cons (fun _ => rfl) (ek_loan 0 a0 rfl (ea_cons (fun _ => rfl) (ek_ed (ed_add (ek_ed (ed_len (fun _ => rfl) m_len (fun _ => rfl) (ek_ed (ed_name 3 a3 rfl ⟨_, rfl, (ek_ed (ed_int (AddR.int rfl rfl (ea_nil ⟨_, rfl, rfl, ⟨_, _, _, rfl, hp, (by omega), (by first | decide | omega | (split <;> omega)), (by first | decide | omega | (split <;> omega)), fun r ds hr0 hr1 hp => fun _ => ?_⟩⟩))))⟩))))))))))))
  obtain ⟨p, rfl⟩ := Int.eq_ofNat_of_zero_le hr0
  refine (bd_cons (sd_set 6 s6 (fun _ => rfl) (lt1 rfl) (nl rfl) (ed_slT (ek_ed (ed_name 3 a3 rfl (ed_add (ek_ed (ed_name 5 a5 rfl (ek_ed (ed_call G__law_dip (hr.mono (by decide)) hgu (fun _ => rfl) g__law_dip k__law_dip b__law_dip (by decide) (fun _ => rfl) (fun _ => rfl) (ea_cons (fun _ => rfl) (ek_loan 0 a0 rfl (ea_cons (fun _ => rfl) (ek_ed (ed_int (ea_nil ⟨_, rfl, rfl, ⟨_, _, _, rfl, hp, (by omega), (by first | decide | omega | (split <;> omega)), (by first | decide | omega | (split <;> omega)), fun r ds hr0 hr1 hp => fun _ => (AddR.int rfl rfl ⟨_, rfl, ⟨_, rfl, ?_⟩⟩)⟩⟩))))))))))))))))
  generalize hq2 : ((p : Nat) : Int) + r = q
  have c1 := cut_len xs none (some (p : Nat))
  have c2 := cut_len xs (some q) none
  have c3 := cut_len ks none (some (a : Nat))
  have c4 := cut_len ks (some ((a : Nat) + 1)) none
  refine (bd_cons (sd_set 7 s7 (fun _ => rfl) (lt1 rfl) (nl rfl) (ed_add (ek_ed (ed_add (ek_ed (ed_slT (ek_ed (ed_name 1 a1 rfl (ed_name 2 a2 rfl ⟨_, rfl, ⟨_, rfl, (ek_ed (ed_tup (ea_cons (fun _ => rfl) (ek_ed (ed_add (ek_ed (ed_add (ek_ed (ed_slT (ek_ed (ed_name 3 a3 rfl (ed_name 5 a5 rfl ⟨_, rfl, ⟨_, rfl, (ek_ed (ed_tup (ea_cons (fun _ => rfl) (ek_ed (ed_name 4 a4 rfl (ea_nil ⟨_, rfl, le1 rfl, (AddR.tup rfl rfl ?_ (ek_ed (ed_name 6 a6 rfl (AddR.tup rfl rfl ?_ (ea_nil ⟨_, rfl, le1 rfl, (AddR.tup rfl rfl ?_ (ek_ed (ed_slT (ek_ed (ed_name 1 a1 rfl (ed_add (ek_ed (ed_name 2 a2 rfl (ek_ed (ed_int (AddR.int rfl rfl ⟨_, rfl, ⟨_, rfl, (AddR.tup rfl rfl ?_ (bd_cons (sd_set 8 s8 (fun _ => rfl) (lt1 rfl) (nl rfl) (ed_lst (ea_cons (fun _ => rfl) (ek_ed (ed_name 7 a7 rfl (ea_cons (fun _ => rfl) (ek_ed (ed_name 7 a7 rfl (ea_cons (fun _ => rfl) (ek_ed (ed_list (fun _ => rfl) m_list (fun _ => rfl) (ek_ed (ed_name 1 a1 rfl ⟨_, rfl, (ea_cons (fun _ => rfl) (ek_ed (ed_add (ek_ed (ed_name 1 a1 rfl (ek_ed (ed_tup (ea_cons (fun _ => rfl) (ek_ed (ed_tup (ea_nil ⟨_, rfl, le1 rfl, (ea_nil ⟨_, rfl, le1 rfl, (AddR.tup rfl rfl ?_ (ea_cons (fun _ => rfl) (ek_ed (ed_add (ek_ed (ed_add (ek_ed (ed_slT (ek_ed (ed_name 1 a1 rfl (ed_name 2 a2 rfl ⟨_, rfl, ⟨_, rfl, (ek_ed (ed_tup (ea_cons (fun _ => rfl) (ek_ed (ed_list (fun _ => rfl) m_list (fun _ => rfl) (ek_ed (ed_name 3 a3 rfl ⟨_, rfl, (ea_nil ⟨_, rfl, le1 rfl, (AddR.tup rfl rfl ?_ (ek_ed (ed_slT (ek_ed (ed_name 1 a1 rfl (ed_add (ek_ed (ed_name 2 a2 rfl (ek_ed (ed_int (AddR.int rfl rfl ⟨_, rfl, ⟨_, rfl, (AddR.tup rfl rfl ?_ (ea_nil ⟨_, rfl, le1 rfl, (bd_cons (sd_ret (ed_ixD (fun _ _ => rfl) (ek_ed (ed_add (ek_loan 8 a8 rfl (ek_ed (ed_lst (ea_cons (fun _ => rfl) (ek_ed (ed_tup (ea_nil ⟨_, rfl, le1 rfl, (ea_cons (fun _ => rfl) (ek_ed (ed_non (ea_cons (fun _ => rfl) (ek_ed (ed_int (ea_cons (fun _ => rfl) (ek_ed (ed_str (ea_cons (fun _ => rfl) (ek_ed (ed_dict0 (ea_cons (fun _ => rfl) (ek_ed (ed_bl (ea_nil ⟨_, rfl, le1 rfl, (AddR.lst rfl rfl rfl rfl ?_ (ek_ed (ed_call G__law_dip (hr.mono (by decide)) hgu (fun _ => rfl) g__law_dip k__law_dip b__law_dip (by decide) (fun _ => rfl) (fun _ => rfl) (ea_cons (fun _ => rfl) (ek_loan 0 a0 rfl (ea_cons (fun _ => rfl) (ek_ed (ed_int (ea_nil ⟨_, rfl, rfl, ⟨_, _, _, rfl, hp, (by omega), (by first | decide | omega | (split <;> omega)), (by first | decide | omega | (split <;> omega)), fun r ds hr0 hr1 hp => fun _ => (IxD.mk rfl rfl (atI_getD hr0 (by exact hr1)) ?_)⟩⟩)))))))))⟩))))))))))))))))⟩))))))))))))⟩))⟩⟩)))))))))))⟩)⟩)))))))⟩⟩)))))))))))⟩)⟩)))))))))))⟩)))))))))))))))⟩⟩)))))))))))⟩)))))⟩))))))⟩⟩))))))))))))⟩⟩))))))))))
  all_goals first
    | omega
    | (simp only [List.length_append, List.length_reverse, List.length_cons, List.length_nil]; omega)
    | skip
  refine (fun z => hq _ _ z.1 z.2 (hp.mono (by omega))) (getD_all (p := fun e => Good e ∧ isTbl e = false) (fun e he => ?_) hr0 (by exact hr1))
  simp only [List.mem_append, List.mem_reverse, List.mem_cons, List.not_mem_nil, or_false] at he
  have mid : o ∈ DL.cutD xs none (some (p : Nat)) ++ [o].reverse ++ DL.cutD xs (some q) none := List.mem_append_left _ (List.mem_append_right _ (by simp))
  rcases he with (rfl | rfl | rfl | rfl | rfl) | rfl | rfl | rfl | rfl | rfl | rfl
  · exact ⟨good3 hk2 hrows (.inl (lst_row hxl hxI)) _ _ _ _, put_bad ha rfl _ _⟩
  · refine ⟨good_rows (by simp only [List.length_append, List.length_reverse, List.length_cons, List.length_nil]; omega) fun y hy => (List.mem_append.mp hy).elim (hrows y) fun z => by
        have : y = .tup [].reverse := by simpa using z
        rw [this]
        exact row_nil, ?_⟩
    refine isTbl_bad (j := ks.length) (e := .tup [].reverse) ?_ ?_
    · rw [List.getElem?_append_right (Nat.le_refl _), Nat.sub_self]
      rfl
    · show (decide (0 = ks.length) && _) = false
      rw [decide_eq_false (by omega), Bool.false_and]
  · exact ⟨good_lst (by omega) hrows, rfl⟩
  · exact ⟨good3 hk2 hrows (odd_line hxl hxI hodd _ _ _ _) _ _ _ _, put_bad ha (row_bad mid hnd) _ _⟩
  · exact ⟨good3 hk2 hrows (odd_line hxl hxI hodd _ _ _ _) _ _ _ _, put_bad ha (row_bad mid hnd) _ _⟩
  · exact ⟨good_odd (odd_bl true), rfl⟩
  · exact ⟨good_odd odd_d, rfl⟩
  · exact ⟨good_str (by decide +kernel) (by decide +kernel), rfl⟩
  · exact ⟨good_odd (odd_int (by decide)), rfl⟩
  · exact ⟨good_odd odd_non, rfl⟩
  · exact ⟨good_odd odd_t0, rfl⟩
end
end K03

namespace K03
open PySem PySem.Spec PyProof.Rows L2 DL
theorem units_of {k : Nat} {A : Around} (r : Room k A) : A.units + 64 < cLine := by
  have := r.un
  omega
theorem isRow_no {n : Nat} {ds : List Dt} (h : ¬ (ds.length = n)) : isRow n (.tup ds) = false := by
  show (decide (ds.length = n) && _) = false
  rw [decide_eq_false h, Bool.false_and]
theorem isRow_day {n : Nat} {ds : List Dt} (h : ds.length = n) : isRow n (.tup ds) = ds.all isDay := by
  show (decide (ds.length = n) && _) = _
  rw [decide_eq_true h, Bool.true_and]
theorem isTbl_no {ds : List Dt} {j : Nat} {e : Dt} (h : ds[j]? = some e) (hn : isRow j e = false) : isTbl (.tup ds) = false := by
  show (!ds.isEmpty && ds.zipIdx.all fun p => isRow p.2 p.1) = false
  have : (ds.zipIdx.all fun p => isRow p.2 p.1) = false := by
    rw [List.all_eq_false]
    refine ⟨(e, j), List.mem_of_getElem? (i := j) ?_, by rw [hn]; exact Bool.false_ne_true⟩
    rw [List.getElem?_zipIdx, h]
    simp
  rw [this, Bool.and_false]
theorem isTbl_yes {ds : List Dt} (h0 : ¬ (ds.length = 0)) (h : ∀ i e, i < ds.length → ds[i]? = some e → isRow i e = true) : isTbl (.tup ds) = true := by
  show (!ds.isEmpty && ds.zipIdx.all fun p => isRow p.2 p.1) = true
  have h1 : ds.isEmpty = false := by
    cases ds with
    | nil => exact absurd rfl h0
    | cons a b => rfl
  have h2 : (ds.zipIdx.all fun p => isRow p.2 p.1) = true := by
    rw [List.all_eq_true]
    rintro ⟨e, i⟩ hm
    obtain ⟨hl, he⟩ := List.mem_zipIdx' hm
    exact h i e hl (by rw [List.getElem?_eq_getElem hl, he])
  rw [h1, h2]
  rfl
/-! ### what is said of a grown table -/
theorem tb_get {t : Nat → Nat → Int} {n j : Nat} (h : j < n) : (tbD t n)[j]? = some (.tup (rowD t j)) := by
  unfold tbD
  rw [List.getElem?_map, List.getElem?_range h]
  rfl
theorem row_get {t : Nat → Nat → Int} {i j : Nat} (h : i < j) : (rowD t j)[i]? = some (.int (t j i)) := by
  unfold rowD
  rw [List.getElem?_map, List.getElem?_range h]
  rfl
theorem tOf_tb {t : Nat → Nat → Int} {n i j : Nat} (hij : i < j) (hj : j < n) : tOf (.tup (tbD t n)) j i = t j i := by
  unfold tOf
  simp only [tb_get hj, row_get hij]
theorem nOf_tb (t : Nat → Nat → Int) (n : Nat) : nOf (.tup (tbD t n)) = n := tbD_len t n
theorem find_congr {α : Type} {p q : α → Bool} : ∀ {l : List α}, (∀ x ∈ l, p x = q x) → l.find? p = l.find? q
  | [], _ => rfl
  | a :: t, h => by
    rw [List.find?_cons, List.find?_cons, h a List.mem_cons_self, find_congr fun x hx => h x (List.mem_cons_of_mem _ hx)]
theorem fbOf_tb (t : Nat → Nat → Int) (n : Nat) : fbOf (.tup (tbD t n)) = fbD t n := by
  unfold fbOf fbD
  rw [nOf_tb]
  congr 1
  refine find_congr fun x hx => ?_
  obtain ⟨q, hq⟩ := List.mem_iff_getElem?.mp hx
  obtain ⟨i, j, k, rfl, hij, hjk, hk⟩ := combs3 hq
  show badB _ _ _ = badB _ _ _
  rw [tOf_tb hij (by omega), tOf_tb (by omega) hk, tOf_tb hjk hk]
theorem isTbl_tb {t : Nat → Nat → Int} {n : Nat} (h0 : 0 < n) (h : ∀ j i, i < j → j < n → 0 ≤ t j i) : isTbl (.tup (tbD t n)) = true := by
  refine isTbl_yes (by rw [tbD_len]; omega) fun j e hj he => ?_
  rw [tbD_len] at hj
  rw [tb_get hj] at he
  cases he
  rw [isRow_day (by unfold rowD; rw [List.length_map, List.length_range]), List.all_eq_true]
  intro x hx
  obtain ⟨i, hi, rfl⟩ := List.mem_map.mp hx
  exact decide_eq_true (h j i (List.mem_range.mp hi) hj)
theorem fb_hist {t : Nat → Nat → Int} {n : Nat} (h : HistT t n) : fbOf (.tup (tbD t n)) = .non := by
  rw [fbOf_tb]
  exact fb_none fun a b c _ h1 h2 h3 => h.1 a b c h1 h2 h3
theorem isHist_tb {t : Nat → Nat → Int} {n : Nat} (h0 : 0 < n) (h : HistT t n) : isHist (.tup (tbD t n)) = true := by
  unfold isHist
  rw [isTbl_tb h0 fun j i h1 h2 => (h.2 j i h1 h2).1, fb_hist h]
  rfl
theorem knds_row (t : Nat → Nat → Int) {j : Nat} (h : j ≤ 1000000) : Knds (.tup (rowD t j)) := by
  refine ⟨⟨_, rfl⟩, fun ds e => ?_⟩
  cases e
  refine ⟨by unfold rowD; rw [List.length_map, List.length_range]; exact h, fun x hx => ?_⟩
  obtain ⟨i, _, rfl⟩ := List.mem_map.mp hx
  exact knd_int _
theorem knd_tb (t : Nat → Nat → Int) {n : Nat} (h : n ≤ 1000000) : Knd3 (.tup (tbD t n)) := by
  refine ⟨⟨_, rfl⟩, fun ds e => ?_⟩
  cases e
  refine ⟨by rw [tbD_len]; exact h, fun x hx => ?_⟩
  obtain ⟨j, hj, rfl⟩ := List.mem_map.mp hx
  exact knds_row t (by have := List.mem_range.mp hj; omega)

theorem rows_tb {t : Nat → Nat → Int} {N : Nat} (hN : N ≤ 20) (h : HistT t N) : ∀ e ∈ tbD t N, ∃ xs, e = .tup xs ∧ xs.length ≤ 20 ∧ ∀ x ∈ xs, ∃ v : Int, x = .int v ∧ v.natAbs < 10 ^ 42 := fun e he => by
  obtain ⟨j, hj, rfl⟩ := List.mem_map.mp he
  have hj := List.mem_range.mp hj
  refine ⟨_, rfl, by unfold rowD; rw [List.length_map, List.length_range]; omega, fun x hx => ?_⟩
  obtain ⟨i, hi, rfl⟩ := List.mem_map.mp hx
  have := h.2 j i (List.mem_range.mp hi) hj
  exact ⟨_, rfl, by omega⟩
theorem good_tb {t : Nat → Nat → Int} {N : Nat} (hN : N ≤ 20) (h : HistT t N) : Good (.tup (tbD t N)) := good_rows (by rw [tbD_len]; omega) fun e he => by
  obtain ⟨xs, e1, e2, e3⟩ := rows_tb hN h e he
  refine ⟨xs, e1, by omega, fun x hx => ?_⟩
  obtain ⟨v, e, b⟩ := e3 x hx
  exact ⟨v, e, by omega⟩

/-- what a drawn cell can hold: an item, or none -/
structure Cell (N : Nat) (odd : Bool) (x : Dt) : Prop where
  knd : Knd x
  sh : ∃ pd, Shows x pd ∧ pd.bulk ≤ 100
  item : isItem x (N : Nat) = !odd
theorem cell_of {N : Nat} {o : Dt} (k : Knd o) (h : Sh 90 5 false o ∨ (Sh 90 5 true o ∧ o.noL = true)) (b : isItem o (N : Nat) = false) : Cell N true o := ⟨k, by
  rcases h with ⟨pd, h1, h2, h3, h4, h5, h6⟩ | ⟨⟨pd, h1, h2, h3, h4, h5, h6⟩, n⟩
  · exact ⟨pd, ⟨h1, h2, h3, by omega, by omega, fun z => nomatch h6 z⟩, by omega⟩
  · exact ⟨pd, ⟨h1, h2, h3, by omega, by omega, fun _ => n⟩, by omega⟩, b⟩
theorem cell_int {N : Nat} {v : Int} (h : v.natAbs < 10 ^ 45) (b : isItem (.int v) (N : Nat) = false) : Cell N true (.int v) := cell_of ⟨_, rfl⟩ (.inl ((sh_int h).mono (by decide) (by decide) id)) b
theorem cell_item {N : Nat} {r : Int} (h0 : 0 ≤ r) (h1 : r < (N : Nat)) (hN : N ≤ 20) : Cell N false (.int r) := ⟨⟨_, rfl⟩, by
  obtain ⟨pd, h1, h2, h3, h4, h5, h6⟩ := sh_int (v := r) (by omega)
  exact ⟨pd, ⟨h1, h2, h3, by omega, by omega, fun z => nomatch h6 z⟩, by omega⟩, by
  show (decide (0 ≤ r) && decide (r < (N : Int))) = true
  rw [decide_eq_true h0, decide_eq_true h1]; rfl⟩
theorem bulk3 {a b c : PyData} (ha : a.bulk ≤ 5000) (hb : b.bulk ≤ 100) (hc : c.bulk ≤ 100) : PyData.bulkAll [a, b, c] ≤ 8000 := by
  show a.bulk + 1 + (b.bulk + 1 + (c.bulk + 1 + 0)) ≤ 8000
  omega
theorem bulk2 {a b : PyData} (ha : a.bulk ≤ 5000) (hb : b.bulk ≤ 100) : PyData.bulkAll [a, b] ≤ 8000 := by
  show a.bulk + 1 + (b.bulk + 1 + 0) ≤ 8000
  omega
end K03

namespace K03
open PySem PySem.Spec PyProof.Rows L2 DL
abbrev s__law_items_right : Stmt := topS 49
theorem sc__law_items_right : FnScope ["pail", "known", "many", "bad", "uno", "two", "odds", "due", "some", "kept", "turn", "way"] ["pail", "known"] (defScope s__law_items_right) := ⟨rfl, rfl, rfl, by decide +kernel, rfl, by decide +kernel, by decide +kernel⟩

def dsItems : DSp := fun as post => ∃ (n : Int) (t : Nat → Nat → Int) (N : Nat) (ds : List Dt), as = [.ow ds, .dt (.tup (tbD t N))] ∧ Pail n ds ∧ n ≤ 1000000 ∧ HistT t N ∧ 2 ≤ N ∧ N ≤ 20 ∧ ∀ ds', Pail (n + 40) ds' → post (.dt (.bl true)) [.ow ds', .un]
def itemR (b0 b1 b2 : Bool) (x y : Dt) : Str := if b0 then "table" else if b1 || b2 then "item" else if same x y then "same" else "fine"
def dueL (b0 b1 b2 : Bool) (x y : Dt) : List Dt := (if b0 then [.str "table"] else []) ++ (if b1 || b2 then [.str "item"] else []) ++ (if !b1 && !b2 && same x y then [.str "same"] else []) ++ [.str "fine"]
theorem dayR_item {u x y : Dt} {N : Nat} {b0 b1 b2 : Bool} (hu : isTbl u = !b0) (hn : b0 = false → nOf u = N) (hx : Cell N b1 x) (hy : Cell N b2 y) : dayR u x y = itemR b0 b1 b2 x y := by
  unfold dayR itemR
  cases b0 with
  | true => rw [hu]; rfl
  | false =>
    rw [hu, hn rfl, hx.item, hy.item]
    cases b1 <;> cases b2 <;> rfl
def oddsD (N : Int) : List Dt := [.non, .int (-1), .int N, .int (N + 1), .bl true, .bl false, .str "0", .tup [.int 0], .lst [.int 0], .dct [] [], .int (0 - N), .int (10 ^ Int.toNat 39)]
theorem odds_cell {N : Nat} (h1 : 2 ≤ N) (h2 : N ≤ 20) : ∀ e ∈ oddsD (N : Nat), Cell N true e := by
  intro e he
  have out : ∀ v : Int, v < 0 ∨ (N : Int) ≤ v → isItem (.int v) (N : Nat) = false := fun v h => by
    show (decide (0 ≤ v) && decide (v < (N : Int))) = false
    rcases h with h | h
    · rw [decide_eq_false (by omega), Bool.false_and]
    · rw [decide_eq_false (p := v < (N : Int)) (by omega), Bool.and_false]
  unfold oddsD at he
  simp only [List.mem_cons, List.not_mem_nil, or_false] at he
  rcases he with rfl | rfl | rfl | rfl | rfl | rfl | rfl | rfl | rfl | rfl | rfl | rfl
  · exact cell_of ⟨_, rfl⟩ (.inl (sh_non.mono (by decide) (by decide) id)) rfl
  · exact cell_int (by decide) (out _ (.inl (by decide)))
  · exact cell_int (by omega) (out _ (.inr (by omega)))
  · exact cell_int (by omega) (out _ (.inr (by omega)))
  · exact cell_of ⟨_, rfl⟩ (.inl ((sh_bl true).mono (by decide) (by decide) id)) rfl
  · exact cell_of ⟨_, rfl⟩ (.inl ((sh_bl false).mono (by decide) (by decide) id)) rfl
  · exact cell_of ⟨_, rfl⟩ (.inl ((sh_str (x := "0") (by decide +kernel)).mono (by decide +kernel) (by decide) id)) rfl
  · exact cell_of ⟨_, rfl⟩ (.inl ((sh_tup (b := 0) (q := 0) (D := false) fun e he => by rw [List.mem_singleton.mp he]; exact sh_int (by decide)).mono (by decide) (by decide) id)) rfl
  · exact cell_of ⟨_, rfl⟩ (.inl ((sh_lst (b := 0) (q := 0) (D := false) fun e he => by rw [List.mem_singleton.mp he]; exact sh_int (by decide)).mono (by decide) (by decide) id)) rfl
  · exact cell_of ⟨_, rfl⟩ (.inr ⟨sh_dct.mono (by decide) (by decide) id, rfl⟩) rfl
  · exact cell_int (by omega) (out _ (.inl (by omega)))
  · exact cell_int (by decide) (out _ (.inr (by have : (20 : Int) ≤ 10 ^ Int.toNat 39 := by decide
                                                omega)))
theorem same_int {i j : Int} : same (.int i) (.int j) = decide (i = j) := rfl
section
variable {P : Program} {w : World}
variable {K : PySem.W.Frag}
variable {mg : Str → Option Value} {base : Heap}
theorem ok__law_items_right {f__law_dip : Addr} {d__law_dip : FuncData} (G__law_dip : FnG P w K mg base 1 f__law_dip d__law_dip ["pail", "many"] (spD K dsDip)) (g__law_dip : mg "_law_dip" = some (.ref f__law_dip)) (k__law_dip : PySem.W.keepIn K (.ref f__law_dip) = true) (b__law_dip : Binds K d__law_dip ["pail", "many"] []) {f__law_no_table : Addr} {d__law_no_table : FuncData} (G__law_no_table : FnG P w K mg base 2 f__law_no_table d__law_no_table ["pail", "known"] (spD K dsNoTab)) (g__law_no_table : mg "_law_no_table" = some (.ref f__law_no_table)) (k__law_no_table : PySem.W.keepIn K (.ref f__law_no_table) = true) (b__law_no_table : Binds K d__law_no_table ["pail", "known"] []) {f__law_told : Addr} {d__law_told : FuncData} (G__law_told : FnG P w K mg base 7 f__law_told d__law_told ["way", "uno", "two", "three"] (spD K dsTold)) (g__law_told : mg "_law_told" = some (.ref f__law_told)) (k__law_told : PySem.W.keepIn K (.ref f__law_told) = true) (b__law_told : Binds K d__law_told ["way", "uno", "two", "three"] []) (m_len : mg "len" = none) (m_int : mg "int" = none) (m_range : mg "range" = none) (m_repr : mg "repr" = none) {f : Addr} {fd : FuncData} (F : Fun K "_law_items_right" "_law_items_right" s__law_items_right f fd) : FnG P w K mg base 8 f fd ["pail", "known"] (spD K dsItems) := by
  refine FnG.of F sc__law_items_right (fun as post h => by obtain ⟨_, _, _, _, h⟩ := h; rw [h.1]; rfl) fun cdv A outer s H vs fo as post hr hgu hD => ?_
  obtain ⟨n, t, N, dsE, rfl, hp, hn, ht, hN1, hN2, hq⟩ := hD
  have a0 : At (coreOf P w K mg base (A.deeper (envOfC "_law_items_right" (defScope s__law_items_right) s.heap.objs.size f cdv)) ["pail", "known", "many", "bad", "uno", "two", "odds", "due", "some", "kept", "turn", "way"] ((envOfC "_law_items_right" (defScope s__law_items_right) s.heap.objs.size f cdv) :: outer)) (varOf s H (envOfC "_law_items_right" (defScope s__law_items_right) s.heap.objs.size f cdv) outer) "pail" 0 := ⟨rfl, fun _ => by first | exact .inl rfl | exact .inr (.inl rfl), by decide, by decide⟩
  have s0 : AtS (coreOf P w K mg base (A.deeper (envOfC "_law_items_right" (defScope s__law_items_right) s.heap.objs.size f cdv)) ["pail", "known", "many", "bad", "uno", "two", "odds", "due", "some", "kept", "turn", "way"] ((envOfC "_law_items_right" (defScope s__law_items_right) s.heap.objs.size f cdv) :: outer)) (varOf s H (envOfC "_law_items_right" (defScope s__law_items_right) s.heap.objs.size f cdv) outer) "pail" 0 := ⟨sc__law_items_right.nd, rfl, fun _ => by first | exact .inl rfl | exact .inr rfl, fun _ => .inl rfl⟩
  have a1 : At (coreOf P w K mg base (A.deeper (envOfC "_law_items_right" (defScope s__law_items_right) s.heap.objs.size f cdv)) ["pail", "known", "many", "bad", "uno", "two", "odds", "due", "some", "kept", "turn", "way"] ((envOfC "_law_items_right" (defScope s__law_items_right) s.heap.objs.size f cdv) :: outer)) (varOf s H (envOfC "_law_items_right" (defScope s__law_items_right) s.heap.objs.size f cdv) outer) "known" 1 := ⟨rfl, fun _ => by first | exact .inl rfl | exact .inr (.inl rfl), by decide, by decide⟩
  have s1 : AtS (coreOf P w K mg base (A.deeper (envOfC "_law_items_right" (defScope s__law_items_right) s.heap.objs.size f cdv)) ["pail", "known", "many", "bad", "uno", "two", "odds", "due", "some", "kept", "turn", "way"] ((envOfC "_law_items_right" (defScope s__law_items_right) s.heap.objs.size f cdv) :: outer)) (varOf s H (envOfC "_law_items_right" (defScope s__law_items_right) s.heap.objs.size f cdv) outer) "known" 1 := ⟨sc__law_items_right.nd, rfl, fun _ => by first | exact .inl rfl | exact .inr rfl, fun _ => .inl rfl⟩
  have a2 : At (coreOf P w K mg base (A.deeper (envOfC "_law_items_right" (defScope s__law_items_right) s.heap.objs.size f cdv)) ["pail", "known", "many", "bad", "uno", "two", "odds", "due", "some", "kept", "turn", "way"] ((envOfC "_law_items_right" (defScope s__law_items_right) s.heap.objs.size f cdv) :: outer)) (varOf s H (envOfC "_law_items_right" (defScope s__law_items_right) s.heap.objs.size f cdv) outer) "many" 2 := ⟨rfl, fun _ => by first | exact .inl rfl | exact .inr (.inl rfl), by decide, by decide⟩
  have s2 : AtS (coreOf P w K mg base (A.deeper (envOfC "_law_items_right" (defScope s__law_items_right) s.heap.objs.size f cdv)) ["pail", "known", "many", "bad", "uno", "two", "odds", "due", "some", "kept", "turn", "way"] ((envOfC "_law_items_right" (defScope s__law_items_right) s.heap.objs.size f cdv) :: outer)) (varOf s H (envOfC "_law_items_right" (defScope s__law_items_right) s.heap.objs.size f cdv) outer) "many" 2 := ⟨sc__law_items_right.nd, rfl, fun _ => by first | exact .inl rfl | exact .inr rfl, fun _ => .inl rfl⟩
  have a3 : At (coreOf P w K mg base (A.deeper (envOfC "_law_items_right" (defScope s__law_items_right) s.heap.objs.size f cdv)) ["pail", "known", "many", "bad", "uno", "two", "odds", "due", "some", "kept", "turn", "way"] ((envOfC "_law_items_right" (defScope s__law_items_right) s.heap.objs.size f cdv) :: outer)) (varOf s H (envOfC "_law_items_right" (defScope s__law_items_right) s.heap.objs.size f cdv) outer) "bad" 3 := ⟨rfl, fun _ => by first | exact .inl rfl | exact .inr (.inl rfl), by decide, by decide⟩
  have s3 : AtS (coreOf P w K mg base (A.deeper (envOfC "_law_items_right" (defScope s__law_items_right) s.heap.objs.size f cdv)) ["pail", "known", "many", "bad", "uno", "two", "odds", "due", "some", "kept", "turn", "way"] ((envOfC "_law_items_right" (defScope s__law_items_right) s.heap.objs.size f cdv) :: outer)) (varOf s H (envOfC "_law_items_right" (defScope s__law_items_right) s.heap.objs.size f cdv) outer) "bad" 3 := ⟨sc__law_items_right.nd, rfl, fun _ => by first | exact .inl rfl | exact .inr rfl, fun _ => .inl rfl⟩
  have a4 : At (coreOf P w K mg base (A.deeper (envOfC "_law_items_right" (defScope s__law_items_right) s.heap.objs.size f cdv)) ["pail", "known", "many", "bad", "uno", "two", "odds", "due", "some", "kept", "turn", "way"] ((envOfC "_law_items_right" (defScope s__law_items_right) s.heap.objs.size f cdv) :: outer)) (varOf s H (envOfC "_law_items_right" (defScope s__law_items_right) s.heap.objs.size f cdv) outer) "uno" 4 := ⟨rfl, fun _ => by first | exact .inl rfl | exact .inr (.inl rfl), by decide, by decide⟩
  have s4 : AtS (coreOf P w K mg base (A.deeper (envOfC "_law_items_right" (defScope s__law_items_right) s.heap.objs.size f cdv)) ["pail", "known", "many", "bad", "uno", "two", "odds", "due", "some", "kept", "turn", "way"] ((envOfC "_law_items_right" (defScope s__law_items_right) s.heap.objs.size f cdv) :: outer)) (varOf s H (envOfC "_law_items_right" (defScope s__law_items_right) s.heap.objs.size f cdv) outer) "uno" 4 := ⟨sc__law_items_right.nd, rfl, fun _ => by first | exact .inl rfl | exact .inr rfl, fun _ => .inl rfl⟩
  have a5 : At (coreOf P w K mg base (A.deeper (envOfC "_law_items_right" (defScope s__law_items_right) s.heap.objs.size f cdv)) ["pail", "known", "many", "bad", "uno", "two", "odds", "due", "some", "kept", "turn", "way"] ((envOfC "_law_items_right" (defScope s__law_items_right) s.heap.objs.size f cdv) :: outer)) (varOf s H (envOfC "_law_items_right" (defScope s__law_items_right) s.heap.objs.size f cdv) outer) "two" 5 := ⟨rfl, fun _ => by first | exact .inl rfl | exact .inr (.inl rfl), by decide, by decide⟩
  have s5 : AtS (coreOf P w K mg base (A.deeper (envOfC "_law_items_right" (defScope s__law_items_right) s.heap.objs.size f cdv)) ["pail", "known", "many", "bad", "uno", "two", "odds", "due", "some", "kept", "turn", "way"] ((envOfC "_law_items_right" (defScope s__law_items_right) s.heap.objs.size f cdv) :: outer)) (varOf s H (envOfC "_law_items_right" (defScope s__law_items_right) s.heap.objs.size f cdv) outer) "two" 5 := ⟨sc__law_items_right.nd, rfl, fun _ => by first | exact .inl rfl | exact .inr rfl, fun _ => .inl rfl⟩
  have a6 : At (coreOf P w K mg base (A.deeper (envOfC "_law_items_right" (defScope s__law_items_right) s.heap.objs.size f cdv)) ["pail", "known", "many", "bad", "uno", "two", "odds", "due", "some", "kept", "turn", "way"] ((envOfC "_law_items_right" (defScope s__law_items_right) s.heap.objs.size f cdv) :: outer)) (varOf s H (envOfC "_law_items_right" (defScope s__law_items_right) s.heap.objs.size f cdv) outer) "odds" 6 := ⟨rfl, fun _ => by first | exact .inl rfl | exact .inr (.inl rfl), by decide, by decide⟩
  have s6 : AtS (coreOf P w K mg base (A.deeper (envOfC "_law_items_right" (defScope s__law_items_right) s.heap.objs.size f cdv)) ["pail", "known", "many", "bad", "uno", "two", "odds", "due", "some", "kept", "turn", "way"] ((envOfC "_law_items_right" (defScope s__law_items_right) s.heap.objs.size f cdv) :: outer)) (varOf s H (envOfC "_law_items_right" (defScope s__law_items_right) s.heap.objs.size f cdv) outer) "odds" 6 := ⟨sc__law_items_right.nd, rfl, fun _ => by first | exact .inl rfl | exact .inr rfl, fun _ => .inl rfl⟩
  have a7 : At (coreOf P w K mg base (A.deeper (envOfC "_law_items_right" (defScope s__law_items_right) s.heap.objs.size f cdv)) ["pail", "known", "many", "bad", "uno", "two", "odds", "due", "some", "kept", "turn", "way"] ((envOfC "_law_items_right" (defScope s__law_items_right) s.heap.objs.size f cdv) :: outer)) (varOf s H (envOfC "_law_items_right" (defScope s__law_items_right) s.heap.objs.size f cdv) outer) "due" 7 := ⟨rfl, fun _ => by first | exact .inl rfl | exact .inr (.inl rfl), by decide, by decide⟩
  have s7 : AtS (coreOf P w K mg base (A.deeper (envOfC "_law_items_right" (defScope s__law_items_right) s.heap.objs.size f cdv)) ["pail", "known", "many", "bad", "uno", "two", "odds", "due", "some", "kept", "turn", "way"] ((envOfC "_law_items_right" (defScope s__law_items_right) s.heap.objs.size f cdv) :: outer)) (varOf s H (envOfC "_law_items_right" (defScope s__law_items_right) s.heap.objs.size f cdv) outer) "due" 7 := ⟨sc__law_items_right.nd, rfl, fun _ => by first | exact .inl rfl | exact .inr rfl, fun _ => .inl rfl⟩
  have a8 : At (coreOf P w K mg base (A.deeper (envOfC "_law_items_right" (defScope s__law_items_right) s.heap.objs.size f cdv)) ["pail", "known", "many", "bad", "uno", "two", "odds", "due", "some", "kept", "turn", "way"] ((envOfC "_law_items_right" (defScope s__law_items_right) s.heap.objs.size f cdv) :: outer)) (varOf s H (envOfC "_law_items_right" (defScope s__law_items_right) s.heap.objs.size f cdv) outer) "some" 8 := ⟨rfl, fun _ => by first | exact .inl rfl | exact .inr (.inl rfl), by decide, by decide⟩
  have s8 : AtS (coreOf P w K mg base (A.deeper (envOfC "_law_items_right" (defScope s__law_items_right) s.heap.objs.size f cdv)) ["pail", "known", "many", "bad", "uno", "two", "odds", "due", "some", "kept", "turn", "way"] ((envOfC "_law_items_right" (defScope s__law_items_right) s.heap.objs.size f cdv) :: outer)) (varOf s H (envOfC "_law_items_right" (defScope s__law_items_right) s.heap.objs.size f cdv) outer) "some" 8 := ⟨sc__law_items_right.nd, rfl, fun _ => by first | exact .inl rfl | exact .inr rfl, fun _ => .inl rfl⟩
  have a9 : At (coreOf P w K mg base (A.deeper (envOfC "_law_items_right" (defScope s__law_items_right) s.heap.objs.size f cdv)) ["pail", "known", "many", "bad", "uno", "two", "odds", "due", "some", "kept", "turn", "way"] ((envOfC "_law_items_right" (defScope s__law_items_right) s.heap.objs.size f cdv) :: outer)) (varOf s H (envOfC "_law_items_right" (defScope s__law_items_right) s.heap.objs.size f cdv) outer) "kept" 9 := ⟨rfl, fun _ => by first | exact .inl rfl | exact .inr (.inl rfl), by decide, by decide⟩
  have s9 : AtS (coreOf P w K mg base (A.deeper (envOfC "_law_items_right" (defScope s__law_items_right) s.heap.objs.size f cdv)) ["pail", "known", "many", "bad", "uno", "two", "odds", "due", "some", "kept", "turn", "way"] ((envOfC "_law_items_right" (defScope s__law_items_right) s.heap.objs.size f cdv) :: outer)) (varOf s H (envOfC "_law_items_right" (defScope s__law_items_right) s.heap.objs.size f cdv) outer) "kept" 9 := ⟨sc__law_items_right.nd, rfl, fun _ => by first | exact .inl rfl | exact .inr rfl, fun _ => .inl rfl⟩
  show BD _ _ _ _ _ [.ow dsE, .dt (.tup (tbD t N)), .un, .un, .un, .un, .un, .un, .un, .un, .un, .un]
  have hu := units_of hr
  have last : ∀ (b0 b1 b2 : Bool) (x y u : Dt) (ds : List Dt), Cell N b1 x → Cell N b2 y → Good u → isTbl u = (!b0) → (b0 = false → nOf u = N) → Pail (n + 30) ds → BD (coreOf P w K mg base (A.deeper (envOfC "_law_items_right" (defScope s__law_items_right) s.heap.objs.size f cdv)) ["pail", "known", "many", "bad", "uno", "two", "odds", "due", "some", "kept", "turn", "way"] ((envOfC "_law_items_right" (defScope s__law_items_right) s.heap.objs.size f cdv) :: outer)) (varOf s H (envOfC "_law_items_right" (defScope s__law_items_right) s.heap.objs.size f cdv) outer) (Ent.call H [.ow dsE, .dt (.tup (tbD t N))] vs fo 12) ((defBody s__law_items_right).drop 8) { nx := fun Γ => post (.dt .non) (outsA [.ow dsE, .dt (.tup (tbD t N))] Γ), rt := fun a Γ => post a (outsA [.ow dsE, .dt (.tup (tbD t N))] Γ) } [.ow ds, .dt (.tup (tbD t N)), .dt (.int (N : Nat)), .ow [.bl b0, .bl b1, .bl b2], .dt x, .dt y, .ow (oddsD (N : Nat)), .ow (dueL b0 b1 b2 x y), .dt u, .un, .un, .un] := by
    intro b0 b1 b2 x y u ds cx cy hgood htu hnu hp
    obtain ⟨pu, hsu⟩ := hgood.2
    have hgu3 := hgood.1
    obtain ⟨px, hsx, hbx⟩ := cx.sh
    obtain ⟨py, hsy, hby⟩ := cy.sh
    refine (bd_cons (sd_set 9 s9 (fun _ => rfl) (lt1 rfl) (nl rfl) (ed_reprL hgu hu (fun _ => rfl) m_repr (fun _ => rfl) (ek_ed (ed_lst (ea_cons (fun _ => rfl) (ek_ed (ed_name 8 a8 rfl (ea_cons (fun _ => rfl) (ek_ed (ed_name 4 a4 rfl (ea_cons (fun _ => rfl) (ek_ed (ed_name 5 a5 rfl (ea_nil ⟨_, rfl, le1 rfl, ⟨_, _, _, _, rfl, .cons hsu (.cons hsx (.cons hsy .nil)), bulk3 hsu.bu hbx hby, ?_⟩⟩)))))))))))))))
    refine (bd_cons (sd_ret (ed_and (ed_eq hu (ek_ed (ed_lc (own := [("way", 11)]) sc__law_items_right.nd (fun _ => blkOk_by rfl) (fun _ _ => rfl) (nls rfl) (src_R1 (fun _ => rfl) m_range (fun _ => rfl) (ea_cons (fun _ => rfl) (ek_ed (ed_int (ea_nil ⟨_, _, rfl, rfl, ?_, ⟨?_, (fun j acc Γ => acc = List.replicate j (.str (itemR b0 b1 b2 x y)) ∧ Γ = [AV.ow ds, .dt (.tup (tbD t N)), .dt (.int (N : Nat)), .ow [.bl b0, .bl b1, .bl b2], .dt x, .dt y, .ow (oddsD (N : Nat)), .ow (dueL b0 b1 b2 x y), .dt u, .dt (.str (PyData.list [pu, px, py]).shown), .un, .un]), ?_, ?_, ?_⟩⟩)))))))))))
    · exact ⟨by decide, by decide⟩
    · exact le1 rfl
    · exact ⟨rfl, rfl⟩
    · rintro j d acc Γ2 hj ⟨rfl, rfl⟩
      have hj2 : j < 2 := by
        have := (List.getElem?_eq_some_iff.mp hj).1
        rwa [rngD_len] at this
      rw [rngD_get (by exact hj2)] at hj
      cases hj
      have hway : (0 : Int) + (j : Nat) = 0 ∨ (0 : Int) + (j : Nat) = 1 := by omega
      refine ⟨_, (by decide), fun g ff => (gd_name 11 (ats_of sc__law_items_right.nd rfl (fun _ => rfl) (fun _ => rfl)) (lt1 rfl) (nl rfl) (ts_nil ⟨fun _ => (ed_call G__law_told (hr.mono (by decide)) hgu (fun _ => rfl) g__law_told k__law_told b__law_told (by decide) (fun _ => rfl) (fun _ => rfl) (ea_cons (fun _ => rfl) (ek_ed (ed_name 11 (at_of rfl (fun _ => rfl) rfl rfl) rfl (ea_cons (fun _ => rfl) (ek_ed (ed_name 8 (at_of rfl (fun _ => rfl) rfl rfl) rfl (ea_cons (fun _ => rfl) (ek_ed (ed_name 4 (at_of rfl (fun _ => rfl) rfl rfl) rfl (ea_cons (fun _ => rfl) (ek_ed (ed_name 5 (at_of rfl (fun _ => rfl) rfl rfl) rfl (ea_nil ⟨_, rfl, rfl, ⟨_, u, x, y, _, rfl, hgu3, .inl ⟨hway, cx.knd, cy.knd, (dayR_item htu hnu cx cy).symm⟩, fun _ => ⟨_, rfl, ?_⟩⟩⟩)))))))))))))), fun hif => nomatch hif⟩))⟩
      exact ⟨(List.replicate_succ' ..).symm, rfl⟩
    · rintro acc Γ2 ⟨rfl, rfl⟩
      rw [rngD_len]
      unfold itemR dueL
      generalize same x y = sm
      cases b0 <;> cases b1 <;> cases b2 <;> cases sm
      all_goals
        refine (ek_ed (ed_mul (ek_ed (ed_slL (ek_loan 7 a7 rfl (ed_int ⟨_, rfl, ⟨_, rfl, (ek_ed (ed_int (MulR.rep rfl rfl rfl (by first | decide | exact le1 rfl) (EqR.mk rfl rfl rfl rfl ⟨by decide +kernel, by decide +kernel⟩ ⟨_, rfl, fun hif => (ed_bool1 (ed_eqS (ek_ed (ed_reprL hgu hu (fun _ => rfl) m_repr (fun _ => rfl) (ek_ed (ed_lst (ea_cons (fun _ => rfl) (ek_ed (ed_name 8 a8 rfl (ea_cons (fun _ => rfl) (ek_ed (ed_name 4 a4 rfl (ea_cons (fun _ => rfl) (ek_ed (ed_name 5 a5 rfl (ea_nil ⟨_, rfl, le1 rfl, ⟨_, _, _, _, rfl, .cons hsu (.cons hsx (.cons hsy .nil)), bulk3 hsu.bu hbx hby, (ek_ed (ed_name 9 a9 rfl ⟨_, _, rfl, rfl, ?_⟩))⟩⟩)))))))))))))))), fun hif => ?_⟩))))⟩⟩))))))
        · show post (.dt (.bl (decide ((PyData.list [pu, px, py]).shown = (PyData.list [pu, px, py]).shown)))) [.ow ds, .un]
          rw [decide_eq_true rfl]; exact hq _ (hp.mono (by omega))
        · exact absurd hif (by decide +kernel)
  have rest : ∀ (b0 b1 b2 : Bool) (x y : Dt) (ds : List Dt), Cell N b1 x → Cell N b2 y → Pail (n + 15) ds → BD (coreOf P w K mg base (A.deeper (envOfC "_law_items_right" (defScope s__law_items_right) s.heap.objs.size f cdv)) ["pail", "known", "many", "bad", "uno", "two", "odds", "due", "some", "kept", "turn", "way"] ((envOfC "_law_items_right" (defScope s__law_items_right) s.heap.objs.size f cdv) :: outer)) (varOf s H (envOfC "_law_items_right" (defScope s__law_items_right) s.heap.objs.size f cdv) outer) (Ent.call H [.ow dsE, .dt (.tup (tbD t N))] vs fo 12) ((defBody s__law_items_right).drop 5) { nx := fun Γ => post (.dt .non) (outsA [.ow dsE, .dt (.tup (tbD t N))] Γ), rt := fun a Γ => post a (outsA [.ow dsE, .dt (.tup (tbD t N))] Γ) } [.ow ds, .dt (.tup (tbD t N)), .dt (.int (N : Nat)), .ow [.bl b0, .bl b1, .bl b2], .dt x, .dt y, .ow (oddsD (N : Nat)), .un, .un, .un, .un, .un] := by
    intro b0 b1 b2 x y ds cx cy hp
    have fin : ∀ ds, Pail (n + 15) ds → BD (coreOf P w K mg base (A.deeper (envOfC "_law_items_right" (defScope s__law_items_right) s.heap.objs.size f cdv)) ["pail", "known", "many", "bad", "uno", "two", "odds", "due", "some", "kept", "turn", "way"] ((envOfC "_law_items_right" (defScope s__law_items_right) s.heap.objs.size f cdv) :: outer)) (varOf s H (envOfC "_law_items_right" (defScope s__law_items_right) s.heap.objs.size f cdv) outer) (Ent.call H [.ow dsE, .dt (.tup (tbD t N))] vs fo 12) ((defBody s__law_items_right).drop 7) { nx := fun Γ => post (.dt .non) (outsA [.ow dsE, .dt (.tup (tbD t N))] Γ), rt := fun a Γ => post a (outsA [.ow dsE, .dt (.tup (tbD t N))] Γ) } [.ow ds, .dt (.tup (tbD t N)), .dt (.int (N : Nat)), .ow [.bl b0, .bl b1, .bl b2], .dt x, .dt y, .ow (oddsD (N : Nat)), .ow (dueL b0 b1 b2 x y), .un, .un, .un, .un] := by
      intro ds hp
      cases b0 with
      | true =>
        refine (bd_cons (sd_set 8 s8 (fun _ => rfl) (lt1 rfl) (nl rfl) (ed_ifExp (td_val (fun _ _ => rfl) (ed_ixD (fun _ _ => rfl) (ek_loan 3 a3 rfl (ek_ed (ed_int (IxD.mk rfl rfl rfl ⟨_, rfl, ⟨fun hif => (ed_call G__law_no_table (hr.mono (by decide)) hgu (fun _ => rfl) g__law_no_table k__law_no_table b__law_no_table (by decide) (fun _ => rfl) (fun _ => rfl) (ea_cons (fun _ => rfl) (ek_loan 0 a0 rfl (ea_cons (fun _ => rfl) (ek_ed (ed_name 1 a1 rfl (ea_nil ⟨_, rfl, rfl, ⟨_, _, _, rfl, hp, (by omega), (by rw [tbD_len]; exact hN1), (by rw [tbD_len]; exact hN2), rows_tb hN2 ht, fun u ds hgood htbl hp => fun _ => ?_⟩⟩))))))), fun hif => (ed_name 1 a1 rfl ?_)⟩⟩)))))))))
        · exact last _ _ _ _ _ _ _ cx cy hgood htbl (fun z => nomatch z) (hp.mono (by omega))
        · cases hif
      | false =>
        refine (bd_cons (sd_set 8 s8 (fun _ => rfl) (lt1 rfl) (nl rfl) (ed_ifExp (td_val (fun _ _ => rfl) (ed_ixD (fun _ _ => rfl) (ek_loan 3 a3 rfl (ek_ed (ed_int (IxD.mk rfl rfl rfl ⟨_, rfl, ⟨fun hif => (ed_call G__law_no_table (hr.mono (by decide)) hgu (fun _ => rfl) g__law_no_table k__law_no_table b__law_no_table (by decide) (fun _ => rfl) (fun _ => rfl) (ea_cons (fun _ => rfl) (ek_loan 0 a0 rfl (ea_cons (fun _ => rfl) (ek_ed (ed_name 1 a1 rfl (ea_nil ⟨_, rfl, rfl, ⟨_, _, _, rfl, hp, (by omega), (by rw [tbD_len]; exact hN1), (by rw [tbD_len]; exact hN2), rows_tb hN2 ht, fun u ds hgood htbl hp => fun _ => ?_⟩⟩))))))), fun hif => (ed_name 1 a1 rfl ?_)⟩⟩)))))))))
        · cases hif
        · exact last _ _ _ _ _ _ _ cx cy (good_tb hN2 ht) (isTbl_tb (by omega) fun j i h1 h2 => (ht.2 j i h1 h2).1) (fun _ => nOf_tb t N) (hp.mono (by omega))
    rcases b0 with _ | _ <;> rcases b1 with _ | _ <;> rcases b2 with _ | _
    · -- 000
      refine (bd_cons (sd_set 7 s7 (fun _ => rfl) (lt1 rfl) (nl rfl) (ed_add (ek_ed (ed_mul (ek_ed (ed_lst (ea_cons (fun _ => rfl) (ek_ed (ed_str (ea_nil ⟨_, rfl, le1 rfl, (ek_ed (ed_intB (fun _ => rfl) m_int (fun _ => rfl) (ek_ed (ed_ixD (fun _ _ => rfl) (ek_loan 3 a3 rfl (ek_ed (ed_int (IxD.mk rfl rfl rfl ⟨_, rfl, (MulR.rep rfl rfl rfl (by first | decide | exact le1 rfl | (generalize decide (i = j) = e; cases e <;> decide)) (ek_ed (ed_mul (ek_ed (ed_lst (ea_cons (fun _ => rfl) (ek_ed (ed_str (ea_nil ⟨_, rfl, le1 rfl, (ek_ed (ed_intB (fun _ => rfl) m_int (fun _ => rfl) (ek_ed (ed_or (ed_ixD (fun _ _ => rfl) (ek_loan 3 a3 rfl (ek_ed (ed_int (IxD.mk rfl rfl rfl ⟨_, rfl, fun hif => (ed_bool1 (ed_ixD (fun _ _ => rfl) (ek_loan 3 a3 rfl (ek_ed (ed_int (IxD.mk rfl rfl rfl ⟨_, rfl, (MulR.rep rfl rfl rfl (by first | decide | exact le1 rfl | (generalize decide (i = j) = e; cases e <;> decide)) (AddR.lst rfl rfl rfl rfl (by first | decide | exact le1 rfl | (generalize decide (i = j) = e; cases e <;> exact le1 rfl)) ?_))⟩)))))), fun hif => ⟨_, rfl, (MulR.rep rfl rfl rfl (by first | decide | exact le1 rfl | (generalize decide (i = j) = e; cases e <;> decide)) (AddR.lst rfl rfl rfl rfl (by first | decide | exact le1 rfl | (generalize decide (i = j) = e; cases e <;> exact le1 rfl)) ?_))⟩⟩)))))))))⟩)))))))))⟩))))))))⟩)))))))))))
      · obtain ⟨i, rfl⟩ := isItem_int cx.item
        obtain ⟨j, rfl⟩ := isItem_int cy.item
        refine (bd_cons (sd_set 7 s7 (fun _ => rfl) (lt1 rfl) (nl rfl) (ed_add (ek_ed (ed_add (ek_loan 7 a7 rfl (ek_ed (ed_mul (ek_ed (ed_lst (ea_cons (fun _ => rfl) (ek_ed (ed_str (ea_nil ⟨_, rfl, le1 rfl, (ek_ed (ed_intB (fun _ => rfl) m_int (fun _ => rfl) (ek_ed (ed_and (ed_not (ed_ixD (fun _ _ => rfl) (ek_loan 3 a3 rfl (ek_ed (ed_int (IxD.mk rfl rfl rfl ⟨_, rfl, ⟨_, rfl, fun hif => (ed_and (ed_not (ed_ixD (fun _ _ => rfl) (ek_loan 3 a3 rfl (ek_ed (ed_int (IxD.mk rfl rfl rfl ⟨_, rfl, ⟨_, rfl, fun hif => (ed_bool1 (ed_eqI (ek_ed (ed_name 4 a4 rfl (ek_ed (ed_name 5 a5 rfl (CmpR.mk rfl rfl ⟨_, rfl, (MulR.rep rfl rfl rfl (by first | decide | exact le1 rfl | (generalize decide (i = j) = e; cases e <;> decide)) (AddR.lst rfl rfl rfl rfl (by first | decide | exact le1 rfl | (generalize decide (i = j) = e; cases e <;> exact le1 rfl)) (ek_ed (ed_lst (ea_cons (fun _ => rfl) (ek_ed (ed_str (ea_nil ⟨_, rfl, le1 rfl, (AddR.lst rfl rfl rfl rfl (by first | decide | exact le1 rfl | (generalize decide (i = j) = e; cases e <;> exact le1 rfl)) ?_)⟩))))))))⟩))))))), fun hif => ⟨_, rfl, (MulR.rep rfl rfl rfl (by first | decide | exact le1 rfl | (generalize decide (i = j) = e; cases e <;> decide)) (AddR.lst rfl rfl rfl rfl (by first | decide | exact le1 rfl | (generalize decide (i = j) = e; cases e <;> exact le1 rfl)) (ek_ed (ed_lst (ea_cons (fun _ => rfl) (ek_ed (ed_str (ea_nil ⟨_, rfl, le1 rfl, (AddR.lst rfl rfl rfl rfl (by first | decide | exact le1 rfl | (generalize decide (i = j) = e; cases e <;> exact le1 rfl)) ?_)⟩))))))))⟩⟩⟩))))))), fun hif => ⟨_, rfl, (MulR.rep rfl rfl rfl (by first | decide | exact le1 rfl | (generalize decide (i = j) = e; cases e <;> decide)) (AddR.lst rfl rfl rfl rfl (by first | decide | exact le1 rfl | (generalize decide (i = j) = e; cases e <;> exact le1 rfl)) (ek_ed (ed_lst (ea_cons (fun _ => rfl) (ek_ed (ed_str (ea_nil ⟨_, rfl, le1 rfl, (AddR.lst rfl rfl rfl rfl (by first | decide | exact le1 rfl | (generalize decide (i = j) = e; cases e <;> exact le1 rfl)) ?_)⟩))))))))⟩⟩⟩))))))))))⟩))))))))))))))
        have fin2 := fin ds hp
        unfold dueL at fin2
        rw [same_int] at fin2
        generalize decide (i = j) = e at fin2 ⊢
        cases e <;> exact fin2
        all_goals (cases hif; done)
      · cases hif
    · -- 001
      refine (bd_cons (sd_set 7 s7 (fun _ => rfl) (lt1 rfl) (nl rfl) (ed_add (ek_ed (ed_mul (ek_ed (ed_lst (ea_cons (fun _ => rfl) (ek_ed (ed_str (ea_nil ⟨_, rfl, le1 rfl, (ek_ed (ed_intB (fun _ => rfl) m_int (fun _ => rfl) (ek_ed (ed_ixD (fun _ _ => rfl) (ek_loan 3 a3 rfl (ek_ed (ed_int (IxD.mk rfl rfl rfl ⟨_, rfl, (MulR.rep rfl rfl rfl (by first | decide | exact le1 rfl | (generalize decide (i = j) = e; cases e <;> decide)) (ek_ed (ed_mul (ek_ed (ed_lst (ea_cons (fun _ => rfl) (ek_ed (ed_str (ea_nil ⟨_, rfl, le1 rfl, (ek_ed (ed_intB (fun _ => rfl) m_int (fun _ => rfl) (ek_ed (ed_or (ed_ixD (fun _ _ => rfl) (ek_loan 3 a3 rfl (ek_ed (ed_int (IxD.mk rfl rfl rfl ⟨_, rfl, fun hif => (ed_bool1 (ed_ixD (fun _ _ => rfl) (ek_loan 3 a3 rfl (ek_ed (ed_int (IxD.mk rfl rfl rfl ⟨_, rfl, (MulR.rep rfl rfl rfl (by first | decide | exact le1 rfl | (generalize decide (i = j) = e; cases e <;> decide)) (AddR.lst rfl rfl rfl rfl (by first | decide | exact le1 rfl | (generalize decide (i = j) = e; cases e <;> exact le1 rfl)) ?_))⟩)))))), fun hif => ⟨_, rfl, (MulR.rep rfl rfl rfl (by first | decide | exact le1 rfl | (generalize decide (i = j) = e; cases e <;> decide)) (AddR.lst rfl rfl rfl rfl (by first | decide | exact le1 rfl | (generalize decide (i = j) = e; cases e <;> exact le1 rfl)) ?_))⟩⟩)))))))))⟩)))))))))⟩))))))))⟩)))))))))))
      · refine (bd_cons (sd_set 7 s7 (fun _ => rfl) (lt1 rfl) (nl rfl) (ed_add (ek_ed (ed_add (ek_loan 7 a7 rfl (ek_ed (ed_mul (ek_ed (ed_lst (ea_cons (fun _ => rfl) (ek_ed (ed_str (ea_nil ⟨_, rfl, le1 rfl, (ek_ed (ed_intB (fun _ => rfl) m_int (fun _ => rfl) (ek_ed (ed_and (ed_not (ed_ixD (fun _ _ => rfl) (ek_loan 3 a3 rfl (ek_ed (ed_int (IxD.mk rfl rfl rfl ⟨_, rfl, ⟨_, rfl, fun hif => (ed_and (ed_not (ed_ixD (fun _ _ => rfl) (ek_loan 3 a3 rfl (ek_ed (ed_int (IxD.mk rfl rfl rfl ⟨_, rfl, ⟨_, rfl, fun hif => (ed_bool1 (Bool.noConfusion (show false = true from hif))), fun hif => ⟨_, rfl, (MulR.rep rfl rfl rfl (by first | decide | exact le1 rfl | (generalize decide (i = j) = e; cases e <;> decide)) (AddR.lst rfl rfl rfl rfl (by first | decide | exact le1 rfl | (generalize decide (i = j) = e; cases e <;> exact le1 rfl)) (ek_ed (ed_lst (ea_cons (fun _ => rfl) (ek_ed (ed_str (ea_nil ⟨_, rfl, le1 rfl, (AddR.lst rfl rfl rfl rfl (by first | decide | exact le1 rfl | (generalize decide (i = j) = e; cases e <;> exact le1 rfl)) ?_)⟩))))))))⟩⟩⟩))))))), fun hif => ⟨_, rfl, (MulR.rep rfl rfl rfl (by first | decide | exact le1 rfl | (generalize decide (i = j) = e; cases e <;> decide)) (AddR.lst rfl rfl rfl rfl (by first | decide | exact le1 rfl | (generalize decide (i = j) = e; cases e <;> exact le1 rfl)) (ek_ed (ed_lst (ea_cons (fun _ => rfl) (ek_ed (ed_str (ea_nil ⟨_, rfl, le1 rfl, (AddR.lst rfl rfl rfl rfl (by first | decide | exact le1 rfl | (generalize decide (i = j) = e; cases e <;> exact le1 rfl)) ?_)⟩))))))))⟩⟩⟩))))))))))⟩))))))))))))))
        first | exact fin ds hp | cases hif
        all_goals first | exact fin ds hp | cases hif
      · cases hif
    · -- 010
      refine (bd_cons (sd_set 7 s7 (fun _ => rfl) (lt1 rfl) (nl rfl) (ed_add (ek_ed (ed_mul (ek_ed (ed_lst (ea_cons (fun _ => rfl) (ek_ed (ed_str (ea_nil ⟨_, rfl, le1 rfl, (ek_ed (ed_intB (fun _ => rfl) m_int (fun _ => rfl) (ek_ed (ed_ixD (fun _ _ => rfl) (ek_loan 3 a3 rfl (ek_ed (ed_int (IxD.mk rfl rfl rfl ⟨_, rfl, (MulR.rep rfl rfl rfl (by first | decide | exact le1 rfl | (generalize decide (i = j) = e; cases e <;> decide)) (ek_ed (ed_mul (ek_ed (ed_lst (ea_cons (fun _ => rfl) (ek_ed (ed_str (ea_nil ⟨_, rfl, le1 rfl, (ek_ed (ed_intB (fun _ => rfl) m_int (fun _ => rfl) (ek_ed (ed_or (ed_ixD (fun _ _ => rfl) (ek_loan 3 a3 rfl (ek_ed (ed_int (IxD.mk rfl rfl rfl ⟨_, rfl, fun hif => (ed_bool1 (ed_ixD (fun _ _ => rfl) (ek_loan 3 a3 rfl (ek_ed (ed_int (IxD.mk rfl rfl rfl ⟨_, rfl, (MulR.rep rfl rfl rfl (by first | decide | exact le1 rfl | (generalize decide (i = j) = e; cases e <;> decide)) (AddR.lst rfl rfl rfl rfl (by first | decide | exact le1 rfl | (generalize decide (i = j) = e; cases e <;> exact le1 rfl)) ?_))⟩)))))), fun hif => ⟨_, rfl, (MulR.rep rfl rfl rfl (by first | decide | exact le1 rfl | (generalize decide (i = j) = e; cases e <;> decide)) (AddR.lst rfl rfl rfl rfl (by first | decide | exact le1 rfl | (generalize decide (i = j) = e; cases e <;> exact le1 rfl)) ?_))⟩⟩)))))))))⟩)))))))))⟩))))))))⟩)))))))))))
      · cases hif
      · refine (bd_cons (sd_set 7 s7 (fun _ => rfl) (lt1 rfl) (nl rfl) (ed_add (ek_ed (ed_add (ek_loan 7 a7 rfl (ek_ed (ed_mul (ek_ed (ed_lst (ea_cons (fun _ => rfl) (ek_ed (ed_str (ea_nil ⟨_, rfl, le1 rfl, (ek_ed (ed_intB (fun _ => rfl) m_int (fun _ => rfl) (ek_ed (ed_and (ed_not (ed_ixD (fun _ _ => rfl) (ek_loan 3 a3 rfl (ek_ed (ed_int (IxD.mk rfl rfl rfl ⟨_, rfl, ⟨_, rfl, fun hif => (Bool.noConfusion (show false = true from hif)), fun hif => ⟨_, rfl, (MulR.rep rfl rfl rfl (by first | decide | exact le1 rfl | (generalize decide (i = j) = e; cases e <;> decide)) (AddR.lst rfl rfl rfl rfl (by first | decide | exact le1 rfl | (generalize decide (i = j) = e; cases e <;> exact le1 rfl)) (ek_ed (ed_lst (ea_cons (fun _ => rfl) (ek_ed (ed_str (ea_nil ⟨_, rfl, le1 rfl, (AddR.lst rfl rfl rfl rfl (by first | decide | exact le1 rfl | (generalize decide (i = j) = e; cases e <;> exact le1 rfl)) ?_)⟩))))))))⟩⟩⟩))))))))))⟩))))))))))))))
        exact fin ds hp
    · -- 011
      refine (bd_cons (sd_set 7 s7 (fun _ => rfl) (lt1 rfl) (nl rfl) (ed_add (ek_ed (ed_mul (ek_ed (ed_lst (ea_cons (fun _ => rfl) (ek_ed (ed_str (ea_nil ⟨_, rfl, le1 rfl, (ek_ed (ed_intB (fun _ => rfl) m_int (fun _ => rfl) (ek_ed (ed_ixD (fun _ _ => rfl) (ek_loan 3 a3 rfl (ek_ed (ed_int (IxD.mk rfl rfl rfl ⟨_, rfl, (MulR.rep rfl rfl rfl (by first | decide | exact le1 rfl | (generalize decide (i = j) = e; cases e <;> decide)) (ek_ed (ed_mul (ek_ed (ed_lst (ea_cons (fun _ => rfl) (ek_ed (ed_str (ea_nil ⟨_, rfl, le1 rfl, (ek_ed (ed_intB (fun _ => rfl) m_int (fun _ => rfl) (ek_ed (ed_or (ed_ixD (fun _ _ => rfl) (ek_loan 3 a3 rfl (ek_ed (ed_int (IxD.mk rfl rfl rfl ⟨_, rfl, fun hif => (ed_bool1 (ed_ixD (fun _ _ => rfl) (ek_loan 3 a3 rfl (ek_ed (ed_int (IxD.mk rfl rfl rfl ⟨_, rfl, (MulR.rep rfl rfl rfl (by first | decide | exact le1 rfl | (generalize decide (i = j) = e; cases e <;> decide)) (AddR.lst rfl rfl rfl rfl (by first | decide | exact le1 rfl | (generalize decide (i = j) = e; cases e <;> exact le1 rfl)) ?_))⟩)))))), fun hif => ⟨_, rfl, (MulR.rep rfl rfl rfl (by first | decide | exact le1 rfl | (generalize decide (i = j) = e; cases e <;> decide)) (AddR.lst rfl rfl rfl rfl (by first | decide | exact le1 rfl | (generalize decide (i = j) = e; cases e <;> exact le1 rfl)) ?_))⟩⟩)))))))))⟩)))))))))⟩))))))))⟩)))))))))))
      · cases hif
      · refine (bd_cons (sd_set 7 s7 (fun _ => rfl) (lt1 rfl) (nl rfl) (ed_add (ek_ed (ed_add (ek_loan 7 a7 rfl (ek_ed (ed_mul (ek_ed (ed_lst (ea_cons (fun _ => rfl) (ek_ed (ed_str (ea_nil ⟨_, rfl, le1 rfl, (ek_ed (ed_intB (fun _ => rfl) m_int (fun _ => rfl) (ek_ed (ed_and (ed_not (ed_ixD (fun _ _ => rfl) (ek_loan 3 a3 rfl (ek_ed (ed_int (IxD.mk rfl rfl rfl ⟨_, rfl, ⟨_, rfl, fun hif => (Bool.noConfusion (show false = true from hif)), fun hif => ⟨_, rfl, (MulR.rep rfl rfl rfl (by first | decide | exact le1 rfl | (generalize decide (i = j) = e; cases e <;> decide)) (AddR.lst rfl rfl rfl rfl (by first | decide | exact le1 rfl | (generalize decide (i = j) = e; cases e <;> exact le1 rfl)) (ek_ed (ed_lst (ea_cons (fun _ => rfl) (ek_ed (ed_str (ea_nil ⟨_, rfl, le1 rfl, (AddR.lst rfl rfl rfl rfl (by first | decide | exact le1 rfl | (generalize decide (i = j) = e; cases e <;> exact le1 rfl)) ?_)⟩))))))))⟩⟩⟩))))))))))⟩))))))))))))))
        exact fin ds hp
    · -- 100
      refine (bd_cons (sd_set 7 s7 (fun _ => rfl) (lt1 rfl) (nl rfl) (ed_add (ek_ed (ed_mul (ek_ed (ed_lst (ea_cons (fun _ => rfl) (ek_ed (ed_str (ea_nil ⟨_, rfl, le1 rfl, (ek_ed (ed_intB (fun _ => rfl) m_int (fun _ => rfl) (ek_ed (ed_ixD (fun _ _ => rfl) (ek_loan 3 a3 rfl (ek_ed (ed_int (IxD.mk rfl rfl rfl ⟨_, rfl, (MulR.rep rfl rfl rfl (by first | decide | exact le1 rfl | (generalize decide (i = j) = e; cases e <;> decide)) (ek_ed (ed_mul (ek_ed (ed_lst (ea_cons (fun _ => rfl) (ek_ed (ed_str (ea_nil ⟨_, rfl, le1 rfl, (ek_ed (ed_intB (fun _ => rfl) m_int (fun _ => rfl) (ek_ed (ed_or (ed_ixD (fun _ _ => rfl) (ek_loan 3 a3 rfl (ek_ed (ed_int (IxD.mk rfl rfl rfl ⟨_, rfl, fun hif => (ed_bool1 (ed_ixD (fun _ _ => rfl) (ek_loan 3 a3 rfl (ek_ed (ed_int (IxD.mk rfl rfl rfl ⟨_, rfl, (MulR.rep rfl rfl rfl (by first | decide | exact le1 rfl | (generalize decide (i = j) = e; cases e <;> decide)) (AddR.lst rfl rfl rfl rfl (by first | decide | exact le1 rfl | (generalize decide (i = j) = e; cases e <;> exact le1 rfl)) ?_))⟩)))))), fun hif => ⟨_, rfl, (MulR.rep rfl rfl rfl (by first | decide | exact le1 rfl | (generalize decide (i = j) = e; cases e <;> decide)) (AddR.lst rfl rfl rfl rfl (by first | decide | exact le1 rfl | (generalize decide (i = j) = e; cases e <;> exact le1 rfl)) ?_))⟩⟩)))))))))⟩)))))))))⟩))))))))⟩)))))))))))
      · obtain ⟨i, rfl⟩ := isItem_int cx.item
        obtain ⟨j, rfl⟩ := isItem_int cy.item
        refine (bd_cons (sd_set 7 s7 (fun _ => rfl) (lt1 rfl) (nl rfl) (ed_add (ek_ed (ed_add (ek_loan 7 a7 rfl (ek_ed (ed_mul (ek_ed (ed_lst (ea_cons (fun _ => rfl) (ek_ed (ed_str (ea_nil ⟨_, rfl, le1 rfl, (ek_ed (ed_intB (fun _ => rfl) m_int (fun _ => rfl) (ek_ed (ed_and (ed_not (ed_ixD (fun _ _ => rfl) (ek_loan 3 a3 rfl (ek_ed (ed_int (IxD.mk rfl rfl rfl ⟨_, rfl, ⟨_, rfl, fun hif => (ed_and (ed_not (ed_ixD (fun _ _ => rfl) (ek_loan 3 a3 rfl (ek_ed (ed_int (IxD.mk rfl rfl rfl ⟨_, rfl, ⟨_, rfl, fun hif => (ed_bool1 (ed_eqI (ek_ed (ed_name 4 a4 rfl (ek_ed (ed_name 5 a5 rfl (CmpR.mk rfl rfl ⟨_, rfl, (MulR.rep rfl rfl rfl (by first | decide | exact le1 rfl | (generalize decide (i = j) = e; cases e <;> decide)) (AddR.lst rfl rfl rfl rfl (by first | decide | exact le1 rfl | (generalize decide (i = j) = e; cases e <;> exact le1 rfl)) (ek_ed (ed_lst (ea_cons (fun _ => rfl) (ek_ed (ed_str (ea_nil ⟨_, rfl, le1 rfl, (AddR.lst rfl rfl rfl rfl (by first | decide | exact le1 rfl | (generalize decide (i = j) = e; cases e <;> exact le1 rfl)) ?_)⟩))))))))⟩))))))), fun hif => ⟨_, rfl, (MulR.rep rfl rfl rfl (by first | decide | exact le1 rfl | (generalize decide (i = j) = e; cases e <;> decide)) (AddR.lst rfl rfl rfl rfl (by first | decide | exact le1 rfl | (generalize decide (i = j) = e; cases e <;> exact le1 rfl)) (ek_ed (ed_lst (ea_cons (fun _ => rfl) (ek_ed (ed_str (ea_nil ⟨_, rfl, le1 rfl, (AddR.lst rfl rfl rfl rfl (by first | decide | exact le1 rfl | (generalize decide (i = j) = e; cases e <;> exact le1 rfl)) ?_)⟩))))))))⟩⟩⟩))))))), fun hif => ⟨_, rfl, (MulR.rep rfl rfl rfl (by first | decide | exact le1 rfl | (generalize decide (i = j) = e; cases e <;> decide)) (AddR.lst rfl rfl rfl rfl (by first | decide | exact le1 rfl | (generalize decide (i = j) = e; cases e <;> exact le1 rfl)) (ek_ed (ed_lst (ea_cons (fun _ => rfl) (ek_ed (ed_str (ea_nil ⟨_, rfl, le1 rfl, (AddR.lst rfl rfl rfl rfl (by first | decide | exact le1 rfl | (generalize decide (i = j) = e; cases e <;> exact le1 rfl)) ?_)⟩))))))))⟩⟩⟩))))))))))⟩))))))))))))))
        have fin2 := fin ds hp
        unfold dueL at fin2
        rw [same_int] at fin2
        generalize decide (i = j) = e at fin2 ⊢
        cases e <;> exact fin2
        all_goals (cases hif; done)
      · cases hif
    · -- 101
      refine (bd_cons (sd_set 7 s7 (fun _ => rfl) (lt1 rfl) (nl rfl) (ed_add (ek_ed (ed_mul (ek_ed (ed_lst (ea_cons (fun _ => rfl) (ek_ed (ed_str (ea_nil ⟨_, rfl, le1 rfl, (ek_ed (ed_intB (fun _ => rfl) m_int (fun _ => rfl) (ek_ed (ed_ixD (fun _ _ => rfl) (ek_loan 3 a3 rfl (ek_ed (ed_int (IxD.mk rfl rfl rfl ⟨_, rfl, (MulR.rep rfl rfl rfl (by first | decide | exact le1 rfl | (generalize decide (i = j) = e; cases e <;> decide)) (ek_ed (ed_mul (ek_ed (ed_lst (ea_cons (fun _ => rfl) (ek_ed (ed_str (ea_nil ⟨_, rfl, le1 rfl, (ek_ed (ed_intB (fun _ => rfl) m_int (fun _ => rfl) (ek_ed (ed_or (ed_ixD (fun _ _ => rfl) (ek_loan 3 a3 rfl (ek_ed (ed_int (IxD.mk rfl rfl rfl ⟨_, rfl, fun hif => (ed_bool1 (ed_ixD (fun _ _ => rfl) (ek_loan 3 a3 rfl (ek_ed (ed_int (IxD.mk rfl rfl rfl ⟨_, rfl, (MulR.rep rfl rfl rfl (by first | decide | exact le1 rfl | (generalize decide (i = j) = e; cases e <;> decide)) (AddR.lst rfl rfl rfl rfl (by first | decide | exact le1 rfl | (generalize decide (i = j) = e; cases e <;> exact le1 rfl)) ?_))⟩)))))), fun hif => ⟨_, rfl, (MulR.rep rfl rfl rfl (by first | decide | exact le1 rfl | (generalize decide (i = j) = e; cases e <;> decide)) (AddR.lst rfl rfl rfl rfl (by first | decide | exact le1 rfl | (generalize decide (i = j) = e; cases e <;> exact le1 rfl)) ?_))⟩⟩)))))))))⟩)))))))))⟩))))))))⟩)))))))))))
      · refine (bd_cons (sd_set 7 s7 (fun _ => rfl) (lt1 rfl) (nl rfl) (ed_add (ek_ed (ed_add (ek_loan 7 a7 rfl (ek_ed (ed_mul (ek_ed (ed_lst (ea_cons (fun _ => rfl) (ek_ed (ed_str (ea_nil ⟨_, rfl, le1 rfl, (ek_ed (ed_intB (fun _ => rfl) m_int (fun _ => rfl) (ek_ed (ed_and (ed_not (ed_ixD (fun _ _ => rfl) (ek_loan 3 a3 rfl (ek_ed (ed_int (IxD.mk rfl rfl rfl ⟨_, rfl, ⟨_, rfl, fun hif => (ed_and (ed_not (ed_ixD (fun _ _ => rfl) (ek_loan 3 a3 rfl (ek_ed (ed_int (IxD.mk rfl rfl rfl ⟨_, rfl, ⟨_, rfl, fun hif => (ed_bool1 (Bool.noConfusion (show false = true from hif))), fun hif => ⟨_, rfl, (MulR.rep rfl rfl rfl (by first | decide | exact le1 rfl | (generalize decide (i = j) = e; cases e <;> decide)) (AddR.lst rfl rfl rfl rfl (by first | decide | exact le1 rfl | (generalize decide (i = j) = e; cases e <;> exact le1 rfl)) (ek_ed (ed_lst (ea_cons (fun _ => rfl) (ek_ed (ed_str (ea_nil ⟨_, rfl, le1 rfl, (AddR.lst rfl rfl rfl rfl (by first | decide | exact le1 rfl | (generalize decide (i = j) = e; cases e <;> exact le1 rfl)) ?_)⟩))))))))⟩⟩⟩))))))), fun hif => ⟨_, rfl, (MulR.rep rfl rfl rfl (by first | decide | exact le1 rfl | (generalize decide (i = j) = e; cases e <;> decide)) (AddR.lst rfl rfl rfl rfl (by first | decide | exact le1 rfl | (generalize decide (i = j) = e; cases e <;> exact le1 rfl)) (ek_ed (ed_lst (ea_cons (fun _ => rfl) (ek_ed (ed_str (ea_nil ⟨_, rfl, le1 rfl, (AddR.lst rfl rfl rfl rfl (by first | decide | exact le1 rfl | (generalize decide (i = j) = e; cases e <;> exact le1 rfl)) ?_)⟩))))))))⟩⟩⟩))))))))))⟩))))))))))))))
        first | exact fin ds hp | cases hif
        all_goals first | exact fin ds hp | cases hif
      · cases hif
    · -- 110
      refine (bd_cons (sd_set 7 s7 (fun _ => rfl) (lt1 rfl) (nl rfl) (ed_add (ek_ed (ed_mul (ek_ed (ed_lst (ea_cons (fun _ => rfl) (ek_ed (ed_str (ea_nil ⟨_, rfl, le1 rfl, (ek_ed (ed_intB (fun _ => rfl) m_int (fun _ => rfl) (ek_ed (ed_ixD (fun _ _ => rfl) (ek_loan 3 a3 rfl (ek_ed (ed_int (IxD.mk rfl rfl rfl ⟨_, rfl, (MulR.rep rfl rfl rfl (by first | decide | exact le1 rfl | (generalize decide (i = j) = e; cases e <;> decide)) (ek_ed (ed_mul (ek_ed (ed_lst (ea_cons (fun _ => rfl) (ek_ed (ed_str (ea_nil ⟨_, rfl, le1 rfl, (ek_ed (ed_intB (fun _ => rfl) m_int (fun _ => rfl) (ek_ed (ed_or (ed_ixD (fun _ _ => rfl) (ek_loan 3 a3 rfl (ek_ed (ed_int (IxD.mk rfl rfl rfl ⟨_, rfl, fun hif => (ed_bool1 (ed_ixD (fun _ _ => rfl) (ek_loan 3 a3 rfl (ek_ed (ed_int (IxD.mk rfl rfl rfl ⟨_, rfl, (MulR.rep rfl rfl rfl (by first | decide | exact le1 rfl | (generalize decide (i = j) = e; cases e <;> decide)) (AddR.lst rfl rfl rfl rfl (by first | decide | exact le1 rfl | (generalize decide (i = j) = e; cases e <;> exact le1 rfl)) ?_))⟩)))))), fun hif => ⟨_, rfl, (MulR.rep rfl rfl rfl (by first | decide | exact le1 rfl | (generalize decide (i = j) = e; cases e <;> decide)) (AddR.lst rfl rfl rfl rfl (by first | decide | exact le1 rfl | (generalize decide (i = j) = e; cases e <;> exact le1 rfl)) ?_))⟩⟩)))))))))⟩)))))))))⟩))))))))⟩)))))))))))
      · cases hif
      · refine (bd_cons (sd_set 7 s7 (fun _ => rfl) (lt1 rfl) (nl rfl) (ed_add (ek_ed (ed_add (ek_loan 7 a7 rfl (ek_ed (ed_mul (ek_ed (ed_lst (ea_cons (fun _ => rfl) (ek_ed (ed_str (ea_nil ⟨_, rfl, le1 rfl, (ek_ed (ed_intB (fun _ => rfl) m_int (fun _ => rfl) (ek_ed (ed_and (ed_not (ed_ixD (fun _ _ => rfl) (ek_loan 3 a3 rfl (ek_ed (ed_int (IxD.mk rfl rfl rfl ⟨_, rfl, ⟨_, rfl, fun hif => (Bool.noConfusion (show false = true from hif)), fun hif => ⟨_, rfl, (MulR.rep rfl rfl rfl (by first | decide | exact le1 rfl | (generalize decide (i = j) = e; cases e <;> decide)) (AddR.lst rfl rfl rfl rfl (by first | decide | exact le1 rfl | (generalize decide (i = j) = e; cases e <;> exact le1 rfl)) (ek_ed (ed_lst (ea_cons (fun _ => rfl) (ek_ed (ed_str (ea_nil ⟨_, rfl, le1 rfl, (AddR.lst rfl rfl rfl rfl (by first | decide | exact le1 rfl | (generalize decide (i = j) = e; cases e <;> exact le1 rfl)) ?_)⟩))))))))⟩⟩⟩))))))))))⟩))))))))))))))
        exact fin ds hp
    · -- 111
      refine (bd_cons (sd_set 7 s7 (fun _ => rfl) (lt1 rfl) (nl rfl) (ed_add (ek_ed (ed_mul (ek_ed (ed_lst (ea_cons (fun _ => rfl) (ek_ed (ed_str (ea_nil ⟨_, rfl, le1 rfl, (ek_ed (ed_intB (fun _ => rfl) m_int (fun _ => rfl) (ek_ed (ed_ixD (fun _ _ => rfl) (ek_loan 3 a3 rfl (ek_ed (ed_int (IxD.mk rfl rfl rfl ⟨_, rfl, (MulR.rep rfl rfl rfl (by first | decide | exact le1 rfl | (generalize decide (i = j) = e; cases e <;> decide)) (ek_ed (ed_mul (ek_ed (ed_lst (ea_cons (fun _ => rfl) (ek_ed (ed_str (ea_nil ⟨_, rfl, le1 rfl, (ek_ed (ed_intB (fun _ => rfl) m_int (fun _ => rfl) (ek_ed (ed_or (ed_ixD (fun _ _ => rfl) (ek_loan 3 a3 rfl (ek_ed (ed_int (IxD.mk rfl rfl rfl ⟨_, rfl, fun hif => (ed_bool1 (ed_ixD (fun _ _ => rfl) (ek_loan 3 a3 rfl (ek_ed (ed_int (IxD.mk rfl rfl rfl ⟨_, rfl, (MulR.rep rfl rfl rfl (by first | decide | exact le1 rfl | (generalize decide (i = j) = e; cases e <;> decide)) (AddR.lst rfl rfl rfl rfl (by first | decide | exact le1 rfl | (generalize decide (i = j) = e; cases e <;> exact le1 rfl)) ?_))⟩)))))), fun hif => ⟨_, rfl, (MulR.rep rfl rfl rfl (by first | decide | exact le1 rfl | (generalize decide (i = j) = e; cases e <;> decide)) (AddR.lst rfl rfl rfl rfl (by first | decide | exact le1 rfl | (generalize decide (i = j) = e; cases e <;> exact le1 rfl)) ?_))⟩⟩)))))))))⟩)))))))))⟩))))))))⟩)))))))))))
      · cases hif
      · refine (bd_cons (sd_set 7 s7 (fun _ => rfl) (lt1 rfl) (nl rfl) (ed_add (ek_ed (ed_add (ek_loan 7 a7 rfl (ek_ed (ed_mul (ek_ed (ed_lst (ea_cons (fun _ => rfl) (ek_ed (ed_str (ea_nil ⟨_, rfl, le1 rfl, (ek_ed (ed_intB (fun _ => rfl) m_int (fun _ => rfl) (ek_ed (ed_and (ed_not (ed_ixD (fun _ _ => rfl) (ek_loan 3 a3 rfl (ek_ed (ed_int (IxD.mk rfl rfl rfl ⟨_, rfl, ⟨_, rfl, fun hif => (Bool.noConfusion (show false = true from hif)), fun hif => ⟨_, rfl, (MulR.rep rfl rfl rfl (by first | decide | exact le1 rfl | (generalize decide (i = j) = e; cases e <;> decide)) (AddR.lst rfl rfl rfl rfl (by first | decide | exact le1 rfl | (generalize decide (i = j) = e; cases e <;> exact le1 rfl)) (ek_ed (ed_lst (ea_cons (fun _ => rfl) (ek_ed (ed_str (ea_nil ⟨_, rfl, le1 rfl, (AddR.lst rfl rfl rfl rfl (by first | decide | exact le1 rfl | (generalize decide (i = j) = e; cases e <;> exact le1 rfl)) ?_)⟩))))))))⟩⟩⟩))))))))))⟩))))))))))))))
        exact fin ds hp
  refine (bd_cons (sd_par 2 3 s2 s3 (by decide) (fun _ => rfl) (fun _ => rfl) (fun _ => rfl) (fun _ => rfl) (fun _ => rfl) (fun _ => rfl) (lt1 rfl) (lt1 rfl) (nl rfl) (nl rfl) (ed_len (fun _ => rfl) m_len (fun _ => rfl) (ek_ed (ed_name 1 a1 rfl ⟨_, rfl, fun fo => (ed_lc (own := [("turn", 10)]) sc__law_items_right.nd (fun _ => blkOk_by rfl) (fun _ _ => rfl) (nls rfl) (src_R1 (fun _ => rfl) m_range (fun _ => rfl) (ea_cons (fun _ => rfl) (ek_ed (ed_int (ea_nil ⟨_, _, rfl, rfl, ?_, ⟨?_, (fun j acc Γ => ∃ (ds : List Dt) (bs : List Bool), acc = bs.map .bl ∧ bs.length = j ∧ Pail (n + (j : Nat)) ds ∧ Γ = [AV.ow ds, .dt (.tup (tbD t N)), .un, .un, .un, .un, .un, .un, .un, .un, .un, .un]), ?_, ?_, ?_⟩⟩))))))⟩)))))
  · decide
  · exact le1 rfl
  · exact ⟨dsE, [], rfl, rfl, hp.mono (by omega), rfl⟩
  · rintro j d acc Γ2 hj ⟨ds, bs, rfl, hb, hp, rfl⟩
    have hj3 : j < 3 := by
      have := (List.getElem?_eq_some_iff.mp hj).1
      rwa [rngD_len] at this
    refine ⟨_, (by decide), fun g ff => (gd_name 10 (ats_of sc__law_items_right.nd rfl (fun _ => rfl) (fun _ => rfl)) (lt1 rfl) (nl rfl) (ts_nil ⟨fun _ => (ed_eqI (ek_ed (ed_call G__law_dip (hr.mono (by decide)) hgu (fun _ => rfl) g__law_dip k__law_dip b__law_dip (by decide) (fun _ => rfl) (fun _ => rfl) (ea_cons (fun _ => rfl) (ek_loan 0 (at_of rfl (fun _ => rfl) rfl rfl) rfl (ea_cons (fun _ => rfl) (ek_ed (ed_int (ea_nil ⟨_, rfl, rfl, ⟨_, _, _, rfl, hp, (by omega), (by first | decide | omega), (by first | decide | omega), fun r1 ds ha1 hb1 hp => fun _ => (ek_ed (ed_int (CmpR.mk rfl rfl ⟨_, rfl, ?_⟩)))⟩⟩))))))))), fun hif => nomatch hif⟩))⟩
    exact ⟨ds, bs ++ [_], by rw [List.map_append]; rfl, by rw [List.length_append]; show bs.length + 1 = j + 1; omega, hp.mono (by omega), rfl⟩
  · rintro acc Γ2 ⟨ds, bs, rfl, hb, hp, rfl⟩
    rw [rngD_len] at hb hp
    obtain ⟨b0, b1, b2, rfl⟩ : ∃ b0 b1 b2, bs = [b0, b1, b2] := by
      match bs, hb with
      | [b0, b1, b2], _ => exact ⟨b0, b1, b2, rfl⟩
    rw [tbD_len]
    refine (bd_cons (sd_unp [4, 5] (fun _ => rfl) (fun _ => rfl) (fun _ => rfl) (ed_tup (ea_cons (fun _ => rfl) (ek_ed (ed_call G__law_dip (hr.mono (by decide)) hgu (fun _ => rfl) g__law_dip k__law_dip b__law_dip (by decide) (fun _ => rfl) (fun _ => rfl) (ea_cons (fun _ => rfl) (ek_loan 0 a0 rfl (ea_cons (fun _ => rfl) (ek_ed (ed_name 2 a2 rfl (ea_nil ⟨_, rfl, rfl, ⟨_, _, _, rfl, hp, (by omega), (by first | decide | omega), (by first | decide | omega), fun r2 ds ha2 hb2 hp => fun _ => (ea_cons (fun _ => rfl) (ek_ed (ed_call G__law_dip (hr.mono (by decide)) hgu (fun _ => rfl) g__law_dip k__law_dip b__law_dip (by decide) (fun _ => rfl) (fun _ => rfl) (ea_cons (fun _ => rfl) (ek_loan 0 a0 rfl (ea_cons (fun _ => rfl) (ek_ed (ed_name 2 a2 rfl (ea_nil ⟨_, rfl, rfl, ⟨_, _, _, rfl, hp, (by omega), (by first | decide | omega), (by first | decide | omega), fun r1 ds ha1 hb1 hp => fun _ => (ea_nil ⟨_, rfl, le1 rfl, ⟨_, rfl, (gd_tup (fun _ => rfl) (fun _ => rfl) (gds_cons (fun _ => rfl) (gd_name 4 s4 (lt1 rfl) (nl rfl) (gds_cons (fun _ => rfl) (gd_name 5 s5 (lt1 rfl) (nl rfl) (gds_nil (bd_cons (sd_set 6 s6 (fun _ => rfl) (lt1 rfl) (nl rfl) (ed_lst (ea_cons (fun _ => rfl) (ek_ed (ed_non (ea_cons (fun _ => rfl) (ek_ed (ed_neg (ed_int ⟨_, rfl, (ea_cons (fun _ => rfl) (ek_ed (ed_name 2 a2 rfl (ea_cons (fun _ => rfl) (ek_ed (ed_add (ek_ed (ed_name 2 a2 rfl (ek_ed (ed_int (AddR.int rfl rfl (ea_cons (fun _ => rfl) (ek_ed (ed_bl (ea_cons (fun _ => rfl) (ek_ed (ed_bl (ea_cons (fun _ => rfl) (ek_ed (ed_str (ea_cons (fun _ => rfl) (ek_ed (ed_tup (ea_cons (fun _ => rfl) (ek_ed (ed_int (ea_nil ⟨_, rfl, le1 rfl, (ea_cons (fun _ => rfl) (ek_ed (ed_lst (ea_cons (fun _ => rfl) (ek_ed (ed_int (ea_nil ⟨_, rfl, le1 rfl, (ea_cons (fun _ => rfl) (ek_ed (ed_dict0 (ea_cons (fun _ => rfl) (ek_ed (ed_sub (ek_ed (ed_int (ek_ed (ed_name 2 a2 rfl (IntR.mk rfl rfl trivial (ea_cons (fun _ => rfl) (ek_ed (ed_pow (ek_ed (ed_int (ek_ed (ed_int (IntR.mk rfl rfl ?_ (ea_nil ⟨_, rfl, le1 rfl, ?_⟩))))))))))))))))))))⟩)))))))⟩)))))))))))))))))))))))))))⟩))))))))))))))))⟩⟩)⟩⟩)))))))))⟩⟩))))))))))))
    · exact powW_ok (n := 10) (by decide) (by decide) (by decide)
    show BD _ _ _ _ _ [.ow ds, .dt (.tup (tbD t N)), .dt (.int (N : Nat)), .ow [.bl b0, .bl b1, .bl b2], .dt (.int r2), .dt (.int r1), .ow (oddsD (N : Nat)), .un, .un, .un, .un, .un]
    have odds : ∀ (r : Int), 0 ≤ r → r < (oddsD (N : Nat)).length → Cell N true ((oddsD (N : Nat)).getD r.toNat .non) := fun r h0 h1 => getD_all (odds_cell hN1 hN2) h0 h1
    have c1 : Cell N false (.int r1) := cell_item ha1 hb1 hN2
    have c2 : Cell N false (.int r2) := cell_item ha2 hb2 hN2
    refine (bd_cons (sd_set 4 s4 (fun _ => rfl) (lt1 rfl) (nl rfl) (ed_ifExp (td_val (fun _ _ => rfl) (ed_ixD (fun _ _ => rfl) (ek_loan 3 a3 rfl (ek_ed (ed_int (IxD.mk rfl rfl rfl ⟨_, rfl, ⟨fun hif => (ed_ixD (fun _ _ => rfl) (ek_loan 6 a6 rfl (ek_ed (ed_call G__law_dip (hr.mono (by decide)) hgu (fun _ => rfl) g__law_dip k__law_dip b__law_dip (by decide) (fun _ => rfl) (fun _ => rfl) (ea_cons (fun _ => rfl) (ek_loan 0 a0 rfl (ea_cons (fun _ => rfl) (ek_ed (ed_int (ea_nil ⟨_, rfl, rfl, ⟨_, _, _, rfl, hp, (by omega), (by first | decide | omega), (by first | decide | omega), fun r3 ds ha3 hb3 hp => fun _ => (IxD.mk rfl rfl (atI_getD ha3 (by exact hb3)) ?_)⟩⟩)))))))))), fun hif => (ed_name 4 a4 rfl ?_)⟩⟩)))))))))
    · subst hif
      refine (bd_cons (sd_set 5 s5 (fun _ => rfl) (lt1 rfl) (nl rfl) (ed_ifExp (td_val (fun _ _ => rfl) (ed_ixD (fun _ _ => rfl) (ek_loan 3 a3 rfl (ek_ed (ed_int (IxD.mk rfl rfl rfl ⟨_, rfl, ⟨fun hif => (ed_ixD (fun _ _ => rfl) (ek_loan 6 a6 rfl (ek_ed (ed_call G__law_dip (hr.mono (by decide)) hgu (fun _ => rfl) g__law_dip k__law_dip b__law_dip (by decide) (fun _ => rfl) (fun _ => rfl) (ea_cons (fun _ => rfl) (ek_loan 0 a0 rfl (ea_cons (fun _ => rfl) (ek_ed (ed_int (ea_nil ⟨_, rfl, rfl, ⟨_, _, _, rfl, hp, (by omega), (by first | decide | omega), (by first | decide | omega), fun r4 ds ha4 hb4 hp => fun _ => (IxD.mk rfl rfl (atI_getD ha4 (by exact hb4)) ?_)⟩⟩)))))))))), fun hif => (ed_name 5 a5 rfl ?_)⟩⟩)))))))))
      · subst hif
        exact rest _ _ _ _ _ _ (odds _ ha3 hb3) (odds _ ha4 hb4) (hp.mono (by omega))
      · subst hif
        exact rest _ _ _ _ _ _ (odds _ ha3 hb3) c1 (hp.mono (by omega))
    · subst hif
      refine (bd_cons (sd_set 5 s5 (fun _ => rfl) (lt1 rfl) (nl rfl) (ed_ifExp (td_val (fun _ _ => rfl) (ed_ixD (fun _ _ => rfl) (ek_loan 3 a3 rfl (ek_ed (ed_int (IxD.mk rfl rfl rfl ⟨_, rfl, ⟨fun hif => (ed_ixD (fun _ _ => rfl) (ek_loan 6 a6 rfl (ek_ed (ed_call G__law_dip (hr.mono (by decide)) hgu (fun _ => rfl) g__law_dip k__law_dip b__law_dip (by decide) (fun _ => rfl) (fun _ => rfl) (ea_cons (fun _ => rfl) (ek_loan 0 a0 rfl (ea_cons (fun _ => rfl) (ek_ed (ed_int (ea_nil ⟨_, rfl, rfl, ⟨_, _, _, rfl, hp, (by omega), (by first | decide | omega), (by first | decide | omega), fun r4 ds ha4 hb4 hp => fun _ => (IxD.mk rfl rfl (atI_getD ha4 (by exact hb4)) ?_)⟩⟩)))))))))), fun hif => (ed_name 5 a5 rfl ?_)⟩⟩)))))))))
      · subst hif
        exact rest _ _ _ _ _ _ c2 (odds _ ha4 hb4) (hp.mono (by omega))
      · subst hif
        exact rest _ _ _ _ _ _ c2 c1 (hp.mono (by omega))
end
end K03

namespace K03
open PySem PySem.Spec PyProof.Rows L2 DL
abbrev s__law_groups_right : Stmt := topS 50
theorem sc__law_groups_right : FnScope ["pail", "known", "bad", "late", "some", "due", "kept", "told", "way"] ["pail", "known"] (defScope s__law_groups_right) := ⟨rfl, rfl, rfl, by decide +kernel, rfl, by decide +kernel, by decide +kernel⟩

def dsGrp : DSp := fun as post => ∃ (n : Int) (t : Nat → Nat → Int) (N : Nat) (ds : List Dt), as = [.ow ds, .dt (.tup (tbD t N))] ∧ Pail n ds ∧ n ≤ 1000000 ∧ HistT t N ∧ 2 ≤ N ∧ N ≤ 20 ∧ ∀ ds', Pail (n + 60) ds' → post (.dt (.bl true)) [.ow ds', .un]
/-- a day that the law draws, or none -/
structure Late (odd : Bool) (x : Dt) : Prop where
  knd : Knd x
  sh : ∃ pd, Shows x pd ∧ pd.bulk ≤ 100
  day : isDay x = !odd
theorem late_of {o : Dt} (k : Knd o) (h : Sh 90 5 false o ∨ (Sh 90 5 true o ∧ o.noL = true)) {odd : Bool} (b : isDay o = !odd) : Late odd o := ⟨k, by
  rcases h with ⟨pd, h1, h2, h3, h4, h5, h6⟩ | ⟨⟨pd, h1, h2, h3, h4, h5, h6⟩, n⟩
  · exact ⟨pd, ⟨h1, h2, h3, by omega, by omega, fun z => nomatch h6 z⟩, by omega⟩
  · exact ⟨pd, ⟨h1, h2, h3, by omega, by omega, fun _ => n⟩, by omega⟩, b⟩
def latesD : List Dt := [.non, .int (-1), .bl true, .bl false, .str "0", .tup [.int 0], .lst [.int 0], .dct [] [], .int (0 - 10 ^ Int.toNat 39)]
theorem lates : ∀ e ∈ latesD, Late true e := by
  intro e he
  unfold latesD at he
  simp only [List.mem_cons, List.not_mem_nil, or_false] at he
  rcases he with rfl | rfl | rfl | rfl | rfl | rfl | rfl | rfl | rfl
  · exact late_of ⟨_, rfl⟩ (.inl (sh_non.mono (by decide) (by decide) id)) rfl
  · exact late_of ⟨_, rfl⟩ (.inl ((sh_int (by decide)).mono (by decide) (by decide) id)) rfl
  · exact late_of ⟨_, rfl⟩ (.inl ((sh_bl true).mono (by decide) (by decide) id)) rfl
  · exact late_of ⟨_, rfl⟩ (.inl ((sh_bl false).mono (by decide) (by decide) id)) rfl
  · exact late_of ⟨_, rfl⟩ (.inl ((sh_str (x := "0") (by decide +kernel)).mono (by decide +kernel) (by decide) id)) rfl
  · exact late_of ⟨_, rfl⟩ (.inl ((sh_tup (b := 0) (q := 0) (D := false) fun e he => by rw [List.mem_singleton.mp he]; exact sh_int (by decide)).mono (by decide) (by decide) id)) rfl
  · exact late_of ⟨_, rfl⟩ (.inl ((sh_lst (b := 0) (q := 0) (D := false) fun e he => by rw [List.mem_singleton.mp he]; exact sh_int (by decide)).mono (by decide) (by decide) id)) rfl
  · exact late_of ⟨_, rfl⟩ (.inr ⟨sh_dct.mono (by decide) (by decide) id, rfl⟩) rfl
  · exact late_of ⟨_, rfl⟩ (.inl ((sh_int (by decide)).mono (by decide) (by decide) id)) (by decide)
theorem late_int {r : Int} (h0 : 0 ≤ r) (h1 : r < 9) : Late false (.int r) := late_of ⟨_, rfl⟩ (.inl ((sh_int (by omega)).mono (by decide) (by decide) id)) (decide_eq_true h0)
theorem fb_bad {t : Nat → Nat → Int} {n i j k : Nat} (hij : i < j) (hjk : j < k) (hk : k < n) (hb : bad3 t i j k = true) : isNonD (fbD t n) = false := by
  unfold fbD Cmb.combs
  have mem : [i, j, k] ∈ Cmb.cs n 3 0 := cs_all n 3 0 _ rfl (by simp; omega) (by simp; omega)
  cases h : (Cmb.cs n 3 0).find? (badIdx t) with
  | none => exact absurd hb (by have := List.find?_eq_none.mp h _ mem; exact this)
  | some x =>
    obtain ⟨q, hq⟩ := List.mem_iff_getElem?.mp (List.mem_of_find?_eq_some h)
    obtain ⟨a, b, c, rfl, _⟩ := combs3 hq
    rfl
def litN : Dt := .tup [.tup [], .tup [.int 1], .tup [.int 2, .int 0]]
theorem lit_no : isHist litN = false := by decide +kernel
theorem good_litN : Good litN := good_rows (by decide) fun e he => by
  simp only [List.mem_cons, List.not_mem_nil, or_false] at he
  rcases he with rfl | rfl | rfl
  · exact ⟨[], rfl, by decide, fun x hx => by cases hx⟩
  · exact ⟨_, rfl, by decide, fun x hx => ⟨1, List.mem_singleton.mp hx, by decide⟩⟩
  · refine ⟨_, rfl, by decide, fun x hx => ?_⟩
    simp only [List.mem_cons, List.not_mem_nil, or_false] at hx; rcases hx with rfl | rfl
    · exact ⟨2, rfl, by decide⟩
    · exact ⟨0, rfl, by decide⟩
theorem row5 (N : Nat) : rngD 5 N = (List.range N).map fun i : Nat => .int (5 + (i : Int)) := rfl
theorem more_no {t : Nat → Nat → Int} {N : Nat} (h : 2 < N) (z : t 2 1 = 0) : isHist (.tup (tbD t N ++ [.tup (rngD 5 N)])) = false := by
  rw [row5, ← tb_grow t N fun i => 5 + (i : Int)]
  have e : isNonD (fbOf (.tup (tbD (grow t N fun i => 5 + (i : Int)) (N + 1)))) = false := by
    rw [fbOf_tb]
    refine fb_bad (i := 1) (j := 2) (k := N) (by decide) h (Nat.lt_succ_self N) ?_
    unfold bad3 grow
    rw [if_neg (by omega), if_pos rfl, if_pos rfl, z]
    rfl
  unfold isHist
  rw [e, Bool.and_false]
theorem more_good {t : Nat → Nat → Int} {N : Nat} (hN : N ≤ 20) (h : HistT t N) : Good (.tup (tbD t N ++ [.tup (rngD 5 N)])) := good_rows (by rw [List.length_append, tbD_len]; show N + 1 ≤ 50; omega) fun e he => by
  rcases (List.mem_append.mp he) with he | he
  · obtain ⟨xs, e1, e2, e3⟩ := rows_tb hN h e he
    exact ⟨xs, e1, by omega, fun x hx => by
      obtain ⟨v, e, b⟩ := e3 x hx
      exact ⟨v, e, by omega⟩⟩
  · rw [List.mem_singleton.mp he]
    refine ⟨_, rfl, by rw [rngD_len]; omega, fun x hx => ?_⟩
    rw [row5] at hx
    obtain ⟨i, hi, rfl⟩ := List.mem_map.mp hx
    have := List.mem_range.mp hi
    exact ⟨_, rfl, by omega⟩
theorem pick3 {u : Dt} {t : Nat → Nat → Int} {N : Nat} {r : Int} (hu : Good u ∧ isHist u = false) (h0 : 0 ≤ r) (h1 : r < 3) (h2 : r = 2 → 2 < N ∧ t 2 1 = 0) (hN : N ≤ 20) (ht : HistT t N) : Good ([u, litN, .tup (tbD t N ++ [.tup (rngD 5 N)])].getD r.toNat .non) ∧ isHist ([u, litN, .tup (tbD t N ++ [.tup (rngD 5 N)])].getD r.toNat .non) = false := by
  have c : r = 0 ∨ r = 1 ∨ r = 2 := by omega
  rcases c with rfl | rfl | rfl
  · exact hu
  · exact ⟨good_litN, lit_no⟩
  · exact ⟨more_good hN ht, more_no (h2 rfl).1 (h2 rfl).2⟩
theorem no_tbl {u : Dt} (h : isTbl u = false) : isHist u = false := by unfold isHist; rw [h]; rfl
theorem grpR_late {u x : Dt} {b0 b1 : Bool} (hu : isHist u = !b0) (hx : Late b1 x) : grpR u x = (if b0 then ("history" : Str) else if b1 then ("day" : Str) else ("fine" : Str)) := by
  unfold grpR
  rw [hu, hx.day]
  cases b0 <;> cases b1 <;> rfl
section
variable {P : Program} {w : World}
variable {K : PySem.W.Frag}
variable {mg : Str → Option Value} {base : Heap}
theorem ok__law_groups_right {f__law_dip : Addr} {d__law_dip : FuncData} (G__law_dip : FnG P w K mg base 1 f__law_dip d__law_dip ["pail", "many"] (spD K dsDip)) (g__law_dip : mg "_law_dip" = some (.ref f__law_dip)) (k__law_dip : PySem.W.keepIn K (.ref f__law_dip) = true) (b__law_dip : Binds K d__law_dip ["pail", "many"] []) {f__law_no_table : Addr} {d__law_no_table : FuncData} (G__law_no_table : FnG P w K mg base 2 f__law_no_table d__law_no_table ["pail", "known"] (spD K dsNoTab)) (g__law_no_table : mg "_law_no_table" = some (.ref f__law_no_table)) (k__law_no_table : PySem.W.keepIn K (.ref f__law_no_table) = true) (b__law_no_table : Binds K d__law_no_table ["pail", "known"] []) {f__law_told : Addr} {d__law_told : FuncData} (G__law_told : FnG P w K mg base 7 f__law_told d__law_told ["way", "uno", "two", "three"] (spD K dsTold)) (g__law_told : mg "_law_told" = some (.ref f__law_told)) (k__law_told : PySem.W.keepIn K (.ref f__law_told) = true) (b__law_told : Binds K d__law_told ["way", "uno", "two", "three"] []) (m_len : mg "len" = none) (m_int : mg "int" = none) (m_range : mg "range" = none) (m_repr : mg "repr" = none) (m_tuple : mg "tuple" = none) {f : Addr} {fd : FuncData} (F : Fun K "_law_groups_right" "_law_groups_right" s__law_groups_right f fd) : FnG P w K mg base 8 f fd ["pail", "known"] (spD K dsGrp) := by
  refine FnG.of F sc__law_groups_right (fun as post h => by obtain ⟨_, _, _, _, h⟩ := h; rw [h.1]; rfl) fun cdv A outer s H vs fo as post hr hgu hD => ?_
  obtain ⟨n, t, N, dsE, rfl, hp, hn, ht, hN1, hN2, hq⟩ := hD
  have a0 : At (coreOf P w K mg base (A.deeper (envOfC "_law_groups_right" (defScope s__law_groups_right) s.heap.objs.size f cdv)) ["pail", "known", "bad", "late", "some", "due", "kept", "told", "way"] ((envOfC "_law_groups_right" (defScope s__law_groups_right) s.heap.objs.size f cdv) :: outer)) (varOf s H (envOfC "_law_groups_right" (defScope s__law_groups_right) s.heap.objs.size f cdv) outer) "pail" 0 := ⟨rfl, fun _ => by first | exact .inl rfl | exact .inr (.inl rfl), by decide, by decide⟩
  have s0 : AtS (coreOf P w K mg base (A.deeper (envOfC "_law_groups_right" (defScope s__law_groups_right) s.heap.objs.size f cdv)) ["pail", "known", "bad", "late", "some", "due", "kept", "told", "way"] ((envOfC "_law_groups_right" (defScope s__law_groups_right) s.heap.objs.size f cdv) :: outer)) (varOf s H (envOfC "_law_groups_right" (defScope s__law_groups_right) s.heap.objs.size f cdv) outer) "pail" 0 := ⟨sc__law_groups_right.nd, rfl, fun _ => by first | exact .inl rfl | exact .inr rfl, fun _ => .inl rfl⟩
  have a1 : At (coreOf P w K mg base (A.deeper (envOfC "_law_groups_right" (defScope s__law_groups_right) s.heap.objs.size f cdv)) ["pail", "known", "bad", "late", "some", "due", "kept", "told", "way"] ((envOfC "_law_groups_right" (defScope s__law_groups_right) s.heap.objs.size f cdv) :: outer)) (varOf s H (envOfC "_law_groups_right" (defScope s__law_groups_right) s.heap.objs.size f cdv) outer) "known" 1 := ⟨rfl, fun _ => by first | exact .inl rfl | exact .inr (.inl rfl), by decide, by decide⟩
  have s1 : AtS (coreOf P w K mg base (A.deeper (envOfC "_law_groups_right" (defScope s__law_groups_right) s.heap.objs.size f cdv)) ["pail", "known", "bad", "late", "some", "due", "kept", "told", "way"] ((envOfC "_law_groups_right" (defScope s__law_groups_right) s.heap.objs.size f cdv) :: outer)) (varOf s H (envOfC "_law_groups_right" (defScope s__law_groups_right) s.heap.objs.size f cdv) outer) "known" 1 := ⟨sc__law_groups_right.nd, rfl, fun _ => by first | exact .inl rfl | exact .inr rfl, fun _ => .inl rfl⟩
  have a2 : At (coreOf P w K mg base (A.deeper (envOfC "_law_groups_right" (defScope s__law_groups_right) s.heap.objs.size f cdv)) ["pail", "known", "bad", "late", "some", "due", "kept", "told", "way"] ((envOfC "_law_groups_right" (defScope s__law_groups_right) s.heap.objs.size f cdv) :: outer)) (varOf s H (envOfC "_law_groups_right" (defScope s__law_groups_right) s.heap.objs.size f cdv) outer) "bad" 2 := ⟨rfl, fun _ => by first | exact .inl rfl | exact .inr (.inl rfl), by decide, by decide⟩
  have s2 : AtS (coreOf P w K mg base (A.deeper (envOfC "_law_groups_right" (defScope s__law_groups_right) s.heap.objs.size f cdv)) ["pail", "known", "bad", "late", "some", "due", "kept", "told", "way"] ((envOfC "_law_groups_right" (defScope s__law_groups_right) s.heap.objs.size f cdv) :: outer)) (varOf s H (envOfC "_law_groups_right" (defScope s__law_groups_right) s.heap.objs.size f cdv) outer) "bad" 2 := ⟨sc__law_groups_right.nd, rfl, fun _ => by first | exact .inl rfl | exact .inr rfl, fun _ => .inl rfl⟩
  have a3 : At (coreOf P w K mg base (A.deeper (envOfC "_law_groups_right" (defScope s__law_groups_right) s.heap.objs.size f cdv)) ["pail", "known", "bad", "late", "some", "due", "kept", "told", "way"] ((envOfC "_law_groups_right" (defScope s__law_groups_right) s.heap.objs.size f cdv) :: outer)) (varOf s H (envOfC "_law_groups_right" (defScope s__law_groups_right) s.heap.objs.size f cdv) outer) "late" 3 := ⟨rfl, fun _ => by first | exact .inl rfl | exact .inr (.inl rfl), by decide, by decide⟩
  have s3 : AtS (coreOf P w K mg base (A.deeper (envOfC "_law_groups_right" (defScope s__law_groups_right) s.heap.objs.size f cdv)) ["pail", "known", "bad", "late", "some", "due", "kept", "told", "way"] ((envOfC "_law_groups_right" (defScope s__law_groups_right) s.heap.objs.size f cdv) :: outer)) (varOf s H (envOfC "_law_groups_right" (defScope s__law_groups_right) s.heap.objs.size f cdv) outer) "late" 3 := ⟨sc__law_groups_right.nd, rfl, fun _ => by first | exact .inl rfl | exact .inr rfl, fun _ => .inl rfl⟩
  have a4 : At (coreOf P w K mg base (A.deeper (envOfC "_law_groups_right" (defScope s__law_groups_right) s.heap.objs.size f cdv)) ["pail", "known", "bad", "late", "some", "due", "kept", "told", "way"] ((envOfC "_law_groups_right" (defScope s__law_groups_right) s.heap.objs.size f cdv) :: outer)) (varOf s H (envOfC "_law_groups_right" (defScope s__law_groups_right) s.heap.objs.size f cdv) outer) "some" 4 := ⟨rfl, fun _ => by first | exact .inl rfl | exact .inr (.inl rfl), by decide, by decide⟩
  have s4 : AtS (coreOf P w K mg base (A.deeper (envOfC "_law_groups_right" (defScope s__law_groups_right) s.heap.objs.size f cdv)) ["pail", "known", "bad", "late", "some", "due", "kept", "told", "way"] ((envOfC "_law_groups_right" (defScope s__law_groups_right) s.heap.objs.size f cdv) :: outer)) (varOf s H (envOfC "_law_groups_right" (defScope s__law_groups_right) s.heap.objs.size f cdv) outer) "some" 4 := ⟨sc__law_groups_right.nd, rfl, fun _ => by first | exact .inl rfl | exact .inr rfl, fun _ => .inl rfl⟩
  have a5 : At (coreOf P w K mg base (A.deeper (envOfC "_law_groups_right" (defScope s__law_groups_right) s.heap.objs.size f cdv)) ["pail", "known", "bad", "late", "some", "due", "kept", "told", "way"] ((envOfC "_law_groups_right" (defScope s__law_groups_right) s.heap.objs.size f cdv) :: outer)) (varOf s H (envOfC "_law_groups_right" (defScope s__law_groups_right) s.heap.objs.size f cdv) outer) "due" 5 := ⟨rfl, fun _ => by first | exact .inl rfl | exact .inr (.inl rfl), by decide, by decide⟩
  have s5 : AtS (coreOf P w K mg base (A.deeper (envOfC "_law_groups_right" (defScope s__law_groups_right) s.heap.objs.size f cdv)) ["pail", "known", "bad", "late", "some", "due", "kept", "told", "way"] ((envOfC "_law_groups_right" (defScope s__law_groups_right) s.heap.objs.size f cdv) :: outer)) (varOf s H (envOfC "_law_groups_right" (defScope s__law_groups_right) s.heap.objs.size f cdv) outer) "due" 5 := ⟨sc__law_groups_right.nd, rfl, fun _ => by first | exact .inl rfl | exact .inr rfl, fun _ => .inl rfl⟩
  have a6 : At (coreOf P w K mg base (A.deeper (envOfC "_law_groups_right" (defScope s__law_groups_right) s.heap.objs.size f cdv)) ["pail", "known", "bad", "late", "some", "due", "kept", "told", "way"] ((envOfC "_law_groups_right" (defScope s__law_groups_right) s.heap.objs.size f cdv) :: outer)) (varOf s H (envOfC "_law_groups_right" (defScope s__law_groups_right) s.heap.objs.size f cdv) outer) "kept" 6 := ⟨rfl, fun _ => by first | exact .inl rfl | exact .inr (.inl rfl), by decide, by decide⟩
  have s6 : AtS (coreOf P w K mg base (A.deeper (envOfC "_law_groups_right" (defScope s__law_groups_right) s.heap.objs.size f cdv)) ["pail", "known", "bad", "late", "some", "due", "kept", "told", "way"] ((envOfC "_law_groups_right" (defScope s__law_groups_right) s.heap.objs.size f cdv) :: outer)) (varOf s H (envOfC "_law_groups_right" (defScope s__law_groups_right) s.heap.objs.size f cdv) outer) "kept" 6 := ⟨sc__law_groups_right.nd, rfl, fun _ => by first | exact .inl rfl | exact .inr rfl, fun _ => .inl rfl⟩
  have a7 : At (coreOf P w K mg base (A.deeper (envOfC "_law_groups_right" (defScope s__law_groups_right) s.heap.objs.size f cdv)) ["pail", "known", "bad", "late", "some", "due", "kept", "told", "way"] ((envOfC "_law_groups_right" (defScope s__law_groups_right) s.heap.objs.size f cdv) :: outer)) (varOf s H (envOfC "_law_groups_right" (defScope s__law_groups_right) s.heap.objs.size f cdv) outer) "told" 7 := ⟨rfl, fun _ => by first | exact .inl rfl | exact .inr (.inl rfl), by decide, by decide⟩
  have s7 : AtS (coreOf P w K mg base (A.deeper (envOfC "_law_groups_right" (defScope s__law_groups_right) s.heap.objs.size f cdv)) ["pail", "known", "bad", "late", "some", "due", "kept", "told", "way"] ((envOfC "_law_groups_right" (defScope s__law_groups_right) s.heap.objs.size f cdv) :: outer)) (varOf s H (envOfC "_law_groups_right" (defScope s__law_groups_right) s.heap.objs.size f cdv) outer) "told" 7 := ⟨sc__law_groups_right.nd, rfl, fun _ => by first | exact .inl rfl | exact .inr rfl, fun _ => .inl rfl⟩
  show BD _ _ _ _ _ [.ow dsE, .dt (.tup (tbD t N)), .un, .un, .un, .un, .un, .un, .un]
  have hu := units_of hr
  have last : ∀ (b0 b1 : Bool) (x u : Dt) (ds : List Dt), Late b1 x → Good u → isHist u = (!b0) → (isHist u = true → nOf u ≤ 900) → Pail (n + 30) ds → BD (coreOf P w K mg base (A.deeper (envOfC "_law_groups_right" (defScope s__law_groups_right) s.heap.objs.size f cdv)) ["pail", "known", "bad", "late", "some", "due", "kept", "told", "way"] ((envOfC "_law_groups_right" (defScope s__law_groups_right) s.heap.objs.size f cdv) :: outer)) (varOf s H (envOfC "_law_groups_right" (defScope s__law_groups_right) s.heap.objs.size f cdv) outer) (Ent.call H [.ow dsE, .dt (.tup (tbD t N))] vs fo 9) ((defBody s__law_groups_right).drop 5) { nx := fun Γ => post (.dt .non) (outsA [.ow dsE, .dt (.tup (tbD t N))] Γ), rt := fun a Γ => post a (outsA [.ow dsE, .dt (.tup (tbD t N))] Γ) } [.ow ds, .dt (.tup (tbD t N)), .ow [.bl b0, .bl b1], .dt x, .dt u, .un, .un, .un, .un] := by
    intro b0 b1 x u ds cx hgood hh h9 hp
    obtain ⟨pu, hsu⟩ := hgood.2
    have hgu3 := hgood.1
    obtain ⟨px, hsx, hbx⟩ := cx.sh
    have fin : BD (coreOf P w K mg base (A.deeper (envOfC "_law_groups_right" (defScope s__law_groups_right) s.heap.objs.size f cdv)) ["pail", "known", "bad", "late", "some", "due", "kept", "told", "way"] ((envOfC "_law_groups_right" (defScope s__law_groups_right) s.heap.objs.size f cdv) :: outer)) (varOf s H (envOfC "_law_groups_right" (defScope s__law_groups_right) s.heap.objs.size f cdv) outer) (Ent.call H [.ow dsE, .dt (.tup (tbD t N))] vs fo 9) ((defBody s__law_groups_right).drop 6) { nx := fun Γ => post (.dt .non) (outsA [.ow dsE, .dt (.tup (tbD t N))] Γ), rt := fun a Γ => post a (outsA [.ow dsE, .dt (.tup (tbD t N))] Γ) } [.ow ds, .dt (.tup (tbD t N)), .ow [.bl b0, .bl b1], .dt x, .dt u, .dt (.str (if b0 then "history" else if b1 then "day" else "fine")), .un, .un, .un] := by
      refine (bd_cons (sd_set 6 s6 (fun _ => rfl) (lt1 rfl) (nl rfl) (ed_reprL hgu hu (fun _ => rfl) m_repr (fun _ => rfl) (ek_ed (ed_lst (ea_cons (fun _ => rfl) (ek_ed (ed_name 4 a4 rfl (ea_cons (fun _ => rfl) (ek_ed (ed_name 3 a3 rfl (ea_nil ⟨_, rfl, le1 rfl, ⟨_, _, _, _, rfl, .cons hsu (.cons hsx .nil), bulk2 hsu.bu hbx, ?_⟩⟩))))))))))))
      refine (bd_cons (sd_if (td_wd (wd_or (td_ne hu (ek_ed (ed_lc (own := [("way", 8)]) sc__law_groups_right.nd (fun _ => blkOk_by rfl) (fun _ _ => rfl) (nls rfl) (src_T (ek_ed (ed_tup (ea_cons (fun _ => rfl) (ek_ed (ed_int (ea_cons (fun _ => rfl) (ek_ed (ed_int (ea_nil ⟨_, rfl, le1 rfl, ⟨_, rfl, ⟨?_, (fun j acc Γ => acc = List.replicate j (.str (if b0 then "history" else if b1 then "day" else "fine")) ∧ Γ = [AV.ow ds, .dt (.tup (tbD t N)), .ow [.bl b0, .bl b1], .dt x, .dt u, .dt (.str (if b0 then "history" else if b1 then "day" else "fine")), .dt (.str (PyData.list [pu, px]).shown), .un, .un]), ?_, ?_, ?_⟩⟩⟩)))))))))))))))))
      · exact le1 rfl
      · exact ⟨rfl, rfl⟩
      · rintro j d acc Γ2 hj ⟨rfl, rfl⟩
        obtain ⟨way, rfl, hway⟩ : ∃ way : Int, d = .int way ∧ (way = 3 ∨ way = 4) := by
          have := List.mem_of_getElem? hj
          simp only [List.mem_reverse, List.mem_cons, List.not_mem_nil, or_false] at this
          rcases this with rfl | rfl
          · exact ⟨4, rfl, .inr rfl⟩
          · exact ⟨3, rfl, .inl rfl⟩
        refine ⟨_, (by decide), fun g ff => (gd_name 8 (ats_of sc__law_groups_right.nd rfl (fun _ => rfl) (fun _ => rfl)) (lt1 rfl) (nl rfl) (ts_nil ⟨fun _ => (ed_call G__law_told (hr.mono (by decide)) hgu (fun _ => rfl) g__law_told k__law_told b__law_told (by decide) (fun _ => rfl) (fun _ => rfl) (ea_cons (fun _ => rfl) (ek_ed (ed_name 8 (at_of rfl (fun _ => rfl) rfl rfl) rfl (ea_cons (fun _ => rfl) (ek_ed (ed_name 4 (at_of rfl (fun _ => rfl) rfl rfl) rfl (ea_cons (fun _ => rfl) (ek_ed (ed_name 3 (at_of rfl (fun _ => rfl) rfl rfl) rfl (ea_cons (fun _ => rfl) (ek_ed (ed_non (ea_nil ⟨_, rfl, rfl, ⟨_, u, x, .non, _, rfl, hgu3, .inr (.inr ⟨hway, cx.knd, h9, (grpR_late hh cx).symm⟩), fun _ => ⟨_, rfl, ?_⟩⟩⟩)))))))))))))), fun hif => nomatch hif⟩))⟩
        exact ⟨(List.replicate_succ' ..).symm, rfl⟩
      · rintro acc Γ2 ⟨rfl, rfl⟩
        cases b0 <;> cases b1
        all_goals
          refine (ek_ed (ed_lst (ea_cons (fun _ => rfl) (ek_ed (ed_name 5 a5 rfl (ea_cons (fun _ => rfl) (ek_ed (ed_name 5 a5 rfl (ea_nil ⟨_, rfl, le1 rfl, (EqT.mk rfl rfl rfl rfl ⟨by decide +kernel, by decide +kernel⟩ ⟨fun hif => (wd_or1 (td_neS (ek_ed (ed_reprL hgu hu (fun _ => rfl) m_repr (fun _ => rfl) (ek_ed (ed_lst (ea_cons (fun _ => rfl) (ek_ed (ed_name 4 a4 rfl (ea_cons (fun _ => rfl) (ek_ed (ed_name 3 a3 rfl (ea_nil ⟨_, rfl, le1 rfl, ⟨_, _, _, _, rfl, .cons hsu (.cons hsx .nil), bulk2 hsu.bu hbx, (ek_ed (ed_name 6 a6 rfl ⟨_, _, rfl, rfl, ⟨fun hif => ?_, fun hif => (bd_nil ?_)⟩⟩))⟩⟩))))))))))))), fun hif => ⟨fun hit => ?_, fun hit => (nomatch hit)⟩⟩)⟩)))))))))
          · exact absurd hif (by simp)
          · refine (bd_cons (sd_set 7 s7 (fun _ => rfl) (lt1 rfl) (nl rfl) (ed_lst (ea_cons (fun _ => rfl) (ek_ed (ed_call G__law_told (hr.mono (by decide)) hgu (fun _ => rfl) g__law_told k__law_told b__law_told (by decide) (fun _ => rfl) (fun _ => rfl) (ea_cons (fun _ => rfl) (ek_ed (ed_int (ea_cons (fun _ => rfl) (ek_ed (ed_call G__law_no_table (hr.mono (by decide)) hgu (fun _ => rfl) g__law_no_table k__law_no_table b__law_no_table (by decide) (fun _ => rfl) (fun _ => rfl) (ea_cons (fun _ => rfl) (ek_loan 0 a0 rfl (ea_cons (fun _ => rfl) (ek_ed (ed_name 1 a1 rfl (ea_nil ⟨_, rfl, rfl, ⟨_, _, _, rfl, hp, (by omega), (by rw [tbD_len]; exact hN1), (by rw [tbD_len]; exact hN2), rows_tb hN2 ht, fun u ds hgood htbl hp => fun _ => (ea_cons (fun _ => rfl) (ek_ed (ed_non (ea_cons (fun _ => rfl) (ek_ed (ed_non (ea_nil ⟨_, rfl, rfl, ⟨_, _, .non, .non, _, rfl, hgood.1, .inr (.inl ⟨rfl, (tblR_1 htbl).symm⟩), fun _ => (ea_cons (fun _ => rfl) (ek_ed (ed_call G__law_told (hr.mono (by decide)) hgu (fun _ => rfl) g__law_told k__law_told b__law_told (by decide) (fun _ => rfl) (fun _ => rfl) (ea_cons (fun _ => rfl) (ek_ed (ed_int (ea_cons (fun _ => rfl) (ek_ed (ed_name 1 a1 rfl (ea_cons (fun _ => rfl) (ek_ed (ed_non (ea_cons (fun _ => rfl) (ek_ed (ed_non (ea_nil ⟨_, rfl, rfl, ⟨_, _, .non, .non, _, rfl, (knd_tb _ (by omega)), .inr (.inl ⟨rfl, (tblR_2 (isTbl_tb (by omega) fun j i h1 h2 => (ht.2 j i h1 h2).1)).symm⟩), fun _ => (ea_nil ⟨_, rfl, le1 rfl, (bd_cons (sd_ret (ed_eq hu (ek_loan 7 a7 rfl (ek_ed (ed_lst (ea_cons (fun _ => rfl) (ek_ed (ed_str (ea_cons (fun _ => rfl) (ek_ed (ed_str (ea_nil ⟨_, rfl, le1 rfl, (EqR.mk rfl rfl rfl rfl ⟨by decide +kernel, by decide +kernel⟩ ?_)⟩)))))))))))))⟩)⟩⟩))))))))))))))))⟩⟩)))))))⟩⟩))))))))))))))))))
            show post (.dt (.bl (id (PyData.eqv (.list [.str "table", .str "fine"]) (.list [.str "table", .str "fine"]))))) [.ow ds, .un]
            rw [show PyData.eqv (.list [.str "table", .str "fine"]) (.list [.str "table", .str "fine"]) = true by decide +kernel]
            exact hq _ (hp.mono (by omega))
          · exact absurd hif (by decide +kernel)
    cases b0 <;> cases b1
    all_goals
      refine (bd_cons (sd_set 5 s5 (fun _ => rfl) (lt1 rfl) (nl rfl) (ed_ixD (fun _ _ => rfl) (ek_ed (ed_add (ek_ed (ed_add (ek_ed (ed_mul (ek_ed (ed_lst (ea_cons (fun _ => rfl) (ek_ed (ed_str (ea_nil ⟨_, rfl, le1 rfl, (ek_ed (ed_intB (fun _ => rfl) m_int (fun _ => rfl) (ek_ed (ed_ixD (fun _ _ => rfl) (ek_loan 2 a2 rfl (ek_ed (ed_int (IxD.mk rfl rfl rfl ⟨_, rfl, (MulR.rep rfl rfl rfl (by first | decide | exact le1 rfl) (ek_ed (ed_mul (ek_ed (ed_lst (ea_cons (fun _ => rfl) (ek_ed (ed_str (ea_nil ⟨_, rfl, le1 rfl, (ek_ed (ed_intB (fun _ => rfl) m_int (fun _ => rfl) (ek_ed (ed_ixD (fun _ _ => rfl) (ek_loan 2 a2 rfl (ek_ed (ed_int (IxD.mk rfl rfl rfl ⟨_, rfl, (MulR.rep rfl rfl rfl (by first | decide | exact le1 rfl) (AddR.lst rfl rfl rfl rfl (by first | decide | exact le1 rfl) (ek_ed (ed_lst (ea_cons (fun _ => rfl) (ek_ed (ed_str (ea_nil ⟨_, rfl, le1 rfl, (AddR.lst rfl rfl rfl rfl (by first | decide | exact le1 rfl) (ek_ed (ed_int (IxD.mk rfl rfl rfl ?_))))⟩))))))))⟩))))))))⟩)))))))))⟩))))))))⟩)))))))))))))))
      exact fin
  have mid : ∀ (b0 b1 : Bool) (x : Dt) (ds : List Dt), Late b1 x → Pail (n + 10) ds → BD (coreOf P w K mg base (A.deeper (envOfC "_law_groups_right" (defScope s__law_groups_right) s.heap.objs.size f cdv)) ["pail", "known", "bad", "late", "some", "due", "kept", "told", "way"] ((envOfC "_law_groups_right" (defScope s__law_groups_right) s.heap.objs.size f cdv) :: outer)) (varOf s H (envOfC "_law_groups_right" (defScope s__law_groups_right) s.heap.objs.size f cdv) outer) (Ent.call H [.ow dsE, .dt (.tup (tbD t N))] vs fo 9) ((defBody s__law_groups_right).drop 3) { nx := fun Γ => post (.dt .non) (outsA [.ow dsE, .dt (.tup (tbD t N))] Γ), rt := fun a Γ => post a (outsA [.ow dsE, .dt (.tup (tbD t N))] Γ) } [.ow ds, .dt (.tup (tbD t N)), .ow [.bl b0, .bl b1], .dt x, .un, .un, .un, .un, .un] := by
    intro b0 b1 x ds cx hp
    refine (bd_cons (sd_set 4 s4 (fun _ => rfl) (lt1 rfl) (nl rfl) (ed_name 1 a1 rfl ?_)))
    refine (bd_cons (sd_if (td_val (fun _ _ => rfl) (ed_ixD (fun _ _ => rfl) (ek_loan 2 a2 rfl (ek_ed (ed_int (IxD.mk rfl rfl rfl ⟨_, rfl, ⟨fun hif => (bd_cons (sd_set 4 s4 (fun _ => rfl) (lt1 rfl) (nl rfl) (ed_lst (ea_cons (fun _ => rfl) (ek_ed (ed_call G__law_no_table (hr.mono (by decide)) hgu (fun _ => rfl) g__law_no_table k__law_no_table b__law_no_table (by decide) (fun _ => rfl) (fun _ => rfl) (ea_cons (fun _ => rfl) (ek_loan 0 a0 rfl (ea_cons (fun _ => rfl) (ek_ed (ed_name 1 a1 rfl (ea_nil ⟨_, rfl, rfl, ⟨_, _, _, rfl, hp, (by omega), (by rw [tbD_len]; exact hN1), (by rw [tbD_len]; exact hN2), rows_tb hN2 ht, fun u ds hgood htbl hp => fun _ => (ea_cons (fun _ => rfl) (ek_ed (ed_tup (ea_cons (fun _ => rfl) (ek_ed (ed_tup (ea_nil ⟨_, rfl, le1 rfl, (ea_cons (fun _ => rfl) (ek_ed (ed_tup (ea_cons (fun _ => rfl) (ek_ed (ed_int (ea_nil ⟨_, rfl, le1 rfl, (ea_cons (fun _ => rfl) (ek_ed (ed_tup (ea_cons (fun _ => rfl) (ek_ed (ed_int (ea_cons (fun _ => rfl) (ek_ed (ed_int (ea_nil ⟨_, rfl, le1 rfl, (ea_nil ⟨_, rfl, le1 rfl, (ea_cons (fun _ => rfl) (ek_ed (ed_add (ek_ed (ed_name 1 a1 rfl (ek_ed (ed_tup (ea_cons (fun _ => rfl) (ek_ed (ed_tupRg (fun _ => rfl) m_tuple (fun _ => rfl) m_range (fun _ => rfl) (fun _ => rfl) (fun _ => rfl) (fun _ => rfl) (ek_ed (ed_int (ek_ed (ed_add (ek_ed (ed_int (ek_ed (ed_len (fun _ => rfl) m_len (fun _ => rfl) (ek_ed (ed_name 1 a1 rfl ⟨_, rfl, (AddR.int rfl rfl ⟨_, _, rfl, rfl, ?_, (ea_nil ⟨_, rfl, le1 rfl, (AddR.tup rfl rfl ?_ (ea_nil ⟨_, rfl, le1 rfl, ?_⟩))⟩)⟩)⟩))))))))))))))))))))⟩)⟩))))))))))⟩)))))))⟩)))))))⟩⟩)))))))))))), fun hif => (bd_nil ?_)⟩⟩))))))))
    · rw [tbD_len]; exact ⟨by omega, by omega, by omega, by omega⟩
    · rw [tbD_len]; show N + 1 ≤ 1000; omega
    · have eN : (5 + ((tbD t N).length : Int) - 5).toNat = N := by rw [tbD_len]; omega
      rw [eN]
      subst hif
      show BD _ _ _ _ _ [.ow ds, .dt (.tup (tbD t N)), .ow [.bl true, .bl b1], .dt x, .ow [u, litN, .tup (tbD t N ++ [.tup (rngD 5 N)])], .un, .un, .un, .un]
      refine (bd_cons (sd_set 4 s4 (fun _ => rfl) (lt1 rfl) (nl rfl) (ed_ixD (fun _ _ => rfl) (ek_loan 4 a4 rfl (ek_ed (ed_call G__law_dip (hr.mono (by decide)) hgu (fun _ => rfl) g__law_dip k__law_dip b__law_dip (by decide) (fun _ => rfl) (fun _ => rfl) (ea_cons (fun _ => rfl) (ek_loan 0 a0 rfl (ea_cons (fun _ => rfl) (ek_ed (ed_add (ek_ed (ed_int (ek_ed (ed_intB (fun _ => rfl) m_int (fun _ => rfl) (ek_ed (ed_and (ed_gt (ek_ed (ed_len (fun _ => rfl) m_len (fun _ => rfl) (ek_ed (ed_name 1 a1 rfl ⟨_, rfl, (ek_ed (ed_int (CmpR.mk rfl rfl ⟨_, rfl, fun hif => (ed_bool1 (ed_eqI (ek_ed (ed_ixD (fun _ _ => rfl) (ek_ed (ed_ixD (fun _ _ => rfl) (ek_ed (ed_name 1 a1 rfl (ek_ed (ed_int (IxD.mk rfl rfl (tbD_at (j := 2) (by have z := of_decide_eq_true hif; rw [tbD_len] at z; omega)) (ek_ed (ed_int (IxD.mk rfl rfl (rowD_at (i := 1) (j := 2) (by decide)) (ek_ed (ed_int (CmpR.mk rfl rfl ⟨_, rfl, (AddR.int rfl rfl (ea_nil ⟨_, rfl, rfl, ⟨_, _, _, rfl, hp, (by omega), (by first | decide | omega | (split <;> decide)), (by first | decide | omega | (split <;> decide)), fun r9 ds ha9 hb9 hp => fun _ => (IxD.mk rfl rfl (atI_getD ha9 (by show r9 < 3; first | omega | (split at hb9 <;> omega))) (bd_nil ?_))⟩⟩))⟩))))))))))))))))), fun hif => ⟨_, rfl, (AddR.int rfl rfl (ea_nil ⟨_, rfl, rfl, ⟨_, _, _, rfl, hp, (by omega), (by first | decide | omega | (split <;> decide)), (by first | decide | omega | (split <;> decide)), fun r9 ds ha9 hb9 hp => fun _ => (IxD.mk rfl rfl (atI_getD ha9 (by show r9 < 3; first | omega | (split at hb9 <;> omega))) (bd_nil ?_))⟩⟩))⟩⟩)))⟩))))))))))))))))))))))
      · have h3 : 2 < N := by have z := of_decide_eq_true ‹decide (((tbD t N).length : Int) > 2) = true›; rw [tbD_len] at z; omega
        have pk := pick3 (t := t) (N := N) ⟨hgood, no_tbl htbl⟩ ha9 (by split at hb9 <;> omega) (fun e => ⟨h3, by
          split at hb9
          · exact of_decide_eq_true ‹_›
          · omega⟩) hN2 ht
        exact last _ _ _ _ _ cx pk.1 pk.2 (fun z => absurd z (by rw [pk.2]; decide)) (hp.mono (by omega))
      · have z9 : r9 < 2 := by simpa using hb9
        have pk := pick3 (t := t) (N := N) ⟨hgood, no_tbl htbl⟩ ha9 (by omega) (fun e => absurd e (by omega)) hN2 ht
        exact last _ _ _ _ _ cx pk.1 pk.2 (fun z => absurd z (by rw [pk.2]; decide)) (hp.mono (by omega))
    · subst hif
      exact last _ _ _ _ _ cx (good_tb hN2 ht) (isHist_tb (by omega) ht) (fun _ => by rw [nOf_tb]; omega) (hp.mono (by omega))
  refine (bd_cons (sd_set 2 s2 (fun _ => rfl) (lt1 rfl) (nl rfl) (ed_lst (ea_cons (fun _ => rfl) (ek_ed (ed_eqI (ek_ed (ed_call G__law_dip (hr.mono (by decide)) hgu (fun _ => rfl) g__law_dip k__law_dip b__law_dip (by decide) (fun _ => rfl) (fun _ => rfl) (ea_cons (fun _ => rfl) (ek_loan 0 a0 rfl (ea_cons (fun _ => rfl) (ek_ed (ed_int (ea_nil ⟨_, rfl, rfl, ⟨_, _, _, rfl, hp, (by omega), (by first | decide | omega | (split <;> decide)), (by first | decide | omega | (split <;> decide)), fun r3 ds ha3 hb3 hp => fun _ => (ek_ed (ed_int (CmpR.mk rfl rfl (ea_cons (fun _ => rfl) (ek_ed (ed_eqI (ek_ed (ed_call G__law_dip (hr.mono (by decide)) hgu (fun _ => rfl) g__law_dip k__law_dip b__law_dip (by decide) (fun _ => rfl) (fun _ => rfl) (ea_cons (fun _ => rfl) (ek_loan 0 a0 rfl (ea_cons (fun _ => rfl) (ek_ed (ed_int (ea_nil ⟨_, rfl, rfl, ⟨_, _, _, rfl, hp, (by omega), (by first | decide | omega | (split <;> decide)), (by first | decide | omega | (split <;> decide)), fun r2 ds ha2 hb2 hp => fun _ => (ek_ed (ed_int (CmpR.mk rfl rfl (ea_nil ⟨_, rfl, le1 rfl, (bd_cons (sd_set 3 s3 (fun _ => rfl) (lt1 rfl) (nl rfl) (ed_call G__law_dip (hr.mono (by decide)) hgu (fun _ => rfl) g__law_dip k__law_dip b__law_dip (by decide) (fun _ => rfl) (fun _ => rfl) (ea_cons (fun _ => rfl) (ek_loan 0 a0 rfl (ea_cons (fun _ => rfl) (ek_ed (ed_int (ea_nil ⟨_, rfl, rfl, ⟨_, _, _, rfl, hp, (by omega), (by first | decide | omega | (split <;> decide)), (by first | decide | omega | (split <;> decide)), fun r1 ds ha1 hb1 hp => fun _ => ?_⟩⟩)))))))))⟩))))⟩⟩))))))))))))))⟩⟩))))))))))))))
  generalize decide (r2 = 0) = b1
  generalize decide (r3 = 0) = b0
  refine (bd_cons (sd_if (td_val (fun _ _ => rfl) (ed_ixD (fun _ _ => rfl) (ek_loan 2 a2 rfl (ek_ed (ed_int (IxD.mk rfl rfl rfl ⟨_, rfl, ⟨fun hif => (bd_cons (sd_set 3 s3 (fun _ => rfl) (lt1 rfl) (nl rfl) (ed_ixD (fun _ _ => rfl) (ek_ed (ed_lst (ea_cons (fun _ => rfl) (ek_ed (ed_non (ea_cons (fun _ => rfl) (ek_ed (ed_neg (ed_int ⟨_, rfl, (ea_cons (fun _ => rfl) (ek_ed (ed_bl (ea_cons (fun _ => rfl) (ek_ed (ed_bl (ea_cons (fun _ => rfl) (ek_ed (ed_str (ea_cons (fun _ => rfl) (ek_ed (ed_tup (ea_cons (fun _ => rfl) (ek_ed (ed_int (ea_nil ⟨_, rfl, le1 rfl, (ea_cons (fun _ => rfl) (ek_ed (ed_lst (ea_cons (fun _ => rfl) (ek_ed (ed_int (ea_nil ⟨_, rfl, le1 rfl, (ea_cons (fun _ => rfl) (ek_ed (ed_dict0 (ea_cons (fun _ => rfl) (ek_ed (ed_sub (ek_ed (ed_int (ek_ed (ed_pow (ek_ed (ed_int (ek_ed (ed_int (IntR.mk rfl rfl ?_ (IntR.mk rfl rfl trivial (ea_nil ⟨_, rfl, le1 rfl, (ek_ed (ed_name 3 a3 rfl (IxD.mk rfl rfl (atI_getD ha1 (by exact hb1)) (bd_nil ?_))))⟩)))))))))))))))))⟩)))))))⟩))))))))))))))))⟩)))))))))))), fun hif => (bd_nil ?_)⟩⟩))))))))
  · exact powW_ok (n := 10) (by decide) (by decide) (by decide)
  · subst hif
    exact mid _ _ _ _ (getD_all (l := latesD) lates ha1 (by exact hb1)) (hp.mono (by omega))
  · subst hif
    exact mid _ _ _ _ (late_int ha1 hb1) (hp.mono (by omega))
end
end K03

namespace K03
open PySem PySem.Spec PyProof.Rows L2 DL
abbrev s_law : Stmt := topS 51
theorem sc_law : FnScope ["script", "at", "pail", "turn", "known"] ["script"] (defScope s_law) := ⟨rfl, rfl, rfl, by decide +kernel, rfl, by decide +kernel, by decide +kernel⟩

def dsMade : DSp := fun as post => as = [] ∧ post (.dt (.bl true)) []
def dsLaw : DSp := fun as post => ∃ ns : List Int, as = [.dt (.scr ns)] ∧ ns.length ≤ 63 ∧ post (.dt (.bl true)) [.un]
theorem pick419 (b : Bool) : atI [Dt.int 4, Dt.int 19] (if b then 1 else 0) = some (Dt.int (if b then 19 else 4)) := by cases b <;> rfl
def oneD : Dt := .tup [.tup []]
theorem good_one1 : Good oneD := good_rows (by decide) fun e he => by rw [List.mem_singleton.mp he]; exact ⟨[], rfl, by decide, fun x hx => by cases hx⟩
theorem one_same : dayR oneD (.int 0) (.int 0) = "same" := by decide +kernel
theorem one_item : dayR oneD (.int 0) (.int 1) = "item" := by decide +kernel
section
variable {P : Program} {w : World}
variable {K : PySem.W.Frag}
variable {mg : Str → Option Value} {base : Heap}
theorem ok_law {f__law_pail : Addr} {d__law_pail : FuncData} (G__law_pail : FnG P w K mg base 1 f__law_pail d__law_pail ["script", "at"] (spD K dsPail)) (g__law_pail : mg "_law_pail" = some (.ref f__law_pail)) (k__law_pail : PySem.W.keepIn K (.ref f__law_pail) = true) (b__law_pail : Binds K d__law_pail ["script", "at"] []) {f__law_dip : Addr} {d__law_dip : FuncData} (G__law_dip : FnG P w K mg base 1 f__law_dip d__law_dip ["pail", "many"] (spD K dsDip)) (g__law_dip : mg "_law_dip" = some (.ref f__law_dip)) (k__law_dip : PySem.W.keepIn K (.ref f__law_dip) = true) (b__law_dip : Binds K d__law_dip ["pail", "many"] []) {f__law_grown : Addr} {d__law_grown : FuncData} (G__law_grown : FnG P w K mg base 3 f__law_grown d__law_grown ["pail", "many"] (spD K dsGrown)) (g__law_grown : mg "_law_grown" = some (.ref f__law_grown)) (k__law_grown : PySem.W.keepIn K (.ref f__law_grown) = true) (b__law_grown : Binds K d__law_grown ["pail", "many"] []) {f__law_items_right : Addr} {d__law_items_right : FuncData} (G__law_items_right : FnG P w K mg base 8 f__law_items_right d__law_items_right ["pail", "known"] (spD K dsItems)) (g__law_items_right : mg "_law_items_right" = some (.ref f__law_items_right)) (k__law_items_right : PySem.W.keepIn K (.ref f__law_items_right) = true) (b__law_items_right : Binds K d__law_items_right ["pail", "known"] []) {f__law_groups_right : Addr} {d__law_groups_right : FuncData} (G__law_groups_right : FnG P w K mg base 8 f__law_groups_right d__law_groups_right ["pail", "known"] (spD K dsGrp)) (g__law_groups_right : mg "_law_groups_right" = some (.ref f__law_groups_right)) (k__law_groups_right : PySem.W.keepIn K (.ref f__law_groups_right) = true) (b__law_groups_right : Binds K d__law_groups_right ["pail", "known"] []) {f__law_made_right : Addr} {d__law_made_right : FuncData} (G__law_made_right : FnG P w K mg base 8 f__law_made_right d__law_made_right [] (spD K dsMade)) (g__law_made_right : mg "_law_made_right" = some (.ref f__law_made_right)) (k__law_made_right : PySem.W.keepIn K (.ref f__law_made_right) = true) (b__law_made_right : Binds K d__law_made_right [] []) {f__law_told : Addr} {d__law_told : FuncData} (G__law_told : FnG P w K mg base 7 f__law_told d__law_told ["way", "uno", "two", "three"] (spD K dsTold)) (g__law_told : mg "_law_told" = some (.ref f__law_told)) (k__law_told : PySem.W.keepIn K (.ref f__law_told) = true) (b__law_told : Binds K d__law_told ["way", "uno", "two", "three"] []) (m_range : mg "range" = none) (m_max : mg "max" = none) (m_min : mg "min" = none) (m_len : mg "len" = none) (m_int : mg "int" = none) {f : Addr} {fd : FuncData} (F : Fun K "law" "law" s_law f fd) : FnG P w K mg base 9 f fd ["script"] (spD K dsLaw) := by
  refine FnG.of F sc_law (fun as post h => by obtain ⟨_, h⟩ := h; rw [h.1]; rfl) fun cdv A outer s H vs fo as post hr hgu hD => ?_
  obtain ⟨ns, rfl, hns, hq⟩ := hD
  have a0 : At (coreOf P w K mg base (A.deeper (envOfC "law" (defScope s_law) s.heap.objs.size f cdv)) ["script", "at", "pail", "turn", "known"] ((envOfC "law" (defScope s_law) s.heap.objs.size f cdv) :: outer)) (varOf s H (envOfC "law" (defScope s_law) s.heap.objs.size f cdv) outer) "script" 0 := ⟨rfl, fun _ => by first | exact .inl rfl | exact .inr (.inl rfl), by decide, by decide⟩
  have s0 : AtS (coreOf P w K mg base (A.deeper (envOfC "law" (defScope s_law) s.heap.objs.size f cdv)) ["script", "at", "pail", "turn", "known"] ((envOfC "law" (defScope s_law) s.heap.objs.size f cdv) :: outer)) (varOf s H (envOfC "law" (defScope s_law) s.heap.objs.size f cdv) outer) "script" 0 := ⟨sc_law.nd, rfl, fun _ => by first | exact .inl rfl | exact .inr rfl, fun _ => .inl rfl⟩
  have a1 : At (coreOf P w K mg base (A.deeper (envOfC "law" (defScope s_law) s.heap.objs.size f cdv)) ["script", "at", "pail", "turn", "known"] ((envOfC "law" (defScope s_law) s.heap.objs.size f cdv) :: outer)) (varOf s H (envOfC "law" (defScope s_law) s.heap.objs.size f cdv) outer) "at" 1 := ⟨rfl, fun _ => by first | exact .inl rfl | exact .inr (.inl rfl), by decide, by decide⟩
  have s1 : AtS (coreOf P w K mg base (A.deeper (envOfC "law" (defScope s_law) s.heap.objs.size f cdv)) ["script", "at", "pail", "turn", "known"] ((envOfC "law" (defScope s_law) s.heap.objs.size f cdv) :: outer)) (varOf s H (envOfC "law" (defScope s_law) s.heap.objs.size f cdv) outer) "at" 1 := ⟨sc_law.nd, rfl, fun _ => by first | exact .inl rfl | exact .inr rfl, fun _ => .inl rfl⟩
  have a2 : At (coreOf P w K mg base (A.deeper (envOfC "law" (defScope s_law) s.heap.objs.size f cdv)) ["script", "at", "pail", "turn", "known"] ((envOfC "law" (defScope s_law) s.heap.objs.size f cdv) :: outer)) (varOf s H (envOfC "law" (defScope s_law) s.heap.objs.size f cdv) outer) "pail" 2 := ⟨rfl, fun _ => by first | exact .inl rfl | exact .inr (.inl rfl), by decide, by decide⟩
  have s2 : AtS (coreOf P w K mg base (A.deeper (envOfC "law" (defScope s_law) s.heap.objs.size f cdv)) ["script", "at", "pail", "turn", "known"] ((envOfC "law" (defScope s_law) s.heap.objs.size f cdv) :: outer)) (varOf s H (envOfC "law" (defScope s_law) s.heap.objs.size f cdv) outer) "pail" 2 := ⟨sc_law.nd, rfl, fun _ => by first | exact .inl rfl | exact .inr rfl, fun _ => .inl rfl⟩
  have a3 : At (coreOf P w K mg base (A.deeper (envOfC "law" (defScope s_law) s.heap.objs.size f cdv)) ["script", "at", "pail", "turn", "known"] ((envOfC "law" (defScope s_law) s.heap.objs.size f cdv) :: outer)) (varOf s H (envOfC "law" (defScope s_law) s.heap.objs.size f cdv) outer) "turn" 3 := ⟨rfl, fun _ => by first | exact .inl rfl | exact .inr (.inl rfl), by decide, by decide⟩
  have s3 : AtS (coreOf P w K mg base (A.deeper (envOfC "law" (defScope s_law) s.heap.objs.size f cdv)) ["script", "at", "pail", "turn", "known"] ((envOfC "law" (defScope s_law) s.heap.objs.size f cdv) :: outer)) (varOf s H (envOfC "law" (defScope s_law) s.heap.objs.size f cdv) outer) "turn" 3 := ⟨sc_law.nd, rfl, fun _ => by first | exact .inl rfl | exact .inr rfl, fun _ => .inl rfl⟩
  have a4 : At (coreOf P w K mg base (A.deeper (envOfC "law" (defScope s_law) s.heap.objs.size f cdv)) ["script", "at", "pail", "turn", "known"] ((envOfC "law" (defScope s_law) s.heap.objs.size f cdv) :: outer)) (varOf s H (envOfC "law" (defScope s_law) s.heap.objs.size f cdv) outer) "known" 4 := ⟨rfl, fun _ => by first | exact .inl rfl | exact .inr (.inl rfl), by decide, by decide⟩
  have s4 : AtS (coreOf P w K mg base (A.deeper (envOfC "law" (defScope s_law) s.heap.objs.size f cdv)) ["script", "at", "pail", "turn", "known"] ((envOfC "law" (defScope s_law) s.heap.objs.size f cdv) :: outer)) (varOf s H (envOfC "law" (defScope s_law) s.heap.objs.size f cdv) outer) "known" 4 := ⟨sc_law.nd, rfl, fun _ => by first | exact .inl rfl | exact .inr rfl, fun _ => .inl rfl⟩
  show BD _ _ _ _ _ [.dt (.scr ns), .un, .un, .un, .un]
  refine (bd_cons (sd_for (fun _ => PassesOwn.never) (fun _ _ => rfl) (src_R1 (fun _ => rfl) m_range (fun _ => rfl) (ea_cons (fun _ => rfl) (ek_ed (ed_max2 (fun _ => rfl) m_max (fun _ => rfl) (fun _ => rfl) (fun _ => rfl) (ek_ed (ed_int (ek_ed (ed_min2 (fun _ => rfl) m_min (fun _ => rfl) (fun _ => rfl) (fun _ => rfl) (ek_ed (ed_int (ek_ed (ed_len (fun _ => rfl) m_len (fun _ => rfl) (ek_ed (ed_name 0 a0 rfl ⟨_, rfl, ⟨_, _, rfl, rfl, ⟨_, _, rfl, rfl, (ea_nil ⟨_, _, rfl, rfl, ?_, ⟨(fun x Γ => ∃ u1 u2 u3 u4, Γ = [AV.dt (.scr ns), u1, u2, u3, u4]), ?_, ?_, ?_⟩⟩)⟩⟩⟩))))))))))))))))
  · split <;> split <;> omega
  · exact ⟨_, _, _, _, rfl⟩
  · rintro a d Γ2 hd ⟨u1, u2, u3, u4, rfl⟩
    have ha : a < 6 := by
      have := (List.getElem?_eq_some_iff.mp hd).1
      rw [rngD_len] at this
      split at this <;> split at this <;> omega
    rw [rngD_get (by have := (List.getElem?_eq_some_iff.mp hd).1; rw [rngD_len] at this; exact this), Int.zero_add] at hd
    cases hd
    refine ⟨_, fun ff => (gd_name 1 s1 (lt1 rfl) (nl rfl) (bd_cons (sd_set 2 s2 (fun _ => rfl) (lt1 rfl) (nl rfl) (ed_call G__law_pail (hr.mono (by decide)) hgu (fun _ => rfl) g__law_pail k__law_pail b__law_pail (by decide) (fun _ => rfl) (fun _ => rfl) (ea_cons (fun _ => rfl) (ek_ed (ed_name 0 a0 rfl (ea_cons (fun _ => rfl) (ek_ed (ed_name 1 a1 rfl (ea_nil ⟨_, rfl, rfl, ⟨ns, a, rfl, (by omega), fun ds hp => fun _ => (bd_cons (sd_for (fun _ => PassesOwn.never) (fun _ _ => rfl) (src_R1 (fun _ => rfl) m_range (fun _ => rfl) (ea_cons (fun _ => rfl) (ek_ed (ed_int (ea_nil ⟨_, _, rfl, rfl, ?_, ⟨(fun x Γ => ∃ (ds : List Dt) (u3 u4 : AV), Pail (1 + 2000 * (x : Nat)) ds ∧ Γ = [AV.dt (.scr ns), .dt (.int (a : Nat)), .ow ds, u3, u4]), ?_, ?_, ?_⟩⟩)))))))⟩⟩)))))))))))⟩
    · exact ⟨by decide, by decide⟩
    · exact ⟨_, _, _, hp.mono (by omega), rfl⟩
    · rintro x d Γ2 hd ⟨ds, u3, u4, hp, rfl⟩
      have hx : x < 6 := by
        have := (List.getElem?_eq_some_iff.mp hd).1
        rwa [rngD_len] at this
      rw [rngD_get (by exact hx), Int.zero_add] at hd
      cases hd
      refine ⟨_, fun ff => (gd_name 3 s3 (lt1 rfl) (nl rfl) (bd_cons (sd_set 4 s4 (fun _ => rfl) (lt1 rfl) (nl rfl) (ed_call G__law_grown (hr.mono (by decide)) hgu (fun _ => rfl) g__law_grown k__law_grown b__law_grown (by decide) (fun _ => rfl) (fun _ => rfl) (ea_cons (fun _ => rfl) (ek_loan 2 a2 rfl (ea_cons (fun _ => rfl) (ek_ed (ed_add (ek_ed (ed_int (ek_ed (ed_call G__law_dip (hr.mono (by decide)) hgu (fun _ => rfl) g__law_dip k__law_dip b__law_dip (by decide) (fun _ => rfl) (fun _ => rfl) (ea_cons (fun _ => rfl) (ek_loan 2 a2 rfl (ea_cons (fun _ => rfl) (ek_ed (ed_ixD (fun _ _ => rfl) (ek_ed (ed_lst (ea_cons (fun _ => rfl) (ek_ed (ed_int (ea_cons (fun _ => rfl) (ek_ed (ed_int (ea_nil ⟨_, rfl, le1 rfl, (ek_ed (ed_intB (fun _ => rfl) m_int (fun _ => rfl) (ek_ed (ed_eqI (ek_ed (ed_name 3 a3 rfl (ek_ed (ed_int (CmpR.mk rfl rfl ⟨_, rfl, (IxD.mk rfl rfl (pick419 _) (ea_nil ⟨_, rfl, rfl, ⟨_, _, _, rfl, hp, (by omega), (by split <;> decide), (by split <;> decide), fun r ds hr0 hr1 hp => fun _ => (AddR.int rfl rfl (ea_nil ⟨_, rfl, rfl, ⟨_, (2 + r).toNat, _, (congrArg (fun z => [AV.ow ds, .dt (.int z)]) (Int.toNat_of_nonneg (by omega)).symm), hp, (by omega), (by omega), (by (split at hr1) <;> omega), fun t ds ht hp => fun _ => (bd_cons (sd_if (td_wd (wd_or (td_not (td_val (fun _ _ => rfl) (ed_call G__law_items_right (hr.mono (by decide)) hgu (fun _ => rfl) g__law_items_right k__law_items_right b__law_items_right (by decide) (fun _ => rfl) (fun _ => rfl) (ea_cons (fun _ => rfl) (ek_loan 2 a2 rfl (ea_cons (fun _ => rfl) (ek_ed (ed_name 4 a4 rfl (ea_nil ⟨_, rfl, rfl, ⟨_, t, (2 + r).toNat, _, rfl, hp, (by omega), ht, (by omega), (by (split at hr1) <;> omega), fun ds hp => fun _ => ⟨_, rfl, ⟨fun hif => (wd_or1 (td_not (td_val (fun _ _ => rfl) (ed_call G__law_groups_right (hr.mono (by decide)) hgu (fun _ => rfl) g__law_groups_right k__law_groups_right b__law_groups_right (by decide) (fun _ => rfl) (fun _ => rfl) (ea_cons (fun _ => rfl) (ek_loan 2 a2 rfl (ea_cons (fun _ => rfl) (ek_ed (ed_name 4 a4 rfl (ea_nil ⟨_, rfl, rfl, ⟨_, t, (2 + r).toNat, _, rfl, hp, (by omega), ht, (by omega), (by (split at hr1) <;> omega), fun ds hp => fun _ => ⟨_, rfl, ⟨fun hif => (bd_cons (sd_ret (ed_bl ?_))), fun hif => (bd_nil (bd_nil ?_))⟩⟩⟩⟩)))))))))), fun hif => ⟨fun hit => (bd_cons (sd_ret (ed_bl ?_))), fun hit => (nomatch hit)⟩⟩⟩⟩⟩)))))))))))))⟩⟩))⟩⟩))⟩)))))))))⟩)))))))))))))))))))))))))))⟩
      all_goals first
        | (cases hif; done)
        | exact ⟨_, _, _, hp.mono (by omega), rfl⟩
    · rintro Γ2 ⟨ds, u3, u4, hp, rfl⟩
      exact (bd_nil ⟨_, _, _, _, rfl⟩)
  · rintro Γ2 ⟨u1, u2, u3, u4, rfl⟩
    refine (bd_cons (sd_ret (ed_and (ed_call0 G__law_made_right (hr.mono (by decide)) hgu (fun _ => rfl) g__law_made_right k__law_made_right b__law_made_right (by decide) ⟨rfl, ⟨_, rfl, fun hif => (ed_and (ed_eqS (ek_ed (ed_call G__law_told (hr.mono (by decide)) hgu (fun _ => rfl) g__law_told k__law_told b__law_told (by decide) (fun _ => rfl) (fun _ => rfl) (ea_cons (fun _ => rfl) (ek_ed (ed_int (ea_cons (fun _ => rfl) (ek_ed (ed_tup (ea_cons (fun _ => rfl) (ek_ed (ed_tup (ea_nil ⟨_, rfl, le1 rfl, (ea_nil ⟨_, rfl, le1 rfl, (ea_cons (fun _ => rfl) (ek_ed (ed_int (ea_cons (fun _ => rfl) (ek_ed (ed_int (ea_nil ⟨_, rfl, rfl, ⟨_, oneD, (.int 0), (.int 0), _, rfl, good_one1.1, .inl ⟨.inl rfl, ⟨_, rfl⟩, ⟨_, rfl⟩, one_same.symm⟩, fun _ => (ek_ed (ed_str ⟨_, _, rfl, rfl, ⟨_, rfl, fun hif => (ed_bool1 (ed_eqS (ek_ed (ed_call G__law_told (hr.mono (by decide)) hgu (fun _ => rfl) g__law_told k__law_told b__law_told (by decide) (fun _ => rfl) (fun _ => rfl) (ea_cons (fun _ => rfl) (ek_ed (ed_int (ea_cons (fun _ => rfl) (ek_ed (ed_tup (ea_cons (fun _ => rfl) (ek_ed (ed_tup (ea_nil ⟨_, rfl, le1 rfl, (ea_nil ⟨_, rfl, le1 rfl, (ea_cons (fun _ => rfl) (ek_ed (ed_int (ea_cons (fun _ => rfl) (ek_ed (ed_int (ea_nil ⟨_, rfl, rfl, ⟨_, oneD, (.int 0), (.int 1), _, rfl, good_one1.1, .inl ⟨.inl rfl, ⟨_, rfl⟩, ⟨_, rfl⟩, one_item.symm⟩, fun _ => (ek_ed (ed_str ⟨_, _, rfl, rfl, ?_⟩))⟩⟩)))))))⟩)⟩)))))))))))))), fun hif => ?_⟩⟩))⟩⟩)))))))⟩)⟩)))))))))))))), fun hif => ?_⟩⟩))))
    all_goals first
      | (show post (.dt (.bl (id (("item" : Str) == "item")))) [.un]
         rw [show (("item" : Str) == "item") = true by decide +kernel]
         exact hq)
      | exact absurd hif (by decide +kernel)
end
end K03

namespace K03
open PySem PySem.Spec PyProof.Rows L2 DL
abbrev s__law_made_right : Stmt := topS 46
theorem sc__law_made_right : FnScope ["made", "due", "told", "named", "uno"] [] (defScope s__law_made_right) := ⟨rfl, rfl, rfl, by decide +kernel, rfl, by decide +kernel, by decide +kernel⟩

def madeD (c_InvalidTable c_InvalidItem c_SameItem c_NotAHistory c_InvalidDay c_InvalidNumber c_InvalidForks c_InvalidTold c_InvalidPair c_InvalidPairs c_OtherNumber c_InvalidItems c_InvalidParts c_NoCommon c_InvalidBound c_NothingToUndo c_NotAnObject c_InvalidText c_Contradiction c_NotExact c_NotPossible c_TooLarge : Addr) : List Dt := [.obj (ExO (.ref c_InvalidTable)), .obj (ExO (.ref c_InvalidItem)), .obj (ExO (.ref c_SameItem)), .obj (ExO (.ref c_NotAHistory)), .obj (ExO (.ref c_InvalidDay)), .obj (ExO (.ref c_InvalidNumber)), .obj (ExO (.ref c_InvalidForks)), .obj (ExO (.ref c_InvalidTold)), .obj (ExO (.ref c_InvalidPair)), .obj (ExO (.ref c_InvalidPairs)), .obj (ExO (.ref c_OtherNumber)), .obj (ExO (.ref c_InvalidItems)), .obj (ExO (.ref c_InvalidParts)), .obj (ExO (.ref c_NoCommon)), .obj (ExO (.ref c_InvalidBound)), .obj (ExO (.ref c_NothingToUndo)), .obj (ExO (.ref c_NotAnObject)), .obj (ExO (.ref c_InvalidText)), .exa c_Contradiction [("index", V.int 3)], .exa c_NotExact [("index", V.int 4)], .exa c_NotPossible [("greatest", V.non), ("least", V.int 5)], .exa c_TooLarge [("limit", V.int 40)]]
def excs : List Addr → List Dt → Prop
  | [], [] => True
  | C :: cs, d :: ds => ExcD C d ∧ excs cs ds
  | _, _ => False
theorem excs_get : ∀ {cs : List Addr} {ds : List Dt}, excs cs ds → ∀ {j : Nat} {d : Dt}, ds[j]? = some d → ∃ C, cs[j]? = some C ∧ ExcD C d
  | C :: cs, d :: ds, h, 0, e, z => by cases z; exact ⟨C, rfl, h.1⟩
  | C :: cs, d :: ds, h, j + 1, e, z => excs_get (cs := cs) (ds := ds) h.2 (j := j) (by simpa using z)
  | [], [], _, j, _, z => by cases z
theorem excs_made (c_InvalidTable c_InvalidItem c_SameItem c_NotAHistory c_InvalidDay c_InvalidNumber c_InvalidForks c_InvalidTold c_InvalidPair c_InvalidPairs c_OtherNumber c_InvalidItems c_InvalidParts c_NoCommon c_InvalidBound c_NothingToUndo c_NotAnObject c_InvalidText c_Contradiction c_NotExact c_NotPossible c_TooLarge : Addr) : excs [c_InvalidTable, c_InvalidItem, c_SameItem, c_NotAHistory, c_InvalidDay, c_InvalidNumber, c_InvalidForks, c_InvalidTold, c_InvalidPair, c_InvalidPairs, c_OtherNumber, c_InvalidItems, c_InvalidParts, c_NoCommon, c_InvalidBound, c_NothingToUndo, c_NotAnObject, c_InvalidText, c_Contradiction, c_NotExact, c_NotPossible, c_TooLarge] (madeD c_InvalidTable c_InvalidItem c_SameItem c_NotAHistory c_InvalidDay c_InvalidNumber c_InvalidForks c_InvalidTold c_InvalidPair c_InvalidPairs c_OtherNumber c_InvalidItems c_InvalidParts c_NoCommon c_InvalidBound c_NothingToUndo c_NotAnObject c_InvalidText c_Contradiction c_NotExact c_NotPossible c_TooLarge) :=
  ⟨.inl ⟨_, rfl, excOf_O _⟩, .inl ⟨_, rfl, excOf_O _⟩, .inl ⟨_, rfl, excOf_O _⟩, .inl ⟨_, rfl, excOf_O _⟩, .inl ⟨_, rfl, excOf_O _⟩, .inl ⟨_, rfl, excOf_O _⟩, .inl ⟨_, rfl, excOf_O _⟩, .inl ⟨_, rfl, excOf_O _⟩, .inl ⟨_, rfl, excOf_O _⟩, .inl ⟨_, rfl, excOf_O _⟩, .inl ⟨_, rfl, excOf_O _⟩, .inl ⟨_, rfl, excOf_O _⟩, .inl ⟨_, rfl, excOf_O _⟩, .inl ⟨_, rfl, excOf_O _⟩, .inl ⟨_, rfl, excOf_O _⟩, .inl ⟨_, rfl, excOf_O _⟩, .inl ⟨_, rfl, excOf_O _⟩, .inl ⟨_, rfl, excOf_O _⟩, .inr ⟨_, rfl⟩, .inr ⟨_, rfl⟩, .inr ⟨_, rfl⟩, .inr ⟨_, rfl⟩, trivial⟩
def labsD : List Dt := labs.map .str
theorem labs_all : (List.range 22).map (fun i => Dt.str (labAt i)) = labsD := rfl
section
variable {P : Program} {w : World}
variable {K : PySem.W.Frag}
variable {mg : Str → Option Value} {base : Heap}
theorem ok__law_made_right {c_InvalidTable c_InvalidItem c_SameItem c_NotAHistory c_InvalidDay c_InvalidNumber c_InvalidForks c_InvalidTold c_InvalidPair c_InvalidPairs c_OtherNumber c_InvalidItems c_InvalidParts c_NoCommon c_InvalidBound c_NothingToUndo c_NotAnObject c_InvalidText c_Contradiction c_NotExact c_NotPossible c_TooLarge c_DaysError : Addr} (kits : Kits K [c_InvalidTable, c_InvalidItem, c_SameItem, c_NotAHistory, c_InvalidDay, c_InvalidNumber, c_InvalidForks, c_InvalidTold, c_InvalidPair, c_InvalidPairs, c_OtherNumber, c_InvalidItems, c_InvalidParts, c_NoCommon, c_InvalidBound, c_NothingToUndo, c_NotAnObject, c_InvalidText, c_Contradiction, c_NotExact, c_NotPossible, c_TooLarge] c_DaysError) (O_InvalidTable : OwnExc K mg "InvalidTable" c_InvalidTable) (O_InvalidItem : OwnExc K mg "InvalidItem" c_InvalidItem) (O_SameItem : OwnExc K mg "SameItem" c_SameItem) (O_NotAHistory : OwnExc K mg "NotAHistory" c_NotAHistory) (O_InvalidDay : OwnExc K mg "InvalidDay" c_InvalidDay) (O_InvalidNumber : OwnExc K mg "InvalidNumber" c_InvalidNumber) (O_InvalidForks : OwnExc K mg "InvalidForks" c_InvalidForks) (O_InvalidTold : OwnExc K mg "InvalidTold" c_InvalidTold) (O_InvalidPair : OwnExc K mg "InvalidPair" c_InvalidPair) (O_InvalidPairs : OwnExc K mg "InvalidPairs" c_InvalidPairs) (O_OtherNumber : OwnExc K mg "OtherNumber" c_OtherNumber) (O_InvalidItems : OwnExc K mg "InvalidItems" c_InvalidItems) (O_InvalidParts : OwnExc K mg "InvalidParts" c_InvalidParts) (O_NoCommon : OwnExc K mg "NoCommon" c_NoCommon) (O_InvalidBound : OwnExc K mg "InvalidBound" c_InvalidBound) (O_NothingToUndo : OwnExc K mg "NothingToUndo" c_NothingToUndo) (O_NotAnObject : OwnExc K mg "NotAnObject" c_NotAnObject) (O_InvalidText : OwnExc K mg "InvalidText" c_InvalidText) (O_DaysError : OwnExc K mg "DaysError" c_DaysError) (g_Contradiction : mg "Contradiction" = some (.ref c_Contradiction)) (g_NotExact : mg "NotExact" = some (.ref c_NotExact)) (g_NotPossible : mg "NotPossible" = some (.ref c_NotPossible)) (g_TooLarge : mg "TooLarge" = some (.ref c_TooLarge)) {fi_Contradiction : Addr} {di_Contradiction : FuncData} (T_Contradiction : OexC K c_Contradiction) (i_Contradiction : PySem.W.findIn K (.ref c_Contradiction) "__init__" = some (some (.ref fi_Contradiction))) (fn_Contradiction : PySem.W.typeIn K (.ref fi_Contradiction) = some (.type "function")) (X_Contradiction : XfC K c_Contradiction) (GI_Contradiction : FnG P w K mg base 1 fi_Contradiction di_Contradiction ["self", "index"] (spI1 K "index")) (bI_Contradiction : Binds K di_Contradiction ["self", "index"] []) (kS_Contradiction : KwS K di_Contradiction ["self", "index"] ["index"] [0]) (nf_Contradiction_index : PySem.W.findIn K (.ref c_Contradiction) "index" = some none) {fi_NotExact : Addr} {di_NotExact : FuncData} (T_NotExact : OexC K c_NotExact) (i_NotExact : PySem.W.findIn K (.ref c_NotExact) "__init__" = some (some (.ref fi_NotExact))) (fn_NotExact : PySem.W.typeIn K (.ref fi_NotExact) = some (.type "function")) (X_NotExact : XfC K c_NotExact) (GI_NotExact : FnG P w K mg base 1 fi_NotExact di_NotExact ["self", "index"] (spI1 K "index")) (bI_NotExact : Binds K di_NotExact ["self", "index"] []) (kS_NotExact : KwS K di_NotExact ["self", "index"] ["index"] [0]) (nf_NotExact_index : PySem.W.findIn K (.ref c_NotExact) "index" = some none) {fi_NotPossible : Addr} {di_NotPossible : FuncData} (T_NotPossible : OexC K c_NotPossible) (i_NotPossible : PySem.W.findIn K (.ref c_NotPossible) "__init__" = some (some (.ref fi_NotPossible))) (fn_NotPossible : PySem.W.typeIn K (.ref fi_NotPossible) = some (.type "function")) (X_NotPossible : XfC K c_NotPossible) (GI_NotPossible : FnG P w K mg base 1 fi_NotPossible di_NotPossible ["self", "least", "greatest"] (spI2 K "least" "greatest")) (bI_NotPossible : Binds K di_NotPossible ["self", "least", "greatest"] []) (kS_NotPossible : KwS K di_NotPossible ["self", "least", "greatest"] ["greatest", "least"] [1, 0]) (nf_NotPossible_least : PySem.W.findIn K (.ref c_NotPossible) "least" = some none) (nf_NotPossible_greatest : PySem.W.findIn K (.ref c_NotPossible) "greatest" = some none) {fi_TooLarge : Addr} {di_TooLarge : FuncData} (T_TooLarge : OexC K c_TooLarge) (i_TooLarge : PySem.W.findIn K (.ref c_TooLarge) "__init__" = some (some (.ref fi_TooLarge))) (fn_TooLarge : PySem.W.typeIn K (.ref fi_TooLarge) = some (.type "function")) (X_TooLarge : XfC K c_TooLarge) (GI_TooLarge : FnG P w K mg base 1 fi_TooLarge di_TooLarge ["self", "limit"] (spI1 K "limit")) (bI_TooLarge : Binds K di_TooLarge ["self", "limit"] []) (kS_TooLarge : KwS K di_TooLarge ["self", "limit"] ["limit"] [0]) (nf_TooLarge_limit : PySem.W.findIn K (.ref c_TooLarge) "limit" = some none) {f__law_label : Addr} {d__law_label : FuncData} (E__law_label : FnE P w K mg base 1 f__law_label d__law_label ["e"] (spD K (dsLabel K [c_InvalidTable, c_InvalidItem, c_SameItem, c_NotAHistory, c_InvalidDay, c_InvalidNumber, c_InvalidForks, c_InvalidTold, c_InvalidPair, c_InvalidPairs, c_OtherNumber, c_InvalidItems, c_InvalidParts, c_NoCommon, c_InvalidBound, c_NothingToUndo, c_NotAnObject, c_InvalidText, c_Contradiction, c_NotExact, c_NotPossible, c_TooLarge] c_DaysError))) (g__law_label : mg "_law_label" = some (.ref f__law_label)) (k__law_label : PySem.W.keepIn K (.ref f__law_label) = true) (b__law_label : Binds K d__law_label ["e"] []) {f : Addr} {fd : FuncData} (F : Fun K "_law_made_right" "_law_made_right" s__law_made_right f fd) : FnG P w K mg base 8 f fd [] (spD K dsMade) := by
  refine FnG.of F sc__law_made_right (fun as post h => by exact congrArg List.length h.1) fun cdv A outer s H vs fo as post hr hgu hD => ?_
  obtain ⟨rfl, hq⟩ := hD
  have hu := units_of hr
  have G__law_label := E__law_label.calm
  have nle : ∀ (i : Nat) (p : Addr), (i, p) ∉ (Ent.call H [] vs fo 5).lent := fun i p h => by first | cases h | simp [Ent.call, lentOf] at h
  have a0 : At (coreOf P w K mg base (A.deeper (envOfC "_law_made_right" (defScope s__law_made_right) s.heap.objs.size f cdv)) ["made", "due", "told", "named", "uno"] ((envOfC "_law_made_right" (defScope s__law_made_right) s.heap.objs.size f cdv) :: outer)) (varOf s H (envOfC "_law_made_right" (defScope s__law_made_right) s.heap.objs.size f cdv) outer) "made" 0 := ⟨rfl, fun _ => by first | exact .inl rfl | exact .inr (.inl rfl), by decide, by decide⟩
  have s0 : AtS (coreOf P w K mg base (A.deeper (envOfC "_law_made_right" (defScope s__law_made_right) s.heap.objs.size f cdv)) ["made", "due", "told", "named", "uno"] ((envOfC "_law_made_right" (defScope s__law_made_right) s.heap.objs.size f cdv) :: outer)) (varOf s H (envOfC "_law_made_right" (defScope s__law_made_right) s.heap.objs.size f cdv) outer) "made" 0 := ⟨sc__law_made_right.nd, rfl, fun _ => by first | exact .inl rfl | exact .inr rfl, fun _ => .inl rfl⟩
  have a1 : At (coreOf P w K mg base (A.deeper (envOfC "_law_made_right" (defScope s__law_made_right) s.heap.objs.size f cdv)) ["made", "due", "told", "named", "uno"] ((envOfC "_law_made_right" (defScope s__law_made_right) s.heap.objs.size f cdv) :: outer)) (varOf s H (envOfC "_law_made_right" (defScope s__law_made_right) s.heap.objs.size f cdv) outer) "due" 1 := ⟨rfl, fun _ => by first | exact .inl rfl | exact .inr (.inl rfl), by decide, by decide⟩
  have s1 : AtS (coreOf P w K mg base (A.deeper (envOfC "_law_made_right" (defScope s__law_made_right) s.heap.objs.size f cdv)) ["made", "due", "told", "named", "uno"] ((envOfC "_law_made_right" (defScope s__law_made_right) s.heap.objs.size f cdv) :: outer)) (varOf s H (envOfC "_law_made_right" (defScope s__law_made_right) s.heap.objs.size f cdv) outer) "due" 1 := ⟨sc__law_made_right.nd, rfl, fun _ => by first | exact .inl rfl | exact .inr rfl, fun _ => .inl rfl⟩
  have a2 : At (coreOf P w K mg base (A.deeper (envOfC "_law_made_right" (defScope s__law_made_right) s.heap.objs.size f cdv)) ["made", "due", "told", "named", "uno"] ((envOfC "_law_made_right" (defScope s__law_made_right) s.heap.objs.size f cdv) :: outer)) (varOf s H (envOfC "_law_made_right" (defScope s__law_made_right) s.heap.objs.size f cdv) outer) "told" 2 := ⟨rfl, fun _ => by first | exact .inl rfl | exact .inr (.inl rfl), by decide, by decide⟩
  have s2 : AtS (coreOf P w K mg base (A.deeper (envOfC "_law_made_right" (defScope s__law_made_right) s.heap.objs.size f cdv)) ["made", "due", "told", "named", "uno"] ((envOfC "_law_made_right" (defScope s__law_made_right) s.heap.objs.size f cdv) :: outer)) (varOf s H (envOfC "_law_made_right" (defScope s__law_made_right) s.heap.objs.size f cdv) outer) "told" 2 := ⟨sc__law_made_right.nd, rfl, fun _ => by first | exact .inl rfl | exact .inr rfl, fun _ => .inl rfl⟩
  have a3 : At (coreOf P w K mg base (A.deeper (envOfC "_law_made_right" (defScope s__law_made_right) s.heap.objs.size f cdv)) ["made", "due", "told", "named", "uno"] ((envOfC "_law_made_right" (defScope s__law_made_right) s.heap.objs.size f cdv) :: outer)) (varOf s H (envOfC "_law_made_right" (defScope s__law_made_right) s.heap.objs.size f cdv) outer) "named" 3 := ⟨rfl, fun _ => by first | exact .inl rfl | exact .inr (.inl rfl), by decide, by decide⟩
  have s3 : AtS (coreOf P w K mg base (A.deeper (envOfC "_law_made_right" (defScope s__law_made_right) s.heap.objs.size f cdv)) ["made", "due", "told", "named", "uno"] ((envOfC "_law_made_right" (defScope s__law_made_right) s.heap.objs.size f cdv) :: outer)) (varOf s H (envOfC "_law_made_right" (defScope s__law_made_right) s.heap.objs.size f cdv) outer) "named" 3 := ⟨sc__law_made_right.nd, rfl, fun _ => by first | exact .inl rfl | exact .inr rfl, fun _ => .inl rfl⟩
  show BD _ _ _ _ _ [.un, .un, .un, .un, .un]
  refine (bd_cons (sd_set 0 s0 (fun _ => rfl) (lt1 rfl) (nle _) (ed_lst (ea_cons (fun _ => rfl) (ek_ed (ed_exc0 O_InvalidTable (fun _ => rfl) (by decide) (ea_cons (fun _ => rfl) (ek_ed (ed_exc0 O_InvalidItem (fun _ => rfl) (by decide) (ea_cons (fun _ => rfl) (ek_ed (ed_exc0 O_SameItem (fun _ => rfl) (by decide) (ea_cons (fun _ => rfl) (ek_ed (ed_exc0 O_NotAHistory (fun _ => rfl) (by decide) (ea_cons (fun _ => rfl) (ek_ed (ed_exc0 O_InvalidDay (fun _ => rfl) (by decide) (ea_cons (fun _ => rfl) (ek_ed (ed_exc0 O_InvalidNumber (fun _ => rfl) (by decide) (ea_cons (fun _ => rfl) (ek_ed (ed_exc0 O_InvalidForks (fun _ => rfl) (by decide) (ea_nil ⟨_, rfl, le1 rfl, (bd_cons (sd_set 0 s0 (fun _ => rfl) (lt1 rfl) (nle _) (ed_add (ek_loan 0 a0 rfl (ek_ed (ed_lst (ea_cons (fun _ => rfl) (ek_ed (ed_exc0 O_InvalidTold (fun _ => rfl) (by decide) (ea_cons (fun _ => rfl) (ek_ed (ed_exc0 O_InvalidPair (fun _ => rfl) (by decide) (ea_cons (fun _ => rfl) (ek_ed (ed_exc0 O_InvalidPairs (fun _ => rfl) (by decide) (ea_cons (fun _ => rfl) (ek_ed (ed_exc0 O_OtherNumber (fun _ => rfl) (by decide) (ea_cons (fun _ => rfl) (ek_ed (ed_exc0 O_InvalidItems (fun _ => rfl) (by decide) (ea_cons (fun _ => rfl) (ek_ed (ed_exc0 O_InvalidParts (fun _ => rfl) (by decide) (ea_nil ⟨_, rfl, le1 rfl, (AddR.lst rfl rfl rfl rfl (le1 rfl) (bd_cons (sd_set 0 s0 (fun _ => rfl) (lt1 rfl) (nle _) (ed_add (ek_loan 0 a0 rfl (ek_ed (ed_lst (ea_cons (fun _ => rfl) (ek_ed (ed_exc0 O_NoCommon (fun _ => rfl) (by decide) (ea_cons (fun _ => rfl) (ek_ed (ed_exc0 O_InvalidBound (fun _ => rfl) (by decide) (ea_cons (fun _ => rfl) (ek_ed (ed_exc0 O_NothingToUndo (fun _ => rfl) (by decide) (ea_cons (fun _ => rfl) (ek_ed (ed_exc0 O_NotAnObject (fun _ => rfl) (by decide) (ea_cons (fun _ => rfl) (ek_ed (ed_exc0 O_InvalidText (fun _ => rfl) (by decide) (ea_cons (fun _ => rfl) (ek_ed (ed_exa1 (f := "index") T_Contradiction i_Contradiction fn_Contradiction nf_Contradiction_index GI_Contradiction (hr.mono (by decide)) hgu bI_Contradiction (fun _ => rfl) g_Contradiction (by decide) (fun _ => rfl) (fun _ => rfl) (ek_ed (ed_int ⟨_, _, rfl, rfl, (ea_nil ⟨_, rfl, le1 rfl, (AddR.lst rfl rfl rfl rfl (le1 rfl) (bd_cons (sd_set 0 s0 (fun _ => rfl) (lt1 rfl) (nle _) (ed_add (ek_loan 0 a0 rfl (ek_ed (ed_lst (ea_cons (fun _ => rfl) (ek_ed (ed_exa1 (f := "index") T_NotExact i_NotExact fn_NotExact nf_NotExact_index GI_NotExact (hr.mono (by decide)) hgu bI_NotExact (fun _ => rfl) g_NotExact (by decide) (fun _ => rfl) (fun _ => rfl) (ek_ed (ed_int ⟨_, _, rfl, rfl, (ea_cons (fun _ => rfl) (ek_ed (ed_exa2 (f := "least") (g := "greatest") T_NotPossible i_NotPossible fn_NotPossible nf_NotPossible_least nf_NotPossible_greatest GI_NotPossible (hr.mono (by decide)) hgu bI_NotPossible (fun _ => rfl) g_NotPossible (by decide) (fun _ => rfl) (fun _ => rfl) (fun _ => rfl) (ek_ed (ed_int (ek_ed (ed_non ⟨_, _, _, _, rfl, rfl, rfl, rfl, (ea_cons (fun _ => rfl) (ek_ed (ed_exa1 (f := "limit") T_TooLarge i_TooLarge fn_TooLarge nf_TooLarge_limit GI_TooLarge (hr.mono (by decide)) hgu bI_TooLarge (fun _ => rfl) g_TooLarge (by decide) (fun _ => rfl) (fun _ => rfl) (ek_ed (ed_int ⟨_, _, rfl, rfl, (ea_nil ⟨_, rfl, le1 rfl, (AddR.lst rfl rfl rfl rfl (le1 rfl) (bd_cons (sd_set 1 s1 (fun _ => rfl) (lt1 rfl) (nle _) (ed_lst (ea_cons (fun _ => rfl) (ek_ed (ed_str (ea_cons (fun _ => rfl) (ek_ed (ed_str (ea_cons (fun _ => rfl) (ek_ed (ed_str (ea_cons (fun _ => rfl) (ek_ed (ed_str (ea_cons (fun _ => rfl) (ek_ed (ed_str (ea_cons (fun _ => rfl) (ek_ed (ed_str (ea_cons (fun _ => rfl) (ek_ed (ed_str (ea_cons (fun _ => rfl) (ek_ed (ed_str (ea_cons (fun _ => rfl) (ek_ed (ed_str (ea_cons (fun _ => rfl) (ek_ed (ed_str (ea_cons (fun _ => rfl) (ek_ed (ed_str (ea_cons (fun _ => rfl) (ek_ed (ed_str (ea_nil ⟨_, rfl, le1 rfl, (bd_cons (sd_set 1 s1 (fun _ => rfl) (lt1 rfl) (nle _) (ed_add (ek_loan 1 a1 rfl (ek_ed (ed_lst (ea_cons (fun _ => rfl) (ek_ed (ed_str (ea_cons (fun _ => rfl) (ek_ed (ed_str (ea_cons (fun _ => rfl) (ek_ed (ed_str (ea_cons (fun _ => rfl) (ek_ed (ed_str (ea_cons (fun _ => rfl) (ek_ed (ed_str (ea_cons (fun _ => rfl) (ek_ed (ed_str (ea_cons (fun _ => rfl) (ek_ed (ed_str (ea_cons (fun _ => rfl) (ek_ed (ed_str (ea_cons (fun _ => rfl) (ek_ed (ed_str (ea_cons (fun _ => rfl) (ek_ed (ed_str (ea_nil ⟨_, rfl, le1 rfl, (AddR.lst rfl rfl rfl rfl (le1 rfl) ?_)⟩)))))))))))))))))))))))))))))))))))))⟩)))))))))))))))))))))))))))))))))))))))))⟩)⟩)))))⟩)))))))⟩))))))))))))⟩)⟩)))))))))))))))))))))))))))⟩)))))))))))))))))))))))))⟩)))))))))))))))))))))))))
  show BD _ _ _ _ _ [.ow (madeD c_InvalidTable c_InvalidItem c_SameItem c_NotAHistory c_InvalidDay c_InvalidNumber c_InvalidForks c_InvalidTold c_InvalidPair c_InvalidPairs c_OtherNumber c_InvalidItems c_InvalidParts c_NoCommon c_InvalidBound c_NothingToUndo c_NotAnObject c_InvalidText c_Contradiction c_NotExact c_NotPossible c_TooLarge), .ow labsD, .un, .un, .un]
  refine (bd_cons (sd_if (td_wd (wd_or (td_ne hu (ek_ed (ed_lc (own := [("uno", 4)]) sc__law_made_right.nd (fun _ => blkOk_by rfl) (fun _ _ => rfl) (fun i _ => nle i) (src_L (ek_ed (ed_name_freeze 0 a0 rfl ⟨_, rfl, rfl, rfl, ⟨?_, (fun j acc Γ => acc = (List.range j).map (fun i => .str (labAt i)) ∧ Γ = [AV.dt (.lst (madeD c_InvalidTable c_InvalidItem c_SameItem c_NotAHistory c_InvalidDay c_InvalidNumber c_InvalidForks c_InvalidTold c_InvalidPair c_InvalidPairs c_OtherNumber c_InvalidItems c_InvalidParts c_NoCommon c_InvalidBound c_NothingToUndo c_NotAnObject c_InvalidText c_Contradiction c_NotExact c_NotPossible c_TooLarge)), .ow labsD, .un, .un, .un]), ?_, ?_, ?_⟩⟩))))))))))
  · exact le1 rfl
  · exact ⟨rfl, rfl⟩
  · rintro j d acc Γ2 hj ⟨rfl, rfl⟩
    obtain ⟨C, hC, hd⟩ := excs_get (excs_made c_InvalidTable c_InvalidItem c_SameItem c_NotAHistory c_InvalidDay c_InvalidNumber c_InvalidForks c_InvalidTold c_InvalidPair c_InvalidPairs c_OtherNumber c_InvalidItems c_InvalidParts c_NoCommon c_InvalidBound c_NothingToUndo c_NotAnObject c_InvalidText c_Contradiction c_NotExact c_NotPossible c_TooLarge) hj
    refine ⟨_, (by decide), fun g ff => (gd_name 4 (ats_of sc__law_made_right.nd rfl (fun _ => rfl) (fun _ => rfl)) (lt1 rfl) (nle _) (ts_nil ⟨fun _ => (ed_call G__law_label (hr.mono (by decide)) hgu (fun _ => rfl) g__law_label k__law_label b__law_label (by decide) (fun _ => rfl) (fun _ => rfl) (ea_cons (fun _ => rfl) (ek_ed (ed_name 4 (at_of rfl (fun _ => rfl) rfl rfl) rfl (ea_nil ⟨_, rfl, rfl, ⟨_, _, j, rfl, kits.each j C d hC hd, fun _ => ⟨_, rfl, ?_⟩⟩⟩))))), fun hif => nomatch hif⟩))⟩
    exact ⟨by rw [List.range_succ, List.map_append]; rfl, rfl⟩
  · rintro acc Γ2 ⟨rfl, rfl⟩
    have e22 : (madeD c_InvalidTable c_InvalidItem c_SameItem c_NotAHistory c_InvalidDay c_InvalidNumber c_InvalidForks c_InvalidTold c_InvalidPair c_InvalidPairs c_OtherNumber c_InvalidItems c_InvalidParts c_NoCommon c_InvalidBound c_NothingToUndo c_NotAnObject c_InvalidText c_Contradiction c_NotExact c_NotPossible c_TooLarge).length = 22 := rfl
    rw [e22, labs_all]
    refine (ek_loan 1 a1 rfl (EqT.mk rfl rfl rfl rfl ⟨by decide +kernel, by decide +kernel⟩ ⟨fun hif => (wd_or1 (td_neS (ek_ed (ed_call G__law_label (hr.mono (by decide)) hgu (fun _ => rfl) g__law_label k__law_label b__law_label (by decide) (fun _ => rfl) (fun _ => rfl) (ea_cons (fun _ => rfl) (ek_ed (ed_exc0 O_DaysError (fun _ => rfl) (by decide) (ea_nil ⟨_, rfl, rfl, ⟨_, _, 22, rfl, kits.root _ (.inl ⟨_, rfl, excOf_O _⟩), fun _ => (ek_ed (ed_str ⟨_, _, rfl, rfl, ⟨fun hif => ?_, fun hif => (bd_nil ?_)⟩⟩))⟩⟩)))))))), fun hif => ⟨fun hit => ?_, fun hit => (nomatch hit)⟩⟩))
    · exact absurd hif (by decide +kernel)
    · refine (bd_cons (sd_set 2 s2 (fun _ => rfl) (lt1 rfl) (nle _) (ed_lst (ea_cons (fun _ => rfl) (ek_ed (ed_exf X_Contradiction nf_Contradiction_index (fun _ => rfl) (ek_ed (ed_ixD (fun _ _ => rfl) (ek_ed (ed_name 0 a0 rfl (ek_ed (ed_int (IxD.mk rfl rfl rfl ⟨_, _, (.int 3), rfl, rfl, rfl, (ea_cons (fun _ => rfl) (ek_ed (ed_exf X_NotExact nf_NotExact_index (fun _ => rfl) (ek_ed (ed_ixD (fun _ _ => rfl) (ek_ed (ed_name 0 a0 rfl (ek_ed (ed_int (IxD.mk rfl rfl rfl ⟨_, _, (.int 4), rfl, rfl, rfl, (ea_cons (fun _ => rfl) (ek_ed (ed_exf X_NotPossible nf_NotPossible_least (fun _ => rfl) (ek_ed (ed_ixD (fun _ _ => rfl) (ek_ed (ed_name 0 a0 rfl (ek_ed (ed_int (IxD.mk rfl rfl rfl ⟨_, _, (.int 5), rfl, rfl, rfl, (ea_cons (fun _ => rfl) (ek_ed (ed_exf X_NotPossible nf_NotPossible_greatest (fun _ => rfl) (ek_ed (ed_ixD (fun _ _ => rfl) (ek_ed (ed_name 0 a0 rfl (ek_ed (ed_int (IxD.mk rfl rfl rfl ⟨_, _, .non, rfl, rfl, rfl, (ea_cons (fun _ => rfl) (ek_ed (ed_exf X_TooLarge nf_TooLarge_limit (fun _ => rfl) (ek_ed (ed_ixD (fun _ _ => rfl) (ek_ed (ed_name 0 a0 rfl (ek_ed (ed_int (IxD.mk rfl rfl rfl ⟨_, _, (.int 40), rfl, rfl, rfl, (ea_nil ⟨_, rfl, le1 rfl, (bd_cons (sd_set 3 s3 (fun _ => rfl) (lt1 rfl) (nle _) (ed_exaK2 (f := "least") (g := "greatest") T_NotPossible i_NotPossible fn_NotPossible nf_NotPossible_least nf_NotPossible_greatest GI_NotPossible (hr.mono (by decide)) hgu kS_NotPossible (fun _ => rfl) g_NotPossible (by decide) (fun _ => rfl) (fun _ => rfl) rfl (fun _ => rfl) (ekw_cons (ek_ed (ed_int (ekw_cons (ek_ed (ed_int (ekw_nil ⟨_, _, _, _, _, _, rfl, rfl, rfl, rfl, rfl, (bd_cons (sd_set 2 s2 (fun _ => rfl) (lt1 rfl) (nle _) (ed_add (ek_loan 2 a2 rfl (ek_ed (ed_lst (ea_cons (fun _ => rfl) (ek_ed (ed_exf X_Contradiction nf_Contradiction_index (fun _ => rfl) (ek_ed (ed_exaK1 (f := "index") T_Contradiction i_Contradiction fn_Contradiction nf_Contradiction_index GI_Contradiction (hr.mono (by decide)) hgu kS_Contradiction (fun _ => rfl) g_Contradiction (by decide) (fun _ => rfl) (fun _ => rfl) rfl (fun _ => rfl) (ekw_cons (ek_ed (ed_int (ekw_nil ⟨_, _, _, rfl, rfl, rfl, ⟨_, _, (.int 1), rfl, rfl, rfl, (ea_cons (fun _ => rfl) (ek_ed (ed_exf X_NotExact nf_NotExact_index (fun _ => rfl) (ek_ed (ed_exaK1 (f := "index") T_NotExact i_NotExact fn_NotExact nf_NotExact_index GI_NotExact (hr.mono (by decide)) hgu kS_NotExact (fun _ => rfl) g_NotExact (by decide) (fun _ => rfl) (fun _ => rfl) rfl (fun _ => rfl) (ekw_cons (ek_ed (ed_int (ekw_nil ⟨_, _, _, rfl, rfl, rfl, ⟨_, _, (.int 2), rfl, rfl, rfl, (ea_cons (fun _ => rfl) (ek_ed (ed_exf X_TooLarge nf_TooLarge_limit (fun _ => rfl) (ek_ed (ed_exaK1 (f := "limit") T_TooLarge i_TooLarge fn_TooLarge nf_TooLarge_limit GI_TooLarge (hr.mono (by decide)) hgu kS_TooLarge (fun _ => rfl) g_TooLarge (by decide) (fun _ => rfl) (fun _ => rfl) rfl (fun _ => rfl) (ekw_cons (ek_ed (ed_int (ekw_nil ⟨_, _, _, rfl, rfl, rfl, ⟨_, _, (.int 60), rfl, rfl, rfl, (ea_nil ⟨_, rfl, le1 rfl, (AddR.lst rfl rfl rfl rfl (le1 rfl) (bd_cons (sd_ret (ed_eq hu (ek_ed (ed_add (ek_loan 2 a2 rfl (ek_ed (ed_lst (ea_cons (fun _ => rfl) (ek_ed (ed_exf X_NotPossible nf_NotPossible_least (fun _ => rfl) (ek_ed (ed_name 3 a3 rfl ⟨_, _, (.int 2), rfl, rfl, rfl, (ea_cons (fun _ => rfl) (ek_ed (ed_exf X_NotPossible nf_NotPossible_greatest (fun _ => rfl) (ek_ed (ed_name 3 a3 rfl ⟨_, _, (.int 7), rfl, rfl, rfl, (ea_nil ⟨_, rfl, le1 rfl, (AddR.lst rfl rfl rfl rfl (le1 rfl) (ek_ed (ed_lst (ea_cons (fun _ => rfl) (ek_ed (ed_int (ea_cons (fun _ => rfl) (ek_ed (ed_int (ea_cons (fun _ => rfl) (ek_ed (ed_int (ea_cons (fun _ => rfl) (ek_ed (ed_non (ea_cons (fun _ => rfl) (ek_ed (ed_int (ea_cons (fun _ => rfl) (ek_ed (ed_int (ea_cons (fun _ => rfl) (ek_ed (ed_int (ea_cons (fun _ => rfl) (ek_ed (ed_int (ea_cons (fun _ => rfl) (ek_ed (ed_int (ea_cons (fun _ => rfl) (ek_ed (ed_int (ea_nil ⟨_, rfl, le1 rfl, (EqR.mk rfl rfl rfl rfl ⟨by decide +kernel, by decide +kernel⟩ ?_)⟩))))))))))))))))))))))))))))))))))⟩)⟩)))))⟩))))))))))))))⟩)⟩⟩)))))))))⟩⟩)))))))))⟩⟩)))))))))))))))⟩))))))))))⟩)⟩))))))))))⟩))))))))))⟩))))))))))⟩))))))))))⟩)))))))))))))
      show post (.dt (.bl (id (PyData.eqv (.list [.int 3, .int 4, .int 5, .none, .int 40, .int 1, .int 2, .int 60, .int 2, .int 7]) (.list [.int 3, .int 4, .int 5, .none, .int 40, .int 1, .int 2, .int 60, .int 2, .int 7]))))) []
      rw [show PyData.eqv (.list [.int 3, .int 4, .int 5, .none, .int 40, .int 1, .int 2, .int 60, .int 2, .int 7]) (.list [.int 3, .int 4, .int 5, .none, .int 40, .int 1, .int 2, .int 60, .int 2, .int 7]) = true by decide +kernel]
      exact hq
    · exact absurd hif (by decide +kernel)
end
end K03

namespace K03
open PySem PySem.Spec PyProof.Rows L2 DL
/-- what is checked of the classes -/
def excB (K : PySem.W.Frag) (D : Addr) : Bool :=
  decide (PySem.W.findIn K (.ref D) "__getattribute__" = some (some (.builtin "BaseException.__getattribute__"))) && (decide (PySem.W.findIn K (.ref D) "__getattr__" = some none) && (decide (PySem.W.subIn K (.ref D) (.type "BaseException") = some true) && (PySem.W.hasDictIn K D && (decide (PySem.W.findIn K (.ref D) "__class__" = some (some (.builtin "object.__class__"))) &&
    (decide (PySem.W.specialIn K (.builtin "object.__class__") "__get__" = some (some (.builtin "getset_descriptor.__get__"))) && (decide (PySem.W.takesIn K (.builtin "object.__class__") = some true) && decide (PySem.W.mroIn K D (.type "object") = some true)))))))
theorem excB_ok {K : PySem.W.Frag} {D : Addr} (h : excB K D = true) : ExcC K D := by
  unfold excB at h
  simp only [Bool.and_eq_true, decide_eq_true_eq] at h; obtain ⟨h1, h2, h3, h4, h5, h6, h7, h8⟩ := h
  exact ⟨h1, h2, h3, h4, h5, h6, h7, h8⟩
def rowB (K : PySem.W.Frag) (cs : List Addr) (cD D : Addr) (i : Nat) : Bool :=
  excB K D && (cs.zipIdx.all (fun q => decide (PySem.W.kitOne K (.ref D) (.ref q.1) = some (decide (i = q.2)))) && (decide (PySem.W.kitOne K (.ref D) (.ref cD) = some true) && decide (PySem.W.kitOne K (.ref D) (.type "ValueError") = some true)))
theorem rowB_ok {K : PySem.W.Frag} {cs : List Addr} {cD D : Addr} {i : Nat} {o : Dt} (h : rowB K cs cD D i = true) (kind : ExcD D o) : Own22 K cs cD D o i := by
  unfold rowB at h
  simp only [Bool.and_eq_true, decide_eq_true_eq, List.all_eq_true] at h
  obtain ⟨h1, h2, h3, h4⟩ := h
  exact ⟨excB_ok h1, kind, fun j c e => h2 (c, j) (by rw [List.mem_zipIdx_iff_getElem?]; exact e), h3, h4⟩
def kitsB (K : PySem.W.Frag) (cs : List Addr) (cD : Addr) : Bool :=
  cs.zipIdx.all (fun q => rowB K cs cD q.1 q.2 && decide (PySem.W.exmOne K (.ref q.1) (.ref cD) = some true)) && rowB K cs cD cD 22
theorem kitsB_ok {K : PySem.W.Frag} {cs : List Addr} {cD : Addr} (h : kitsB K cs cD = true) : Kits K cs cD := by
  unfold kitsB at h
  simp only [Bool.and_eq_true, decide_eq_true_eq, List.all_eq_true] at h
  obtain ⟨h1, h2⟩ := h
  have at_i : ∀ (i : Nat) (C : Addr), cs[i]? = some C → (C, i) ∈ cs.zipIdx := fun i C e => by rw [List.mem_zipIdx_iff_getElem?]; exact e
  exact ⟨fun i C o e kind => rowB_ok (h1 _ (at_i i C e)).1 kind, fun o kind => rowB_ok h2 kind, fun i C e => (h1 _ (at_i i C e)).2⟩
def iniS (i : Nat) : Stmt := match topS i with
  | .ClassDef _ _ _ body _ _ _ _ _ _ _ => body.getD 0 (.Pass ⟨0, 0, 0, 0⟩)
  | _ => .Pass ⟨0, 0, 0, 0⟩
abbrev s_Contradiction : Stmt := iniS 21
theorem sc_Contradiction : FnScope ["self", "index"] ["self", "index"] (defScope s_Contradiction) := ⟨rfl, rfl, rfl, by decide +kernel, rfl, by decide +kernel, by decide +kernel⟩
abbrev s_NotExact : Stmt := iniS 22
theorem sc_NotExact : FnScope ["self", "index"] ["self", "index"] (defScope s_NotExact) := ⟨rfl, rfl, rfl, by decide +kernel, rfl, by decide +kernel, by decide +kernel⟩
abbrev s_NotPossible : Stmt := iniS 23
theorem sc_NotPossible : FnScope ["self", "least", "greatest"] ["self", "least", "greatest"] (defScope s_NotPossible) := ⟨rfl, rfl, rfl, by decide +kernel, rfl, by decide +kernel, by decide +kernel⟩
abbrev s_TooLarge : Stmt := iniS 24
theorem sc_TooLarge : FnScope ["self", "limit"] ["self", "limit"] (defScope s_TooLarge) := ⟨rfl, rfl, rfl, by decide +kernel, rfl, by decide +kernel, by decide +kernel⟩
/-- every def of the text, one after another -/
theorem all_defs {l : PySem.W.OpenLaw} {w : World} {K : PySem.W.Frag} {h : Heap} {mg : Str → Option Value} {fa f0 f1 f2 f3 f4 f5 f6 f7 f8 f9 f10 f11 f12 f13 f14 f15 f16 f17 f18 f19 f20 f21 f22 f23 c_InvalidTable c_InvalidItem c_SameItem c_NotAHistory c_InvalidDay c_InvalidNumber c_InvalidForks c_InvalidTold c_InvalidPair c_InvalidPairs c_OtherNumber c_InvalidItems c_InvalidParts c_NoCommon c_InvalidBound c_NothingToUndo c_NotAnObject c_InvalidText c_Contradiction c_NotExact c_NotPossible c_TooLarge c_DaysError : Addr} {nm_Contradiction q_Contradiction : Str} {N_Contradiction fi_Contradiction : Addr} {bs_Contradiction bm_Contradiction sb_Contradiction : List Value} {sn_Contradiction : List Str} {ab_Contradiction : Bool} {co_Contradiction : Option Bool} {dd_Contradiction od_Contradiction an_Contradiction : Option Addr} {ka_Contradiction kb_Contradiction kc_Contradiction kd_Contradiction ke_Contradiction : Option Value} {oc_Contradiction kV_Contradiction dc_Contradiction pm_Contradiction cd_Contradiction ct_Contradiction : Value} {sl_Contradiction : Array (Option Value)} {nm_NotExact q_NotExact : Str} {N_NotExact fi_NotExact : Addr} {bs_NotExact bm_NotExact sb_NotExact : List Value} {sn_NotExact : List Str} {ab_NotExact : Bool} {co_NotExact : Option Bool} {dd_NotExact od_NotExact an_NotExact : Option Addr} {ka_NotExact kb_NotExact kc_NotExact kd_NotExact ke_NotExact : Option Value} {oc_NotExact kV_NotExact dc_NotExact pm_NotExact cd_NotExact ct_NotExact : Value} {sl_NotExact : Array (Option Value)} {nm_NotPossible q_NotPossible : Str} {N_NotPossible fi_NotPossible : Addr} {bs_NotPossible bm_NotPossible sb_NotPossible : List Value} {sn_NotPossible : List Str} {ab_NotPossible : Bool} {co_NotPossible : Option Bool} {dd_NotPossible od_NotPossible an_NotPossible : Option Addr} {ka_NotPossible kb_NotPossible kc_NotPossible kd_NotPossible ke_NotPossible : Option Value} {oc_NotPossible kV_NotPossible dc_NotPossible pm_NotPossible cd_NotPossible ct_NotPossible : Value} {sl_NotPossible : Array (Option Value)} {nm_TooLarge q_TooLarge : Str} {N_TooLarge fi_TooLarge : Addr} {bs_TooLarge bm_TooLarge sb_TooLarge : List Value} {sn_TooLarge : List Str} {ab_TooLarge : Bool} {co_TooLarge : Option Bool} {dd_TooLarge od_TooLarge an_TooLarge : Option Addr} {ka_TooLarge kb_TooLarge kc_TooLarge kd_TooLarge ke_TooLarge : Option Value} {oc_TooLarge kV_TooLarge dc_TooLarge pm_TooLarge cd_TooLarge ct_TooLarge : Value} {sl_TooLarge : Array (Option Value)} (X : K.In h) (G : h.Ns mainGlobals mg) (hfa : mg "law" = some (.ref fa))
    {od0 an0 od1 an1 od2 an2 od3 an3 od4 an4 od5 an5 od6 an6 od7 an7 od8 an8 od9 an9 od10 an10 od11 an11 od12 an12 od13 an13 od14 an14 od15 an15 od16 an16 od17 an17 od18 an18 od19 an19 od20 an20 od21 an21 od22 an22 od23 an23 : Option Addr} {sl0 sl1 sl2 sl3 sl4 sl5 sl6 sl7 sl8 sl9 sl10 sl11 sl12 sl13 sl14 sl15 sl16 sl17 sl18 sl19 sl20 sl21 sl22 sl23 : Array (Option Value)} {oc0 kV0 dc0 pm0 cd0 ct0 oc1 kV1 dc1 pm1 cd1 ct1 oc2 kV2 dc2 pm2 cd2 ct2 oc3 kV3 dc3 pm3 cd3 ct3 oc4 kV4 dc4 pm4 cd4 ct4 oc5 kV5 dc5 pm5 cd5 ct5 oc6 kV6 dc6 pm6 cd6 ct6 oc7 kV7 dc7 pm7 cd7 ct7 oc8 kV8 dc8 pm8 cd8 ct8 oc9 kV9 dc9 pm9 cd9 ct9 oc10 kV10 dc10 pm10 cd10 ct10 oc11 kV11 dc11 pm11 cd11 ct11 oc12 kV12 dc12 pm12 cd12 ct12 oc13 kV13 dc13 pm13 cd13 ct13 oc14 kV14 dc14 pm14 cd14 ct14 oc15 kV15 dc15 pm15 cd15 ct15 oc16 kV16 dc16 pm16 cd16 ct16 oc17 kV17 dc17 pm17 cd17 ct17 oc18 kV18 dc18 pm18 cd18 ct18 oc19 kV19 dc19 pm19 cd19 ct19 oc20 kV20 dc20 pm20 cd20 ct20 oc21 kV21 dc21 pm21 cd21 ct21 oc22 kV22 dc22 pm22 cd22 ct22 oc23 kV23 dc23 pm23 cd23 ct23 : Value}
    (at0 : PySem.W.nsIn K mainGlobals "is_whole" = some (some (.ref f0))) (lk0 : K.lookup f0 = some ⟨oc0, od0, .func (PySem.W.fnOf "is_whole" "is_whole" (defArgs s_is_whole) (defBody s_is_whole) (defScope s_is_whole) .none kV0 dc0 pm0 an0 cd0 ct0), sl0⟩) (co0 : PySem.W.codeIn K cd0 "is_whole" = true) (ke0 : PySem.W.keepIn K (.ref f0) = true)
    (at1 : PySem.W.nsIn K mainGlobals "is_day" = some (some (.ref f1))) (lk1 : K.lookup f1 = some ⟨oc1, od1, .func (PySem.W.fnOf "is_day" "is_day" (defArgs s_is_day) (defBody s_is_day) (defScope s_is_day) .none kV1 dc1 pm1 an1 cd1 ct1), sl1⟩) (co1 : PySem.W.codeIn K cd1 "is_day" = true) (ke1 : PySem.W.keepIn K (.ref f1) = true)
    (at2 : PySem.W.nsIn K mainGlobals "is_item" = some (some (.ref f2))) (lk2 : K.lookup f2 = some ⟨oc2, od2, .func (PySem.W.fnOf "is_item" "is_item" (defArgs s_is_item) (defBody s_is_item) (defScope s_is_item) .none kV2 dc2 pm2 an2 cd2 ct2), sl2⟩) (co2 : PySem.W.codeIn K cd2 "is_item" = true) (ke2 : PySem.W.keepIn K (.ref f2) = true)
    (at3 : PySem.W.nsIn K mainGlobals "_is_row" = some (some (.ref f3))) (lk3 : K.lookup f3 = some ⟨oc3, od3, .func (PySem.W.fnOf "_is_row" "_is_row" (defArgs s__is_row) (defBody s__is_row) (defScope s__is_row) .none kV3 dc3 pm3 an3 cd3 ct3), sl3⟩) (co3 : PySem.W.codeIn K cd3 "_is_row" = true) (ke3 : PySem.W.keepIn K (.ref f3) = true)
    (at4 : PySem.W.nsIn K mainGlobals "is_table" = some (some (.ref f4))) (lk4 : K.lookup f4 = some ⟨oc4, od4, .func (PySem.W.fnOf "is_table" "is_table" (defArgs s_is_table) (defBody s_is_table) (defScope s_is_table) .none kV4 dc4 pm4 an4 cd4 ct4), sl4⟩) (co4 : PySem.W.codeIn K cd4 "is_table" = true) (ke4 : PySem.W.keepIn K (.ref f4) = true)
    (at5 : PySem.W.nsIn K mainGlobals "_first_bad" = some (some (.ref f5))) (lk5 : K.lookup f5 = some ⟨oc5, od5, .func (PySem.W.fnOf "_first_bad" "_first_bad" (defArgs s__first_bad) (defBody s__first_bad) (defScope s__first_bad) .none kV5 dc5 pm5 an5 cd5 ct5), sl5⟩) (co5 : PySem.W.codeIn K cd5 "_first_bad" = true) (ke5 : PySem.W.keepIn K (.ref f5) = true)
    (at6 : PySem.W.nsIn K mainGlobals "is_history" = some (some (.ref f6))) (lk6 : K.lookup f6 = some ⟨oc6, od6, .func (PySem.W.fnOf "is_history" "is_history" (defArgs s_is_history) (defBody s_is_history) (defScope s_is_history) .none kV6 dc6 pm6 an6 cd6 ct6), sl6⟩) (co6 : PySem.W.codeIn K cd6 "is_history" = true) (ke6 : PySem.W.keepIn K (.ref f6) = true)
    (at7 : PySem.W.nsIn K mainGlobals "check_items" = some (some (.ref f7))) (lk7 : K.lookup f7 = some ⟨oc7, od7, .func (PySem.W.fnOf "check_items" "check_items" (defArgs s_check_items) (defBody s_check_items) (defScope s_check_items) .none kV7 dc7 pm7 an7 cd7 ct7), sl7⟩) (co7 : PySem.W.codeIn K cd7 "check_items" = true) (ke7 : PySem.W.keepIn K (.ref f7) = true)
    (at8 : PySem.W.nsIn K mainGlobals "pair_day" = some (some (.ref f8))) (lk8 : K.lookup f8 = some ⟨oc8, od8, .func (PySem.W.fnOf "pair_day" "pair_day" (defArgs s_pair_day) (defBody s_pair_day) (defScope s_pair_day) .none kV8 dc8 pm8 an8 cd8 ct8), sl8⟩) (co8 : PySem.W.codeIn K cd8 "pair_day" = true) (ke8 : PySem.W.keepIn K (.ref f8) = true)
    (at9 : PySem.W.nsIn K mainGlobals "day_of" = some (some (.ref f9))) (lk9 : K.lookup f9 = some ⟨oc9, od9, .func (PySem.W.fnOf "day_of" "day_of" (defArgs s_day_of) (defBody s_day_of) (defScope s_day_of) .none kV9 dc9 pm9 an9 cd9 ct9), sl9⟩) (co9 : PySem.W.codeIn K cd9 "day_of" = true) (ke9 : PySem.W.keepIn K (.ref f9) = true)
    (at10 : PySem.W.nsIn K mainGlobals "bad_triple" = some (some (.ref f10))) (lk10 : K.lookup f10 = some ⟨oc10, od10, .func (PySem.W.fnOf "bad_triple" "bad_triple" (defArgs s_bad_triple) (defBody s_bad_triple) (defScope s_bad_triple) .none kV10 dc10 pm10 an10 cd10 ct10), sl10⟩) (co10 : PySem.W.codeIn K cd10 "bad_triple" = true) (ke10 : PySem.W.keepIn K (.ref f10) = true)
    (at11 : PySem.W.nsIn K mainGlobals "groups_on" = some (some (.ref f11))) (lk11 : K.lookup f11 = some ⟨oc11, od11, .func (PySem.W.fnOf "groups_on" "groups_on" (defArgs s_groups_on) (defBody s_groups_on) (defScope s_groups_on) .none kV11 dc11 pm11 an11 cd11 ct11), sl11⟩) (co11 : PySem.W.codeIn K cd11 "groups_on" = true) (ke11 : PySem.W.keepIn K (.ref f11) = true)
    (at12 : PySem.W.nsIn K mainGlobals "groups" = some (some (.ref f12))) (lk12 : K.lookup f12 = some ⟨oc12, od12, .func (PySem.W.fnOf "groups" "groups" (defArgs s_groups) (defBody s_groups) (defScope s_groups) .none kV12 dc12 pm12 an12 cd12 ct12), sl12⟩) (co12 : PySem.W.codeIn K cd12 "groups" = true) (ke12 : PySem.W.keepIn K (.ref f12) = true)
    (at13 : PySem.W.nsIn K mainGlobals "_law_pail" = some (some (.ref f13))) (lk13 : K.lookup f13 = some ⟨oc13, od13, .func (PySem.W.fnOf "_law_pail" "_law_pail" (defArgs s__law_pail) (defBody s__law_pail) (defScope s__law_pail) .none kV13 dc13 pm13 an13 cd13 ct13), sl13⟩) (co13 : PySem.W.codeIn K cd13 "_law_pail" = true) (ke13 : PySem.W.keepIn K (.ref f13) = true)
    (at14 : PySem.W.nsIn K mainGlobals "_law_dip" = some (some (.ref f14))) (lk14 : K.lookup f14 = some ⟨oc14, od14, .func (PySem.W.fnOf "_law_dip" "_law_dip" (defArgs s__law_dip) (defBody s__law_dip) (defScope s__law_dip) .none kV14 dc14 pm14 an14 cd14 ct14), sl14⟩) (co14 : PySem.W.codeIn K cd14 "_law_dip" = true) (ke14 : PySem.W.keepIn K (.ref f14) = true)
    (at15 : PySem.W.nsIn K mainGlobals "_law_moment" = some (some (.ref f15))) (lk15 : K.lookup f15 = some ⟨oc15, od15, .func (PySem.W.fnOf "_law_moment" "_law_moment" (defArgs s__law_moment) (defBody s__law_moment) (defScope s__law_moment) .none kV15 dc15 pm15 an15 cd15 ct15), sl15⟩) (co15 : PySem.W.codeIn K cd15 "_law_moment" = true) (ke15 : PySem.W.keepIn K (.ref f15) = true)
    (at16 : PySem.W.nsIn K mainGlobals "_law_grown" = some (some (.ref f16))) (lk16 : K.lookup f16 = some ⟨oc16, od16, .func (PySem.W.fnOf "_law_grown" "_law_grown" (defArgs s__law_grown) (defBody s__law_grown) (defScope s__law_grown) .none kV16 dc16 pm16 an16 cd16 ct16), sl16⟩) (co16 : PySem.W.codeIn K cd16 "_law_grown" = true) (ke16 : PySem.W.keepIn K (.ref f16) = true)
    (at17 : PySem.W.nsIn K mainGlobals "_law_label" = some (some (.ref f17))) (lk17 : K.lookup f17 = some ⟨oc17, od17, .func (PySem.W.fnOf "_law_label" "_law_label" (defArgs s__law_label) (defBody s__law_label) (defScope s__law_label) .none kV17 dc17 pm17 an17 cd17 ct17), sl17⟩) (co17 : PySem.W.codeIn K cd17 "_law_label" = true) (ke17 : PySem.W.keepIn K (.ref f17) = true)
    (at18 : PySem.W.nsIn K mainGlobals "_law_told" = some (some (.ref f18))) (lk18 : K.lookup f18 = some ⟨oc18, od18, .func (PySem.W.fnOf "_law_told" "_law_told" (defArgs s__law_told) (defBody s__law_told) (defScope s__law_told) .none kV18 dc18 pm18 an18 cd18 ct18), sl18⟩) (co18 : PySem.W.codeIn K cd18 "_law_told" = true) (ke18 : PySem.W.keepIn K (.ref f18) = true)
    (at19 : PySem.W.nsIn K mainGlobals "_law_no_table" = some (some (.ref f19))) (lk19 : K.lookup f19 = some ⟨oc19, od19, .func (PySem.W.fnOf "_law_no_table" "_law_no_table" (defArgs s__law_no_table) (defBody s__law_no_table) (defScope s__law_no_table) .none kV19 dc19 pm19 an19 cd19 ct19), sl19⟩) (co19 : PySem.W.codeIn K cd19 "_law_no_table" = true) (ke19 : PySem.W.keepIn K (.ref f19) = true)
    (at20 : PySem.W.nsIn K mainGlobals "_law_items_right" = some (some (.ref f20))) (lk20 : K.lookup f20 = some ⟨oc20, od20, .func (PySem.W.fnOf "_law_items_right" "_law_items_right" (defArgs s__law_items_right) (defBody s__law_items_right) (defScope s__law_items_right) .none kV20 dc20 pm20 an20 cd20 ct20), sl20⟩) (co20 : PySem.W.codeIn K cd20 "_law_items_right" = true) (ke20 : PySem.W.keepIn K (.ref f20) = true)
    (at21 : PySem.W.nsIn K mainGlobals "_law_groups_right" = some (some (.ref f21))) (lk21 : K.lookup f21 = some ⟨oc21, od21, .func (PySem.W.fnOf "_law_groups_right" "_law_groups_right" (defArgs s__law_groups_right) (defBody s__law_groups_right) (defScope s__law_groups_right) .none kV21 dc21 pm21 an21 cd21 ct21), sl21⟩) (co21 : PySem.W.codeIn K cd21 "_law_groups_right" = true) (ke21 : PySem.W.keepIn K (.ref f21) = true)
    (at22 : PySem.W.nsIn K mainGlobals "_law_made_right" = some (some (.ref f22))) (lk22 : K.lookup f22 = some ⟨oc22, od22, .func (PySem.W.fnOf "_law_made_right" "_law_made_right" (defArgs s__law_made_right) (defBody s__law_made_right) (defScope s__law_made_right) .none kV22 dc22 pm22 an22 cd22 ct22), sl22⟩) (co22 : PySem.W.codeIn K cd22 "_law_made_right" = true) (ke22 : PySem.W.keepIn K (.ref f22) = true)
    (at23 : PySem.W.nsIn K mainGlobals "law" = some (some (.ref f23))) (lk23 : K.lookup f23 = some ⟨oc23, od23, .func (PySem.W.fnOf "law" "law" (defArgs s_law) (defBody s_law) (defScope s_law) .none kV23 dc23 pm23 an23 cd23 ct23), sl23⟩) (co23 : PySem.W.codeIn K cd23 "law" = true) (ke23 : PySem.W.keepIn K (.ref f23) = true)
    (at_InvalidTable : PySem.W.nsIn K mainGlobals "InvalidTable" = some (some (.ref c_InvalidTable)))
    (at_InvalidItem : PySem.W.nsIn K mainGlobals "InvalidItem" = some (some (.ref c_InvalidItem)))
    (at_SameItem : PySem.W.nsIn K mainGlobals "SameItem" = some (some (.ref c_SameItem)))
    (at_NotAHistory : PySem.W.nsIn K mainGlobals "NotAHistory" = some (some (.ref c_NotAHistory)))
    (at_InvalidDay : PySem.W.nsIn K mainGlobals "InvalidDay" = some (some (.ref c_InvalidDay)))
    (at_InvalidNumber : PySem.W.nsIn K mainGlobals "InvalidNumber" = some (some (.ref c_InvalidNumber)))
    (at_InvalidForks : PySem.W.nsIn K mainGlobals "InvalidForks" = some (some (.ref c_InvalidForks)))
    (at_InvalidTold : PySem.W.nsIn K mainGlobals "InvalidTold" = some (some (.ref c_InvalidTold)))
    (at_InvalidPair : PySem.W.nsIn K mainGlobals "InvalidPair" = some (some (.ref c_InvalidPair)))
    (at_InvalidPairs : PySem.W.nsIn K mainGlobals "InvalidPairs" = some (some (.ref c_InvalidPairs)))
    (at_OtherNumber : PySem.W.nsIn K mainGlobals "OtherNumber" = some (some (.ref c_OtherNumber)))
    (at_InvalidItems : PySem.W.nsIn K mainGlobals "InvalidItems" = some (some (.ref c_InvalidItems)))
    (at_InvalidParts : PySem.W.nsIn K mainGlobals "InvalidParts" = some (some (.ref c_InvalidParts)))
    (at_NoCommon : PySem.W.nsIn K mainGlobals "NoCommon" = some (some (.ref c_NoCommon)))
    (at_InvalidBound : PySem.W.nsIn K mainGlobals "InvalidBound" = some (some (.ref c_InvalidBound)))
    (at_NothingToUndo : PySem.W.nsIn K mainGlobals "NothingToUndo" = some (some (.ref c_NothingToUndo)))
    (at_NotAnObject : PySem.W.nsIn K mainGlobals "NotAnObject" = some (some (.ref c_NotAnObject)))
    (at_InvalidText : PySem.W.nsIn K mainGlobals "InvalidText" = some (some (.ref c_InvalidText)))
    (at_Contradiction : PySem.W.nsIn K mainGlobals "Contradiction" = some (some (.ref c_Contradiction)))
    (at_NotExact : PySem.W.nsIn K mainGlobals "NotExact" = some (some (.ref c_NotExact)))
    (at_NotPossible : PySem.W.nsIn K mainGlobals "NotPossible" = some (some (.ref c_NotPossible)))
    (at_TooLarge : PySem.W.nsIn K mainGlobals "TooLarge" = some (some (.ref c_TooLarge)))
    (at_DaysError : PySem.W.nsIn K mainGlobals "DaysError" = some (some (.ref c_DaysError)))
    (ke_InvalidTable : PySem.W.keepIn K (.ref c_InvalidTable) = true) (mk_InvalidTable : PySem.W.excIn K c_InvalidTable veRow "ValueError.__new__" = true) (su_InvalidTable : PySem.W.subIn K (.ref c_InvalidTable) (.type "BaseException") = some true) (ty_InvalidTable : PySem.W.typeIn K (.ref c_InvalidTable) = some (.type "type"))
    (ke_InvalidItem : PySem.W.keepIn K (.ref c_InvalidItem) = true) (mk_InvalidItem : PySem.W.excIn K c_InvalidItem veRow "ValueError.__new__" = true) (su_InvalidItem : PySem.W.subIn K (.ref c_InvalidItem) (.type "BaseException") = some true) (ty_InvalidItem : PySem.W.typeIn K (.ref c_InvalidItem) = some (.type "type"))
    (ke_SameItem : PySem.W.keepIn K (.ref c_SameItem) = true) (mk_SameItem : PySem.W.excIn K c_SameItem veRow "ValueError.__new__" = true) (su_SameItem : PySem.W.subIn K (.ref c_SameItem) (.type "BaseException") = some true) (ty_SameItem : PySem.W.typeIn K (.ref c_SameItem) = some (.type "type"))
    (ke_NotAHistory : PySem.W.keepIn K (.ref c_NotAHistory) = true) (mk_NotAHistory : PySem.W.excIn K c_NotAHistory veRow "ValueError.__new__" = true) (su_NotAHistory : PySem.W.subIn K (.ref c_NotAHistory) (.type "BaseException") = some true) (ty_NotAHistory : PySem.W.typeIn K (.ref c_NotAHistory) = some (.type "type"))
    (ke_InvalidDay : PySem.W.keepIn K (.ref c_InvalidDay) = true) (mk_InvalidDay : PySem.W.excIn K c_InvalidDay veRow "ValueError.__new__" = true) (su_InvalidDay : PySem.W.subIn K (.ref c_InvalidDay) (.type "BaseException") = some true) (ty_InvalidDay : PySem.W.typeIn K (.ref c_InvalidDay) = some (.type "type"))
    (ke_InvalidNumber : PySem.W.keepIn K (.ref c_InvalidNumber) = true) (mk_InvalidNumber : PySem.W.excIn K c_InvalidNumber veRow "ValueError.__new__" = true) (su_InvalidNumber : PySem.W.subIn K (.ref c_InvalidNumber) (.type "BaseException") = some true) (ty_InvalidNumber : PySem.W.typeIn K (.ref c_InvalidNumber) = some (.type "type"))
    (ke_InvalidForks : PySem.W.keepIn K (.ref c_InvalidForks) = true) (mk_InvalidForks : PySem.W.excIn K c_InvalidForks veRow "ValueError.__new__" = true) (su_InvalidForks : PySem.W.subIn K (.ref c_InvalidForks) (.type "BaseException") = some true) (ty_InvalidForks : PySem.W.typeIn K (.ref c_InvalidForks) = some (.type "type"))
    (ke_InvalidTold : PySem.W.keepIn K (.ref c_InvalidTold) = true) (mk_InvalidTold : PySem.W.excIn K c_InvalidTold veRow "ValueError.__new__" = true) (su_InvalidTold : PySem.W.subIn K (.ref c_InvalidTold) (.type "BaseException") = some true) (ty_InvalidTold : PySem.W.typeIn K (.ref c_InvalidTold) = some (.type "type"))
    (ke_InvalidPair : PySem.W.keepIn K (.ref c_InvalidPair) = true) (mk_InvalidPair : PySem.W.excIn K c_InvalidPair veRow "ValueError.__new__" = true) (su_InvalidPair : PySem.W.subIn K (.ref c_InvalidPair) (.type "BaseException") = some true) (ty_InvalidPair : PySem.W.typeIn K (.ref c_InvalidPair) = some (.type "type"))
    (ke_InvalidPairs : PySem.W.keepIn K (.ref c_InvalidPairs) = true) (mk_InvalidPairs : PySem.W.excIn K c_InvalidPairs veRow "ValueError.__new__" = true) (su_InvalidPairs : PySem.W.subIn K (.ref c_InvalidPairs) (.type "BaseException") = some true) (ty_InvalidPairs : PySem.W.typeIn K (.ref c_InvalidPairs) = some (.type "type"))
    (ke_OtherNumber : PySem.W.keepIn K (.ref c_OtherNumber) = true) (mk_OtherNumber : PySem.W.excIn K c_OtherNumber veRow "ValueError.__new__" = true) (su_OtherNumber : PySem.W.subIn K (.ref c_OtherNumber) (.type "BaseException") = some true) (ty_OtherNumber : PySem.W.typeIn K (.ref c_OtherNumber) = some (.type "type"))
    (ke_InvalidItems : PySem.W.keepIn K (.ref c_InvalidItems) = true) (mk_InvalidItems : PySem.W.excIn K c_InvalidItems veRow "ValueError.__new__" = true) (su_InvalidItems : PySem.W.subIn K (.ref c_InvalidItems) (.type "BaseException") = some true) (ty_InvalidItems : PySem.W.typeIn K (.ref c_InvalidItems) = some (.type "type"))
    (ke_InvalidParts : PySem.W.keepIn K (.ref c_InvalidParts) = true) (mk_InvalidParts : PySem.W.excIn K c_InvalidParts veRow "ValueError.__new__" = true) (su_InvalidParts : PySem.W.subIn K (.ref c_InvalidParts) (.type "BaseException") = some true) (ty_InvalidParts : PySem.W.typeIn K (.ref c_InvalidParts) = some (.type "type"))
    (ke_NoCommon : PySem.W.keepIn K (.ref c_NoCommon) = true) (mk_NoCommon : PySem.W.excIn K c_NoCommon veRow "ValueError.__new__" = true) (su_NoCommon : PySem.W.subIn K (.ref c_NoCommon) (.type "BaseException") = some true) (ty_NoCommon : PySem.W.typeIn K (.ref c_NoCommon) = some (.type "type"))
    (ke_InvalidBound : PySem.W.keepIn K (.ref c_InvalidBound) = true) (mk_InvalidBound : PySem.W.excIn K c_InvalidBound veRow "ValueError.__new__" = true) (su_InvalidBound : PySem.W.subIn K (.ref c_InvalidBound) (.type "BaseException") = some true) (ty_InvalidBound : PySem.W.typeIn K (.ref c_InvalidBound) = some (.type "type"))
    (ke_NothingToUndo : PySem.W.keepIn K (.ref c_NothingToUndo) = true) (mk_NothingToUndo : PySem.W.excIn K c_NothingToUndo veRow "ValueError.__new__" = true) (su_NothingToUndo : PySem.W.subIn K (.ref c_NothingToUndo) (.type "BaseException") = some true) (ty_NothingToUndo : PySem.W.typeIn K (.ref c_NothingToUndo) = some (.type "type"))
    (ke_NotAnObject : PySem.W.keepIn K (.ref c_NotAnObject) = true) (mk_NotAnObject : PySem.W.excIn K c_NotAnObject veRow "ValueError.__new__" = true) (su_NotAnObject : PySem.W.subIn K (.ref c_NotAnObject) (.type "BaseException") = some true) (ty_NotAnObject : PySem.W.typeIn K (.ref c_NotAnObject) = some (.type "type"))
    (ke_InvalidText : PySem.W.keepIn K (.ref c_InvalidText) = true) (mk_InvalidText : PySem.W.excIn K c_InvalidText veRow "ValueError.__new__" = true) (su_InvalidText : PySem.W.subIn K (.ref c_InvalidText) (.type "BaseException") = some true) (ty_InvalidText : PySem.W.typeIn K (.ref c_InvalidText) = some (.type "type"))
    (ke_DaysError : PySem.W.keepIn K (.ref c_DaysError) = true) (mk_DaysError : PySem.W.excIn K c_DaysError veRow "ValueError.__new__" = true) (su_DaysError : PySem.W.subIn K (.ref c_DaysError) (.type "BaseException") = some true) (ty_DaysError : PySem.W.typeIn K (.ref c_DaysError) = some (.type "type"))
    (kb : kitsB K [c_InvalidTable, c_InvalidItem, c_SameItem, c_NotAHistory, c_InvalidDay, c_InvalidNumber, c_InvalidForks, c_InvalidTold, c_InvalidPair, c_InvalidPairs, c_OtherNumber, c_InvalidItems, c_InvalidParts, c_NoCommon, c_InvalidBound, c_NothingToUndo, c_NotAnObject, c_InvalidText, c_Contradiction, c_NotExact, c_NotPossible, c_TooLarge] c_DaysError = true)
    (cl_Contradiction : K.lookup c_Contradiction = some (excClassObj nm_Contradiction q_Contradiction c_Contradiction N_Contradiction bs_Contradiction bm_Contradiction true sn_Contradiction sb_Contradiction ab_Contradiction co_Contradiction dd_Contradiction ka_Contradiction kb_Contradiction kc_Contradiction kd_Contradiction ke_Contradiction "ValueError.__new__")) (rv_Contradiction : PySem.HandSPX.refsVE bm_Contradiction = true) (sa_Contradiction : PySem.W.findIn K (.ref c_Contradiction) "__setattr__" = some (some (.builtin "object.__setattr__"))) (su_Contradiction : PySem.W.subIn K (.ref c_Contradiction) (.type "BaseException") = some true) (ty_Contradiction : PySem.W.typeIn K (.ref c_Contradiction) = some (.type "type")) (kp_Contradiction : PySem.W.keepIn K (.ref c_Contradiction) = true) (xf_Contradiction : xfB K c_Contradiction = true) (i_Contradiction : PySem.W.findIn K (.ref c_Contradiction) "__init__" = some (some (.ref fi_Contradiction))) (fn_Contradiction : PySem.W.typeIn K (.ref fi_Contradiction) = some (.type "function")) (li_Contradiction : K.lookup fi_Contradiction = some ⟨oc_Contradiction, od_Contradiction, .func (PySem.W.fnOf "__init__" "Contradiction.__init__" (defArgs s_Contradiction) (defBody s_Contradiction) (defScope s_Contradiction) .none kV_Contradiction dc_Contradiction pm_Contradiction an_Contradiction cd_Contradiction ct_Contradiction), sl_Contradiction⟩) (ci_Contradiction : PySem.W.codeIn K cd_Contradiction "Contradiction.__init__" = true) (kf_Contradiction : PySem.W.keepIn K (.ref fi_Contradiction) = true) (nf_Contradiction_index : PySem.W.findIn K (.ref c_Contradiction) "index" = some none)
    (cl_NotExact : K.lookup c_NotExact = some (excClassObj nm_NotExact q_NotExact c_NotExact N_NotExact bs_NotExact bm_NotExact true sn_NotExact sb_NotExact ab_NotExact co_NotExact dd_NotExact ka_NotExact kb_NotExact kc_NotExact kd_NotExact ke_NotExact "ValueError.__new__")) (rv_NotExact : PySem.HandSPX.refsVE bm_NotExact = true) (sa_NotExact : PySem.W.findIn K (.ref c_NotExact) "__setattr__" = some (some (.builtin "object.__setattr__"))) (su_NotExact : PySem.W.subIn K (.ref c_NotExact) (.type "BaseException") = some true) (ty_NotExact : PySem.W.typeIn K (.ref c_NotExact) = some (.type "type")) (kp_NotExact : PySem.W.keepIn K (.ref c_NotExact) = true) (xf_NotExact : xfB K c_NotExact = true) (i_NotExact : PySem.W.findIn K (.ref c_NotExact) "__init__" = some (some (.ref fi_NotExact))) (fn_NotExact : PySem.W.typeIn K (.ref fi_NotExact) = some (.type "function")) (li_NotExact : K.lookup fi_NotExact = some ⟨oc_NotExact, od_NotExact, .func (PySem.W.fnOf "__init__" "NotExact.__init__" (defArgs s_NotExact) (defBody s_NotExact) (defScope s_NotExact) .none kV_NotExact dc_NotExact pm_NotExact an_NotExact cd_NotExact ct_NotExact), sl_NotExact⟩) (ci_NotExact : PySem.W.codeIn K cd_NotExact "NotExact.__init__" = true) (kf_NotExact : PySem.W.keepIn K (.ref fi_NotExact) = true) (nf_NotExact_index : PySem.W.findIn K (.ref c_NotExact) "index" = some none)
    (cl_NotPossible : K.lookup c_NotPossible = some (excClassObj nm_NotPossible q_NotPossible c_NotPossible N_NotPossible bs_NotPossible bm_NotPossible true sn_NotPossible sb_NotPossible ab_NotPossible co_NotPossible dd_NotPossible ka_NotPossible kb_NotPossible kc_NotPossible kd_NotPossible ke_NotPossible "ValueError.__new__")) (rv_NotPossible : PySem.HandSPX.refsVE bm_NotPossible = true) (sa_NotPossible : PySem.W.findIn K (.ref c_NotPossible) "__setattr__" = some (some (.builtin "object.__setattr__"))) (su_NotPossible : PySem.W.subIn K (.ref c_NotPossible) (.type "BaseException") = some true) (ty_NotPossible : PySem.W.typeIn K (.ref c_NotPossible) = some (.type "type")) (kp_NotPossible : PySem.W.keepIn K (.ref c_NotPossible) = true) (xf_NotPossible : xfB K c_NotPossible = true) (i_NotPossible : PySem.W.findIn K (.ref c_NotPossible) "__init__" = some (some (.ref fi_NotPossible))) (fn_NotPossible : PySem.W.typeIn K (.ref fi_NotPossible) = some (.type "function")) (li_NotPossible : K.lookup fi_NotPossible = some ⟨oc_NotPossible, od_NotPossible, .func (PySem.W.fnOf "__init__" "NotPossible.__init__" (defArgs s_NotPossible) (defBody s_NotPossible) (defScope s_NotPossible) .none kV_NotPossible dc_NotPossible pm_NotPossible an_NotPossible cd_NotPossible ct_NotPossible), sl_NotPossible⟩) (ci_NotPossible : PySem.W.codeIn K cd_NotPossible "NotPossible.__init__" = true) (kf_NotPossible : PySem.W.keepIn K (.ref fi_NotPossible) = true) (nf_NotPossible_least : PySem.W.findIn K (.ref c_NotPossible) "least" = some none) (nf_NotPossible_greatest : PySem.W.findIn K (.ref c_NotPossible) "greatest" = some none)
    (cl_TooLarge : K.lookup c_TooLarge = some (excClassObj nm_TooLarge q_TooLarge c_TooLarge N_TooLarge bs_TooLarge bm_TooLarge true sn_TooLarge sb_TooLarge ab_TooLarge co_TooLarge dd_TooLarge ka_TooLarge kb_TooLarge kc_TooLarge kd_TooLarge ke_TooLarge "ValueError.__new__")) (rv_TooLarge : PySem.HandSPX.refsVE bm_TooLarge = true) (sa_TooLarge : PySem.W.findIn K (.ref c_TooLarge) "__setattr__" = some (some (.builtin "object.__setattr__"))) (su_TooLarge : PySem.W.subIn K (.ref c_TooLarge) (.type "BaseException") = some true) (ty_TooLarge : PySem.W.typeIn K (.ref c_TooLarge) = some (.type "type")) (kp_TooLarge : PySem.W.keepIn K (.ref c_TooLarge) = true) (xf_TooLarge : xfB K c_TooLarge = true) (i_TooLarge : PySem.W.findIn K (.ref c_TooLarge) "__init__" = some (some (.ref fi_TooLarge))) (fn_TooLarge : PySem.W.typeIn K (.ref fi_TooLarge) = some (.type "function")) (li_TooLarge : K.lookup fi_TooLarge = some ⟨oc_TooLarge, od_TooLarge, .func (PySem.W.fnOf "__init__" "TooLarge.__init__" (defArgs s_TooLarge) (defBody s_TooLarge) (defScope s_TooLarge) .none kV_TooLarge dc_TooLarge pm_TooLarge an_TooLarge cd_TooLarge ct_TooLarge), sl_TooLarge⟩) (ci_TooLarge : PySem.W.codeIn K cd_TooLarge "TooLarge.__init__" = true) (kf_TooLarge : PySem.W.keepIn K (.ref fi_TooLarge) = true) (nf_TooLarge_limit : PySem.W.findIn K (.ref c_TooLarge) "limit" = some none)
    (z_ValueError : PySem.W.nsIn K mainGlobals "ValueError" = some none) (z_abs : PySem.W.nsIn K mainGlobals "abs" = some none) (z_all : PySem.W.nsIn K mainGlobals "all" = some none) (z_bool : PySem.W.nsIn K mainGlobals "bool" = some none) (z_enumerate : PySem.W.nsIn K mainGlobals "enumerate" = some none) (z_int : PySem.W.nsIn K mainGlobals "int" = some none) (z_isinstance : PySem.W.nsIn K mainGlobals "isinstance" = some none) (z_len : PySem.W.nsIn K mainGlobals "len" = some none) (z_list : PySem.W.nsIn K mainGlobals "list" = some none) (z_max : PySem.W.nsIn K mainGlobals "max" = some none) (z_min : PySem.W.nsIn K mainGlobals "min" = some none) (z_range : PySem.W.nsIn K mainGlobals "range" = some none) (z_repr : PySem.W.nsIn K mainGlobals "repr" = some none) (z_sorted : PySem.W.nsIn K mainGlobals "sorted" = some none) (z_tuple : PySem.W.nsIn K mainGlobals "tuple" = some none)
    (z_combinations : PySem.W.nsIn K mainGlobals "combinations" = some (some (.type "itertools.combinations"))) :
    ∃ fd : FuncData, (∀ (s : Shared) (u : Value), BindsTo s fd ⟨[u], []⟩ [("script", u)]) ∧ ∀ base : Heap, K.In base → base.Ns mainGlobals mg → FnG l.prog w K mg base 9 fa fd ["script"] (spD K dsLaw) := by
  have same := hfa.symm.trans (PySem.W.mg_of X G at23)
  cases same
  have m_ValueError := PySem.W.mg_none_of X G z_ValueError
  have m_abs := PySem.W.mg_none_of X G z_abs
  have m_all := PySem.W.mg_none_of X G z_all
  have m_bool := PySem.W.mg_none_of X G z_bool
  have m_enumerate := PySem.W.mg_none_of X G z_enumerate
  have m_int := PySem.W.mg_none_of X G z_int
  have m_isinstance := PySem.W.mg_none_of X G z_isinstance
  have m_len := PySem.W.mg_none_of X G z_len
  have m_list := PySem.W.mg_none_of X G z_list
  have m_max := PySem.W.mg_none_of X G z_max
  have m_min := PySem.W.mg_none_of X G z_min
  have m_range := PySem.W.mg_none_of X G z_range
  have m_repr := PySem.W.mg_none_of X G z_repr
  have m_sorted := PySem.W.mg_none_of X G z_sorted
  have m_tuple := PySem.W.mg_none_of X G z_tuple
  have m_combinations := PySem.W.mg_of X G z_combinations
  have kits := kitsB_ok kb
  have g_InvalidTable := PySem.W.mg_of X G at_InvalidTable
  have g_InvalidItem := PySem.W.mg_of X G at_InvalidItem
  have g_SameItem := PySem.W.mg_of X G at_SameItem
  have g_NotAHistory := PySem.W.mg_of X G at_NotAHistory
  have g_InvalidDay := PySem.W.mg_of X G at_InvalidDay
  have g_InvalidNumber := PySem.W.mg_of X G at_InvalidNumber
  have g_InvalidForks := PySem.W.mg_of X G at_InvalidForks
  have g_InvalidTold := PySem.W.mg_of X G at_InvalidTold
  have g_InvalidPair := PySem.W.mg_of X G at_InvalidPair
  have g_InvalidPairs := PySem.W.mg_of X G at_InvalidPairs
  have g_OtherNumber := PySem.W.mg_of X G at_OtherNumber
  have g_InvalidItems := PySem.W.mg_of X G at_InvalidItems
  have g_InvalidParts := PySem.W.mg_of X G at_InvalidParts
  have g_NoCommon := PySem.W.mg_of X G at_NoCommon
  have g_InvalidBound := PySem.W.mg_of X G at_InvalidBound
  have g_NothingToUndo := PySem.W.mg_of X G at_NothingToUndo
  have g_NotAnObject := PySem.W.mg_of X G at_NotAnObject
  have g_InvalidText := PySem.W.mg_of X G at_InvalidText
  have g_Contradiction := PySem.W.mg_of X G at_Contradiction
  have g_NotExact := PySem.W.mg_of X G at_NotExact
  have g_NotPossible := PySem.W.mg_of X G at_NotPossible
  have g_TooLarge := PySem.W.mg_of X G at_TooLarge
  have g_DaysError := PySem.W.mg_of X G at_DaysError
  have O_InvalidTable : OwnExc K mg "InvalidTable" c_InvalidTable := ⟨g_InvalidTable, ke_InvalidTable, mk_InvalidTable, su_InvalidTable, ty_InvalidTable⟩
  have O_InvalidItem : OwnExc K mg "InvalidItem" c_InvalidItem := ⟨g_InvalidItem, ke_InvalidItem, mk_InvalidItem, su_InvalidItem, ty_InvalidItem⟩
  have O_SameItem : OwnExc K mg "SameItem" c_SameItem := ⟨g_SameItem, ke_SameItem, mk_SameItem, su_SameItem, ty_SameItem⟩
  have O_NotAHistory : OwnExc K mg "NotAHistory" c_NotAHistory := ⟨g_NotAHistory, ke_NotAHistory, mk_NotAHistory, su_NotAHistory, ty_NotAHistory⟩
  have O_InvalidDay : OwnExc K mg "InvalidDay" c_InvalidDay := ⟨g_InvalidDay, ke_InvalidDay, mk_InvalidDay, su_InvalidDay, ty_InvalidDay⟩
  have O_InvalidNumber : OwnExc K mg "InvalidNumber" c_InvalidNumber := ⟨g_InvalidNumber, ke_InvalidNumber, mk_InvalidNumber, su_InvalidNumber, ty_InvalidNumber⟩
  have O_InvalidForks : OwnExc K mg "InvalidForks" c_InvalidForks := ⟨g_InvalidForks, ke_InvalidForks, mk_InvalidForks, su_InvalidForks, ty_InvalidForks⟩
  have O_InvalidTold : OwnExc K mg "InvalidTold" c_InvalidTold := ⟨g_InvalidTold, ke_InvalidTold, mk_InvalidTold, su_InvalidTold, ty_InvalidTold⟩
  have O_InvalidPair : OwnExc K mg "InvalidPair" c_InvalidPair := ⟨g_InvalidPair, ke_InvalidPair, mk_InvalidPair, su_InvalidPair, ty_InvalidPair⟩
  have O_InvalidPairs : OwnExc K mg "InvalidPairs" c_InvalidPairs := ⟨g_InvalidPairs, ke_InvalidPairs, mk_InvalidPairs, su_InvalidPairs, ty_InvalidPairs⟩
  have O_OtherNumber : OwnExc K mg "OtherNumber" c_OtherNumber := ⟨g_OtherNumber, ke_OtherNumber, mk_OtherNumber, su_OtherNumber, ty_OtherNumber⟩
  have O_InvalidItems : OwnExc K mg "InvalidItems" c_InvalidItems := ⟨g_InvalidItems, ke_InvalidItems, mk_InvalidItems, su_InvalidItems, ty_InvalidItems⟩
  have O_InvalidParts : OwnExc K mg "InvalidParts" c_InvalidParts := ⟨g_InvalidParts, ke_InvalidParts, mk_InvalidParts, su_InvalidParts, ty_InvalidParts⟩
  have O_NoCommon : OwnExc K mg "NoCommon" c_NoCommon := ⟨g_NoCommon, ke_NoCommon, mk_NoCommon, su_NoCommon, ty_NoCommon⟩
  have O_InvalidBound : OwnExc K mg "InvalidBound" c_InvalidBound := ⟨g_InvalidBound, ke_InvalidBound, mk_InvalidBound, su_InvalidBound, ty_InvalidBound⟩
  have O_NothingToUndo : OwnExc K mg "NothingToUndo" c_NothingToUndo := ⟨g_NothingToUndo, ke_NothingToUndo, mk_NothingToUndo, su_NothingToUndo, ty_NothingToUndo⟩
  have O_NotAnObject : OwnExc K mg "NotAnObject" c_NotAnObject := ⟨g_NotAnObject, ke_NotAnObject, mk_NotAnObject, su_NotAnObject, ty_NotAnObject⟩
  have O_InvalidText : OwnExc K mg "InvalidText" c_InvalidText := ⟨g_InvalidText, ke_InvalidText, mk_InvalidText, su_InvalidText, ty_InvalidText⟩
  have O_DaysError : OwnExc K mg "DaysError" c_DaysError := ⟨g_DaysError, ke_DaysError, mk_DaysError, su_DaysError, ty_DaysError⟩
  have T_Contradiction : OexC K c_Contradiction := ⟨⟨_, _, _, _, _, _, _, _, _, _, _, _, _, _, _, cl_Contradiction, rv_Contradiction⟩, sa_Contradiction, su_Contradiction, ty_Contradiction, kp_Contradiction⟩
  have X_Contradiction : XfC K c_Contradiction := xfB_ok xf_Contradiction
  have F_Contradiction := fun_mk (st := s_Contradiction) li_Contradiction ci_Contradiction kf_Contradiction
  have bI_Contradiction := F_Contradiction.binds (ps := ["self", "index"]) fun _ _ _ _ _ _ us many => match us, many with | [_, _], _ => rfl
  have kS_Contradiction := KwS.mk F_Contradiction (ps := ["self", "index"]) (ks := ["index"]) (ord := [0]) fun _ _ _ _ _ _ _ us many => match us, many with | [_], _ => rfl
  have T_NotExact : OexC K c_NotExact := ⟨⟨_, _, _, _, _, _, _, _, _, _, _, _, _, _, _, cl_NotExact, rv_NotExact⟩, sa_NotExact, su_NotExact, ty_NotExact, kp_NotExact⟩
  have X_NotExact : XfC K c_NotExact := xfB_ok xf_NotExact
  have F_NotExact := fun_mk (st := s_NotExact) li_NotExact ci_NotExact kf_NotExact
  have bI_NotExact := F_NotExact.binds (ps := ["self", "index"]) fun _ _ _ _ _ _ us many => match us, many with | [_, _], _ => rfl
  have kS_NotExact := KwS.mk F_NotExact (ps := ["self", "index"]) (ks := ["index"]) (ord := [0]) fun _ _ _ _ _ _ _ us many => match us, many with | [_], _ => rfl
  have T_NotPossible : OexC K c_NotPossible := ⟨⟨_, _, _, _, _, _, _, _, _, _, _, _, _, _, _, cl_NotPossible, rv_NotPossible⟩, sa_NotPossible, su_NotPossible, ty_NotPossible, kp_NotPossible⟩
  have X_NotPossible : XfC K c_NotPossible := xfB_ok xf_NotPossible
  have F_NotPossible := fun_mk (st := s_NotPossible) li_NotPossible ci_NotPossible kf_NotPossible
  have bI_NotPossible := F_NotPossible.binds (ps := ["self", "least", "greatest"]) fun _ _ _ _ _ _ us many => match us, many with | [_, _, _], _ => rfl
  have kS_NotPossible := KwS.mk F_NotPossible (ps := ["self", "least", "greatest"]) (ks := ["greatest", "least"]) (ord := [1, 0]) fun _ _ _ _ _ _ _ us many => match us, many with | [_, _], _ => rfl
  have T_TooLarge : OexC K c_TooLarge := ⟨⟨_, _, _, _, _, _, _, _, _, _, _, _, _, _, _, cl_TooLarge, rv_TooLarge⟩, sa_TooLarge, su_TooLarge, ty_TooLarge, kp_TooLarge⟩
  have X_TooLarge : XfC K c_TooLarge := xfB_ok xf_TooLarge
  have F_TooLarge := fun_mk (st := s_TooLarge) li_TooLarge ci_TooLarge kf_TooLarge
  have bI_TooLarge := F_TooLarge.binds (ps := ["self", "limit"]) fun _ _ _ _ _ _ us many => match us, many with | [_, _], _ => rfl
  have kS_TooLarge := KwS.mk F_TooLarge (ps := ["self", "limit"]) (ks := ["limit"]) (ord := [0]) fun _ _ _ _ _ _ _ us many => match us, many with | [_], _ => rfl
  have F_is_whole := fun_mk (st := s_is_whole) lk0 co0 ke0
  have b_is_whole := F_is_whole.binds (ps := ["value"]) fun _ _ _ _ _ _ us many => match us, many with | [_], _ => rfl
  have g_is_whole := PySem.W.mg_of X G at0
  have F_is_day := fun_mk (st := s_is_day) lk1 co1 ke1
  have b_is_day := F_is_day.binds (ps := ["value"]) fun _ _ _ _ _ _ us many => match us, many with | [_], _ => rfl
  have g_is_day := PySem.W.mg_of X G at1
  have F_is_item := fun_mk (st := s_is_item) lk2 co2 ke2
  have b_is_item := F_is_item.binds (ps := ["value", "many"]) fun _ _ _ _ _ _ us many => match us, many with | [_, _], _ => rfl
  have g_is_item := PySem.W.mg_of X G at2
  have F__is_row := fun_mk (st := s__is_row) lk3 co3 ke3
  have b__is_row := F__is_row.binds (ps := ["value", "length"]) fun _ _ _ _ _ _ us many => match us, many with | [_, _], _ => rfl
  have g__is_row := PySem.W.mg_of X G at3
  have F_is_table := fun_mk (st := s_is_table) lk4 co4 ke4
  have b_is_table := F_is_table.binds (ps := ["value"]) fun _ _ _ _ _ _ us many => match us, many with | [_], _ => rfl
  have g_is_table := PySem.W.mg_of X G at4
  have F__first_bad := fun_mk (st := s__first_bad) lk5 co5 ke5
  have b__first_bad := F__first_bad.binds (ps := ["table"]) fun _ _ _ _ _ _ us many => match us, many with | [_], _ => rfl
  have g__first_bad := PySem.W.mg_of X G at5
  have F_is_history := fun_mk (st := s_is_history) lk6 co6 ke6
  have b_is_history := F_is_history.binds (ps := ["value"]) fun _ _ _ _ _ _ us many => match us, many with | [_], _ => rfl
  have g_is_history := PySem.W.mg_of X G at6
  have F_check_items := fun_mk (st := s_check_items) lk7 co7 ke7
  have b_check_items := F_check_items.binds (ps := ["many", "one", "other"]) fun _ _ _ _ _ _ us many => match us, many with | [_, _, _], _ => rfl
  have g_check_items := PySem.W.mg_of X G at7
  have F_pair_day := fun_mk (st := s_pair_day) lk8 co8 ke8
  have b_pair_day := F_pair_day.binds (ps := ["table", "one", "other"]) fun _ _ _ _ _ _ us many => match us, many with | [_, _, _], _ => rfl
  have g_pair_day := PySem.W.mg_of X G at8
  have F_day_of := fun_mk (st := s_day_of) lk9 co9 ke9
  have b_day_of := F_day_of.binds (ps := ["table", "one", "other"]) fun _ _ _ _ _ _ us many => match us, many with | [_, _, _], _ => rfl
  have g_day_of := PySem.W.mg_of X G at9
  have kp_day_of := KwP.mk F_day_of (ps := ["table", "one", "other"]) (ks := ["other", "one", "table"]) (ord := [2, 1, 0]) fun _ _ _ _ _ _ us many => match us, many with | [_, _, _], _ => rfl
  have F_bad_triple := fun_mk (st := s_bad_triple) lk10 co10 ke10
  have b_bad_triple := F_bad_triple.binds (ps := ["table"]) fun _ _ _ _ _ _ us many => match us, many with | [_], _ => rfl
  have g_bad_triple := PySem.W.mg_of X G at10
  have F_groups_on := fun_mk (st := s_groups_on) lk11 co11 ke11
  have b_groups_on := F_groups_on.binds (ps := ["history", "day"]) fun _ _ _ _ _ _ us many => match us, many with | [_, _], _ => rfl
  have g_groups_on := PySem.W.mg_of X G at11
  have F_groups := fun_mk (st := s_groups) lk12 co12 ke12
  have b_groups := F_groups.binds (ps := ["history", "day"]) fun _ _ _ _ _ _ us many => match us, many with | [_, _], _ => rfl
  have g_groups := PySem.W.mg_of X G at12
  have kp_groups := KwP.mk F_groups (ps := ["history", "day"]) (ks := ["day", "history"]) (ord := [1, 0]) fun _ _ _ _ _ _ us many => match us, many with | [_, _], _ => rfl
  have F__law_pail := fun_mk (st := s__law_pail) lk13 co13 ke13
  have b__law_pail := F__law_pail.binds (ps := ["script", "at"]) fun _ _ _ _ _ _ us many => match us, many with | [_, _], _ => rfl
  have g__law_pail := PySem.W.mg_of X G at13
  have F__law_dip := fun_mk (st := s__law_dip) lk14 co14 ke14
  have b__law_dip := F__law_dip.binds (ps := ["pail", "many"]) fun _ _ _ _ _ _ us many => match us, many with | [_, _], _ => rfl
  have g__law_dip := PySem.W.mg_of X G at14
  have F__law_moment := fun_mk (st := s__law_moment) lk15 co15 ke15
  have b__law_moment := F__law_moment.binds (ps := ["pail", "style"]) fun _ _ _ _ _ _ us many => match us, many with | [_, _], _ => rfl
  have g__law_moment := PySem.W.mg_of X G at15
  have F__law_grown := fun_mk (st := s__law_grown) lk16 co16 ke16
  have b__law_grown := F__law_grown.binds (ps := ["pail", "many"]) fun _ _ _ _ _ _ us many => match us, many with | [_, _], _ => rfl
  have g__law_grown := PySem.W.mg_of X G at16
  have F__law_label := fun_mk (st := s__law_label) lk17 co17 ke17
  have b__law_label := F__law_label.binds (ps := ["e"]) fun _ _ _ _ _ _ us many => match us, many with | [_], _ => rfl
  have g__law_label := PySem.W.mg_of X G at17
  have F__law_told := fun_mk (st := s__law_told) lk18 co18 ke18
  have b__law_told := F__law_told.binds (ps := ["way", "uno", "two", "three"]) fun _ _ _ _ _ _ us many => match us, many with | [_, _, _, _], _ => rfl
  have g__law_told := PySem.W.mg_of X G at18
  have F__law_no_table := fun_mk (st := s__law_no_table) lk19 co19 ke19
  have b__law_no_table := F__law_no_table.binds (ps := ["pail", "known"]) fun _ _ _ _ _ _ us many => match us, many with | [_, _], _ => rfl
  have g__law_no_table := PySem.W.mg_of X G at19
  have F__law_items_right := fun_mk (st := s__law_items_right) lk20 co20 ke20
  have b__law_items_right := F__law_items_right.binds (ps := ["pail", "known"]) fun _ _ _ _ _ _ us many => match us, many with | [_, _], _ => rfl
  have g__law_items_right := PySem.W.mg_of X G at20
  have F__law_groups_right := fun_mk (st := s__law_groups_right) lk21 co21 ke21
  have b__law_groups_right := F__law_groups_right.binds (ps := ["pail", "known"]) fun _ _ _ _ _ _ us many => match us, many with | [_, _], _ => rfl
  have g__law_groups_right := PySem.W.mg_of X G at21
  have F__law_made_right := fun_mk (st := s__law_made_right) lk22 co22 ke22
  have b__law_made_right := F__law_made_right.binds (ps := []) fun _ _ _ _ _ _ us many => match us, many with | [], _ => rfl
  have g__law_made_right := PySem.W.mg_of X G at22
  have F_law := fun_mk (st := s_law) lk23 co23 ke23
  have b_law := F_law.binds (ps := ["script"]) fun _ _ _ _ _ _ us many => match us, many with | [_], _ => rfl
  have g_law := PySem.W.mg_of X G at23
  refine ⟨PySem.W.fnOf "law" "law" (defArgs s_law) (defBody s_law) (defScope s_law) .none kV23 dc23 pm23 an23 cd23 ct23, fun _ _ => BindsTo.of_eq rfl, fun base _ _ => ?_⟩
  have GI_Contradiction := init1 (P := l.prog) (w := w) (mg := mg) (base := base) F_Contradiction sc_Contradiction rfl (by first | exact .inl rfl | exact .inr (.inl rfl)) (by first | exact .inl rfl | exact .inr (.inl rfl)) (by decide) (by decide)
  have GI_NotExact := init1 (P := l.prog) (w := w) (mg := mg) (base := base) F_NotExact sc_NotExact rfl (by first | exact .inl rfl | exact .inr (.inl rfl)) (by first | exact .inl rfl | exact .inr (.inl rfl)) (by decide) (by decide)
  have GI_NotPossible := init2 (P := l.prog) (w := w) (mg := mg) (base := base) F_NotPossible sc_NotPossible rfl (by first | exact .inl rfl | exact .inr (.inl rfl)) (by first | exact .inl rfl | exact .inr (.inl rfl)) (by first | exact .inl rfl | exact .inr (.inl rfl)) (by decide) (by decide) (by decide) (by decide)
  have GI_TooLarge := init1 (P := l.prog) (w := w) (mg := mg) (base := base) F_TooLarge sc_TooLarge rfl (by first | exact .inl rfl | exact .inr (.inl rfl)) (by first | exact .inl rfl | exact .inr (.inl rfl)) (by decide) (by decide)
  have G_is_whole := ok_is_whole (P := l.prog) (w := w) (K := K) (mg := mg) (base := base) m_isinstance m_int m_bool F_is_whole
  have G_is_day := ok_is_day (P := l.prog) (w := w) (K := K) (mg := mg) (base := base) G_is_whole g_is_whole ke0 b_is_whole F_is_day
  have G_is_item := ok_is_item (P := l.prog) (w := w) (K := K) (mg := mg) (base := base) G_is_whole g_is_whole ke0 b_is_whole F_is_item
  have G__is_row := ok__is_row (P := l.prog) (w := w) (K := K) (mg := mg) (base := base) G_is_day g_is_day ke1 b_is_day m_isinstance m_tuple m_len m_all F__is_row
  have G_is_table := ok_is_table (P := l.prog) (w := w) (K := K) (mg := mg) (base := base) G__is_row g__is_row ke3 b__is_row m_isinstance m_tuple m_len m_all m_enumerate F_is_table
  have G__first_bad := ok__first_bad (P := l.prog) (w := w) (K := K) (mg := mg) (base := base) m_len m_sorted m_combinations m_range F__first_bad
  have G_is_history := ok_is_history (P := l.prog) (w := w) (K := K) (mg := mg) (base := base) G_is_table g_is_table ke4 b_is_table G__first_bad g__first_bad ke5 b__first_bad F_is_history
  have G_check_items := ok_check_items (P := l.prog) (w := w) (K := K) (mg := mg) (base := base) G_is_item g_is_item ke2 b_is_item O_InvalidItem O_SameItem F_check_items
  have G_pair_day := ok_pair_day (P := l.prog) (w := w) (K := K) (mg := mg) (base := base) m_max m_min F_pair_day
  have G_day_of := ok_day_of (P := l.prog) (w := w) (K := K) (mg := mg) (base := base) G_is_table g_is_table ke4 b_is_table G_check_items g_check_items ke7 b_check_items G_pair_day g_pair_day ke8 b_pair_day m_len O_InvalidTable F_day_of
  have G_bad_triple := ok_bad_triple (P := l.prog) (w := w) (K := K) (mg := mg) (base := base) G_is_table g_is_table ke4 b_is_table G__first_bad g__first_bad ke5 b__first_bad O_InvalidTable F_bad_triple
  have G_groups_on := ok_groups_on (P := l.prog) (w := w) (K := K) (mg := mg) (base := base) m_enumerate m_all m_range m_len F_groups_on
  have G_groups := ok_groups (P := l.prog) (w := w) (K := K) (mg := mg) (base := base) G_is_history g_is_history ke6 b_is_history G_is_day g_is_day ke1 b_is_day G_groups_on g_groups_on ke11 b_groups_on O_NotAHistory O_InvalidDay F_groups
  have G__law_pail := ok__law_pail (P := l.prog) (w := w) (K := K) (mg := mg) (base := base) m_len m_abs m_max F__law_pail
  have G__law_dip := ok_dip (P := l.prog) (w := w) (K := K) (mg := mg) (base := base)  F__law_dip
  have G__law_moment := ok__law_moment (P := l.prog) (w := w) (K := K) (mg := mg) (base := base) G__law_dip g__law_dip ke14 b__law_dip F__law_moment
  have G__law_grown := ok__law_grown (P := l.prog) (w := w) (K := K) (mg := mg) (base := base) G__law_dip g__law_dip ke14 b__law_dip G__law_moment g__law_moment ke15 b__law_moment m_range m_max m_min m_tuple F__law_grown
  have E__law_label := ok__law_label (P := l.prog) (w := w) (K := K) (mg := mg) (base := base) g_InvalidTable g_InvalidItem g_SameItem g_NotAHistory g_InvalidDay g_InvalidNumber g_InvalidForks g_InvalidTold g_InvalidPair g_InvalidPairs g_OtherNumber g_InvalidItems g_InvalidParts g_NoCommon g_InvalidBound g_NothingToUndo g_NotAnObject g_InvalidText g_Contradiction g_NotExact g_NotPossible g_TooLarge g_DaysError m_isinstance m_len m_ValueError F__law_label
  have G__law_told := ok__law_told (P := l.prog) (w := w) (K := K) (mg := mg) (base := base) kits g_DaysError G_day_of g_day_of ke9 b_day_of kp_day_of G_bad_triple g_bad_triple ke10 b_bad_triple G_groups g_groups ke12 b_groups kp_groups E__law_label g__law_label ke17 b__law_label F__law_told
  have G__law_no_table := ok__law_no_table (P := l.prog) (w := w) (K := K) (mg := mg) (base := base) G__law_dip g__law_dip ke14 b__law_dip m_len m_list F__law_no_table
  have G__law_items_right := ok__law_items_right (P := l.prog) (w := w) (K := K) (mg := mg) (base := base) G__law_dip g__law_dip ke14 b__law_dip G__law_no_table g__law_no_table ke19 b__law_no_table G__law_told g__law_told ke18 b__law_told m_len m_int m_range m_repr F__law_items_right
  have G__law_groups_right := ok__law_groups_right (P := l.prog) (w := w) (K := K) (mg := mg) (base := base) G__law_dip g__law_dip ke14 b__law_dip G__law_no_table g__law_no_table ke19 b__law_no_table G__law_told g__law_told ke18 b__law_told m_len m_int m_range m_repr m_tuple F__law_groups_right
  have G__law_made_right := ok__law_made_right (P := l.prog) (w := w) (K := K) (mg := mg) (base := base) kits O_InvalidTable O_InvalidItem O_SameItem O_NotAHistory O_InvalidDay O_InvalidNumber O_InvalidForks O_InvalidTold O_InvalidPair O_InvalidPairs O_OtherNumber O_InvalidItems O_InvalidParts O_NoCommon O_InvalidBound O_NothingToUndo O_NotAnObject O_InvalidText O_DaysError g_Contradiction g_NotExact g_NotPossible g_TooLarge T_Contradiction i_Contradiction fn_Contradiction X_Contradiction GI_Contradiction bI_Contradiction kS_Contradiction nf_Contradiction_index T_NotExact i_NotExact fn_NotExact X_NotExact GI_NotExact bI_NotExact kS_NotExact nf_NotExact_index T_NotPossible i_NotPossible fn_NotPossible X_NotPossible GI_NotPossible bI_NotPossible kS_NotPossible nf_NotPossible_least nf_NotPossible_greatest T_TooLarge i_TooLarge fn_TooLarge X_TooLarge GI_TooLarge bI_TooLarge kS_TooLarge nf_TooLarge_limit E__law_label g__law_label ke17 b__law_label F__law_made_right
  exact ok_law (P := l.prog) (w := w) (K := K) (mg := mg) (base := base) G__law_pail g__law_pail ke13 b__law_pail G__law_dip g__law_dip ke14 b__law_dip G__law_grown g__law_grown ke16 b__law_grown G__law_items_right g__law_items_right ke20 b__law_items_right G__law_groups_right g__law_groups_right ke21 b__law_groups_right G__law_made_right g__law_made_right ke22 b__law_made_right G__law_told g__law_told ke18 b__law_told m_range m_max m_min m_len m_int F_law
end K03

open PySem PySem.W PyProof.Rows DL in
set_option maxRecDepth 200000 in
set_option maxHeartbeats 0 in
theorem PySem.Challenge.cw_commondays_k03_errors_of_tables_holds : PySem.Challenge.rw_commondays_k03_errors_of_tables.Holds := by
  w_on; o_law; k_head
  case hw => w_witness2
  k_fill
  refine walkG (l := PySem.Challenge.rw_commondays_k03_errors_of_tables) (n := 63) (k := 9) (x := "script") (DS := K03.dsLaw) rfl (by rw [sizeLine_eq]; omega) rfl ⟨by decide, by decide, by decide⟩ (fun w h Y => PySem.W.kIn_of Y) ?F (fun ns many => ⟨ns, rfl, many, rfl⟩)
  case F =>
    intro w mg fa h KX G hmg
    refine' K03.all_defs KX G hmg ?at0 ?lk0 ?co0 ?ke0 ?at1 ?lk1 ?co1 ?ke1 ?at2 ?lk2 ?co2 ?ke2 ?at3 ?lk3 ?co3 ?ke3 ?at4 ?lk4 ?co4 ?ke4 ?at5 ?lk5 ?co5 ?ke5 ?at6 ?lk6 ?co6 ?ke6 ?at7 ?lk7 ?co7 ?ke7 ?at8 ?lk8 ?co8 ?ke8 ?at9 ?lk9 ?co9 ?ke9 ?at10 ?lk10 ?co10 ?ke10 ?at11 ?lk11 ?co11 ?ke11 ?at12 ?lk12 ?co12 ?ke12 ?at13 ?lk13 ?co13 ?ke13 ?at14 ?lk14 ?co14 ?ke14 ?at15 ?lk15 ?co15 ?ke15 ?at16 ?lk16 ?co16 ?ke16 ?at17 ?lk17 ?co17 ?ke17 ?at18 ?lk18 ?co18 ?ke18 ?at19 ?lk19 ?co19 ?ke19 ?at20 ?lk20 ?co20 ?ke20 ?at21 ?lk21 ?co21 ?ke21 ?at22 ?lk22 ?co22 ?ke22 ?at23 ?lk23 ?co23 ?ke23 ?at_InvalidTable ?at_InvalidItem ?at_SameItem ?at_NotAHistory ?at_InvalidDay ?at_InvalidNumber ?at_InvalidForks ?at_InvalidTold ?at_InvalidPair ?at_InvalidPairs ?at_OtherNumber ?at_InvalidItems ?at_InvalidParts ?at_NoCommon ?at_InvalidBound ?at_NothingToUndo ?at_NotAnObject ?at_InvalidText ?at_Contradiction ?at_NotExact ?at_NotPossible ?at_TooLarge ?at_DaysError ?ke_InvalidTable ?mk_InvalidTable ?su_InvalidTable ?ty_InvalidTable ?ke_InvalidItem ?mk_InvalidItem ?su_InvalidItem ?ty_InvalidItem ?ke_SameItem ?mk_SameItem ?su_SameItem ?ty_SameItem ?ke_NotAHistory ?mk_NotAHistory ?su_NotAHistory ?ty_NotAHistory ?ke_InvalidDay ?mk_InvalidDay ?su_InvalidDay ?ty_InvalidDay ?ke_InvalidNumber ?mk_InvalidNumber ?su_InvalidNumber ?ty_InvalidNumber ?ke_InvalidForks ?mk_InvalidForks ?su_InvalidForks ?ty_InvalidForks ?ke_InvalidTold ?mk_InvalidTold ?su_InvalidTold ?ty_InvalidTold ?ke_InvalidPair ?mk_InvalidPair ?su_InvalidPair ?ty_InvalidPair ?ke_InvalidPairs ?mk_InvalidPairs ?su_InvalidPairs ?ty_InvalidPairs ?ke_OtherNumber ?mk_OtherNumber ?su_OtherNumber ?ty_OtherNumber ?ke_InvalidItems ?mk_InvalidItems ?su_InvalidItems ?ty_InvalidItems ?ke_InvalidParts ?mk_InvalidParts ?su_InvalidParts ?ty_InvalidParts ?ke_NoCommon ?mk_NoCommon ?su_NoCommon ?ty_NoCommon ?ke_InvalidBound ?mk_InvalidBound ?su_InvalidBound ?ty_InvalidBound ?ke_NothingToUndo ?mk_NothingToUndo ?su_NothingToUndo ?ty_NothingToUndo ?ke_NotAnObject ?mk_NotAnObject ?su_NotAnObject ?ty_NotAnObject ?ke_InvalidText ?mk_InvalidText ?su_InvalidText ?ty_InvalidText ?ke_DaysError ?mk_DaysError ?su_DaysError ?ty_DaysError ?kb ?cl_Contradiction ?rv_Contradiction ?sa_Contradiction ?su_Contradiction ?ty_Contradiction ?kp_Contradiction ?xf_Contradiction ?i_Contradiction ?fn_Contradiction ?li_Contradiction ?ci_Contradiction ?kf_Contradiction ?nf_Contradiction_index ?cl_NotExact ?rv_NotExact ?sa_NotExact ?su_NotExact ?ty_NotExact ?kp_NotExact ?xf_NotExact ?i_NotExact ?fn_NotExact ?li_NotExact ?ci_NotExact ?kf_NotExact ?nf_NotExact_index ?cl_NotPossible ?rv_NotPossible ?sa_NotPossible ?su_NotPossible ?ty_NotPossible ?kp_NotPossible ?xf_NotPossible ?i_NotPossible ?fn_NotPossible ?li_NotPossible ?ci_NotPossible ?kf_NotPossible ?nf_NotPossible_least ?nf_NotPossible_greatest ?cl_TooLarge ?rv_TooLarge ?sa_TooLarge ?su_TooLarge ?ty_TooLarge ?kp_TooLarge ?xf_TooLarge ?i_TooLarge ?fn_TooLarge ?li_TooLarge ?ci_TooLarge ?kf_TooLarge ?nf_TooLarge_limit ?z_ValueError ?z_abs ?z_all ?z_bool ?z_enumerate ?z_int ?z_isinstance ?z_len ?z_list ?z_max ?z_min ?z_range ?z_repr ?z_sorted ?z_tuple ?z_combinations
    (case at0 => k_is); (case lk0 => k_is); (case co0 => k_is); (case ke0 => k_is)
    (case at1 => k_is); (case lk1 => k_is); (case co1 => k_is); (case ke1 => k_is)
    (case at2 => k_is); (case lk2 => k_is); (case co2 => k_is); (case ke2 => k_is)
    (case at3 => k_is); (case lk3 => k_is); (case co3 => k_is); (case ke3 => k_is)
    (case at4 => k_is); (case lk4 => k_is); (case co4 => k_is); (case ke4 => k_is)
    (case at5 => k_is); (case lk5 => k_is); (case co5 => k_is); (case ke5 => k_is)
    (case at6 => k_is); (case lk6 => k_is); (case co6 => k_is); (case ke6 => k_is)
    (case at7 => k_is); (case lk7 => k_is); (case co7 => k_is); (case ke7 => k_is)
    (case at8 => k_is); (case lk8 => k_is); (case co8 => k_is); (case ke8 => k_is)
    (case at9 => k_is); (case lk9 => k_is); (case co9 => k_is); (case ke9 => k_is)
    (case at10 => k_is); (case lk10 => k_is); (case co10 => k_is); (case ke10 => k_is)
    (case at11 => k_is); (case lk11 => k_is); (case co11 => k_is); (case ke11 => k_is)
    (case at12 => k_is); (case lk12 => k_is); (case co12 => k_is); (case ke12 => k_is)
    (case at13 => k_is); (case lk13 => k_is); (case co13 => k_is); (case ke13 => k_is)
    (case at14 => k_is); (case lk14 => k_is); (case co14 => k_is); (case ke14 => k_is)
    (case at15 => k_is); (case lk15 => k_is); (case co15 => k_is); (case ke15 => k_is)
    (case at16 => k_is); (case lk16 => k_is); (case co16 => k_is); (case ke16 => k_is)
    (case at17 => k_is); (case lk17 => k_is); (case co17 => k_is); (case ke17 => k_is)
    (case at18 => k_is); (case lk18 => k_is); (case co18 => k_is); (case ke18 => k_is)
    (case at19 => k_is); (case lk19 => k_is); (case co19 => k_is); (case ke19 => k_is)
    (case at20 => k_is); (case lk20 => k_is); (case co20 => k_is); (case ke20 => k_is)
    (case at21 => k_is); (case lk21 => k_is); (case co21 => k_is); (case ke21 => k_is)
    (case at22 => k_is); (case lk22 => k_is); (case co22 => k_is); (case ke22 => k_is)
    (case at23 => k_is); (case lk23 => k_is); (case co23 => k_is); (case ke23 => k_is)
    (case at_InvalidTable => k_is)
    (case at_InvalidItem => k_is)
    (case at_SameItem => k_is)
    (case at_NotAHistory => k_is)
    (case at_InvalidDay => k_is)
    (case at_InvalidNumber => k_is)
    (case at_InvalidForks => k_is)
    (case at_InvalidTold => k_is)
    (case at_InvalidPair => k_is)
    (case at_InvalidPairs => k_is)
    (case at_OtherNumber => k_is)
    (case at_InvalidItems => k_is)
    (case at_InvalidParts => k_is)
    (case at_NoCommon => k_is)
    (case at_InvalidBound => k_is)
    (case at_NothingToUndo => k_is)
    (case at_NotAnObject => k_is)
    (case at_InvalidText => k_is)
    (case at_Contradiction => k_is)
    (case at_NotExact => k_is)
    (case at_NotPossible => k_is)
    (case at_TooLarge => k_is)
    (case at_DaysError => k_is)
    (case ke_InvalidTable => k_is); (case mk_InvalidTable => kernel_rfl); (case su_InvalidTable => k_is); (case ty_InvalidTable => k_is)
    (case ke_InvalidItem => k_is); (case mk_InvalidItem => kernel_rfl); (case su_InvalidItem => k_is); (case ty_InvalidItem => k_is)
    (case ke_SameItem => k_is); (case mk_SameItem => kernel_rfl); (case su_SameItem => k_is); (case ty_SameItem => k_is)
    (case ke_NotAHistory => k_is); (case mk_NotAHistory => kernel_rfl); (case su_NotAHistory => k_is); (case ty_NotAHistory => k_is)
    (case ke_InvalidDay => k_is); (case mk_InvalidDay => kernel_rfl); (case su_InvalidDay => k_is); (case ty_InvalidDay => k_is)
    (case ke_InvalidNumber => k_is); (case mk_InvalidNumber => kernel_rfl); (case su_InvalidNumber => k_is); (case ty_InvalidNumber => k_is)
    (case ke_InvalidForks => k_is); (case mk_InvalidForks => kernel_rfl); (case su_InvalidForks => k_is); (case ty_InvalidForks => k_is)
    (case ke_InvalidTold => k_is); (case mk_InvalidTold => kernel_rfl); (case su_InvalidTold => k_is); (case ty_InvalidTold => k_is)
    (case ke_InvalidPair => k_is); (case mk_InvalidPair => kernel_rfl); (case su_InvalidPair => k_is); (case ty_InvalidPair => k_is)
    (case ke_InvalidPairs => k_is); (case mk_InvalidPairs => kernel_rfl); (case su_InvalidPairs => k_is); (case ty_InvalidPairs => k_is)
    (case ke_OtherNumber => k_is); (case mk_OtherNumber => kernel_rfl); (case su_OtherNumber => k_is); (case ty_OtherNumber => k_is)
    (case ke_InvalidItems => k_is); (case mk_InvalidItems => kernel_rfl); (case su_InvalidItems => k_is); (case ty_InvalidItems => k_is)
    (case ke_InvalidParts => k_is); (case mk_InvalidParts => kernel_rfl); (case su_InvalidParts => k_is); (case ty_InvalidParts => k_is)
    (case ke_NoCommon => k_is); (case mk_NoCommon => kernel_rfl); (case su_NoCommon => k_is); (case ty_NoCommon => k_is)
    (case ke_InvalidBound => k_is); (case mk_InvalidBound => kernel_rfl); (case su_InvalidBound => k_is); (case ty_InvalidBound => k_is)
    (case ke_NothingToUndo => k_is); (case mk_NothingToUndo => kernel_rfl); (case su_NothingToUndo => k_is); (case ty_NothingToUndo => k_is)
    (case ke_NotAnObject => k_is); (case mk_NotAnObject => kernel_rfl); (case su_NotAnObject => k_is); (case ty_NotAnObject => k_is)
    (case ke_InvalidText => k_is); (case mk_InvalidText => kernel_rfl); (case su_InvalidText => k_is); (case ty_InvalidText => k_is)
    (case ke_DaysError => k_is); (case mk_DaysError => kernel_rfl); (case su_DaysError => k_is); (case ty_DaysError => k_is)
    (case kb => kernel_rfl)
    (case cl_Contradiction => k_is); (case rv_Contradiction => kernel_rfl); (case sa_Contradiction => k_is); (case su_Contradiction => k_is); (case ty_Contradiction => k_is); (case kp_Contradiction => k_is); (case xf_Contradiction => kernel_rfl); (case i_Contradiction => k_is); (case fn_Contradiction => k_is); (case li_Contradiction => k_is); (case ci_Contradiction => k_is); (case kf_Contradiction => k_is); (case nf_Contradiction_index => k_is)
    (case cl_NotExact => k_is); (case rv_NotExact => kernel_rfl); (case sa_NotExact => k_is); (case su_NotExact => k_is); (case ty_NotExact => k_is); (case kp_NotExact => k_is); (case xf_NotExact => kernel_rfl); (case i_NotExact => k_is); (case fn_NotExact => k_is); (case li_NotExact => k_is); (case ci_NotExact => k_is); (case kf_NotExact => k_is); (case nf_NotExact_index => k_is)
    (case cl_NotPossible => k_is); (case rv_NotPossible => kernel_rfl); (case sa_NotPossible => k_is); (case su_NotPossible => k_is); (case ty_NotPossible => k_is); (case kp_NotPossible => k_is); (case xf_NotPossible => kernel_rfl); (case i_NotPossible => k_is); (case fn_NotPossible => k_is); (case li_NotPossible => k_is); (case ci_NotPossible => k_is); (case kf_NotPossible => k_is); (case nf_NotPossible_least => k_is); (case nf_NotPossible_greatest => k_is)
    (case cl_TooLarge => k_is); (case rv_TooLarge => kernel_rfl); (case sa_TooLarge => k_is); (case su_TooLarge => k_is); (case ty_TooLarge => k_is); (case kp_TooLarge => k_is); (case xf_TooLarge => kernel_rfl); (case i_TooLarge => k_is); (case fn_TooLarge => k_is); (case li_TooLarge => k_is); (case ci_TooLarge => k_is); (case kf_TooLarge => k_is); (case nf_TooLarge_limit => k_is)
    (case z_ValueError => k_is); (case z_abs => k_is); (case z_all => k_is); (case z_bool => k_is); (case z_enumerate => k_is); (case z_int => k_is); (case z_isinstance => k_is); (case z_len => k_is); (case z_list => k_is); (case z_max => k_is); (case z_min => k_is); (case z_range => k_is); (case z_repr => k_is); (case z_sorted => k_is); (case z_tuple => k_is); (case z_combinations => k_is)
#print axioms PySem.Challenge.cw_commondays_k03_errors_of_tables_holds

